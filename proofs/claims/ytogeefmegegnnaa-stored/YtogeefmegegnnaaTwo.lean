/-
  What is proved here: the store's calls in the shape that the statement 'Stored' uses them: what two files and a directory of them come to.
-/
import Derived.Test.YtogeefmegegnnaaStore
namespace Go.Proofs.Ytogeefmegegnnaa
open Go.RowKit Go.Sort Go.Shelf
set_option linter.unusedVariables false
variable {ft : PTail}

theorem keeps_below {B : Nat} {w w' : World} (h : Keeps (fun k => B ≤ k) w w') (hB : B ≤ w.heap.size) : Below B w w' := ⟨h.os, h.tape, h.output, h.size, fun k hk => h.block k (by omega) (by omega)⟩

theorem inv_from {B : Nat} {w w' : World} {s : Nat} {objs : List Ob} (h : Inv ft (NewF (fun k => B ≤ k) w w') w' s objs) (hB : B ≤ w.heap.size) : Inv ft (fun k => B ≤ k) w' s objs :=
  h.below (Below.refl _ _) (fun k _ hk => by rcases hk with h | h; exact h; exact Nat.le_trans hB h.1)

theorem inv_below {B : Nat} {w w' : World} {s : Nat} {objs : List Ob} (h : Inv ft (fun k => B ≤ k) w s objs) (hb : Below w.heap.size w w') : Inv ft (fun k => B ≤ k) w' s objs := h.below hb (fun _ _ h => h)

/-- The first file. -/
theorem file_first {objs' : List Ob} {d : ByteArray} {e : Ending} (h : FilePut [] objs' d e) (hd : d.size ≤ 256) : objs' = [fileOb d] ∧ e = .returned (.tuple #[.int .i64 1, .int .i64 0]) := by
  rcases h with ⟨h, _⟩ | ⟨_, _, i, h, _⟩ | ⟨_, _, h, _⟩ | ⟨_, _, _, h1, h2⟩
  · omega
  · cases h
  · simp at h
  · exact ⟨h1, h2⟩

/-- The same bytes again. -/
theorem file_again {objs' : List Ob} {d : ByteArray} {e : Ending} (h : FilePut [fileOb d] objs' d e) (hd : d.size ≤ 256) : objs' = [fileOb d] ∧ e = .returned (.tuple #[.int .i64 1, .int .i64 0]) := by
  have hf : fileAt [fileOb d] d = some 0 := by simp [fileAt, fileOb, List.findIdx?_cons]
  rcases h with ⟨h, _⟩ | ⟨_, h1, i, h, h2⟩ | ⟨_, h, _⟩ | ⟨_, h, _⟩
  · omega
  · rw [hf] at h; cases h; exact ⟨h1, h2⟩
  · rw [hf] at h; cases h
  · rw [hf] at h; cases h

/-- Other bytes. -/
theorem file_other {objs' : List Ob} {d d' : ByteArray} {e : Ending} (h : FilePut [fileOb d] objs' d' e) (hd : d'.size ≤ 256) (hne : d ≠ d') : objs' = [fileOb d, fileOb d'] ∧ e = .returned (.tuple #[.int .i64 2, .int .i64 0]) := by
  have hf : fileAt [fileOb d] d' = none := by simp [fileAt, fileOb, List.findIdx?_cons, hne]
  rcases h with ⟨h, _⟩ | ⟨_, h1, i, h, h2⟩ | ⟨_, _, h, _⟩ | ⟨_, _, _, h1, h2⟩
  · omega
  · rw [hf] at h; cases h
  · simp at h
  · exact ⟨h1, h2⟩

def nameK : ByteArray := ⟨#[107]⟩
def nameB : ByteArray := ⟨#[98]⟩
theorem valid_k : validB nameK = true := by unfold validB; simp only [ByteArray.toList_eq]; decide
theorem valid_b : validB nameB = true := by unfold validB; simp only [ByteArray.toList_eq]; decide
theorem kb : nameK ≠ nameB := by decide

/-- Two entries in order. -/
theorem two_perm {es' : List Ent} {x y : Int} {es : List Ent} (he : es = [(nameK, 1, x), (nameB, 1, y)] ∨ es = [(nameB, 1, y), (nameK, 1, x)]) (hP : es'.Perm es) (hR : Rising es') : es' = [(nameB, 1, y), (nameK, 1, x)] := by
  have hP2 : es'.Perm [(nameB, 1, y), (nameK, 1, x)] := by
    rcases he with rfl | rfl
    · exact hP.trans (List.Perm.swap _ _ _)
    · exact hP
  match es', hP2, hR with
  | [], h, _ => simp at h
  | [p], h, _ => have := h.length_eq; simp at this
  | [p, q], h, hR =>
    have hm := h.mem_iff (a := p)
    have hm2 := h.mem_iff (a := q)
    simp at hm hm2
    have hlt : cfE p q < 0 := by
      have := List.pairwise_iff_getElem.1 hR 0 1 (by simp) (by simp) (by omega)
      simpa using this
    rcases hm with rfl | rfl <;> rcases hm2 with rfl | rfl
    · exfalso; unfold cfE at hlt; rw [cmp_self] at hlt; omega
    · rfl
    · exfalso; have : cfE (nameK, 1, x) (nameB, 1, y) = 1 := rfl; omega
    · exfalso; unfold cfE at hlt; rw [cmp_self] at hlt; omega
  | p :: q :: r :: t, h, _ => have := h.length_eq; simp at this

/-- Objects that are files alone, and their number. -/
def TwoFiles (objs : List Ob) (x y : Int) : Prop :=
  (∃ d, objs = [fileOb d] ∧ x = 1 ∧ y = 1) ∨ ∃ d d', objs = [fileOb d, fileOb d'] ∧ x = 1 ∧ y = 2

theorem dir_new {objs objs' : List Ob} {x y : Int} {es : List Ent} {e : Ending} (h : DirPutG objs objs' es e) (hT : TwoFiles objs x y) (he : es = [(nameK, 1, x), (nameB, 1, y)] ∨ es = [(nameB, 1, y), (nameK, 1, x)]) :
    e = .returned (.tuple #[.int .i64 ((objs.length : Int) + 1), .int .i64 0]) ∧ ∃ o : Ob, o.kind = 2 ∧ o.ents = [(nameB, 1, y), (nameK, 1, x)] ∧ o.high = 1 ∧ objs' = objs ++ [o] := by
  have hv : ∀ z ∈ es, validB z.1 = true := by
    rcases he with rfl | rfl <;> intro z hz <;> simp at hz <;> rcases hz with rfl | rfl <;> first | exact valid_k | exact valid_b
  have hnd : (es.map (·.1)).Nodup := by rcases he with rfl | rfl <;> simp [kb, kb.symm]
  have hln : es.length = 2 := by rcases he with rfl | rfl <;> rfl
  have hgood : ∀ z ∈ es, goodE objs z = true := by
    rcases hT with ⟨d, rfl, rfl, rfl⟩ | ⟨d, d', rfl, rfl, rfl⟩ <;> rcases he with rfl | rfl <;> intro z hz <;> simp at hz <;> rcases hz with rfl | rfl <;> rfl
  have hhigh : ∀ es', es'.Perm es → Rising es' → highs objs es' = 1 := by
    intro es' hP hR
    rw [two_perm he hP hR]
    rcases hT with ⟨d, rfl, rfl, rfl⟩ | ⟨d, d', rfl, rfl, rfl⟩ <;> rfl
  have hdir : ∀ es', dirAt objs es' = none := by
    intro es'
    rcases hT with ⟨d, rfl, rfl, rfl⟩ | ⟨d, d', rfl, rfl, rfl⟩ <;> simp [dirAt, fileOb, List.findIdx?_cons]
  have hlen : objs.length < 400 := by
    rcases hT with ⟨d, rfl, rfl, rfl⟩ | ⟨d, d', rfl, rfl, rfl⟩ <;> simp
  rcases h with ⟨⟨z, hz, h⟩, _⟩ | ⟨_, ⟨h, _⟩ | ⟨_, h, _⟩ | ⟨_, _, ⟨z, hz, h⟩, _⟩ | ⟨_, _, _, es', hP, hR, hN, hE⟩⟩
  · rw [hv z hz] at h; cases h
  · exact absurd hnd h
  · omega
  · rw [hgood z hz] at h; cases h
  · rcases hE with ⟨h, _⟩ | ⟨_, _, i, h, _⟩ | ⟨_, _, h, _⟩ | ⟨_, _, _, ⟨o, h1, h2, h3, h4⟩, h5⟩
    · rw [hhigh es' hP hR] at h; omega
    · rw [hdir] at h; cases h
    · omega
    · exact ⟨h5, o, h1, by rw [h2]; exact two_perm he hP hR, by rw [h3]; exact hhigh es' hP hR, h4⟩

theorem dir_again {objs objs' : List Ob} {x y : Int} {es : List Ent} {e : Ending} {o : Ob} (hk : o.kind = 2) (ho : o.ents = [(nameB, 1, y), (nameK, 1, x)]) (h : DirPutG (objs ++ [o]) objs' es e) (hT : TwoFiles objs x y) (he : es = [(nameK, 1, x), (nameB, 1, y)] ∨ es = [(nameB, 1, y), (nameK, 1, x)]) :
    e = .returned (.tuple #[.int .i64 ((objs.length : Int) + 1), .int .i64 0]) ∧ objs' = objs ++ [o] := by
  have hv : ∀ z ∈ es, validB z.1 = true := by
    rcases he with rfl | rfl <;> intro z hz <;> simp at hz <;> rcases hz with rfl | rfl <;> first | exact valid_k | exact valid_b
  have hnd : (es.map (·.1)).Nodup := by rcases he with rfl | rfl <;> simp [kb, kb.symm]
  have hln : es.length = 2 := by rcases he with rfl | rfl <;> rfl
  have hgood : ∀ z ∈ es, goodE (objs ++ [o]) z = true := by
    rcases hT with ⟨d, rfl, rfl, rfl⟩ | ⟨d, d', rfl, rfl, rfl⟩ <;> rcases he with rfl | rfl <;> intro z hz <;> simp at hz <;> rcases hz with rfl | rfl <;> rfl
  have hhigh : ∀ es', es'.Perm es → Rising es' → highs (objs ++ [o]) es' = 1 := by
    intro es' hP hR
    rw [two_perm he hP hR]
    rcases hT with ⟨d, rfl, rfl, rfl⟩ | ⟨d, d', rfl, rfl, rfl⟩ <;> rfl
  have hdir : ∀ es', es'.Perm es → Rising es' → dirAt (objs ++ [o]) es' = some objs.length := by
    intro es' hP hR
    rw [two_perm he hP hR, dirAt_snoc, if_pos ⟨hk, ho⟩]
    have : dirAt objs [(nameB, 1, y), (nameK, 1, x)] = none := by
      rcases hT with ⟨d, rfl, rfl, rfl⟩ | ⟨d, d', rfl, rfl, rfl⟩ <;> simp [dirAt, fileOb, List.findIdx?_cons]
    rw [this]; rfl
  rcases h with ⟨⟨z, hz, h⟩, _⟩ | ⟨_, ⟨h, _⟩ | ⟨_, h, _⟩ | ⟨_, _, ⟨z, hz, h⟩, _⟩ | ⟨_, _, _, es', hP, hR, hN, hE⟩⟩
  · rw [hv z hz] at h; cases h
  · exact absurd hnd h
  · omega
  · rw [hgood z hz] at h; cases h
  · rcases hE with ⟨h, _⟩ | ⟨_, h1, i, h, h2⟩ | ⟨_, h, _⟩ | ⟨_, h, _⟩
    · rw [hhigh es' hP hR] at h; omega
    · rw [hdir es' hP hR] at h; cases h; exact ⟨h2, h1⟩
    · rw [hdir es' hP hR] at h; cases h
    · rw [hdir es' hP hR] at h; cases h

end Go.Proofs.Ytogeefmegegnnaa
