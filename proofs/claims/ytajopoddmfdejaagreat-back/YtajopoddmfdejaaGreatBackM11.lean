/-
  What is proved here: what stands where behind a change in a directory of a workspace's tree. a store and a workspace over it in memory: whose each block is, what lies in it, and that what is not touched stays. a fetch in memory ('deliver'): it fails once if it is to, else it is noted. what is fetched and kept: FetchFile and FetchDir of the store's pool, and Get of a workspace's two shelves.
-/
import Derived.Test.YtajopoddmfdejaaGreatBackM10
import Derived.Test.YtajopoddmfdejaaGreatBackM06
import Derived.Test.YtajopoddmfdejaaGreatBackM07
namespace Go.Proofs.YtajopoddmfdejaaGreat
open Go.RowKit Go.Sort Go.Shelf
set_option linter.unusedVariables false

/-- Behind a change in the directory at p: what stands in it, and below it. -/
theorem at_mod (objs : List Ob) (f : Kids → Kids) : ∀ (p : List ByteArray) (t d : LT) (ks : Kids), t.at objs p = some d → kids objs d = some ks →
    (∀ n r, (modG objs f p t).at objs (p ++ n :: r) = (pickK (f ks) n).bind fun c => c.at objs r) ∧ (modG objs f p t).at objs p = some (.own (f ks))
  | [], t, d, ks, ha, hk => by
    rw [at_nil] at ha; cases ha
    refine ⟨fun n r => ?_, ?_⟩
    · rw [List.nil_append, at_cons, modG_kids, hk]; rfl
    · rw [at_nil, modG, hk]; rfl
  | m :: p, t, d, ks, ha, hk => by
    rw [at_cons] at ha
    cases hkt : kids objs t with
    | none => rw [hkt] at ha; simp at ha
    | some es =>
      rw [hkt, Option.bind_some] at ha
      cases hc : pickK es m with
      | none => rw [hc] at ha; simp at ha
      | some c =>
        rw [hc, Option.bind_some] at ha
        obtain ⟨i1, i2⟩ := at_mod objs f p c d ks ha hk
        refine ⟨fun n r => ?_, ?_⟩
        · rw [List.cons_append, at_cons, modG_cons, hkt, Option.getD_some, Option.bind_some, pick_map, if_pos rfl, hc, Option.map_some, Option.bind_some]
          exact i1 n r
        · rw [at_cons, modG_cons, hkt, Option.getD_some, Option.bind_some, pick_map, if_pos rfl, hc, Option.map_some, Option.bind_some]
          exact i2

/-- On the way to p: every directory is the tree's own, and names the next one as such. -/
theorem at_mod_way (objs : List Ob) (f : Kids → Kids) : ∀ (q : List ByteArray) (m : ByteArray) (r : List ByteArray) (t d : LT), t.at objs (q ++ m :: r) = some d →
    ∃ dq kq, t.at objs q = some dq ∧ kids objs dq = some kq ∧ (modG objs f (q ++ m :: r) t).at objs q = some (.own (kq.map fun x => if x.1 = m then (x.1, modG objs f r x.2) else x))
  | [], m, r, t, d, ha => by
    rw [List.nil_append, at_cons] at ha
    cases hkt : kids objs t with
    | none => rw [hkt] at ha; simp at ha
    | some es => exact ⟨t, es, at_nil _ _, hkt, by rw [at_nil, List.nil_append, modG, hkt]; rfl⟩
  | n :: q, m, r, t, d, ha => by
    rw [List.cons_append, at_cons] at ha
    cases hkt : kids objs t with
    | none => rw [hkt] at ha; simp at ha
    | some es =>
      rw [hkt, Option.bind_some] at ha
      cases hc : pickK es n with
      | none => rw [hc] at ha; simp at ha
      | some c =>
        rw [hc, Option.bind_some] at ha
        obtain ⟨dq, kq, h1, h2, h3⟩ := at_mod_way objs f q m r c d ha
        refine ⟨dq, kq, ?_, h2, ?_⟩
        · rw [at_cons, hkt, Option.bind_some, hc, Option.bind_some]; exact h1
        · rw [List.cons_append, at_cons, modG_cons, hkt, Option.getD_some, Option.bind_some, pick_map, if_pos rfl, hc, Option.map_some, Option.bind_some]
          exact h3

/-- Elsewhere all is as it was. -/
theorem at_mod_other (objs : List Ob) (f : Kids → Kids) : ∀ (p q : List ByteArray) (t d : LT), t.at objs p = some d → ¬ q <+: p → ¬ p <+: q → (modG objs f p t).at objs q = t.at objs q
  | [], q, t, d, ha, h1, h2 => absurd (List.nil_prefix) h2
  | m :: p, [], t, d, ha, h1, h2 => absurd (List.nil_prefix) h1
  | m :: p, n :: q, t, d, ha, h1, h2 => by
    rw [at_cons] at ha
    cases hkt : kids objs t with
    | none => rw [hkt] at ha; simp at ha
    | some es =>
      rw [hkt, Option.bind_some] at ha
      rw [at_cons, at_cons, modG_cons, hkt, Option.getD_some, Option.bind_some, Option.bind_some, pick_map]
      by_cases hn : n = m
      · subst hn
        rw [if_pos rfl]
        cases hc : pickK es n with
        | none => rfl
        | some c =>
          rw [hc, Option.bind_some] at ha
          rw [Option.map_some, Option.bind_some, Option.bind_some]
          exact at_mod_other objs f p q c d ha (fun h => h1 (List.cons_prefix_cons.2 ⟨rfl, h⟩)) (fun h => h2 (List.cons_prefix_cons.2 ⟨rfl, h⟩))
      · rw [if_neg hn]

/-! ### what a tree may be -/
/-- Of stored directories: what they name is there, of its kind, and lower. -/
def Sound (objs : List Ob) : Prop := (∀ id, 0 ≤ highOf objs id) ∧ ∀ id, kindOf objs id = 2 → RisingK (entsOf objs id) ∧ (entsOf objs id).length ≤ 16 ∧ ∀ e ∈ entsOf objs id, validB e.1 = true ∧ (e.2.1 = 1 ∨ e.2.1 = 2) ∧ kindOf objs e.2.2 = e.2.1 ∧ highOf objs e.2.2 + 1 ≤ highOf objs id

/-- A tree that may stand where so many names may still follow: what is stored is there, of its kind; lists are by rising names, of at most sixteen; nothing stands too deep. -/
def LTok (objs : List Ob) : Nat → LT → Prop
  | _, .file id => kindOf objs id = 1
  | _, .held _ => True
  | n, .dir id => kindOf objs id = 2 ∧ highOf objs id ≤ n
  | 0, .own es => es = []
  | n + 1, .own es => RisingK es ∧ es.length ≤ 16 ∧ ∀ x ∈ es, validB x.1 = true ∧ LTok objs n x.2

theorem ok_kids {objs : List Ob} (hS : Sound objs) {n : Nat} {t : LT} (h : LTok objs n t) {ks : Kids} (hk : kids objs t = some ks) : RisingK ks ∧ ks.length ≤ 16 ∧ ∀ x ∈ ks, validB x.1 = true ∧ ∃ m, n = m + 1 ∧ LTok objs m x.2 := by
  cases t with
  | file i => simp [kids] at hk
  | held f => simp [kids] at hk
  | own es =>
    simp only [kids, Option.some.injEq] at hk
    subst hk
    cases n with
    | zero => rw [LTok] at h; subst h; exact ⟨List.Pairwise.nil, by simp, by simp⟩
    | succ m => rw [LTok] at h; exact ⟨h.1, h.2.1, fun x hx => ⟨(h.2.2 x hx).1, m, rfl, (h.2.2 x hx).2⟩⟩
  | dir id =>
    have hk2 : (entsOf objs id).map kidOf = ks := by simpa [kids] using hk
    subst hk2
    have h' : kindOf objs id = 2 ∧ highOf objs id ≤ n := by cases n <;> simpa [LTok] using h
    obtain ⟨s1, s2, s3⟩ := hS.2 id h'.1
    refine ⟨?_, by simpa using s2, fun x hx => ?_⟩
    · unfold RisingK; rw [List.pairwise_map]; exact s1
    · obtain ⟨e, he, rfl⟩ := List.mem_map.1 hx
      obtain ⟨v, k12, hke, hh⟩ := s3 e he
      have h0 := hS.1 e.2.2
      refine ⟨v, n - 1, by omega, ?_⟩
      show LTok objs (n - 1) (ltOf e)
      unfold ltOf
      by_cases h2 : e.2.1 = 2
      · rw [if_pos h2]
        have : kindOf objs e.2.2 = 2 ∧ highOf objs e.2.2 ≤ ((n - 1 : Nat) : Int) := ⟨hke.trans h2, by omega⟩
        cases hn : n - 1 <;> (rw [hn] at this; simpa [LTok] using this)
      · rw [if_neg h2]
        have : kindOf objs e.2.2 = 1 := hke.trans (by omega)
        cases hn : n - 1 <;> simpa [LTok] using this

theorem pick_mem {ks : Kids} {n : ByteArray} {c : LT} (h : pickK ks n = some c) : (n, c) ∈ ks := by
  unfold pickK at h
  cases hf : ks.find? (fun x => decide (x.1 = n)) with
  | none => rw [hf] at h; simp at h
  | some x =>
    rw [hf] at h
    simp only [Option.map_some, Option.some.injEq] at h
    have h1 := List.find?_some hf
    have h2 := List.mem_of_find?_eq_some hf
    simp only [decide_eq_true_eq] at h1
    rw [← h1, ← h]; exact h2

theorem ok_at {objs : List Ob} (hS : Sound objs) : ∀ (p : List ByteArray) {n : Nat} {t c : LT}, LTok objs n t → t.at objs p = some c → p.length ≤ n ∧ LTok objs (n - p.length) c ∧ Valids p
  | [], n, t, c, h, ha => by rw [at_nil] at ha; cases ha; exact ⟨by simp, by simpa using h, fun x hx => by simp at hx⟩
  | m :: p, n, t, c, h, ha => by
    rw [at_cons] at ha
    cases hkt : kids objs t with
    | none => rw [hkt] at ha; simp at ha
    | some ks =>
      rw [hkt, Option.bind_some] at ha
      cases hc : pickK ks m with
      | none => rw [hc] at ha; simp at ha
      | some x =>
        rw [hc, Option.bind_some] at ha
        obtain ⟨_, _, h3⟩ := ok_kids hS h hkt
        obtain ⟨hv, k, rfl, hx⟩ := h3 _ (pick_mem hc)
        obtain ⟨i1, i2, i3⟩ := ok_at hS p hx ha
        refine ⟨by simp; omega, ?_, fun y hy => ?_⟩
        · rw [List.length_cons, show k + 1 - (p.length + 1) = k - p.length by omega]; exact i2
        · rcases List.mem_cons.1 hy with rfl | hy
          · exact hv
          · exact i3 y hy

theorem kind_id {objs : List Ob} {id k : Int} (h : kindOf objs id = k) (hk : k ≠ 0) : 1 ≤ id := by
  unfold kindOf at h
  by_cases h1 : 1 ≤ id
  · exact h1
  · rw [if_neg h1] at h; exact absurd h.symm hk

theorem ents_back {es : List Ent} (h : ∀ e ∈ es, e.2.1 = 1 ∨ e.2.1 = 2) : (es.map kidOf).map entOf = es := by
  rw [List.map_map]
  conv => rhs; rw [← List.map_id es]
  refine List.map_congr_left fun e he => ?_
  show entOf (kidOf e) = id e
  unfold entOf kidOf ltOf
  obtain ⟨a, k, i⟩ := e
  rcases h _ he with h | h
  · simp only at h; subst h; rfl
  · simp only at h; subst h; rfl

theorem getK_map (ks : Kids) (n : ByteArray) : getK (ks.map entOf) n = (pickK ks n).map fun c => (c.kind, c.id) := by
  unfold getK pickK
  rw [List.find?_map]
  show ((ks.find? _).map entOf).map _ = _
  rw [Option.map_map, Option.map_map]; rfl

/-- What the program finds in a directory is what stands in it. -/
theorem flat_ents {objs : List Ob} {t c : LT} {ft : FT} (hS : Sound objs) (hF : Flat objs t ft) {n : Nat} {p : List ByteArray} (hc : LTok objs n c) (ha : t.at objs p = some c) (fs : FS) (nm : ByteArray) :
    entsF objs ft fs p (nm, c.kind, c.id) = ((kidsG objs fs c).1, (kidsG objs fs c).2.1, (kidsG objs fs c).2.2.map entOf) := by
  unfold entsF
  cases c with
  | file i => rfl
  | held f => rfl
  | own es =>
    have hod := hF.od p
    rw [ha] at hod
    simp only [LT.kind, LT.id, hod]; rfl
  | dir id =>
    have h' : kindOf objs id = 2 := by cases n <;> simp [LTok] at hc <;> exact hc.1
    have h1 := kind_id h' (by decide)
    have hb := ents_back (fun e he => ((hS.2 id h').2.2 e he).2.1)
    rw [if_neg (show ¬ ((nm, (LT.dir id).kind, (LT.dir id).id) : Ent).2.1 ≠ 2 from fun h => h rfl), if_neg (show ¬ ((nm, (LT.dir id).kind, (LT.dir id).id) : Ent).2.2 = 0 from by show ¬ id = 0; omega)]
    show (if (fs.dirG id).2 = true then _ else _) = _
    have e1 : kidsG objs fs (.dir id) = if (fs.dirG id).2 then ((fs.dirG id).1, 0, (entsOf objs id).map kidOf) else ((fs.dirG id).1, 14, []) := rfl
    rw [e1]
    by_cases hg : (fs.dirG id).2 = true
    · rw [if_pos hg, if_pos hg]; simp only [hb]; rfl
    · rw [if_neg hg, if_neg hg]; rfl

theorem flat_find {objs : List Ob} {t : LT} {ft : FT} (hS : Sound objs) (hF : Flat objs t ft) {n : Nat} (hok : LTok objs n t) (fs : FS) : ∀ r : List ByteArray,
    (findF objs ft fs r).1 = (findR objs t fs r).1 ∧ (findF objs ft fs r).2.1 = (findR objs t fs r).2.1 ∧
    ((findR objs t fs r).2.1 = 0 → (findF objs ft fs r).2.2 = (r.headD ⟨#[]⟩, (findR objs t fs r).2.2.kind, (findR objs t fs r).2.2.id) ∧ t.at objs r.reverse = some (findR objs t fs r).2.2)
  | [] => ⟨rfl, rfl, fun _ => ⟨by show (_, (2 : Int), ft.root) = _; rw [hF.root, ← hF.kind]; rfl, at_nil _ _⟩⟩
  | m :: r => by
    obtain ⟨i1, i2, i3⟩ := flat_find hS hF hok fs r
    rw [findF, findR]
    simp only [i1, i2]
    by_cases h0 : (findR objs t fs r).2.1 ≠ 0
    · simp only [if_pos h0]
      exact ⟨trivial, trivial, fun h => absurd h h0⟩
    · simp only [if_neg h0]
      obtain ⟨i4, i5⟩ := i3 (Decidable.not_not.1 h0)
      have hc := (ok_at hS _ hok i5).2.1
      have he := flat_ents hS hF hc i5 (findR objs t fs r).1 (r.headD ⟨#[]⟩)
      rw [i4, he]
      simp only
      by_cases hb : (kidsG objs (findR objs t fs r).1 (findR objs t fs r).2.2).2.1 ≠ 0
      · rw [if_pos hb, if_pos hb]
        exact ⟨rfl, rfl, fun h => absurd h hb⟩
      · rw [if_neg hb, if_neg hb, getK_map]
        have hkid : (kids objs (findR objs t fs r).2.2) = some (kidsG objs (findR objs t fs r).1 (findR objs t fs r).2.2).2.2 := by
          generalize (findR objs t fs r).2.2 = x at hb ⊢
          generalize (findR objs t fs r).1 = y at hb ⊢
          cases x with
          | file i => simp [kidsG] at hb
          | held f => simp [kidsG] at hb
          | own es => rfl
          | dir id =>
            simp only [kidsG] at hb ⊢
            by_cases hg : (y.dirG id).2 = true
            · rw [if_pos hg]; rfl
            · rw [if_neg hg] at hb; simp at hb
        cases hp : pickK (kidsG objs (findR objs t fs r).1 (findR objs t fs r).2.2).2.2 m with
        | none => exact ⟨rfl, rfl, fun h => by simp at h⟩
        | some x =>
          refine ⟨rfl, rfl, fun _ => ⟨rfl, ?_⟩⟩
          rw [List.reverse_cons, at_append, i5, Option.bind_some, at_cons, hkid, Option.bind_some, hp, Option.bind_some, at_nil]

theorem flat_look {objs : List Ob} {t : LT} {ft : FT} (hS : Sound objs) (hF : Flat objs t ft) {n : Nat} (hok : LTok objs n t) (fs : FS) (r : List ByteArray) :
    lookF objs ft fs r = ((lookR objs t fs r).1, (lookR objs t fs r).2.1, (lookR objs t fs r).2.2.map entOf) := by
  obtain ⟨i1, i2, i3⟩ := flat_find hS hF hok fs r
  unfold lookF lookR
  simp only [i1, i2]
  by_cases h0 : (findR objs t fs r).2.1 ≠ 0
  · simp only [if_pos h0]; rfl
  · simp only [if_neg h0]
    obtain ⟨i4, i5⟩ := i3 (Decidable.not_not.1 h0)
    have hc := (ok_at hS _ hok i5).2.1
    rw [i4, flat_ents hS hF hc i5 (findR objs t fs r).1 (r.headD ⟨#[]⟩)]

end Go.Proofs.YtajopoddmfdejaaGreat

namespace Go.Proofs.YtajopoddmfdejaaGreat
open Go.RowKit Go.Sort Go.Shelf
set_option linter.unusedVariables false

/-- Whose a block is, and for what: (1, ..) the store (0 its objects, 1 what has been fetched); (i, ..) from 2 on a workspace (0 itself, 1 its tree and shelves, 2 files kept, 3 directories kept, 4 its own files' map, 5 its own directories, 6 files, 7 what has a file open). -/
abbrev Tags := Nat → Nat × Nat

/-- What is still to come is nobody's. -/
def Fresh (tg : Tags) (w : World) : Prop := ∀ k, w.heap.size ≤ k → tg k = (0, 0)

/-- What may have become of memory: only blocks of which P holds have turned, and new ones have come. -/
structure Moves (P : Nat × Nat → Prop) (tg tg' : Tags) (w w' : World) : Prop where
  os : w'.os = w.os
  tape : w'.tape = w.tape
  output : w'.output = w.output
  size : w.heap.size ≤ w'.heap.size
  tags : ∀ k, k < w.heap.size → tg' k = tg k
  block : ∀ k, k < w.heap.size → ¬ P (tg k) → w'.heap[k]? = w.heap[k]?
  fresh : Fresh tg w → Fresh tg' w'

theorem Moves.refl (P : Nat × Nat → Prop) (tg : Tags) (w : World) : Moves P tg tg w w := ⟨rfl, rfl, rfl, Nat.le_refl _, fun _ _ => rfl, fun _ _ _ => rfl, id⟩
theorem Moves.of_below {P : Nat × Nat → Prop} {tg : Tags} {w w' : World} (h : Below w.heap.size w w') : Moves P tg tg w w' := ⟨h.os, h.tape, h.output, h.size, fun _ _ => rfl, fun k hk _ => h.block k hk, fun hf k hk => hf k (Nat.le_trans h.size hk)⟩
theorem Moves.trans {P : Nat × Nat → Prop} {tg tg' tg'' : Tags} {w w' w'' : World} (h : Moves P tg tg' w w') (k : Moves P tg' tg'' w' w'') : Moves P tg tg'' w w'' :=
  ⟨k.os.trans h.os, k.tape.trans h.tape, k.output.trans h.output, Nat.le_trans h.size k.size, fun b hb => (k.tags b (Nat.lt_of_lt_of_le hb h.size)).trans (h.tags b hb),
    fun b hb hP => (k.block b (Nat.lt_of_lt_of_le hb h.size) (by rw [h.tags b hb]; exact hP)).trans (h.block b hb hP), fun hf => k.fresh (h.fresh hf)⟩
theorem Moves.mono {P P' : Nat × Nat → Prop} {tg tg' : Tags} {w w' : World} (h : Moves P tg tg' w w') (hP : ∀ t, P t → P' t) : Moves P' tg tg' w w' :=
  ⟨h.os, h.tape, h.output, h.size, h.tags, fun k hk hn => h.block k hk (fun hp => hn (hP _ hp)), h.fresh⟩

/-- A new block, with its tag. -/
def tagAt (tg : Tags) (b : Nat) (t : Nat × Nat) : Tags := fun k => if k = b then t else tg k
/-- All new blocks, with one tag. -/
def tagFrom (tg : Tags) (b : Nat) (t : Nat × Nat) : Tags := fun k => if k < b then tg k else t
theorem tagAt_same (tg : Tags) (b : Nat) (t : Nat × Nat) : tagAt tg b t b = t := by unfold tagAt; rw [if_pos rfl]
theorem tagAt_other {tg : Tags} {b k : Nat} (h : k ≠ b) (t : Nat × Nat) : tagAt tg b t k = tg k := by unfold tagAt; rw [if_neg h]
theorem tagFrom_old {tg : Tags} {b k : Nat} (h : k < b) (t : Nat × Nat) : tagFrom tg b t k = tg k := by unfold tagFrom; rw [if_pos h]
theorem tagFrom_new {tg : Tags} {b k : Nat} (h : b ≤ k) (t : Nat × Nat) : tagFrom tg b t k = t := by unfold tagFrom; rw [if_neg (by omega)]

/-- What becomes of one block of memory: it is there as it was. -/
theorem Moves.at {P : Nat × Nat → Prop} {tg tg' : Tags} {w w' : World} (h : Moves P tg tg' w w') {b : Nat} {o : Obj} (hb : w.heap[b]? = some o) {t : Nat × Nat} (ht : tg b = t) (hn : ¬ P t) : w'.heap[b]? = some o ∧ tg' b = t := by
  have hl := (Array.getElem?_eq_some_iff.1 hb).1
  exact ⟨(h.block b hl (by rw [ht]; exact hn)).trans hb, (h.tags b hl).trans ht⟩

/-! ### rows of entries -/
/-- A slice of entries in a block of its own, which is for t. -/
def RowT (tg : Tags) (w : World) (t : Nat × Nat) (v : Value) (es : List Ent) : Prop := w.ownsRow 0 76 3 v es.length (flat es) ∧ ∀ g, v.ownBlock = some g → tg g = t

theorem RowT.keep {tg tg' : Tags} {w w' : World} {t : Nat × Nat} {v : Value} {es : List Ent} (h : RowT tg w t v es) (hk : ∀ g, v.ownBlock = some g → g < w.heap.size → w'.heap[g]? = w.heap[g]? ∧ tg' g = tg g) : RowT tg' w' t v es :=
  ⟨ownsRow_keep h.1 (fun g hg => (hk g hg (ownsRow_lt h.1 hg)).1), fun g hg => ((hk g hg (ownsRow_lt h.1 hg)).2).trans (h.2 g hg)⟩
theorem RowT.moves {P : Nat × Nat → Prop} {tg tg' : Tags} {w w' : World} {t : Nat × Nat} {v : Value} {es : List Ent} (h : RowT tg w t v es) (m : Moves P tg tg' w w') (hn : ¬ P t) : RowT tg' w' t v es :=
  h.keep fun g hg hl => ⟨m.block g hl (by rw [h.2 g hg]; exact hn), m.tags g hl⟩

/-! ### the store -/
/-- What has been fetched, in memory. -/
def GotRow (tg : Tags) (w : World) (ft : PTail) (got : List Int) : Prop := w.ownsRow 0 26 1 (.slice ft.a ft.n ft.c) ft.n (got.map (Value.int .i64)) ∧ ft.n = got.length ∧ ∀ g, (Value.slice ft.a ft.n ft.c).ownBlock = some g → tg g = (1, 1)

/-- A store in memory: its objects, what has been fetched, whether the next fetch fails. -/
structure SInv (tg : Tags) (w : World) (s p : Nat) (objs : List Ob) (got : List Int) (brk : Bool) (lim : Nat) : Prop where
  fresh : Fresh tg w
  ex : ∃ ft : PTail, ft.b = brk ∧ InvP ft (fun k => tg k = (1, 0)) w s p objs ∧ GotRow tg w ft got ∧ Sound objs ∧ got.length ≤ lim

theorem SInv.sound {tg : Tags} {w : World} {s p : Nat} {objs : List Ob} {got : List Int} {brk : Bool} {lim : Nat} (h : SInv tg w s p objs got brk lim) : Sound objs := by
  obtain ⟨_, ft, _, _, _, hs, _⟩ := h
  exact hs
theorem row_base0 {w : World} {base : Nat} {e : TypeId} {size : Nat} {v : Value} {n : Nat} {xs : List Value} (h : w.ownsRow base e size v n xs) : w.ownsRow 0 e size v n xs := by
  obtain ⟨h1, h2⟩ := h
  refine ⟨h1, ?_⟩
  rcases h2 with h | ⟨g, c, cur, hv, _, r⟩
  · exact .inl h
  · exact .inr ⟨g, c, cur, hv, Nat.zero_le _, r⟩

theorem GotRow.moves {P : Nat × Nat → Prop} {tg tg' : Tags} {w w' : World} {ft : PTail} {got : List Int} (h : GotRow tg w ft got) (m : Moves P tg tg' w w') (hn : ¬ P (1, 1)) : GotRow tg' w' ft got :=
  ⟨ownsRow_keep h.1 (fun g hg => m.block g (ownsRow_lt h.1 hg) (by rw [h.2.2 g hg]; exact hn)), h.2.1, fun g hg => (m.tags g (ownsRow_lt h.1 hg)).trans (h.2.2 g hg)⟩
theorem SInv.moves {P : Nat × Nat → Prop} {tg tg' : Tags} {w w' : World} {s p : Nat} {objs : List Ob} {got : List Int} {brk : Bool} {lim : Nat} (h : SInv tg w s p objs got brk lim) (m : Moves P tg tg' w w') (h0 : ¬ P (1, 0)) (h1 : ¬ P (1, 1)) : SInv tg' w' s p objs got brk lim := by
  obtain ⟨hf, ft, hb, hi, hg, hs, hl⟩ := h
  exact ⟨m.fresh hf, ft, hb, hi.keep (fun k hk hF => m.block k hk (by rw [hF]; exact h0)) (fun k hk hF => (m.tags k hk).trans hF), hg.moves m h1, hs, hl⟩
theorem SInv.mono {tg : Tags} {w : World} {s p : Nat} {objs : List Ob} {got : List Int} {brk : Bool} {lim lim' : Nat} (h : SInv tg w s p objs got brk lim) (hl : lim ≤ lim') : SInv tg w s p objs got brk lim' := by
  obtain ⟨hf, ft, hb, hi, hg, hs, h⟩ := h
  exact ⟨hf, ft, hb, hi, hg, hs, Nat.le_trans h hl⟩
/-- Blocks that are not the store's may be given away. -/
theorem SInv.retag {tg tg' : Tags} {w : World} {s p : Nat} {objs : List Ob} {got : List Int} {brk : Bool} {lim : Nat} (h : SInv tg w s p objs got brk lim) (hf : Fresh tg' w) (hk : ∀ k, (tg k).1 = 1 → tg' k = tg k) : SInv tg' w s p objs got brk lim := by
  obtain ⟨_, ft, hb, hi, hg, hs, hl⟩ := h
  exact ⟨hf, ft, hb, hi.keep (fun k _ _ => rfl) (fun k _ hF => (hk k (by rw [hF])).trans hF), ⟨hg.1, hg.2.1, fun g hgg => (hk g (by rw [hg.2.2 g hgg])).trans (hg.2.2 g hgg)⟩, hs, hl⟩

/-! ### a workspace -/
/-- The blocks that a workspace has for good: itself, its tree, its two shelves, what is kept on them, the maps of its own files and directories. -/
structure WB where
  wb : Nat
  bt : Nat
  sF : Nat
  sD : Nat
  mF : Nat
  mD : Nat
  oF : Nat
  oD : Nat

/-- What a workspace is: its base, its tree, what it has fetched, the files that have been opened (the object whose bytes they have, or 0 and their bytes), and what has them open: by its number the block, the file, flags, place. -/
structure WG where
  base : Int
  ft : FT
  fs : FS
  fl : Nat → Option (Int × ByteArray)
  op : Nat → Option (Nat × Nat × Int × Int)

def ptr (b : Nat) : Value := .pointer (some ⟨b, 0, none⟩)
def opV (o : Option (Nat × Nat × Int × Int)) : Value := .pointer (o.map fun x => ⟨x.1, 0, none⟩)

/-- The workspace's tree and its shelves. -/
structure PTree (tg : Tags) (w : World) (i p : Nat) (B : WB) (base root : Int) : Prop where
  tt : tg B.bt = (i, 1)
  tF : tg B.sF = (i, 1)
  tD : tg B.sD = (i, 1)
  ht : w.heap[B.bt]? = some (.cells #[ptr p, ptr B.sF, ptr B.sD, .int .i64 base, .string ⟨#[]⟩, .int .i64 2, .int .i64 root, .map (some B.oF), .map (some B.oD)] 130 (0, 0))
  hF : w.heap[B.sF]? = some (.cells #[.func (.func 104) #[ptr p] #[], .map (some B.mF)] 219 (0, 0))
  hD : w.heap[B.sD]? = some (.cells #[.func (.func 106) #[ptr p] #[], .map (some B.mD)] 223 (0, 0))

theorem PTree.moves {P : Nat × Nat → Prop} {tg tg' : Tags} {w w' : World} {i p : Nat} {B : WB} {base root : Int} (h : PTree tg w i p B base root) (m : Moves P tg tg' w w') (hn : ¬ P (i, 1)) : PTree tg' w' i p B base root := by
  obtain ⟨a1, b1⟩ := m.at h.ht h.tt hn
  obtain ⟨a2, b2⟩ := m.at h.hF h.tF hn
  obtain ⟨a3, b3⟩ := m.at h.hD h.tD hn
  exact ⟨b1, b2, b3, a1, a2, a3⟩

theorem VMap.moves {P : Nat × Nat → Prop} {tg tg' : Tags} {w w' : World} {k : TypeId} {b n : Nat} {M : Lit → Option Value} (h : VMap w k b n M) (m : Moves P tg tg' w w') {t : Nat × Nat} (ht : tg b = t) (hn : ¬ P t) : VMap w' k b n M ∧ tg' b = t := by
  have hl := h.lt
  exact ⟨h.keep (m.block b hl (by rw [ht]; exact hn)), (m.tags b hl).trans ht⟩

def idL (id : Int) : Lit := .int .i64 id
/-- Files that are kept. -/
def KeptF (tg : Tags) (w : World) (i : Nat) (B : WB) (objs : List Ob) (kF : Int → Bool) (lim : Nat) : Prop :=
  tg B.mF = (i, 2) ∧ ∃ n M, n ≤ lim ∧ VMap w 26 B.mF n M ∧ (∀ id, M (idL id) = if kF id then some (.string (bytesOf objs id)) else none) ∧ ∀ id, kF id = true → kindOf objs id = 1
/-- Directories that are kept. -/
def KeptD (tg : Tags) (w : World) (i : Nat) (B : WB) (objs : List Ob) (kD : Int → Bool) (lim : Nat) : Prop :=
  tg B.mD = (i, 3) ∧ ∃ n M, ∃ vK : Int → Value, n ≤ lim ∧ VMap w 26 B.mD n M ∧ (∀ id, M (idL id) = if kD id then some (vK id) else none) ∧ ∀ id, kD id = true → kindOf objs id = 2 ∧ RowT tg w (i, 3) (vK id) (entsOf objs id)

theorem KeptF.moves {P : Nat × Nat → Prop} {tg tg' : Tags} {w w' : World} {i : Nat} {B : WB} {objs : List Ob} {kF : Int → Bool} {lim : Nat} (h : KeptF tg w i B objs kF lim) (m : Moves P tg tg' w w') (hn : ¬ P (i, 2)) : KeptF tg' w' i B objs kF lim := by
  obtain ⟨ht, n, M, hl, hv, hM, hk⟩ := h
  obtain ⟨a, b⟩ := hv.moves m ht hn
  exact ⟨b, n, M, hl, a, hM, hk⟩
theorem KeptD.moves {P : Nat × Nat → Prop} {tg tg' : Tags} {w w' : World} {i : Nat} {B : WB} {objs : List Ob} {kD : Int → Bool} {lim : Nat} (h : KeptD tg w i B objs kD lim) (m : Moves P tg tg' w w') (hn : ¬ P (i, 3)) : KeptD tg' w' i B objs kD lim := by
  obtain ⟨ht, n, M, vK, hl, hv, hM, hk⟩ := h
  obtain ⟨a, b⟩ := hv.moves m ht hn
  exact ⟨b, n, M, vK, hl, a, hM, fun id hid => ⟨(hk id hid).1, (hk id hid).2.moves m hn⟩⟩

/-- A map by paths. -/
def PMap (w : World) (b n : Nat) (f : List ByteArray → Option Value) : Prop :=
  ∃ M, VMap w 104 b n M ∧ (∀ p, Good p → M (keyP Tryz.prog p) = f p) ∧ ∀ kl, WideAt.IsKeyLit kl → M kl ≠ none → ∃ p, Good p ∧ kl = keyP Tryz.prog p

/-- The tree's own files. -/
def OwnF (tg : Tags) (w : World) (i : Nat) (B : WB) (of : List ByteArray → Option Nat) (lim : Nat) : Prop :=
  tg B.oF = (i, 4) ∧ (∃ n, n ≤ lim ∧ PMap w B.oF n (fun p => (of p).map ptr)) ∧ ∀ p f, of p = some f → Good p
/-- The tree's own directories; vD: their slices. -/
structure OwnDV (tg : Tags) (w : World) (i : Nat) (B : WB) (od : List ByteArray → Option (List Ent)) (lim : Nat) (vD : List ByteArray → Value) : Prop where
  tag : tg B.oD = (i, 5)
  map : ∃ n, n ≤ lim ∧ PMap w B.oD n (fun p => (od p).map fun _ => vD p)
  good : ∀ p es, od p = some es → Good p ∧ RisingK es ∧ es.length ≤ 16 ∧ ∀ e ∈ es, validB e.1 = true ∧ (e.2.1 = 1 ∨ e.2.1 = 2)
  row : ∀ p es, od p = some es → RowT tg w (i, 5) (vD p) es
  inj : ∀ p q es fs g, od p = some es → od q = some fs → (vD p).ownBlock = some g → (vD q).ownBlock = some g → p = q
def OwnD (tg : Tags) (w : World) (i : Nat) (B : WB) (od : List ByteArray → Option (List Ent)) (lim : Nat) : Prop := ∃ vD, OwnDV tg w i B od lim vD

theorem PMap.keep {w w' : World} {b n : Nat} {f : List ByteArray → Option Value} (h : PMap w b n f) (e : w'.heap[b]? = w.heap[b]?) : PMap w' b n f := by
  obtain ⟨M, hv, h1, h2⟩ := h
  exact ⟨M, hv.keep e, h1, h2⟩
theorem PMap.lt {w : World} {b n : Nat} {f : List ByteArray → Option Value} (h : PMap w b n f) : b < w.heap.size := by
  obtain ⟨M, hv, _⟩ := h
  exact hv.lt
theorem OwnF.moves {P : Nat × Nat → Prop} {tg tg' : Tags} {w w' : World} {i : Nat} {B : WB} {of : List ByteArray → Option Nat} {lim : Nat} (h : OwnF tg w i B of lim) (m : Moves P tg tg' w w') (hn : ¬ P (i, 4)) : OwnF tg' w' i B of lim := by
  obtain ⟨ht, ⟨n, hl, hp⟩, hg⟩ := h
  exact ⟨(m.tags _ hp.lt).trans ht, ⟨n, hl, hp.keep (m.block _ hp.lt (by rw [ht]; exact hn))⟩, hg⟩
theorem OwnDV.moves {P : Nat × Nat → Prop} {tg tg' : Tags} {w w' : World} {i : Nat} {B : WB} {od : List ByteArray → Option (List Ent)} {lim : Nat} {vD : List ByteArray → Value} (h : OwnDV tg w i B od lim vD) (m : Moves P tg tg' w w') (hn : ¬ P (i, 5)) : OwnDV tg' w' i B od lim vD := by
  obtain ⟨ht, ⟨n, hl, hp⟩, hg, hr, hi⟩ := h
  exact ⟨(m.tags _ hp.lt).trans ht, ⟨n, hl, hp.keep (m.block _ hp.lt (by rw [ht]; exact hn))⟩, hg, fun p es he => (hr p es he).moves m hn, hi⟩

/-- The files that have been opened. -/
def FilesAt (tg : Tags) (w : World) (i : Nat) (B : WB) (fl : Nat → Option (Int × ByteArray)) : Prop :=
  ∀ f id d, fl f = some (id, d) → tg f = (i, 6) ∧ w.heap[f]? = some (.cells #[.pointer (if id = 0 then none else some ⟨B.sF, 0, none⟩), .int .i64 id, .string d] 238 (0, 0)) ∧ d.size ≤ 256
theorem FilesAt.moves {P : Nat × Nat → Prop} {tg tg' : Tags} {w w' : World} {i : Nat} {B : WB} {fl : Nat → Option (Int × ByteArray)} (h : FilesAt tg w i B fl) (m : Moves P tg tg' w w') (hn : ¬ P (i, 6)) : FilesAt tg' w' i B fl := fun f id d hf => by
  obtain ⟨h1, h2, h3⟩ := h f id d hf
  obtain ⟨a, b⟩ := m.at h2 h1 hn
  exact ⟨b, a, h3⟩

/-- What has files open. -/
structure OpensAt (tg : Tags) (w : World) (i : Nat) (B : WB) (fl : Nat → Option (Int × ByteArray)) (op : Nat → Option (Nat × Nat × Int × Int)) : Prop where
  tw : tg B.wb = (i, 0)
  hw : w.heap[B.wb]? = some (.cells #[ptr B.bt, opV (op 0), opV (op 1), opV (op 2), opV (op 3), opV (op 4), opV (op 5), opV (op 6), opV (op 7)] 99 (0, 0))
  past : ∀ k, 8 ≤ k → op k = none
  at_ : ∀ k b f fg pl, op k = some (b, f, fg, pl) → tg b = (i, 7) ∧ w.heap[b]? = some (.cells #[ptr f, .int .i64 fg, .int .i64 pl] 208 (0, 0)) ∧ (∃ x, fl f = some x) ∧ 0 ≤ fg ∧ fg < 64 ∧ 0 ≤ pl ∧ pl ≤ 256
  inj : ∀ k l x y, op k = some x → op l = some y → x.1 = y.1 → k = l
theorem OpensAt.moves {P : Nat × Nat → Prop} {tg tg' : Tags} {w w' : World} {i : Nat} {B : WB} {fl : Nat → Option (Int × ByteArray)} {op : Nat → Option (Nat × Nat × Int × Int)} (h : OpensAt tg w i B fl op) (m : Moves P tg tg' w w') (hn : ¬ P (i, 0)) (hn' : ¬ P (i, 7)) : OpensAt tg' w' i B fl op := by
  obtain ⟨a, b⟩ := m.at h.hw h.tw hn
  refine ⟨b, a, h.past, fun k b f fg pl hk => ?_, h.inj⟩
  obtain ⟨h1, h2, h3⟩ := h.at_ k b f fg pl hk
  obtain ⟨a', b'⟩ := m.at h2 h1 hn'
  exact ⟨b', a', h3⟩

/-- An entry names what is there, of its kind, or what is the tree's own. -/
def EntOk (objs : List Ob) (e : Ent) : Prop := (e.2.1 = 1 ∨ e.2.1 = 2) ∧ (e.2.2 ≠ 0 → kindOf objs e.2.2 = e.2.1)
/-- The maps name what is there. -/
structure FtOk (objs : List Ob) (ft : FT) : Prop where
  root : ft.root ≠ 0 → kindOf objs ft.root = 2
  od : ∀ p es, ft.od p = some es → ∀ e ∈ es, EntOk objs e

/-- A workspace in memory. -/
structure WPart (tg : Tags) (w : World) (i p : Nat) (B : WB) (objs : List Ob) (g : WG) (lim : Nat) : Prop where
  tree : PTree tg w i p B g.base g.ft.root
  keptF : KeptF tg w i B objs g.fs.kF lim
  keptD : KeptD tg w i B objs g.fs.kD lim
  ownF : OwnF tg w i B g.ft.of lim
  ownD : OwnD tg w i B g.ft.od lim
  files : FilesAt tg w i B g.fl
  held : ∀ q f, g.ft.of q = some f → ∃ x, g.fl f = some x
  opens : OpensAt tg w i B g.fl g.op
  ok : FtOk objs g.ft

/-- A workspace of which nothing has been touched. -/
theorem WPart.moves {P : Nat × Nat → Prop} {tg tg' : Tags} {w w' : World} {i p : Nat} {B : WB} {objs : List Ob} {g : WG} {lim : Nat} (h : WPart tg w i p B objs g lim) (m : Moves P tg tg' w w') (hn : ∀ k, ¬ P (i, k)) : WPart tg' w' i p B objs g lim := by
  obtain ⟨vD, hD⟩ := h.ownD
  exact ⟨h.tree.moves m (hn 1), h.keptF.moves m (hn 2), h.keptD.moves m (hn 3), h.ownF.moves m (hn 4), ⟨vD, hD.moves m (hn 5)⟩, h.files.moves m (hn 6), h.held, h.opens.moves m (hn 0) (hn 7), h.ok⟩

/-- The store and one workspace. -/
structure WInv (tg : Tags) (w : World) (s i p : Nat) (B : WB) (objs : List Ob) (g : WG) (lim : Nat) : Prop where
  two : 2 ≤ i
  st : SInv tg w s p objs g.fs.got g.fs.brk lim
  wp : WPart tg w i p B objs g lim

/-- What a call of workspace i may touch. -/
def Mine (i : Nat) (t : Nat × Nat) : Prop := t.1 = 1 ∨ t.1 = i

theorem WInv.below {tg : Tags} {w w' : World} {s i p : Nat} {B : WB} {objs : List Ob} {g : WG} {lim : Nat} (h : WInv tg w s i p B objs g lim) (hb : Below w.heap.size w w') : WInv tg w' s i p B objs g lim := by
  have m : Moves (fun _ => False) tg tg w w' := Moves.of_below hb
  exact ⟨h.two, h.st.moves m id id, h.wp.moves m (fun _ => id)⟩

end Go.Proofs.YtajopoddmfdejaaGreat

namespace Go.Proofs.YtajopoddmfdejaaGreat
open Go.RowKit Go.Sort Go.Shelf
set_option linter.unusedVariables false

theorem infoID : (Tryz.prog.info? 26).map (fun i => (i.zero, i.size, i.bytes)) = some (some (.int .i64 0), 1, 8) := by kernel_rfl

set_option maxRecDepth 100000 in
set_option maxHeartbeats 400000 in
theorem deliver_brk {ft : PTail} (p : Nat) (a : Option Addr) (n cap bf bd : Nat) (id : Int) (w : World) (h : PoolAt ft w p a n cap bf bd) (hb : ft.b = true) :
    Calls Tryz.prog 143 #[.pointer (some ⟨p, 0, none⟩), .int .i64 id] w fun e w' => e = .returned (.int .i64 14) ∧ w' = w.setCell ⟨p, 4, none⟩ (.bool false) := by
  have c4 : w.cell? ⟨p, 4, none⟩ = some (.bool true) := by unfold PoolAt at h; simp [World.cell?, h, hb]
  have f4 : w.frozen? ⟨p, 4, none⟩ = false := by unfold PoolAt at h; simp [World.frozen?, h]
  clear h hb
  go_enter Tryz.func143, Tryz.ntmps143
  go_wp2
  go_ret
  exact ⟨rfl, rfl⟩

theorem cells1 (w : World) (c0 : Value) (t : TypeId) : ∀ j u, [c0][j]? = some u → (w.alloc (.cells #[c0] t)).cell? ((⟨w.heap.size, 0, none⟩ : Addr).add j) = some u := by
  intro j u h
  match j, h with
  | 0, h => simpa [Addr.add] using h
  | j + 1, h => simp at h
theorem grown_cell1 {w w1 : World} {o1 : Obj} {r : Option Nat} (hg : (w.alloc o1).grownBy w1 r) {p : Nat} (hp : p < w.heap.size) (hr : some p ≠ r) {v : Value} {i : Nat} (h : w.cell? ⟨p, i, none⟩ = some v) : w1.cell? ⟨p, i, none⟩ = some v := by
  rw [World.cell?_of_block (a := ⟨p, i, none⟩) (hg.block p (by simp; omega) hr), World.cell?_alloc_past _ _ _ hp, h]
theorem grown_frozen1 {w w1 : World} {o1 : Obj} {r : Option Nat} (hg : (w.alloc o1).grownBy w1 r) {p : Nat} (hp : p < w.heap.size) (hr : some p ≠ r) {i : Nat} (h : w.frozen? ⟨p, i, none⟩ = false) : w1.frozen? ⟨p, i, none⟩ = false := by
  rw [World.frozen?_of_block (a := ⟨p, i, none⟩) (hg.block p (by simp; omega) hr), World.frozen?_alloc_past _ _ _ hp, h]

set_option maxRecDepth 100000 in
set_option maxHeartbeats 800000 in
theorem deliver_ok (p : Nat) (a : Option Addr) (n c : Nat) (xs : List Value) (id : Int) (w : World) (hp : p < w.heap.size) (c3 : w.cell? ⟨p, 3, none⟩ = some (.slice a n c)) (f3 : w.frozen? ⟨p, 3, none⟩ = false) (c4 : w.cell? ⟨p, 4, none⟩ = some (.bool false))
    (hown : w.ownsRow 0 26 1 (.slice a n c) n xs) (hpa : some p ≠ (Value.slice a n c).ownBlock) (hn : n < 1099511627776) :
    Calls Tryz.prog 143 #[.pointer (some ⟨p, 0, none⟩), .int .i64 id] w fun e w' => e = .returned (.int .i64 0) ∧
      ∃ g cap' w1, w1.ownsRow 0 26 1 (.slice (some ⟨g, 0, none⟩) (n + 1) cap') (n + 1) (xs ++ [.int .i64 id]) ∧ (∃ o1, (w.alloc o1).grownBy w1 (Value.slice a n c).ownBlock ∧ ((some g : Option Nat) = (Value.slice a n c).ownBlock ∨ g = w.heap.size + 1)) ∧ w' = w1.setCell ⟨p, 3, none⟩ (.slice (some ⟨g, 0, none⟩) (n + 1) cap') := by
  obtain ⟨i0, hi, hz0, hz1, hz2⟩ := info_parts infoID
  have HO : Hid (w.ownsRow 0 26 1 (.slice a n c) n xs) := hown
  have HP : Hid (some p ≠ (Value.slice a n c).ownBlock) := hpa
  clear hown hpa
  go_enter Tryz.func143, Tryz.ntmps143
  go_wp2_with (first | (at_builtin; go_loud (refine wpList_append_own_at _ rfl (.tmp 16) (.tmp 18) 64 rfl 0 26 i0 _ 1 8 Tryz.underlying64 hi hz0 hz1 hz2 rfl (by decide) (.slice a n c) n xs rfl (HO.out.alloc _) ⟨w.heap.size, 0, none⟩ 1 1 [.int .i64 id] rfl rfl (cells1 w (.int .i64 id) 26) (by intro u hu; simp at hu; subst hu; rfl) (by unfold maxLen; omega) (by omega) (Nat.zero_le _) ?_; intro v' w1 hown' hgrow _ hloc; obtain ⟨g, cap', rfl⟩ := slice_of_owns hown' (by omega); have k1' := grown_cell1 hgrow hp HP.out c3; have k2' := grown_frozen1 hgrow hp HP.out f3)) | go_in)
  go_ret
  exact ⟨rfl, g, cap', w1, hown', ⟨_, hgrow, by simpa [Value.ownBlock] using hloc⟩, rfl⟩

/-! ### in the store -/
/-- Only the pool's tail has turned. -/
theorem InvP.tail {ft ft' : PTail} {F F' : Nat → Prop} {w w' : World} {s p : Nat} {objs : List Ob} (h : InvP ft F w s p objs) (hp : ∀ a n cap bf bd, PoolAt ft w p a n cap bf bd → PoolAt ft' w' p a n cap bf bd) (hk : ∀ k, k < w.heap.size → F k → k ≠ p → w'.heap[k]? = w.heap[k]?) (hF : ∀ k, k < w.heap.size → F k → F' k) : InvP ft' F' w' s p objs := by
  obtain ⟨a, cap, bf, bd, Df, Dd, i⟩ := h
  have ls : s < w.heap.size := (Array.getElem?_eq_some_iff.1 i.hs).1
  have hsp : s ≠ p := cells_ne i.hs i.pool.at_ (by decide)
  have hmp : ∀ {b : Nat} {es : Array MapEntry} {clock : Nat}, w.heap[b]? = some (.map es clock) → b ≠ p := fun hb e => by subst e; have := i.pool.at_; unfold PoolAt at this; rw [hb] at this; cases this
  obtain ⟨e1, c1, hbf⟩ := ownsMap_isMap i.files
  obtain ⟨e2, c2, hbd⟩ := ownsMap_isMap i.dirs
  have hrow : ∀ v m t k xs, w.ownsRow 0 t k v m xs → t ≠ 136 → (∀ g, v.ownBlock = some g → F g) → w'.ownsRow 0 t k v m xs := fun v m t k xs hr ht hFg => ownsRow_keep hr (fun g hg => hk g (ownsRow_lt hr hg) (hFg g hg) (fun e => by
    subst e
    exact owns_ne_cells hr i.pool.at_ (fun e => ht e.symm) hg.symm))
  refine ⟨a, cap, bf, bd, Df, Dd, ⟨hF _ ls i.fs, hF _ i.pool.at_.lt i.fp, hF _ i.files.lt i.ff, hF _ i.dirs.lt i.fd, fun g hg => hF g (ownsRow_lt i.pool.row hg) (i.fr g hg), (hk s ls i.fs hsp).trans i.hs, ⟨hp _ _ _ _ _ i.pool.at_, hrow _ _ _ _ _ i.pool.row (by decide) i.fr, i.pool.len, i.pool.many⟩, i.ne,
    ownsMap_keep i.files (hk _ i.files.lt i.ff (hmp hbf)), i.filesOk, ownsMap_keep i.dirs (hk _ i.dirs.lt i.fd (hmp hbd)), i.dirsOk, fun o ho => ?_⟩⟩
  rcases i.obs o ho with h | ⟨h1, h2, h3, h4, h5, h6, h8, h9⟩
  · exact .inl h
  · exact .inr ⟨h1, h2, h3, h4, h5, h6, fun g hg => hF g (ownsRow_lt h9 hg) (h8 g hg), hrow _ _ _ _ _ h9 (by decide) h8⟩

/-- What a fetch may touch of the store's. -/
def Got (t : Nat × Nat) : Prop := t = (1, 0) ∨ t = (1, 1)

/-- What comes of a fetch: it has failed, or has been noted. -/
def Delivered (s p : Nat) (objs : List Ob) (got : List Int) (brk : Bool) (lim : Nat) (id : Int) (tg : Tags) (w : World) (er : Int) : Prop :=
  (brk = true ∧ er = 14 ∧ SInv tg w s p objs got false lim) ∨ (brk = false ∧ er = 0 ∧ SInv tg w s p objs (got ++ [id]) false (lim + 1))

theorem deliver_any {tg : Tags} {w : World} {s p : Nat} {objs : List Ob} {got : List Int} {brk : Bool} {lim : Nat} (h : SInv tg w s p objs got brk lim) (hl : lim < 1099511627776) (id : Int) :
    Calls Tryz.prog 143 #[.pointer (some ⟨p, 0, none⟩), .int .i64 id] w fun e w' => ∃ er, e = .returned (.int .i64 er) ∧ ∃ tg', Moves Got tg tg' w w' ∧ Delivered s p objs got brk lim id tg' w' er := by
  obtain ⟨hfr, ft, hb, hi, hg, hs, hgl⟩ := h
  have hi' := hi
  obtain ⟨a, cap, bf, bd, Df, Dd, i⟩ := hi'
  have hat := i.pool.at_
  have hlt := hat.lt
  have hpt : tg p = (1, 0) := i.fp
  have hpa : some p ≠ (Value.slice ft.a ft.n ft.c).ownBlock := owns_ne_cells hg.1 hat (by decide)
  cases brk with
  | true =>
    refine (deliver_brk p a objs.length cap bf bd id w hat hb).mono ?_
    rintro e w' ⟨rfl, rfl⟩
    refine ⟨14, rfl, tg, ⟨rfl, rfl, rfl, by simp, fun _ _ => rfl, fun k hk hn => Below.heap_setCell _ _ _ _ (fun e => hn (by rw [e, hpt]; exact .inl rfl)), fun hf k hk => hf k (by simpa using hk)⟩, .inl ⟨rfl, rfl, fun k hk => hfr k (by simpa using hk), { ft with b := false }, rfl, ?_, ⟨?_, hg.2.1, hg.2.2⟩, hs, hgl⟩⟩
    · refine hi.tail (fun a' n' cap' bf' bd' h' => ?_) (fun k hk hF hne => Below.heap_setCell _ _ _ _ hne) (fun k hk hF => hF)
      unfold PoolAt at h' ⊢
      simp [World.setCell, Array.getElem?_modify, h']
    · exact ownsRow_keep hg.1 (fun g hgg => Below.heap_setCell _ _ _ _ (fun e => hpa (by rw [hgg, e])))
  | false =>
    have c3 : w.cell? ⟨p, 3, none⟩ = some (.slice ft.a ft.n ft.c) := by unfold PoolAt at hat; simp [World.cell?, hat]
    have f3 : w.frozen? ⟨p, 3, none⟩ = false := by unfold PoolAt at hat; simp [World.frozen?, hat]
    have c4 : w.cell? ⟨p, 4, none⟩ = some (.bool false) := by unfold PoolAt at hat; simp [World.cell?, hat, hb]
    refine (deliver_ok p ft.a ft.n ft.c _ id w hlt c3 f3 c4 hg.1 hpa (by rw [hg.2.1]; omega)).mono ?_
    rintro e w' ⟨rfl, g, cap', w1, hown, ⟨o1, hgr, hloc⟩, rfl⟩
    have hsz := hgr.size
    simp at hsz
    have hkeep : ∀ k, k < w.heap.size → some k ≠ (Value.slice ft.a ft.n ft.c).ownBlock → w1.heap[k]? = w.heap[k]? := fun k hk hne => by
      rw [hgr.block k (by simp; omega) hne, Below.heap_alloc _ _ _ hk]
    have hgp : g ≠ p := by
      rintro rfl
      rcases hloc with h | h
      · exact hpa h
      · omega
    have htag : ∀ k, tg k = (1, 0) → some k ≠ (Value.slice ft.a ft.n ft.c).ownBlock := fun k hk e => by have := hg.2.2 k e.symm; rw [hk] at this; cases this
    refine ⟨0, rfl, fun k => if k < w.heap.size then tg k else if k < w1.heap.size then (1, 1) else (0, 0), ⟨hgr.os, hgr.tape, hgr.output, by simp; omega, fun k hk => if_pos hk, fun k hk hn => ?_, fun hf k hk => ?_⟩, .inr ⟨rfl, rfl, fun k hk => ?_, ⟨some ⟨g, 0, none⟩, ft.n + 1, cap', false⟩, rfl, ?_, ⟨?_, ?_, fun g' hg' => ?_⟩, hs, by simp; omega⟩⟩
    · rw [Below.heap_setCell _ _ _ _ (fun e => hn (by rw [e, hpt]; exact .inl rfl)), hkeep k hk (fun e => hn (.inr (hg.2.2 k e.symm)))]
    · have hk' : w1.heap.size ≤ k := by simpa using hk
      show (if _ then _ else _) = _
      rw [if_neg (by omega), if_neg (by omega)]
    · have hk' : w1.heap.size ≤ k := by simpa using hk
      show (if _ then _ else _) = _
      rw [if_neg (by omega), if_neg (by omega)]
    · refine hi.tail (fun a' n' cap'' bf' bd' h' => ?_) (fun k hk hF hne => ?_) (fun k hk hF => by show (if _ then _ else _) = _; rw [if_pos hk]; exact hF)
      · have hp1 : w1.heap[p]? = w.heap[p]? := hkeep p hlt hpa
        unfold PoolAt at h' ⊢
        simp [World.setCell, Array.getElem?_modify, hp1, h', hb]
      · rw [Below.heap_setCell _ _ _ _ hne, hkeep k hk (htag k hF)]
    · rw [List.map_append]
      exact ownsRow_keep hown (fun g' hg' => by cases hg'; exact Below.heap_setCell _ _ _ _ hgp)
    · simp [hg.2.1]
    · obtain rfl : g = g' := by simpa [Value.ownBlock] using hg'
      show (if _ then _ else _) = _
      rcases hloc with h | h
      · rw [if_pos (ownsRow_lt hg.1 h.symm)]; exact hg.2.2 g h.symm
      · rw [if_neg (by omega), if_pos (by have := ownsRow_lt hown rfl; omega)]

end Go.Proofs.YtajopoddmfdejaaGreat

namespace Go.Proofs.YtajopoddmfdejaaGreat
open Go.RowKit Go.Sort Go.Shelf
set_option linter.unusedVariables false

theorem bytesOf_in {objs : List Ob} {j : Nat} (hj : j < objs.length) : bytesOf objs ((j : Int) + 1) = objs[j].data := by
  unfold bytesOf
  rw [show ((j : Int) + 1 - 1).toNat = j by omega, List.getElem?_eq_getElem hj]; rfl
theorem entsOf_in {objs : List Ob} {j : Nat} (hj : j < objs.length) : entsOf objs ((j : Int) + 1) = objs[j].ents := by
  unfold entsOf
  rw [show ((j : Int) + 1 - 1).toNat = j by omega, List.getElem?_eq_getElem hj]; rfl

section
variable {tg : Tags} {w : World} {s p : Nat} {objs : List Ob} {got : List Int} {brk : Bool} {lim : Nat}

theorem SInv.file (h : SInv tg w s p objs got brk lim) {id : Int} (hk : kindOf objs id = 1) :
    Calls Tryz.prog 58 #[.pointer (some ⟨p, 0, none⟩), .int .i64 id] w fun e w' => e = .returned (.tuple #[.string (bytesOf objs id), .int .i64 0]) ∧ Below w.heap.size w w' := by
  obtain ⟨_, ft, _, ⟨a, cap, bf, bd, Df, Dd, i⟩, _⟩ := h
  refine (file_any p a objs.length cap bf bd objs id w i.pool).mono ?_
  rintro e w' ⟨hb, ⟨hn, _⟩ | ⟨j, hj, rfl, _, he⟩⟩
  · exact absurd hk hn
  · rw [bytesOf_in hj]; exact ⟨he, hb⟩

theorem SInv.dir (h : SInv tg w s p objs got brk lim) {id : Int} (hk : kindOf objs id = 2) :
    Calls Tryz.prog 57 #[.pointer (some ⟨p, 0, none⟩), .int .i64 id] w fun e w' => ∃ g, e = .returned (.tuple #[.slice (some ⟨g, 0, none⟩) (entsOf objs id).length (entsOf objs id).length, .int .i64 0]) ∧ w'.ownsRow w.heap.size 76 3 (.slice (some ⟨g, 0, none⟩) (entsOf objs id).length (entsOf objs id).length) (entsOf objs id).length (flat (entsOf objs id)) ∧ Below w.heap.size w w' := by
  obtain ⟨_, ft, _, ⟨a, cap, bf, bd, Df, Dd, i⟩, _⟩ := h
  refine (poolGetDir i id).mono ?_
  rintro e w' ⟨⟨hn, _⟩ | ⟨j, hj, rfl, _, g, he, hr⟩, hb⟩
  · exact absurd hk hn
  · rw [entsOf_in hj]; exact ⟨g, he, hr, hb⟩

set_option maxRecDepth 100000 in
set_option maxHeartbeats 400000 in
theorem fetchFile_any (h : SInv tg w s p objs got brk lim) (hl : lim < 1099511627776) {id : Int} (hk : kindOf objs id = 1) :
    Calls Tryz.prog 104 #[.pointer (some ⟨p, 0, none⟩), .int .i64 id] w fun e w' => ∃ er, e = .returned (.tuple #[.string (if er = 0 then bytesOf objs id else ⟨#[]⟩), .int .i64 er]) ∧ ∃ tg', Moves Got tg tg' w w' ∧ Delivered s p objs got brk lim id tg' w' er := by
  have hcon := deliver_any h hl id
  clear h hl
  cases brk with
  | true =>
    have hcon' : Calls Tryz.prog 143 #[.pointer (some ⟨p, 0, none⟩), .int .i64 id] w fun e w' => e = .returned (.int .i64 14) ∧ ∃ tg', Moves Got tg tg' w w' ∧ Delivered s p objs got true lim id tg' w' 14 := hcon.mono (fun e w' ⟨er, he, tg', m, hD⟩ => by
      have h14 : er = 14 := by rcases hD with ⟨_, h, _⟩ | ⟨h, _⟩; exact h; cases h
      subst h14; exact ⟨he, tg', m, hD⟩)
    clear hcon
    go_enter Tryz.func104, Tryz.ntmps104
    go_wp2_with (go_at_call 143; refine hcon'.mono ?_; rintro e w1 ⟨rfl, hrest⟩; have HR : Hid _ := hrest; clear hrest)
    go_ret2
    exact ⟨14, rfl, HR.out⟩
  | false =>
    have hcon' : Calls Tryz.prog 143 #[.pointer (some ⟨p, 0, none⟩), .int .i64 id] w fun e w' => e = .returned (.int .i64 0) ∧ ∃ tg', Moves Got tg tg' w w' ∧ SInv tg' w' s p objs (got ++ [id]) false (lim + 1) := hcon.mono (fun e w' ⟨er, he, tg', m, hD⟩ => by
      rcases hD with ⟨h, _⟩ | ⟨_, rfl, hS⟩
      · cases h
      · exact ⟨he, tg', m, hS⟩)
    clear hcon
    go_enter Tryz.func104, Tryz.ntmps104
    go_wp2_with (first
      | (go_at_call 143; refine hcon'.mono ?_; rintro e w1 ⟨rfl, tg1, m1, hS⟩; have HM : Hid _ := m1; have HS : Hid _ := hS; clear m1 hS)
      | (go_at_call 58; refine (SInv.file HS.out hk).mono ?_; rintro e w2 ⟨rfl, hb⟩))
    go_ret2
    exact ⟨0, by rw [if_pos rfl]; rfl, tg1, HM.out.trans (Moves.of_below hb), .inr ⟨rfl, rfl, HS.out.moves (P := fun _ => False) (Moves.of_below hb) (fun x => x) (fun x => x)⟩⟩

set_option maxRecDepth 100000 in
set_option maxHeartbeats 400000 in
theorem fetchDir_any (h : SInv tg w s p objs got brk lim) (hl : lim < 1099511627776) {id : Int} (hk : kindOf objs id = 2) :
    Calls Tryz.prog 106 #[.pointer (some ⟨p, 0, none⟩), .int .i64 id] w fun e w' => ∃ er v, e = .returned (.tuple #[v, .int .i64 er]) ∧ (er ≠ 0 → v = .slice none 0 0) ∧ ∃ tg', Moves Got tg tg' w w' ∧ Delivered s p objs got brk lim id tg' w' er ∧
      (er = 0 → ∃ g, v = .slice (some ⟨g, 0, none⟩) (entsOf objs id).length (entsOf objs id).length ∧ w.heap.size ≤ g ∧ tg' g = (0, 0) ∧ w'.ownsRow 0 76 3 v (entsOf objs id).length (flat (entsOf objs id))) := by
  have hcon := deliver_any h hl id
  clear h hl
  cases brk with
  | true =>
    have hcon' : Calls Tryz.prog 143 #[.pointer (some ⟨p, 0, none⟩), .int .i64 id] w fun e w' => e = .returned (.int .i64 14) ∧ ∃ tg', Moves Got tg tg' w w' ∧ Delivered s p objs got true lim id tg' w' 14 := hcon.mono (fun e w' ⟨er, he, tg', m, hD⟩ => by
      have h14 : er = 14 := by rcases hD with ⟨_, h, _⟩ | ⟨h, _⟩; exact h; cases h
      subst h14; exact ⟨he, tg', m, hD⟩)
    clear hcon
    go_enter Tryz.func106, Tryz.ntmps106
    go_wp2_with (go_at_call 143; refine hcon'.mono ?_; rintro e w1 ⟨rfl, hrest⟩; have HR : Hid _ := hrest; clear hrest)
    go_ret2
    obtain ⟨tg', m, hD⟩ := HR.out
    exact ⟨14, _, rfl, fun _ => rfl, tg', m, hD, fun h => by cases h⟩
  | false =>
    have hcon' : Calls Tryz.prog 143 #[.pointer (some ⟨p, 0, none⟩), .int .i64 id] w fun e w' => e = .returned (.int .i64 0) ∧ ∃ tg', Moves Got tg tg' w w' ∧ SInv tg' w' s p objs (got ++ [id]) false (lim + 1) := hcon.mono (fun e w' ⟨er, he, tg', m, hD⟩ => by
      rcases hD with ⟨h, _⟩ | ⟨_, rfl, hS⟩
      · cases h
      · exact ⟨he, tg', m, hS⟩)
    clear hcon
    go_enter Tryz.func106, Tryz.ntmps106
    go_wp2_with (first
      | (go_at_call 143; refine hcon'.mono ?_; rintro e w1 ⟨rfl, tg1, m1, hS⟩; have HM : Hid _ := m1; have HS : Hid _ := hS; clear m1 hS)
      | (go_at_call 57; refine (SInv.dir HS.out hk).mono ?_; rintro e w2 ⟨g, rfl, hrow, hb⟩; have HR : Hid _ := hrow; clear hrow))
    go_ret2
    have hS := HS.out
    have hge : w1.heap.size ≤ g := by
      rcases HR.out.2 with ⟨h, _⟩ | ⟨g', _, _, hv, hb', _⟩
      · cases h
      · cases hv; exact hb'
    refine ⟨0, _, rfl, fun h => absurd rfl h, tg1, HM.out.trans (Moves.of_below hb), .inr ⟨rfl, rfl, HS.out.moves (P := fun _ => False) (Moves.of_below hb) (fun x => x) (fun x => x)⟩, fun _ => ⟨g, rfl, Nat.le_trans HM.out.size hge, hS.fresh g hge, ?_⟩⟩
    exact row_base0 HR.out
end

end Go.Proofs.YtajopoddmfdejaaGreat
