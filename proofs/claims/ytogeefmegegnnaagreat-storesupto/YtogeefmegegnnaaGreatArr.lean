/-
  What is proved here: plain facts for 'arrange': a sorted list without two neighbours of one name is rising; what 'arrange' answers, as a statement.
-/
import Derived.Test.YtogeefmegegnnaaGreatName
import Derived.Test.YtogeefmegegnnaaGreatPlain
import Derived.Deep.QuietTactic
import Derived.BigQuiet
namespace Go.Proofs.YtogeefmegegnnaaGreat
open Go.RowKit Go.Sort Go.Shelf
set_option linter.unusedVariables false

theorem info34 : (Tryz.prog.info? 112).map (fun i => (i.zero, i.size, i.bytes)) = some (some (.agg #[.string ByteArray.empty, .int .i64 0, .int .i64 0]), 3, 32) := by kernel_rfl

theorem cloneE_any (b off n c : Nat) (es : List Ent) (w : World) (hl : es.length = n) (hbig : n * 32 ≤ 140737488355328) (hc : ∀ j u, (flat es)[j]? = some u → w.cell? ⟨b, off + j, none⟩ = some u) :
    Calls Tryz.prog 193 #[.slice (some ⟨b, off, none⟩) n c] w fun e w' => ∃ v', e = .returned v' ∧ w'.ownsRow w.heap.size 112 3 v' n (flat es) ∧ v' ≠ .slice none 0 0 ∧ Below w.heap.size w w' := by
  obtain ⟨i0, hi, hz0, hz1, hz2⟩ := info_parts info34
  exact AnyE.slices_Clone Tryz.cloneE i0 _ 3 32 hi hz0 hz1 hz2 rfl (by decide) sizeOf34 b off n c (flat es) w (by rw [flat_len, hl]) (by unfold maxLen; omega) hbig hc (flat_one es)

theorem row_cells {w : World} {b off : Nat} {es : List Ent} (hc : ∀ j u, (flat es)[j]? = some u → w.cell? ⟨b, off + j, none⟩ = some u) {i : Nat} (hi : i < es.length) :
    w.cell? ⟨b, off + i * 3, none⟩ = some (.string es[i].1) ∧ w.cell? ⟨b, off + i * 3 + 1, none⟩ = some (.int .i64 es[i].2.1) ∧ w.cell? ⟨b, off + i * 3 + 2, none⟩ = some (.int .i64 es[i].2.2) := by
  refine ⟨?_, ?_, ?_⟩
  · exact hc _ _ (by rw [show i * 3 = i * 3 + 0 from rfl, flat_get es i 0 hi (by omega)]; rfl)
  · rw [Nat.add_assoc]; exact hc _ _ (by rw [flat_get es i 1 hi (by omega)]; rfl)
  · rw [Nat.add_assoc]; exact hc _ _ (by rw [flat_get es i 2 hi (by omega)]; rfl)


theorem setCell_self {w : World} {a : Addr} {v : Value} (h : w.cell? a = some v) : w.setCell a v = w := by
  have hh : (w.setCell a v).heap = w.heap := by
    apply Array.ext_getElem?
    intro k
    simp only [World.setCell, Array.getElem?_modify]
    by_cases hk : a.block = k
    · subst hk
      simp only [if_true]
      unfold World.cell? at h
      cases hb : w.heap[a.block]? with
      | none => rfl
      | some o =>
        rw [hb] at h
        cases o with
        | cells c e fr =>
          simp only [Option.map_some]
          by_cases hs : a.spot.isSome = true
          · simp [hs]
          · simp only [hs, if_false, Bool.false_eq_true] at h ⊢
            have hlt := (Array.getElem?_eq_some_iff.1 h)
            obtain ⟨h1, h2⟩ := hlt
            congr 2
            apply Array.ext_getElem?
            intro j
            rw [Array.getElem?_setIfInBounds]
            by_cases hj : a.off = j
            · subst hj; simp [h1, h2]
            · simp [hj]
        | _ => simp at h
    · simp [hk]
  cases w
  simp only [World.setCell] at hh ⊢
  rw [hh]

/-- The way in which a list of entries is in order: by rising names. -/
def Rising (es : List Ent) : Prop := es.Pairwise fun x y => cfE x y < 0

/-- What 'arrange' answers. -/
def Arranged (w w' : World) (es : List Ent) (n : Nat) (e : Ending) : Prop :=
  Below w.heap.size w w' ∧
  (((∃ x ∈ es, validB x.1 = false) ∧ e = .returned (.tuple #[.slice none 0 0, .int .i64 1])) ∨
   ((∀ x ∈ es, validB x.1 = true) ∧ ¬ (es.map (·.1)).Nodup ∧ e = .returned (.tuple #[.slice none 0 0, .int .i64 6])) ∨
   ((∀ x ∈ es, validB x.1 = true) ∧ (es.map (·.1)).Nodup ∧ 16 < es.length ∧ e = .returned (.tuple #[.slice none 0 0, .int .i64 11])) ∨
   ((∀ x ∈ es, validB x.1 = true) ∧ (es.map (·.1)).Nodup ∧ es.length ≤ 16 ∧ ∃ es' g cap', e = .returned (.tuple #[.slice (some ⟨g, 0, none⟩) n cap', .int .i64 0]) ∧ es'.Perm es ∧ Rising es' ∧ w'.ownsRow w.heap.size 112 3 (.slice (some ⟨g, 0, none⟩) n cap') n (flat es')))

theorem perm_of (es : List Ent) (d' : Array Ent) (h : PermIn 0 es.toArray.size es.toArray d') : d'.toList.Perm es := by
  obtain ⟨h1, _, h3⟩ := h
  have e1 : (d'.extract 0 es.toArray.size) = d' := by rw [← h1]; simp
  have e2 : (es.toArray.extract 0 es.toArray.size) = es.toArray := by simp
  rw [e1, e2] at h3
  simpa using h3

/-- Sorted, and no two neighbours of one name: rising. -/
theorem rising_of (d : Array Ent) (hs : SortedIn (ltOf cfE) 0 d.size d) (hd : ∀ j (hj : j < d.toList.length), 1 ≤ j → d.toList[j].1 ≠ (d.toList[j - 1]'(by omega)).1) : Rising d.toList := by
  unfold Rising
  rw [List.pairwise_iff_getElem]
  intro i j hi hj hij
  simp only [Array.length_toList] at hi hj
  have key : ∀ k, (hk : k < d.size) → (h1 : 1 ≤ k) → cfE d[k - 1] d[k] < 0 := by
    intro k hk h1
    have h := hs (k - 1) k (Nat.zero_le _) (by omega) hk
    rw [getElem!_pos d k hk, getElem!_pos d (k - 1) (by omega)] at h
    have h2 := of_decide_eq_false h
    have hne := hd k (by simpa using hk) h1
    have h3 : cfE d[k] d[k - 1] ≠ 0 := by
      intro h0
      have := cmp_eq_zero _ _ h0
      apply hne
      simp only [Array.getElem_toList]
      have e : ∀ a b : ByteArray, a.data.toList = b.data.toList → a = b := by
        intro a b hab
        cases a; cases b
        congr 1
        exact Array.toList_inj.1 hab
      exact e _ _ this
    have h4 : cfE d[k - 1] d[k] = - cfE d[k] d[k - 1] := cmp_swap _ _
    omega
  have chain : ∀ m, (hm : i + 1 + m < d.size) → cfE d[i] d[i + 1 + m] < 0 := by
    intro m
    induction m with
    | zero => intro hm; exact key (i + 1) hm (by omega)
    | succ m ih =>
      intro hm
      have a := ih (by omega)
      have b := key (i + 1 + (m + 1)) hm (by omega)
      exact cmp_trans _ _ _ a b
  have := chain (j - i - 1) (by omega)
  simp only [Array.getElem_toList]
  have e : i + 1 + (j - i - 1) = j := by omega
  simp only [e] at this
  exact this

theorem nodup_of_rising {es : List Ent} (h : Rising es) : (es.map (·.1)).Nodup := by
  unfold Rising at h
  rw [List.Nodup, List.pairwise_map]
  refine h.imp ?_
  intro a b hab e
  unfold cfE at hab
  rw [e, cmp_self] at hab
  omega

theorem valid_size {s : ByteArray} (h : validB s = true) : 1 ≤ s.size ∧ s.size ≤ 12 := by
  unfold validB at h
  simp only [Bool.and_eq_true, decide_eq_true_eq] at h
  exact ⟨h.1.1.1.1.1, h.1.1.1.1.2⟩

end Go.Proofs.YtogeefmegegnnaaGreat
