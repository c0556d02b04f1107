/-
  What is proved here: plain facts on lists of bytes and of entries: the order of names, cells of entries one behind the other, and what a sort leaves.
-/
import Derived.Test.YtogeefmegegnnaaGreatShelf
import Derived.Shelf.SlSortCmp.WholeK
import Derived.Sort.OwnSorted
namespace Go.Proofs.YtogeefmegegnnaaGreat
open Go.RowKit Go.Sort Go.Shelf
set_option linter.unusedVariables false

/-! ### The order of names -/
theorem u8_tri (a b : UInt8) : a < b ∨ a = b ∨ b < a := by
  rcases Nat.lt_trichotomy a.toNat b.toNat with h | h | h
  · exact Or.inl (UInt8.lt_iff_toNat_lt.2 h)
  · exact Or.inr (Or.inl (UInt8.toNat_inj.1 h))
  · exact Or.inr (Or.inr (UInt8.lt_iff_toNat_lt.2 h))
theorem u8_irrefl (a : UInt8) : ¬ a < a := fun h => Nat.lt_irrefl _ (UInt8.lt_iff_toNat_lt.1 h)
theorem u8_trans {a b c : UInt8} (h : a < b) (k : b < c) : a < c := UInt8.lt_iff_toNat_lt.2 (Nat.lt_trans (UInt8.lt_iff_toNat_lt.1 h) (UInt8.lt_iff_toNat_lt.1 k))
theorem u8_asymm {a b : UInt8} (h : a < b) : ¬ b < a := fun k => u8_irrefl _ (u8_trans h k)

theorem cmp_self : ∀ a : List UInt8, Lib.compareBytes a a = 0
  | [] => rfl
  | x :: r => by simp [Lib.compareBytes, cmp_self r]

theorem cmp_eq_zero : ∀ a b : List UInt8, Lib.compareBytes a b = 0 → a = b
  | [], [], _ => rfl
  | [], _ :: _, h => by simp [Lib.compareBytes] at h
  | _ :: _, [], h => by simp [Lib.compareBytes] at h
  | x :: r, y :: s, h => by
    rcases u8_tri x y with k | k | k
    · simp [Lib.compareBytes, k] at h
    · subst k; simp [Lib.compareBytes] at h; rw [cmp_eq_zero r s h]
    · simp [Lib.compareBytes, k, u8_asymm k] at h

theorem cmp_swap : ∀ a b : List UInt8, Lib.compareBytes b a = - Lib.compareBytes a b
  | [], [] => rfl
  | [], _ :: _ => rfl
  | _ :: _, [] => rfl
  | x :: r, y :: s => by
    rcases u8_tri x y with k | k | k
    · simp [Lib.compareBytes, k, u8_asymm k]
    · subst k; simp [Lib.compareBytes]; exact cmp_swap r s
    · simp [Lib.compareBytes, k, u8_asymm k]

theorem cmp_trans : ∀ a b c : List UInt8, Lib.compareBytes a b < 0 → Lib.compareBytes b c < 0 → Lib.compareBytes a c < 0
  | [], [], _, h, _ => by simp [Lib.compareBytes] at h
  | [], _ :: _, [], _, k => by simp [Lib.compareBytes] at k
  | [], _ :: _, _ :: _, _, _ => by simp [Lib.compareBytes]
  | _ :: _, [], _, h, _ => by simp [Lib.compareBytes] at h
  | _ :: _, _ :: _, [], _, k => by simp [Lib.compareBytes] at k
  | x :: r, y :: s, z :: t, h, k => by
    rcases u8_tri x y with a | a | a
    · rcases u8_tri y z with b | b | b
      · simp [Lib.compareBytes, u8_trans a b]
      · subst b; simp [Lib.compareBytes, a]
      · simp [Lib.compareBytes, b, u8_asymm b] at k
    · subst a
      rcases u8_tri x z with b | b | b
      · simp [Lib.compareBytes, b]
      · subst b
        simp only [Lib.compareBytes, u8_irrefl, if_false] at h k ⊢
        exact cmp_trans r s t h k
      · simp [Lib.compareBytes, b, u8_asymm b] at k
    · simp [Lib.compareBytes, a, u8_asymm a] at h

theorem cmp_ntrans (a b c : List UInt8) (h : ¬ Lib.compareBytes a b < 0) (k : ¬ Lib.compareBytes b c < 0) : ¬ Lib.compareBytes a c < 0 := by
  intro m
  by_cases h0 : Lib.compareBytes a b = 0
  · rw [← cmp_eq_zero a b h0] at k; exact k m
  · by_cases k0 : Lib.compareBytes b c = 0
    · rw [cmp_eq_zero b c k0] at h; exact h m
    · have h1 : Lib.compareBytes b a < 0 := by rw [cmp_swap]; omega
      have k1 : Lib.compareBytes c b < 0 := by rw [cmp_swap]; omega
      have := cmp_trans c b a k1 h1
      rw [cmp_swap] at this; omega

/-! ### Entries -/
abbrev Ent := ByteArray × Int × Int
/-- An entry's three cells. -/
def encE (e : Ent) : List Value := [.string e.1, .int .i64 e.2.1, .int .i64 e.2.2]
def flat (es : List Ent) : List Value := es.flatMap encE
def cfE (x y : Ent) : Int := Lib.compareBytes x.1.data.toList y.1.data.toList

theorem swoE : SWO (ltOf cfE) where
  irrefl x := by simp [ltOf, cfE, cmp_self]
  trans x y z h1 h2 := decide_eq_true (cmp_trans _ _ _ (of_decide_eq_true h1) (of_decide_eq_true h2))
  ntrans x y z h1 h2 := decide_eq_false (cmp_ntrans _ _ _ (of_decide_eq_false h1) (of_decide_eq_false h2))

theorem encE_len (e : Ent) : (encE e).length = 3 := rfl
theorem encE_one (e : Ent) : ∀ v ∈ encE e, v.oneCell' = true := by
  intro v hv; simp [encE] at hv; rcases hv with rfl | rfl | rfl <;> rfl
theorem flat_len (es : List Ent) : (flat es).length = es.length * 3 := by
  induction es with
  | nil => rfl
  | cons e r ih => simp only [flat, List.flatMap_cons, List.length_append, encE_len, List.length_cons] at *; rw [ih]; omega
theorem flat_one (es : List Ent) : ∀ v ∈ flat es, v.oneCell' = true := by
  intro v hv
  obtain ⟨e, _, h⟩ := List.mem_flatMap.1 hv
  exact encE_one e v h

theorem flat_get : ∀ (es : List Ent) (i j : Nat) (hi : i < es.length), j < 3 → (flat es)[i * 3 + j]? = (encE es[i])[j]?
  | [], i, j, hi, _ => by simp at hi
  | e :: r, 0, j, _, hj => by
    simp only [flat, List.flatMap_cons, Nat.zero_mul, Nat.zero_add, List.getElem_cons_zero]
    rw [List.getElem?_append_left (by rw [encE_len]; exact hj)]
  | e :: r, i + 1, j, hi, hj => by
    have ih := flat_get r i j (by simpa using hi) hj
    simp only [flat, List.flatMap_cons, List.getElem_cons_succ] at ih ⊢
    rw [List.getElem?_append_right (by rw [encE_len]; omega), encE_len, ← ih]
    congr 1; omega

theorem flatK_flat (d : Array Ent) : (flatK encE 3 d).toList = flat d.toList := by
  apply List.ext_getElem?
  intro t
  by_cases ht : t < d.size * 3
  · have h3 : t % 3 < 3 := Nat.mod_lt _ (by omega)
    have hi : t / 3 < d.toList.length := by simp; omega
    have e1 := flat_get d.toList (t / 3) (t % 3) hi h3
    rw [show t / 3 * 3 + t % 3 = t by omega] at e1
    rw [e1]
    have hi' : t / 3 < d.size := by simpa using hi
    simp only [flatK, Array.toList_map, Array.toList_range, List.getElem?_map, List.getElem?_range ht, Option.map_some, Array.getElem_toList]
    rw [getElem!_pos d (t / 3) hi', List.getElem?_eq_getElem (by rw [encE_len]; exact h3), getElem!_pos _ _ (by rw [encE_len]; exact h3)]
  · rw [List.getElem?_eq_none (by simp [flatK]; omega), List.getElem?_eq_none (by rw [flat_len]; simp; omega)]

/-! ### From a row that is owned to the sort's words, and back -/
theorem holdsK_of_row {w : World} {g : Nat} {cur : Array Value} {e : TypeId} {es : List Ent} (hb : w.heap[g]? = some (.cells cur e (0, 0))) (ht : cur.toList.take (es.length * 3) = flat es) : HoldsK encE 3 w g 0 es.toArray := by
  intro j hj
  have hj' : j < es.length * 3 := by simpa using hj
  refine ⟨?_, by simp [World.frozen?, hb]⟩
  have h1 : (cur.toList.take (es.length * 3))[j]? = (flat es)[j]? := by rw [ht]
  rw [List.getElem?_take_of_lt hj'] at h1
  simp only [World.cell?, hb, Nat.zero_add]
  simp only [Option.isSome_none, Bool.false_eq_true, if_false]
  rw [← Array.getElem?_toList, h1]
  have h2 := flatK_flat es.toArray
  simp only at h2
  rw [← h2, Array.getElem?_toList, getElem!_pos _ j hj, Array.getElem?_eq_getElem hj]
  rfl

theorem heap_sortedK {w : World} {g n : Nat} {os : Array Obj} {cur : Array Value} {e : TypeId} {fr : Nat × Nat} (d : Array Ent) (hb : w.heap[g]? = some (.cells cur e fr)) :
    (sortWorldK encE 3 w g 0 n d os).heap[g]? = some (.cells (putCells id 0 (flatK encE 3 d) cur) e fr) := by
  have hg : g < w.heap.size := (Array.getElem?_eq_some_iff.1 hb).1
  unfold sortWorldK
  rw [heap_grow_old _ _ (by simpa [putRowK] using hg)]
  simp [putRowK, putRow, mapBlock, Sort.ahead, Array.getElem?_modify, hb, onCells]

theorem grownBy_sortedK {w : World} {g n : Nat} {os : Array Obj} (d : Array Ent) : w.grownBy (sortWorldK encE 3 w g 0 n d os) (some g) := by
  refine ⟨rfl, rfl, rfl, by simp [sortWorldK, putRowK], fun k hk hne => ?_⟩
  unfold sortWorldK
  rw [heap_grow_old _ _ (by simpa [putRowK] using hk)]
  have : g ≠ k := fun e => hne (by rw [e])
  simp [putRowK, putRow, mapBlock, Sort.ahead, Array.getElem?_modify, this]

theorem take_putCellsK (cur : Array Value) (d : Array Ent) (h : d.size * 3 ≤ cur.size) : (putCells id 0 (flatK encE 3 d) cur).toList.take (d.size * 3) = flat d.toList := by
  rw [← flatK_flat]
  apply List.ext_getElem?
  intro j
  by_cases hj : j < d.size * 3
  · rw [List.getElem?_take_of_lt hj, Array.getElem?_toList, Array.getElem?_toList]
    have hs : j < (flatK encE 3 d).size := by simpa using hj
    rw [Array.getElem?_eq_getElem hs, ← getElem!_pos (flatK encE 3 d) j hs]
    simp [putCells, hj, show j < cur.size by omega]
  · rw [List.getElem?_take_eq_none (by omega), List.getElem?_eq_none (by simp; omega)]

/-- BEHIND THE SORT the same slice owns the sorted entries. -/
theorem ownsRow_sortedK {w : World} {base g cap n : Nat} {e : TypeId} {os : Array Obj} {cur : Array Value} {k : Nat} {d : Array Ent} (hl : d.size = k) (hbase : base ≤ g) (hb : w.heap[g]? = some (.cells cur e (0, 0)))
    (h1 : k ≤ cap) (h2 : cap ≤ maxLen) (h3 : cur.size = cap * 3) :
    (sortWorldK encE 3 w g 0 n d os).ownsRow base e 3 (.slice (some ⟨g, 0, none⟩) k cap) k (flat d.toList) := by
  subst hl
  refine ⟨by rw [flat_len]; simp, .inr ⟨g, cap, _, rfl, hbase, heap_sortedK _ hb, h1, h2, by simp [putCells, h3], take_putCellsK cur d (by rw [h3]; exact Nat.mul_le_mul_right 3 h1)⟩⟩

/-! ### The sort, at this program -/
theorem isAgg34 (w : World) : (isAgg 112).run Tryz.prog w = .ok true w := by kernel_rfl
theorem sizeOf34 (w : World) : (Go.sizeOf 112).run Tryz.prog w = .ok 3 w := by kernel_rfl

set_option maxRecDepth 100000 in
set_option maxHeartbeats 400000 in
theorem byName_any (x y : Ent) (W : World) : Calls Tryz.prog 195 #[.agg #[.string x.1, .int .i64 x.2.1, .int .i64 x.2.2], .agg #[.string y.1, .int .i64 y.2.1, .int .i64 y.2.2]] W fun e w' => e = .returned (.int .i64 (cfE x y)) ∧ ∃ q os', w' = grow (W.drewN q) os' := by
  have hcon := fun W' => Tryz.strings_Compare x.1 y.1 W'
  unfold cfE
  generalize Lib.compareBytes x.1.data.toList y.1.data.toList = r at hcon ⊢
  go_enter Tryz.func195, Tryz.ntmps195
  go_wp2_with (go_at_call 177; refine (hcon _).mono ?_; rintro e w' ⟨rfl, rfl⟩)
  go_ret
  exact ⟨rfl, 0, _, by rw [alloc_eq_grow, alloc_eq_grow, grow_grow]; rfl⟩

theorem cmpLays (blk off size : Nat) (w : World) : CmpLays Tryz.prog 195 #[] encE 3 cfE blk off size w := fun _ _ _ _ x y => byName_any x y _

theorem sort_any (blk cap : Nat) (d : Array Ent) (w : World) (hH : HoldsK encE 3 w blk 0 d) (hblk : blk < w.heap.size) (hsz : d.size < 4611686018427387904) :
    Calls Tryz.prog 194 #[.slice (some ⟨blk, 0, none⟩) d.size cap, .func (.func 195) #[] #[]] w fun e w' => e = .returned (.tuple #[]) ∧ ∃ d' n os, PermIn 0 d.size d d' ∧ SortedIn (ltOf cfE) 0 d.size d' ∧ w' = sortWorldK encE 3 w blk 0 n d' os := by
  have eg : ∀ args w, (callFunc 195 args).run Tryz.prog w = .ok (.enter 195 args) w := enters_of Tryz.func195 (by kernel_rfl) rfl
  exact AnyQ.slices_SortFunc Tryz.sortE 3 isAgg34 sizeOf34 encE encE_len encE_one cfE swoE 195 #[] blk 0 cap d w eg (cmpLays blk 0 d.size w) hH hblk hsz

end Go.Proofs.YtogeefmegegnnaaGreat
