/-
  What is proved here: names.Valid says of every text whether it is a name ('validB').
-/
import Derived.Test.YtogeefmegegnnaaGreatPut
namespace Go.Proofs.YtogeefmegegnnaaGreat
open Go.RowKit
set_option linter.unusedVariables false

set_option maxRecDepth 100000 in
set_option maxHeartbeats 400000 in
theorem valid_short (s : ByteArray) (w : World) (hm : s.size ≤ maxLen) (h : s.size < 1 ∨ 12 < s.size) :
    Calls Tryz.prog 100 #[.string s] w fun e w' => e = .returned (.bool false) ∧ w' = w := by
  unfold maxLen at hm
  rcases h with h | h
  · go_enter Tryz.func100, Tryz.ntmps100
    go_wp2
    go_ret
    exact ⟨rfl, rfl⟩
  · have h' : ¬ s.size < 1 := by omega
    go_enter Tryz.func100, Tryz.ntmps100
    go_wp2
    go_ret
    exact ⟨rfl, rfl⟩

set_option maxRecDepth 100000 in
set_option maxHeartbeats 400000 in
theorem valid_dots (s : ByteArray) (w : World) (h1 : 1 ≤ s.size) (h2 : s.size ≤ 12) (h : (s.toList == [46]) = true ∨ (s.toList == [46]) = false ∧ (s.toList == [46, 46]) = true) :
    Calls Tryz.prog 100 #[.string s] w fun e w' => e = .returned (.bool false) ∧ w' = w := by
  rcases h with h | ⟨h3, h⟩
  · go_enter Tryz.func100, Tryz.ntmps100
    go_wp2
    go_ret
    exact ⟨rfl, rfl⟩
  · go_enter Tryz.func100, Tryz.ntmps100
    go_wp2
    go_ret
    exact ⟨rfl, rfl⟩

set_option maxRecDepth 100000 in
set_option maxHeartbeats 400000 in
theorem valid_long (s : ByteArray) (w : World) (h1 : 1 ≤ s.size) (h2 : s.size ≤ 12) (h3 : (s.toList == [46]) = false) (h4 : (s.toList == [46, 46]) = false) (a b : Int) (ha : Lib.indexByte s.data.toList 0 = a) (hb : Lib.indexByte s.data.toList 47 = b) :
    Calls Tryz.prog 100 #[.string s] w fun e w' => e = .returned (.bool (decide (a < 0) && decide (b < 0))) ∧ w' = w := by
  have hA : ∀ W, Calls Tryz.prog 171 #[.string s, .int .u8 0] W fun e w' => e = .returned (.int .i64 a) ∧ w' = W := by
    intro W
    have h := Tryz.strings_IndexByte s 0 W
    rw [← ha]
    exact h
  have hB : ∀ W, Calls Tryz.prog 171 #[.string s, .int .u8 47] W fun e w' => e = .returned (.int .i64 b) ∧ w' = W := by
    intro W
    have h := Tryz.strings_IndexByte s 47 W
    rw [← hb]
    exact h
  clear ha hb
  by_cases ha0 : a < 0
  · by_cases hb0 : b < 0
    · go_enter Tryz.func100, Tryz.ntmps100
      go_wp2_with fail
      refine (hA _).mono ?_
      rintro e w' ⟨rfl, rfl⟩
      go_wp2_with fail
      refine (hB _).mono ?_
      rintro e w' ⟨rfl, rfl⟩
      go_wp2
      go_ret
      exact ⟨by simp [ha0, hb0], rfl⟩
    · have hb1 : decide (b < 0) = false := by simpa using hb0
      go_enter Tryz.func100, Tryz.ntmps100
      go_wp2_with fail
      refine (hA _).mono ?_
      rintro e w' ⟨rfl, rfl⟩
      go_wp2_with fail
      refine (hB _).mono ?_
      rintro e w' ⟨rfl, rfl⟩
      go_wp2
      go_ret
      exact ⟨by simp [ha0, hb0], rfl⟩
  · have ha1 : decide (a < 0) = false := by simpa using ha0
    go_enter Tryz.func100, Tryz.ntmps100
    go_wp2_with fail
    refine (hA _).mono ?_
    rintro e w' ⟨rfl, rfl⟩
    go_wp2
    go_ret
    exact ⟨by simp [ha1], rfl⟩

/-- Is a text a name? -/
def validB (s : ByteArray) : Bool :=
  decide (1 ≤ s.size) && decide (s.size ≤ 12) && !(s.toList == [46]) && !(s.toList == [46, 46]) && decide (Lib.indexByte s.data.toList 0 < 0) && decide (Lib.indexByte s.data.toList 47 < 0)

theorem valid_any (s : ByteArray) (w : World) (hm : s.size ≤ maxLen) : Calls Tryz.prog 100 #[.string s] w fun e w' => e = .returned (.bool (validB s)) ∧ w' = w := by
  by_cases h : s.size < 1 ∨ 12 < s.size
  · have hv : validB s = false := by
      unfold validB
      rcases h with h | h
      · have : ¬ 1 ≤ s.size := by omega
        simp [this]
      · have : ¬ s.size ≤ 12 := by omega
        simp [this]
    rw [hv]
    exact valid_short s w hm h
  · have h1 : 1 ≤ s.size := by omega
    have h2 : s.size ≤ 12 := by omega
    cases h3 : s.toList == [46] with
    | true =>
      rw [show validB s = false by unfold validB; simp [h3]]
      exact valid_dots s w h1 h2 (.inl h3)
    | false =>
      cases h4 : s.toList == [46, 46] with
      | true =>
        rw [show validB s = false by unfold validB; simp [h4]]
        exact valid_dots s w h1 h2 (.inr ⟨h3, h4⟩)
      | false =>
        rw [show validB s = (decide (Lib.indexByte s.data.toList 0 < 0) && decide (Lib.indexByte s.data.toList 47 < 0)) by unfold validB; simp [h1, h2, h3, h4]]
        exact valid_long s w h1 h2 h3 h4 _ _ rfl rfl
end Go.Proofs.YtogeefmegegnnaaGreat
