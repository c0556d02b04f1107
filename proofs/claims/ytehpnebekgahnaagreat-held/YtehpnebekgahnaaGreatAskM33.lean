/-
  What is proved here: of paths: Child, Below, Moved.
-/
import Derived.Test.YtehpnebekgahnaaGreatAskM28
namespace Go.Proofs.YtehpnebekgahnaaGreat
open Go.RowKit Go.Sort Go.Shelf
set_option linter.unusedVariables false

set_option maxRecDepth 100000 in
set_option maxHeartbeats 1000000 in
theorem child_0 (s0 s1 s2 s3 s4 x : ByteArray) (w : World)
    (hd : ∀ W, Calls Tryz.prog 68 #[.agg #[.string s0, .string s1, .string s2, .string s3, .string s4]] W fun e w' => e = .returned (.int .i64 0) ∧ Below W.heap.size W w') :
    Calls Tryz.prog 103 #[.agg #[.string s0, .string s1, .string s2, .string s3, .string s4], .string x] w fun e w' => e = .returned (.agg #[.string x, .string s1, .string s2, .string s3, .string s4]) ∧ Below w.heap.size w w' := by
  go_enter Tryz.func103, Tryz.ntmps103
  go_wp2_with (go_at_call 68; refine (hd _).mono ?_; rintro e w1 ⟨rfl, hb1⟩; have hz := two_size0 hb1; obtain ⟨hz0, hz1⟩ := hz; have k1 := fun o => (bcell hb1).1 w.heap.size o (by simp; omega); have f1 := fun o => (bcell hb1).2 w.heap.size o (by simp; omega); have k2 := fun o => (bcell hb1).1 (w.heap.size + 1) o (by simp); have f2 := fun o => (bcell hb1).2 (w.heap.size + 1) o (by simp))
  exact bodyPost_ret (v := .agg #[.string x, .string s1, .string s2, .string s3, .string s4]) (by simp [results, Tryz.results103, go_sem, k2]) rfl ⟨rfl, by
      have h1 : Below w.heap.size w w1 := below_via (((Below.refl _ _).alloc (Nat.le_refl _) _).alloc (by simp) _) hb1
      repeat (refine Below.setCell ?_ (by simp) _)
      exact h1⟩

set_option maxRecDepth 100000 in
set_option maxHeartbeats 1000000 in
theorem child_1 (s0 s1 s2 s3 s4 x : ByteArray) (w : World)
    (hd : ∀ W, Calls Tryz.prog 68 #[.agg #[.string s0, .string s1, .string s2, .string s3, .string s4]] W fun e w' => e = .returned (.int .i64 1) ∧ Below W.heap.size W w') :
    Calls Tryz.prog 103 #[.agg #[.string s0, .string s1, .string s2, .string s3, .string s4], .string x] w fun e w' => e = .returned (.agg #[.string s0, .string x, .string s2, .string s3, .string s4]) ∧ Below w.heap.size w w' := by
  go_enter Tryz.func103, Tryz.ntmps103
  go_wp2_with (go_at_call 68; refine (hd _).mono ?_; rintro e w1 ⟨rfl, hb1⟩; have hz := two_size0 hb1; obtain ⟨hz0, hz1⟩ := hz; have k1 := fun o => (bcell hb1).1 w.heap.size o (by simp; omega); have f1 := fun o => (bcell hb1).2 w.heap.size o (by simp; omega); have k2 := fun o => (bcell hb1).1 (w.heap.size + 1) o (by simp); have f2 := fun o => (bcell hb1).2 (w.heap.size + 1) o (by simp))
  exact bodyPost_ret (v := .agg #[.string s0, .string x, .string s2, .string s3, .string s4]) (by simp [results, Tryz.results103, go_sem, k2]) rfl ⟨rfl, by
      have h1 : Below w.heap.size w w1 := below_via (((Below.refl _ _).alloc (Nat.le_refl _) _).alloc (by simp) _) hb1
      repeat (refine Below.setCell ?_ (by simp) _)
      exact h1⟩

set_option maxRecDepth 100000 in
set_option maxHeartbeats 1000000 in
theorem child_2 (s0 s1 s2 s3 s4 x : ByteArray) (w : World)
    (hd : ∀ W, Calls Tryz.prog 68 #[.agg #[.string s0, .string s1, .string s2, .string s3, .string s4]] W fun e w' => e = .returned (.int .i64 2) ∧ Below W.heap.size W w') :
    Calls Tryz.prog 103 #[.agg #[.string s0, .string s1, .string s2, .string s3, .string s4], .string x] w fun e w' => e = .returned (.agg #[.string s0, .string s1, .string x, .string s3, .string s4]) ∧ Below w.heap.size w w' := by
  go_enter Tryz.func103, Tryz.ntmps103
  go_wp2_with (go_at_call 68; refine (hd _).mono ?_; rintro e w1 ⟨rfl, hb1⟩; have hz := two_size0 hb1; obtain ⟨hz0, hz1⟩ := hz; have k1 := fun o => (bcell hb1).1 w.heap.size o (by simp; omega); have f1 := fun o => (bcell hb1).2 w.heap.size o (by simp; omega); have k2 := fun o => (bcell hb1).1 (w.heap.size + 1) o (by simp); have f2 := fun o => (bcell hb1).2 (w.heap.size + 1) o (by simp))
  exact bodyPost_ret (v := .agg #[.string s0, .string s1, .string x, .string s3, .string s4]) (by simp [results, Tryz.results103, go_sem, k2]) rfl ⟨rfl, by
      have h1 : Below w.heap.size w w1 := below_via (((Below.refl _ _).alloc (Nat.le_refl _) _).alloc (by simp) _) hb1
      repeat (refine Below.setCell ?_ (by simp) _)
      exact h1⟩

set_option maxRecDepth 100000 in
set_option maxHeartbeats 1000000 in
theorem child_3 (s0 s1 s2 s3 s4 x : ByteArray) (w : World)
    (hd : ∀ W, Calls Tryz.prog 68 #[.agg #[.string s0, .string s1, .string s2, .string s3, .string s4]] W fun e w' => e = .returned (.int .i64 3) ∧ Below W.heap.size W w') :
    Calls Tryz.prog 103 #[.agg #[.string s0, .string s1, .string s2, .string s3, .string s4], .string x] w fun e w' => e = .returned (.agg #[.string s0, .string s1, .string s2, .string x, .string s4]) ∧ Below w.heap.size w w' := by
  go_enter Tryz.func103, Tryz.ntmps103
  go_wp2_with (go_at_call 68; refine (hd _).mono ?_; rintro e w1 ⟨rfl, hb1⟩; have hz := two_size0 hb1; obtain ⟨hz0, hz1⟩ := hz; have k1 := fun o => (bcell hb1).1 w.heap.size o (by simp; omega); have f1 := fun o => (bcell hb1).2 w.heap.size o (by simp; omega); have k2 := fun o => (bcell hb1).1 (w.heap.size + 1) o (by simp); have f2 := fun o => (bcell hb1).2 (w.heap.size + 1) o (by simp))
  exact bodyPost_ret (v := .agg #[.string s0, .string s1, .string s2, .string x, .string s4]) (by simp [results, Tryz.results103, go_sem, k2]) rfl ⟨rfl, by
      have h1 : Below w.heap.size w w1 := below_via (((Below.refl _ _).alloc (Nat.le_refl _) _).alloc (by simp) _) hb1
      repeat (refine Below.setCell ?_ (by simp) _)
      exact h1⟩

set_option maxRecDepth 100000 in
set_option maxHeartbeats 1000000 in
theorem child_4 (s0 s1 s2 s3 s4 x : ByteArray) (w : World)
    (hd : ∀ W, Calls Tryz.prog 68 #[.agg #[.string s0, .string s1, .string s2, .string s3, .string s4]] W fun e w' => e = .returned (.int .i64 4) ∧ Below W.heap.size W w') :
    Calls Tryz.prog 103 #[.agg #[.string s0, .string s1, .string s2, .string s3, .string s4], .string x] w fun e w' => e = .returned (.agg #[.string s0, .string s1, .string s2, .string s3, .string x]) ∧ Below w.heap.size w w' := by
  go_enter Tryz.func103, Tryz.ntmps103
  go_wp2_with (go_at_call 68; refine (hd _).mono ?_; rintro e w1 ⟨rfl, hb1⟩; have hz := two_size0 hb1; obtain ⟨hz0, hz1⟩ := hz; have k1 := fun o => (bcell hb1).1 w.heap.size o (by simp; omega); have f1 := fun o => (bcell hb1).2 w.heap.size o (by simp; omega); have k2 := fun o => (bcell hb1).1 (w.heap.size + 1) o (by simp); have f2 := fun o => (bcell hb1).2 (w.heap.size + 1) o (by simp))
  exact bodyPost_ret (v := .agg #[.string s0, .string s1, .string s2, .string s3, .string x]) (by simp [results, Tryz.results103, go_sem, k2]) rfl ⟨rfl, by
      have h1 : Below w.heap.size w w1 := below_via (((Below.refl _ _).alloc (Nat.le_refl _) _).alloc (by simp) _) hb1
      repeat (refine Below.setCell ?_ (by simp) _)
      exact h1⟩

theorem child_any (l : List ByteArray) (hg : Good l) (h4 : l.length ≤ 4) (x : ByteArray) (w : World) : Calls Tryz.prog 103 #[pathV l, .string x] w fun e w' => e = .returned (pathV (l ++ [x])) ∧ Below w.heap.size w w' := by
  have hd := fun W => depth_any l hg.val hg.len W
  match l, h4, hd with
  | [], _, hd => exact child_0 _ _ _ _ _ x w hd
  | [a], _, hd => exact child_1 _ _ _ _ _ x w hd
  | [a, b], _, hd => exact child_2 _ _ _ _ _ x w hd
  | [a, b, c], _, hd => exact child_3 _ _ _ _ _ x w hd
  | [a, b, c, d], _, hd => exact child_4 _ _ _ _ _ x w hd

end Go.Proofs.YtehpnebekgahnaaGreat
