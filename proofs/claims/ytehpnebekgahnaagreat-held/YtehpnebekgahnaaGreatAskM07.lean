/-
  What is proved here: head of a path: its first names. paths as values: Parent, Name, Child, Below.
-/
import Derived.Test.YtehpnebekgahnaaGreatAskM06
import Derived.Lib.SliceRun
namespace Go.Proofs.YtehpnebekgahnaaGreat
open Go.RowKit Go.Sort Go.Shelf
set_option linter.unusedVariables false

theorem zeroStr (w : World) : (zeroValue 9).run Tryz.prog w = .ok (.string ⟨#[]⟩) w := by kernel_rfl

set_option maxRecDepth 100000 in
theorem head_neg (s0 s1 s2 s3 s4 : ByteArray) (w : World) : Calls Tryz.prog 92 #[.agg #[.string s0, .string s1, .string s2, .string s3, .string s4], .int .i64 (-1)] w fun e w' => e = .returned (.agg #[.string ⟨#[]⟩, .string ⟨#[]⟩, .string ⟨#[]⟩, .string ⟨#[]⟩, .string ⟨#[]⟩]) ∧ Below w.heap.size w w' := by
  have hcl : ∀ ty, (Builtin.clear_ #[48] ty #[.slice (some ⟨w.heap.size, 0, none⟩) 5 5]).run Tryz.prog ((w.alloc (.cells #[.string s0, .string s1, .string s2, .string s3, .string s4] 67)).alloc (.cells #[.string ⟨#[]⟩, .string ⟨#[]⟩, .string ⟨#[]⟩, .string ⟨#[]⟩, .string ⟨#[]⟩] 67)) = .ok (.tuple #[]) (((((((w.alloc (.cells #[.string s0, .string s1, .string s2, .string s3, .string s4] 67)).alloc (.cells #[.string ⟨#[]⟩, .string ⟨#[]⟩, .string ⟨#[]⟩, .string ⟨#[]⟩, .string ⟨#[]⟩] 67)).setCell ⟨w.heap.size, 0, none⟩ (.string ⟨#[]⟩)).setCell ⟨w.heap.size, 1, none⟩ (.string ⟨#[]⟩)).setCell ⟨w.heap.size, 2, none⟩ (.string ⟨#[]⟩)).setCell ⟨w.heap.size, 3, none⟩ (.string ⟨#[]⟩)).setCell ⟨w.heap.size, 4, none⟩ (.string ⟨#[]⟩)) :=
    fun ty => Lib.run_clear_slice _ 48 9 ty (.string ⟨#[]⟩) Tryz.underlying48 zeroStr rfl rfl w.heap.size 0 5 5 (by omega)
      (fun j hj => by rcases (show j = 0 ∨ j = 1 ∨ j = 2 ∨ j = 3 ∨ j = 4 by omega) with rfl | rfl | rfl | rfl | rfl <;> first | omega | simp [World.cell?_alloc_past])
      (fun j hj => by rcases (show j = 0 ∨ j = 1 ∨ j = 2 ∨ j = 3 ∨ j = 4 by omega) with rfl | rfl | rfl | rfl | rfl <;> first | omega | simp [World.frozen?_alloc_past])
  have hmx : max (-1 : Int) 0 = 0 := rfl
  have hsl : ∀ (b : Nat) (W : World), (Instr.sliceAt 67 (.pointer (some ⟨b, 0, none⟩)) (some (.int .i64 0)) none none).run Tryz.prog W = .ok (.slice (some ⟨b, 0, none⟩) 5 5) W := fun b W => by kernel_rfl
  go_enter Tryz.func92, Tryz.ntmps92
  go_wp2_with (first | simp only [hmx] | simp only [hsl] | simp only [hcl])
  exact bodyPost_ret (v := .agg #[.string ⟨#[]⟩, .string ⟨#[]⟩, .string ⟨#[]⟩, .string ⟨#[]⟩, .string ⟨#[]⟩]) (by simp [results, Tryz.results92, go_sem]) rfl ⟨rfl, by repeat (first | exact Below.refl _ _ | (refine Below.alloc ?_ (by simp) _) | (refine Below.setCell ?_ (by simp) _))⟩

set_option maxRecDepth 100000 in
theorem head_0 (s0 s1 s2 s3 s4 : ByteArray) (w : World) : Calls Tryz.prog 92 #[.agg #[.string s0, .string s1, .string s2, .string s3, .string s4], .int .i64 0] w fun e w' => e = .returned (.agg #[.string ⟨#[]⟩, .string ⟨#[]⟩, .string ⟨#[]⟩, .string ⟨#[]⟩, .string ⟨#[]⟩]) ∧ Below w.heap.size w w' := by
  have hcl : ∀ ty, (Builtin.clear_ #[48] ty #[.slice (some ⟨w.heap.size, 0, none⟩) 5 5]).run Tryz.prog ((w.alloc (.cells #[.string s0, .string s1, .string s2, .string s3, .string s4] 67)).alloc (.cells #[.string ⟨#[]⟩, .string ⟨#[]⟩, .string ⟨#[]⟩, .string ⟨#[]⟩, .string ⟨#[]⟩] 67)) = .ok (.tuple #[]) (((((((w.alloc (.cells #[.string s0, .string s1, .string s2, .string s3, .string s4] 67)).alloc (.cells #[.string ⟨#[]⟩, .string ⟨#[]⟩, .string ⟨#[]⟩, .string ⟨#[]⟩, .string ⟨#[]⟩] 67)).setCell ⟨w.heap.size, 0, none⟩ (.string ⟨#[]⟩)).setCell ⟨w.heap.size, 1, none⟩ (.string ⟨#[]⟩)).setCell ⟨w.heap.size, 2, none⟩ (.string ⟨#[]⟩)).setCell ⟨w.heap.size, 3, none⟩ (.string ⟨#[]⟩)).setCell ⟨w.heap.size, 4, none⟩ (.string ⟨#[]⟩)) :=
    fun ty => Lib.run_clear_slice _ 48 9 ty (.string ⟨#[]⟩) Tryz.underlying48 zeroStr rfl rfl w.heap.size 0 5 5 (by omega)
      (fun j hj => by rcases (show j = 0 ∨ j = 1 ∨ j = 2 ∨ j = 3 ∨ j = 4 by omega) with rfl | rfl | rfl | rfl | rfl <;> first | omega | simp [World.cell?_alloc_past])
      (fun j hj => by rcases (show j = 0 ∨ j = 1 ∨ j = 2 ∨ j = 3 ∨ j = 4 by omega) with rfl | rfl | rfl | rfl | rfl <;> first | omega | simp [World.frozen?_alloc_past])
  have hmx : max (0 : Int) 0 = 0 := rfl
  have hsl : ∀ (b : Nat) (W : World), (Instr.sliceAt 67 (.pointer (some ⟨b, 0, none⟩)) (some (.int .i64 0)) none none).run Tryz.prog W = .ok (.slice (some ⟨b, 0, none⟩) 5 5) W := fun b W => by kernel_rfl
  go_enter Tryz.func92, Tryz.ntmps92
  go_wp2_with (first | simp only [hmx] | simp only [hsl] | simp only [hcl])
  exact bodyPost_ret (v := .agg #[.string ⟨#[]⟩, .string ⟨#[]⟩, .string ⟨#[]⟩, .string ⟨#[]⟩, .string ⟨#[]⟩]) (by simp [results, Tryz.results92, go_sem]) rfl ⟨rfl, by repeat (first | exact Below.refl _ _ | (refine Below.alloc ?_ (by simp) _) | (refine Below.setCell ?_ (by simp) _))⟩

set_option maxRecDepth 100000 in
theorem head_1 (s0 s1 s2 s3 s4 : ByteArray) (w : World) : Calls Tryz.prog 92 #[.agg #[.string s0, .string s1, .string s2, .string s3, .string s4], .int .i64 1] w fun e w' => e = .returned (.agg #[.string s0, .string ⟨#[]⟩, .string ⟨#[]⟩, .string ⟨#[]⟩, .string ⟨#[]⟩]) ∧ Below w.heap.size w w' := by
  have hcl : ∀ ty, (Builtin.clear_ #[48] ty #[.slice (some ⟨w.heap.size, 1, none⟩) 4 4]).run Tryz.prog ((w.alloc (.cells #[.string s0, .string s1, .string s2, .string s3, .string s4] 67)).alloc (.cells #[.string ⟨#[]⟩, .string ⟨#[]⟩, .string ⟨#[]⟩, .string ⟨#[]⟩, .string ⟨#[]⟩] 67)) = .ok (.tuple #[]) ((((((w.alloc (.cells #[.string s0, .string s1, .string s2, .string s3, .string s4] 67)).alloc (.cells #[.string ⟨#[]⟩, .string ⟨#[]⟩, .string ⟨#[]⟩, .string ⟨#[]⟩, .string ⟨#[]⟩] 67)).setCell ⟨w.heap.size, 1, none⟩ (.string ⟨#[]⟩)).setCell ⟨w.heap.size, 2, none⟩ (.string ⟨#[]⟩)).setCell ⟨w.heap.size, 3, none⟩ (.string ⟨#[]⟩)).setCell ⟨w.heap.size, 4, none⟩ (.string ⟨#[]⟩)) :=
    fun ty => Lib.run_clear_slice _ 48 9 ty (.string ⟨#[]⟩) Tryz.underlying48 zeroStr rfl rfl w.heap.size 1 4 4 (by omega)
      (fun j hj => by rcases (show j = 0 ∨ j = 1 ∨ j = 2 ∨ j = 3 ∨ j = 4 by omega) with rfl | rfl | rfl | rfl | rfl <;> first | omega | simp [World.cell?_alloc_past])
      (fun j hj => by rcases (show j = 0 ∨ j = 1 ∨ j = 2 ∨ j = 3 ∨ j = 4 by omega) with rfl | rfl | rfl | rfl | rfl <;> first | omega | simp [World.frozen?_alloc_past])
  have hmx : max (1 : Int) 0 = 1 := rfl
  have hsl : ∀ (b : Nat) (W : World), (Instr.sliceAt 67 (.pointer (some ⟨b, 0, none⟩)) (some (.int .i64 1)) none none).run Tryz.prog W = .ok (.slice (some ⟨b, 1, none⟩) 4 4) W := fun b W => by kernel_rfl
  go_enter Tryz.func92, Tryz.ntmps92
  go_wp2_with (first | simp only [hmx] | simp only [hsl] | simp only [hcl])
  exact bodyPost_ret (v := .agg #[.string s0, .string ⟨#[]⟩, .string ⟨#[]⟩, .string ⟨#[]⟩, .string ⟨#[]⟩]) (by simp [results, Tryz.results92, go_sem]) rfl ⟨rfl, by repeat (first | exact Below.refl _ _ | (refine Below.alloc ?_ (by simp) _) | (refine Below.setCell ?_ (by simp) _))⟩

set_option maxRecDepth 100000 in
theorem head_2 (s0 s1 s2 s3 s4 : ByteArray) (w : World) : Calls Tryz.prog 92 #[.agg #[.string s0, .string s1, .string s2, .string s3, .string s4], .int .i64 2] w fun e w' => e = .returned (.agg #[.string s0, .string s1, .string ⟨#[]⟩, .string ⟨#[]⟩, .string ⟨#[]⟩]) ∧ Below w.heap.size w w' := by
  have hcl : ∀ ty, (Builtin.clear_ #[48] ty #[.slice (some ⟨w.heap.size, 2, none⟩) 3 3]).run Tryz.prog ((w.alloc (.cells #[.string s0, .string s1, .string s2, .string s3, .string s4] 67)).alloc (.cells #[.string ⟨#[]⟩, .string ⟨#[]⟩, .string ⟨#[]⟩, .string ⟨#[]⟩, .string ⟨#[]⟩] 67)) = .ok (.tuple #[]) (((((w.alloc (.cells #[.string s0, .string s1, .string s2, .string s3, .string s4] 67)).alloc (.cells #[.string ⟨#[]⟩, .string ⟨#[]⟩, .string ⟨#[]⟩, .string ⟨#[]⟩, .string ⟨#[]⟩] 67)).setCell ⟨w.heap.size, 2, none⟩ (.string ⟨#[]⟩)).setCell ⟨w.heap.size, 3, none⟩ (.string ⟨#[]⟩)).setCell ⟨w.heap.size, 4, none⟩ (.string ⟨#[]⟩)) :=
    fun ty => Lib.run_clear_slice _ 48 9 ty (.string ⟨#[]⟩) Tryz.underlying48 zeroStr rfl rfl w.heap.size 2 3 3 (by omega)
      (fun j hj => by rcases (show j = 0 ∨ j = 1 ∨ j = 2 ∨ j = 3 ∨ j = 4 by omega) with rfl | rfl | rfl | rfl | rfl <;> first | omega | simp [World.cell?_alloc_past])
      (fun j hj => by rcases (show j = 0 ∨ j = 1 ∨ j = 2 ∨ j = 3 ∨ j = 4 by omega) with rfl | rfl | rfl | rfl | rfl <;> first | omega | simp [World.frozen?_alloc_past])
  have hmx : max (2 : Int) 0 = 2 := rfl
  have hsl : ∀ (b : Nat) (W : World), (Instr.sliceAt 67 (.pointer (some ⟨b, 0, none⟩)) (some (.int .i64 2)) none none).run Tryz.prog W = .ok (.slice (some ⟨b, 2, none⟩) 3 3) W := fun b W => by kernel_rfl
  go_enter Tryz.func92, Tryz.ntmps92
  go_wp2_with (first | simp only [hmx] | simp only [hsl] | simp only [hcl])
  exact bodyPost_ret (v := .agg #[.string s0, .string s1, .string ⟨#[]⟩, .string ⟨#[]⟩, .string ⟨#[]⟩]) (by simp [results, Tryz.results92, go_sem]) rfl ⟨rfl, by repeat (first | exact Below.refl _ _ | (refine Below.alloc ?_ (by simp) _) | (refine Below.setCell ?_ (by simp) _))⟩

set_option maxRecDepth 100000 in
theorem head_3 (s0 s1 s2 s3 s4 : ByteArray) (w : World) : Calls Tryz.prog 92 #[.agg #[.string s0, .string s1, .string s2, .string s3, .string s4], .int .i64 3] w fun e w' => e = .returned (.agg #[.string s0, .string s1, .string s2, .string ⟨#[]⟩, .string ⟨#[]⟩]) ∧ Below w.heap.size w w' := by
  have hcl : ∀ ty, (Builtin.clear_ #[48] ty #[.slice (some ⟨w.heap.size, 3, none⟩) 2 2]).run Tryz.prog ((w.alloc (.cells #[.string s0, .string s1, .string s2, .string s3, .string s4] 67)).alloc (.cells #[.string ⟨#[]⟩, .string ⟨#[]⟩, .string ⟨#[]⟩, .string ⟨#[]⟩, .string ⟨#[]⟩] 67)) = .ok (.tuple #[]) ((((w.alloc (.cells #[.string s0, .string s1, .string s2, .string s3, .string s4] 67)).alloc (.cells #[.string ⟨#[]⟩, .string ⟨#[]⟩, .string ⟨#[]⟩, .string ⟨#[]⟩, .string ⟨#[]⟩] 67)).setCell ⟨w.heap.size, 3, none⟩ (.string ⟨#[]⟩)).setCell ⟨w.heap.size, 4, none⟩ (.string ⟨#[]⟩)) :=
    fun ty => Lib.run_clear_slice _ 48 9 ty (.string ⟨#[]⟩) Tryz.underlying48 zeroStr rfl rfl w.heap.size 3 2 2 (by omega)
      (fun j hj => by rcases (show j = 0 ∨ j = 1 ∨ j = 2 ∨ j = 3 ∨ j = 4 by omega) with rfl | rfl | rfl | rfl | rfl <;> first | omega | simp [World.cell?_alloc_past])
      (fun j hj => by rcases (show j = 0 ∨ j = 1 ∨ j = 2 ∨ j = 3 ∨ j = 4 by omega) with rfl | rfl | rfl | rfl | rfl <;> first | omega | simp [World.frozen?_alloc_past])
  have hmx : max (3 : Int) 0 = 3 := rfl
  have hsl : ∀ (b : Nat) (W : World), (Instr.sliceAt 67 (.pointer (some ⟨b, 0, none⟩)) (some (.int .i64 3)) none none).run Tryz.prog W = .ok (.slice (some ⟨b, 3, none⟩) 2 2) W := fun b W => by kernel_rfl
  go_enter Tryz.func92, Tryz.ntmps92
  go_wp2_with (first | simp only [hmx] | simp only [hsl] | simp only [hcl])
  exact bodyPost_ret (v := .agg #[.string s0, .string s1, .string s2, .string ⟨#[]⟩, .string ⟨#[]⟩]) (by simp [results, Tryz.results92, go_sem]) rfl ⟨rfl, by repeat (first | exact Below.refl _ _ | (refine Below.alloc ?_ (by simp) _) | (refine Below.setCell ?_ (by simp) _))⟩

set_option maxRecDepth 100000 in
theorem head_4 (s0 s1 s2 s3 s4 : ByteArray) (w : World) : Calls Tryz.prog 92 #[.agg #[.string s0, .string s1, .string s2, .string s3, .string s4], .int .i64 4] w fun e w' => e = .returned (.agg #[.string s0, .string s1, .string s2, .string s3, .string ⟨#[]⟩]) ∧ Below w.heap.size w w' := by
  have hcl : ∀ ty, (Builtin.clear_ #[48] ty #[.slice (some ⟨w.heap.size, 4, none⟩) 1 1]).run Tryz.prog ((w.alloc (.cells #[.string s0, .string s1, .string s2, .string s3, .string s4] 67)).alloc (.cells #[.string ⟨#[]⟩, .string ⟨#[]⟩, .string ⟨#[]⟩, .string ⟨#[]⟩, .string ⟨#[]⟩] 67)) = .ok (.tuple #[]) (((w.alloc (.cells #[.string s0, .string s1, .string s2, .string s3, .string s4] 67)).alloc (.cells #[.string ⟨#[]⟩, .string ⟨#[]⟩, .string ⟨#[]⟩, .string ⟨#[]⟩, .string ⟨#[]⟩] 67)).setCell ⟨w.heap.size, 4, none⟩ (.string ⟨#[]⟩)) :=
    fun ty => Lib.run_clear_slice _ 48 9 ty (.string ⟨#[]⟩) Tryz.underlying48 zeroStr rfl rfl w.heap.size 4 1 1 (by omega)
      (fun j hj => by rcases (show j = 0 ∨ j = 1 ∨ j = 2 ∨ j = 3 ∨ j = 4 by omega) with rfl | rfl | rfl | rfl | rfl <;> first | omega | simp [World.cell?_alloc_past])
      (fun j hj => by rcases (show j = 0 ∨ j = 1 ∨ j = 2 ∨ j = 3 ∨ j = 4 by omega) with rfl | rfl | rfl | rfl | rfl <;> first | omega | simp [World.frozen?_alloc_past])
  have hmx : max (4 : Int) 0 = 4 := rfl
  have hsl : ∀ (b : Nat) (W : World), (Instr.sliceAt 67 (.pointer (some ⟨b, 0, none⟩)) (some (.int .i64 4)) none none).run Tryz.prog W = .ok (.slice (some ⟨b, 4, none⟩) 1 1) W := fun b W => by kernel_rfl
  go_enter Tryz.func92, Tryz.ntmps92
  go_wp2_with (first | simp only [hmx] | simp only [hsl] | simp only [hcl])
  exact bodyPost_ret (v := .agg #[.string s0, .string s1, .string s2, .string s3, .string ⟨#[]⟩]) (by simp [results, Tryz.results92, go_sem]) rfl ⟨rfl, by repeat (first | exact Below.refl _ _ | (refine Below.alloc ?_ (by simp) _) | (refine Below.setCell ?_ (by simp) _))⟩

set_option maxRecDepth 100000 in
theorem head_5 (s0 s1 s2 s3 s4 : ByteArray) (w : World) : Calls Tryz.prog 92 #[.agg #[.string s0, .string s1, .string s2, .string s3, .string s4], .int .i64 5] w fun e w' => e = .returned (.agg #[.string s0, .string s1, .string s2, .string s3, .string s4]) ∧ Below w.heap.size w w' := by
  have hcl : ∀ ty W, (Builtin.clear_ #[48] ty #[.slice (some ⟨w.heap.size, 0, none⟩) 0 0]).run Tryz.prog W = .ok (.tuple #[]) W := fun ty W => by simp [Builtin.clear_, run_underlying Tryz.underlying48]
  have hmx : max (5 : Int) 0 = 5 := rfl
  have hsl : ∀ (b : Nat) (W : World), (Instr.sliceAt 67 (.pointer (some ⟨b, 0, none⟩)) (some (.int .i64 5)) none none).run Tryz.prog W = .ok (.slice (some ⟨b, 0, none⟩) 0 0) W := fun b W => by kernel_rfl
  go_enter Tryz.func92, Tryz.ntmps92
  go_wp2_with (first | simp only [hmx] | simp only [hsl] | simp only [hcl])
  exact bodyPost_ret (v := .agg #[.string s0, .string s1, .string s2, .string s3, .string s4]) (by simp [results, Tryz.results92, go_sem]) rfl ⟨rfl, by repeat (first | exact Below.refl _ _ | (refine Below.alloc ?_ (by simp) _) | (refine Below.setCell ?_ (by simp) _))⟩

theorem head_any (l : List ByteArray) (h5 : l.length ≤ 5) (n : Nat) (hn : n ≤ 5) (w : World) : Calls Tryz.prog 92 #[pathV l, .int .i64 (n : Int)] w fun e w' => e = .returned (pathV (l.take n)) ∧ Below w.heap.size w w' := by
  have key : ∀ i, (l.take n).getD i ⟨#[]⟩ = if i < n then l.getD i ⟨#[]⟩ else ⟨#[]⟩ := by
    intro i
    rw [List.getD_eq_getElem?_getD, List.getD_eq_getElem?_getD, List.getElem?_take]
    split <;> rfl
  unfold pathV pathA
  simp only [key]
  rcases (show n = 0 ∨ n = 1 ∨ n = 2 ∨ n = 3 ∨ n = 4 ∨ n = 5 by omega) with rfl | rfl | rfl | rfl | rfl | rfl
  · exact head_0 _ _ _ _ _ w
  · exact head_1 _ _ _ _ _ w
  · exact head_2 _ _ _ _ _ w
  · exact head_3 _ _ _ _ _ w
  · exact head_4 _ _ _ _ _ w
  · exact head_5 _ _ _ _ _ w

theorem head_less (l : List ByteArray) (w : World) : Calls Tryz.prog 92 #[pathV l, .int .i64 (-1)] w fun e w' => e = .returned (pathV []) ∧ Below w.heap.size w w' := head_neg _ _ _ _ _ w

end Go.Proofs.YtehpnebekgahnaaGreat

namespace Go.Proofs.YtehpnebekgahnaaGreat
open Go.RowKit Go.Sort Go.Shelf
set_option linter.unusedVariables false

theorem bcell {W w1 : World} (hb : Below W.heap.size W w1) : (∀ b o, b < W.heap.size → w1.cell? ⟨b, o, none⟩ = W.cell? ⟨b, o, none⟩) ∧ (∀ b o, b < W.heap.size → w1.frozen? ⟨b, o, none⟩ = W.frozen? ⟨b, o, none⟩) :=
  ⟨fun b o h => hb.cell (p := ⟨b, o, none⟩) h, fun b o h => hb.frozen (p := ⟨b, o, none⟩) h⟩

theorem below_drew {n : Nat} {w W : World} (h : Below n w W) : Below n w W.drew := ⟨h.os, h.tape, h.output, h.size, h.block⟩
theorem below_via {w W w1 : World} (h0 : Below w.heap.size w W) (h : Below W.heap.size W w1) : Below w.heap.size w w1 := h0.trans (h.mono h0.size)
theorem two_size {w w1 : World} {o1 o2 : Obj} (h : Below ((w.alloc o1).alloc o2).drew.heap.size ((w.alloc o1).alloc o2).drew w1) : w.heap.size < w1.heap.size ∧ w.heap.size + 1 < w1.heap.size := by
  have h2 : ((w.alloc o1).alloc o2).heap.size ≤ w1.heap.size := h.size
  rw [World.size_alloc, World.size_alloc] at h2
  omega

set_option maxRecDepth 100000 in
set_option maxHeartbeats 1000000 in
theorem parent_walk (s0 s1 s2 s3 s4 r0 r1 r2 r3 r4 : ByteArray) (n m : Int) (w : World) (hm : IntKind.i64.wrap (n - 1) = m)
    (hd : ∀ W, Calls Tryz.prog 68 #[.agg #[.string s0, .string s1, .string s2, .string s3, .string s4]] W fun e w' => e = .returned (.int .i64 n) ∧ Below W.heap.size W w')
    (hh : ∀ W, Calls Tryz.prog 92 #[.agg #[.string s0, .string s1, .string s2, .string s3, .string s4], .int .i64 m] W fun e w' => e = .returned (.agg #[.string r0, .string r1, .string r2, .string r3, .string r4]) ∧ Below W.heap.size W w') :
    Calls Tryz.prog 56 #[.agg #[.string s0, .string s1, .string s2, .string s3, .string s4]] w fun e w' => e = .returned (.agg #[.string r0, .string r1, .string r2, .string r3, .string r4]) ∧ Below w.heap.size w w' := by
  go_enter Tryz.func56, Tryz.ntmps56
  go_wp2
  go_region_with (first
    | (go_at_call 68; refine (hd _).mono ?_; rintro e w1 ⟨rfl, hb1⟩; obtain ⟨hc1, hf1⟩ := bcell hb1; obtain ⟨hz0, hz1⟩ := two_size hb1)
    | (go_at_call 92; refine (hh _).mono ?_; rintro e w2 ⟨rfl, hb2⟩; obtain ⟨hc2, hf2⟩ := bcell hb2))
  all_goals
    go_wp2
    exact bodyPost_ret (v := .agg #[.string r0, .string r1, .string r2, .string r3, .string r4]) (by simp [results, Tryz.results56, go_sem, hc1, hc2, hz1]) rfl ⟨rfl, by
      have h1 : Below w.heap.size w w1 := below_via (below_drew (((Below.refl _ _).alloc (Nat.le_refl _) _).alloc (by simp) _)) hb1
      have h2 : Below w.heap.size w w2 := h1.trans (hb2.mono (by omega))
      repeat (first | exact h2 | (refine Below.setCell ?_ (by simp) _))⟩

end Go.Proofs.YtehpnebekgahnaaGreat
