/-
  What is proved here: Status of a tree that is its base: nothing is told. Status of a tree that is its base, and of a workspace: nothing is told, and nothing has changed. Status of a workspace whose tree is its base's object: nothing is told, and nothing has changed. a tree that reads as a stored one does is that object, whatever of it is the tree's own. what is renamed to a free path can be renamed back, and then all reads as it did. the calls of canopykeep's Back, one by one.
-/
import Derived.Test.YtajopoddmfdejaaGreatBackM46
import Derived.Test.YtajopoddmfdejaaGreatBackM50
import Derived.Deep.RegionHeld3
import Derived.Shelf.SlSortCmp.NoneTotal
import Derived.Test.YtajopoddmfdejaaGreatBackM39
import Derived.Test.YtajopoddmfdejaaGreatBackM48
import Derived.Test.YtajopoddmfdejaaGreatBackM41
import Derived.Test.YtajopoddmfdejaaGreatBackM49
namespace Go.Proofs.YtajopoddmfdejaaGreat
open Go.RowKit Go.Sort Go.Shelf
set_option linter.unusedVariables false

theorem heap_three (w : World) (x y z : Obj) : (((w.alloc x).alloc y).alloc z).heap[w.heap.size]? = some x ∧ (((w.alloc x).alloc y).alloc z).heap[w.heap.size + 1]? = some y ∧ (((w.alloc x).alloc y).alloc z).heap[w.heap.size + 2]? = some z := by
  refine ⟨(heap_alloc3 w x y z).1, (heap_alloc3 w x y z).2, ?_⟩
  have := heap_alloc_new ((w.alloc x).alloc y) z
  simpa using this

/-- The cells that compare reads first. -/
def CmpCells (n sv bt dr ow : Nat) (s0 s1 s2 s3 s4 nm nm2 : ByteArray) (k id k2 id2 : Int) (W : World) : Prop :=
  W.cell? ⟨sv, 0, none⟩ = some (.pointer (some ⟨bt, 0, none⟩)) ∧ W.cell? ⟨sv, 1, none⟩ = some (.pointer (some ⟨dr, 0, none⟩)) ∧ W.cell? ⟨sv, 2, none⟩ = some (.map (some ow)) ∧
  W.cell? ⟨n, 0, none⟩ = some (.string s0) ∧ W.cell? ⟨n, 1, none⟩ = some (.string s1) ∧ W.cell? ⟨n, 2, none⟩ = some (.string s2) ∧ W.cell? ⟨n, 3, none⟩ = some (.string s3) ∧ W.cell? ⟨n, 4, none⟩ = some (.string s4) ∧
  W.cell? ⟨n + 1, 0, none⟩ = some (.string nm) ∧ W.cell? ⟨n + 1, 1, none⟩ = some (.int .i64 k) ∧ W.cell? ⟨n + 1, 2, none⟩ = some (.int .i64 id) ∧
  W.cell? ⟨n + 2, 1, none⟩ = some (.int .i64 k2) ∧ W.cell? ⟨n + 2, 2, none⟩ = some (.int .i64 id2)

theorem CmpCells.keep {n sv bt dr ow : Nat} {s0 s1 s2 s3 s4 nm nm2 : ByteArray} {k id k2 id2 : Int} {W W' : World} (h : CmpCells n sv bt dr ow s0 s1 s2 s3 s4 nm nm2 k id k2 id2 W) (h0 : ∀ o, W'.cell? ⟨sv, o, none⟩ = W.cell? ⟨sv, o, none⟩) (h1 : ∀ o, W'.cell? ⟨n, o, none⟩ = W.cell? ⟨n, o, none⟩) (h2 : ∀ o, W'.cell? ⟨n + 1, o, none⟩ = W.cell? ⟨n + 1, o, none⟩) (h3 : ∀ o, W'.cell? ⟨n + 2, o, none⟩ = W.cell? ⟨n + 2, o, none⟩) : CmpCells n sv bt dr ow s0 s1 s2 s3 s4 nm nm2 k id k2 id2 W' := by
  unfold CmpCells at h ⊢
  simp only [h0, h1, h2, h3]
  exact h

set_option maxRecDepth 100000 in
set_option maxHeartbeats 4000000 in
theorem scompare_same (sv bt dr ow : Nat) (s0 s1 s2 s3 s4 nm nm2 : ByteArray) (k id idr : Int) (R : World → Prop) (w : World) (hsv : sv < w.heap.size) (v0 : w.cell? ⟨sv, 0, none⟩ = some (.pointer (some ⟨bt, 0, none⟩))) (v1 : w.cell? ⟨sv, 1, none⟩ = some (.pointer (some ⟨dr, 0, none⟩))) (v2 : w.cell? ⟨sv, 2, none⟩ = some (.map (some ow)))
    (hobj : ∀ W, Below w.heap.size w W → Calls Tryz.prog 65 #[.agg #[.pointer (some ⟨bt, 0, none⟩), .pointer (some ⟨dr, 0, none⟩), .map (some ow)], .agg #[.string s0, .string s1, .string s2, .string s3, .string s4], .agg #[.string nm, .int .i64 k, .int .i64 id]] W fun e w' => e = .returned (.int .i64 idr) ∧ R w' ∧ ∀ j o, (j = sv ∨ w.heap.size ≤ j) → j < W.heap.size → w'.cell? ⟨j, o, none⟩ = W.cell? ⟨j, o, none⟩) :
    Calls Tryz.prog 97 #[.pointer (some ⟨sv, 0, none⟩), .agg #[.string s0, .string s1, .string s2, .string s3, .string s4], .agg #[.string nm, .int .i64 k, .int .i64 id], .agg #[.string nm2, .int .i64 k, .int .i64 idr]] w fun e w' => e = .returned (.int .i64 0) ∧ R w' := by
  have hb : Below w.heap.size w (((w.alloc (.cells #[.string s0, .string s1, .string s2, .string s3, .string s4] 104)).alloc (.cells #[.string nm, .int .i64 k, .int .i64 id] 76)).alloc (.cells #[.string nm2, .int .i64 k, .int .i64 idr] 76)).drew := below_drew ((((Below.refl w.heap.size w).alloc (Nat.le_refl _) _).alloc (by simp) _).alloc (by simp; omega) _)
  obtain ⟨x0, x1, x2⟩ := heap_three w (.cells #[.string s0, .string s1, .string s2, .string s3, .string s4] 104) (.cells #[.string nm, .int .i64 k, .int .i64 id] 76) (.cells #[.string nm2, .int .i64 k, .int .i64 idr] 76)
  have hSa : CmpCells w.heap.size sv bt dr ow s0 s1 s2 s3 s4 nm nm2 k id k idr (((w.alloc (.cells #[.string s0, .string s1, .string s2, .string s3, .string s4] 104)).alloc (.cells #[.string nm, .int .i64 k, .int .i64 id] 76)).alloc (.cells #[.string nm2, .int .i64 k, .int .i64 idr] 76)).drew :=
    ⟨(hb.cell (p := ⟨sv, 0, none⟩) hsv).trans v0, (hb.cell (p := ⟨sv, 1, none⟩) hsv).trans v1, (hb.cell (p := ⟨sv, 2, none⟩) hsv).trans v2, cell_at x0 0, cell_at x0 1, cell_at x0 2, cell_at x0 3, cell_at x0 4, cell_at x1 0, cell_at x1 1, cell_at x1 2, cell_at x2 1, cell_at x2 2⟩
  have hO := hobj _ hb
  have HO : Hid _ := hO
  have hzz : (((w.alloc (.cells #[.string s0, .string s1, .string s2, .string s3, .string s4] 104)).alloc (.cells #[.string nm, .int .i64 k, .int .i64 id] 76)).alloc (.cells #[.string nm2, .int .i64 k, .int .i64 idr] 76)).drew.heap.size = w.heap.size + 3 := by simp
  have HZ : Hid _ := hzz
  clear hobj hO hb x0 x1 x2 hzz
  go_enter Tryz.func97, Tryz.ntmps97
  go_wp2
  unfold CmpCells at hSa
  go_region_held3 (fun W => W.cell? ⟨sv, 0, none⟩ = some (.pointer (some ⟨bt, 0, none⟩)) ∧ W.cell? ⟨sv, 1, none⟩ = some (.pointer (some ⟨dr, 0, none⟩)) ∧ W.cell? ⟨sv, 2, none⟩ = some (.map (some ow)) ∧ W.cell? ⟨w.heap.size, 0, none⟩ = some (.string s0) ∧ W.cell? ⟨w.heap.size, 1, none⟩ = some (.string s1) ∧ W.cell? ⟨w.heap.size, 2, none⟩ = some (.string s2) ∧ W.cell? ⟨w.heap.size, 3, none⟩ = some (.string s3) ∧ W.cell? ⟨w.heap.size, 4, none⟩ = some (.string s4) ∧ W.cell? ⟨w.heap.size + 1, 0, none⟩ = some (.string nm) ∧ W.cell? ⟨w.heap.size + 1, 1, none⟩ = some (.int .i64 k) ∧ W.cell? ⟨w.heap.size + 1, 2, none⟩ = some (.int .i64 id) ∧ W.cell? ⟨w.heap.size + 2, 1, none⟩ = some (.int .i64 k) ∧ W.cell? ⟨w.heap.size + 2, 2, none⟩ = some (.int .i64 idr))
    (first | exact hSa | exact hSc)
    (first
    | (go_at_call 65; refine Calls.mono HO.out ?_; rintro e w3 ⟨rfl, hR, hc3⟩; have hSc := CmpCells.keep (nm2 := nm2) hSa (fun o => hc3 sv o (.inl rfl) (by rw [HZ.out]; omega)) (fun o => hc3 _ o (.inr (Nat.le_refl _)) (by rw [HZ.out]; omega)) (fun o => hc3 _ o (.inr (by omega)) (by rw [HZ.out]; omega)) (fun o => hc3 _ o (.inr (by omega)) (by rw [HZ.out]; omega)); unfold CmpCells at hSc; have HR : Hid _ := hR; clear hR hc3))
  all_goals
    go_wp2
    go_ret
    exact ⟨rfl, HR.out⟩

end Go.Proofs.YtajopoddmfdejaaGreat

namespace Go.Proofs.YtajopoddmfdejaaGreat
open Go.RowKit Go.Sort Go.Shelf
set_option linter.unusedVariables false

set_option maxRecDepth 100000 in
set_option maxHeartbeats 4000000 in
theorem status_walk (bt : Nat) (root base : Int) (X : (Nat × Nat) → World → Prop) (R : World → Prop) (w : World) (hbt : bt < w.heap.size)
    (c4 : ∀ W, Below w.heap.size w W → W.cell? ⟨bt, 3, none⟩ = some (.int .i64 base) ∧ W.cell? ⟨bt, 4, none⟩ = some (.string ⟨#[]⟩) ∧ W.cell? ⟨bt, 5, none⟩ = some (.int .i64 2) ∧ W.cell? ⟨bt, 6, none⟩ = some (.int .i64 root))
    (hout : Calls Tryz.prog 64 #[.pointer (some ⟨bt, 0, none⟩)] w fun e w' => ∃ b, e = .returned (.agg #[.pointer (some ⟨bt, 0, none⟩), .pointer (some ⟨b.1, 0, none⟩), .map (some b.2)]) ∧ X b w' ∧ Below w.heap.size w w')
    (hcmp : ∀ b W W', X b W → Below W.heap.size W W' → W.heap.size < W'.heap.size → W'.cell? ⟨W.heap.size, 0, none⟩ = some (.pointer (some ⟨bt, 0, none⟩)) → W'.cell? ⟨W.heap.size, 1, none⟩ = some (.pointer (some ⟨b.1, 0, none⟩)) → W'.cell? ⟨W.heap.size, 2, none⟩ = some (.map (some b.2)) →
      Calls Tryz.prog 97 #[.pointer (some ⟨W.heap.size, 0, none⟩), .agg #[.string ⟨#[]⟩, .string ⟨#[]⟩, .string ⟨#[]⟩, .string ⟨#[]⟩, .string ⟨#[]⟩], .agg #[.string ⟨#[]⟩, .int .i64 2, .int .i64 root], .agg #[.string ⟨#[]⟩, .int .i64 2, .int .i64 base]] W' fun e w' => e = .returned (.int .i64 0) ∧ R w' ∧ Below w.heap.size w w' ∧ W'.heap.size ≤ w'.heap.size ∧ ∀ k o, W.heap.size ≤ k → k < W'.heap.size → w'.cell? ⟨k, o, none⟩ = W'.cell? ⟨k, o, none⟩) :
    Calls Tryz.prog 53 #[.pointer (some ⟨bt, 0, none⟩)] w fun e w' => e = .returned (.tuple #[.slice none 0 0, .int .i64 0]) ∧ R w' := by
  have hrt := fun W => root_any W
  have hso := fun fv W => AnyF.slices_SortFunc_none Tryz.sortC none 0 fv W
  have HOUT : Hid _ := hout
  have HCMP : Hid _ := hcmp
  have HC : Hid _ := c4
  clear hout hcmp c4
  unfold pathV pathA at hrt
  simp at hrt
  go_enter Tryz.func53, Tryz.ntmps53
  go_wp2_with fail
  refine Calls.mono HOUT.out ?_
  rintro e w1 ⟨⟨dr, ow⟩, rfl, hX, hb1⟩
  simp only
  have HX : Hid _ := hX
  clear hX HOUT
  have hb2 : Below w1.heap.size w1 ((w1.alloc (.cells #[.pointer (some ⟨bt, 0, none⟩), .pointer (some ⟨dr, 0, none⟩), .map (some ow), .slice none 0 0] 172)).alloc (.cells #[.string ⟨#[]⟩, .int .i64 2, .int .i64 base] 76)).drew := below_drew (((Below.refl _ _).alloc (Nat.le_refl _) _).alloc (by simp) _)
  obtain ⟨d3, d4, d5, d6⟩ := HC.out _ (below_via hb1 hb2)
  obtain ⟨e3, _, _, _⟩ := HC.out _ hb1
  have hbt1 : bt < w1.heap.size := Nat.lt_of_lt_of_le hbt hb1.size
  have hx0 := heap_alloc2_old w1 (.cells #[.pointer (some ⟨bt, 0, none⟩), .pointer (some ⟨dr, 0, none⟩), .map (some ow), .slice none 0 0] 172) (.cells #[.string ⟨#[]⟩, .int .i64 2, .int .i64 base] 76)
  have hx1 := heap_alloc2_new w1 (.cells #[.pointer (some ⟨bt, 0, none⟩), .pointer (some ⟨dr, 0, none⟩), .map (some ow), .slice none 0 0] 172) (.cells #[.string ⟨#[]⟩, .int .i64 2, .int .i64 base] 76)
  have hz : w1.heap.size + 2 = ((w1.alloc (.cells #[.pointer (some ⟨bt, 0, none⟩), .pointer (some ⟨dr, 0, none⟩), .map (some ow), .slice none 0 0] 172)).alloc (.cells #[.string ⟨#[]⟩, .int .i64 2, .int .i64 base] 76)).drew.heap.size := by simp
  have HZ : Hid _ := hz
  have y10 := cell_at hx1 0
  have y11 := cell_at hx1 1
  have y12 := cell_at hx1 2
  have hSa : ((w1.alloc (.cells #[.pointer (some ⟨bt, 0, none⟩), .pointer (some ⟨dr, 0, none⟩), .map (some ow), .slice none 0 0] 172)).alloc (.cells #[.string ⟨#[]⟩, .int .i64 2, .int .i64 base] 76)).drew.cell? ⟨w1.heap.size + 1, 0, none⟩ = some (.string ⟨#[]⟩) ∧ ((w1.alloc (.cells #[.pointer (some ⟨bt, 0, none⟩), .pointer (some ⟨dr, 0, none⟩), .map (some ow), .slice none 0 0] 172)).alloc (.cells #[.string ⟨#[]⟩, .int .i64 2, .int .i64 base] 76)).drew.cell? ⟨w1.heap.size + 1, 1, none⟩ = some (.int .i64 2) ∧ ((w1.alloc (.cells #[.pointer (some ⟨bt, 0, none⟩), .pointer (some ⟨dr, 0, none⟩), .map (some ow), .slice none 0 0] 172)).alloc (.cells #[.string ⟨#[]⟩, .int .i64 2, .int .i64 base] 76)).drew.cell? ⟨w1.heap.size + 1, 2, none⟩ = some (.int .i64 base) ∧ ((w1.alloc (.cells #[.pointer (some ⟨bt, 0, none⟩), .pointer (some ⟨dr, 0, none⟩), .map (some ow), .slice none 0 0] 172)).alloc (.cells #[.string ⟨#[]⟩, .int .i64 2, .int .i64 base] 76)).drew.cell? ⟨bt, 4, none⟩ = some (.string ⟨#[]⟩) ∧ ((w1.alloc (.cells #[.pointer (some ⟨bt, 0, none⟩), .pointer (some ⟨dr, 0, none⟩), .map (some ow), .slice none 0 0] 172)).alloc (.cells #[.string ⟨#[]⟩, .int .i64 2, .int .i64 base] 76)).drew.cell? ⟨bt, 5, none⟩ = some (.int .i64 2) ∧ ((w1.alloc (.cells #[.pointer (some ⟨bt, 0, none⟩), .pointer (some ⟨dr, 0, none⟩), .map (some ow), .slice none 0 0] 172)).alloc (.cells #[.string ⟨#[]⟩, .int .i64 2, .int .i64 base] 76)).drew.cell? ⟨bt, 6, none⟩ = some (.int .i64 root) := ⟨y10, y11, y12, d4, d5, d6⟩
  have HX0 : Hid _ := hx0
  clear hx0 hx1 y10 y11 y12 hz d3
  go_wp2
  go_region_held3 (fun W => W.cell? ⟨w1.heap.size + 1, 0, none⟩ = some (.string ⟨#[]⟩) ∧ W.cell? ⟨w1.heap.size + 1, 1, none⟩ = some (.int .i64 2) ∧ W.cell? ⟨w1.heap.size + 1, 2, none⟩ = some (.int .i64 base) ∧ W.cell? ⟨bt, 4, none⟩ = some (.string ⟨#[]⟩) ∧ W.cell? ⟨bt, 5, none⟩ = some (.int .i64 2) ∧ W.cell? ⟨bt, 6, none⟩ = some (.int .i64 root))
    (first | exact hSa | exact hSb | exact hSc)
    (first
    | (go_at_call 66; refine (hrt _).mono ?_; rintro e w2 ⟨rfl, hb3⟩; have hb23 := below_via hb2 hb3; have hs2 : w1.heap.size + 2 ≤ w2.heap.size := Nat.le_trans (Nat.le_of_eq HZ.out) hb3.size; obtain ⟨_, f4, f5, f6⟩ := HC.out _ (below_via hb1 hb23); have hSb := And.intro (((bcell hb3).1 (w1.heap.size + 1) 0 (Nat.lt_of_lt_of_eq (by omega) HZ.out)).trans hSa.1) (And.intro (((bcell hb3).1 (w1.heap.size + 1) 1 (Nat.lt_of_lt_of_eq (by omega) HZ.out)).trans hSa.2.1) (And.intro (((bcell hb3).1 (w1.heap.size + 1) 2 (Nat.lt_of_lt_of_eq (by omega) HZ.out)).trans hSa.2.2.1) (And.intro f4 (And.intro f5 f6)))); have hsv := (hb3.block w1.heap.size (Nat.lt_of_lt_of_eq (by omega) HZ.out)).trans HX0.out; have g0 := cell_at hsv 0; have g1 := cell_at hsv 1; have g2 := cell_at hsv 2; have g3 := cell_at hsv 3; clear hsv)
    | (go_at_call 97; refine Calls.mono (HCMP.out (dr, ow) _ _ HX.out hb23 (by omega) g0 g1 g2) ?_; rintro e w3 ⟨rfl, hR, hbw, hs3, hc3⟩; obtain ⟨_, f4', f5', f6'⟩ := HC.out _ hbw; have hSc := And.intro ((hc3 (w1.heap.size + 1) 0 (by omega) (by omega)).trans hSb.1) (And.intro ((hc3 (w1.heap.size + 1) 1 (by omega) (by omega)).trans hSb.2.1) (And.intro ((hc3 (w1.heap.size + 1) 2 (by omega) (by omega)).trans hSb.2.2.1) (And.intro f4' (And.intro f5' f6')))); have g33 := (hc3 w1.heap.size 3 (Nat.le_refl _) (by omega)).trans g3; have hz3 : w1.heap.size < w3.heap.size := (by omega); have HR : Hid _ := hR; clear hR hc3))
  all_goals
    simp at g33
    go_wp2_with (go_at_call 98; refine Calls.mono (hso _ _) ?_; rintro e w4 ⟨rfl, rfl⟩)
    go_ret2
    exact ⟨rfl, HR.out⟩

end Go.Proofs.YtajopoddmfdejaaGreat

namespace Go.Proofs.YtajopoddmfdejaaGreat
open Go.RowKit Go.Sort Go.Shelf
set_option linter.unusedVariables false

section
variable {s i p : Nat} {B : WB} {objs : List Ob}

theorem status_same {tg : Tags} {w : World} {g : WG} {lim : Nat} {t : LT} (h : Base8 tg w s i p B objs g lim t) (hok : LTok objs 5 t) (hfew : objs.length + 2 * cntO 5 t < 3000) (hbase : (objR g.fl 5 t objs).1 = g.base) :
    Calls Tryz.prog 53 #[.pointer (some ⟨B.bt, 0, none⟩)] w fun e w' => e = .returned (.tuple #[.slice none 0 0, .int .i64 0]) ∧ Below w.heap.size w w' := by
  obtain ⟨hbt, c0, _, _⟩ := h.tree (Below.refl _ _)
  refine status_walk B.bt g.ft.root g.base (fun b W => ∃ D mf md, OSt w p objs D W ⟨b.1, mf, md⟩ b.2 objs (fun _ => none) objs.length) (fun w' => Below w.heap.size w w') w hbt (fun W hb => ?_) ((outline_any objs hbt c0).mono ?_) ?_
  · have ht := (h.inv.below hb).wp.tree.ht
    exact ⟨cell_at ht 3, cell_at ht 4, cell_at ht 5, cell_at ht 6⟩
  · rintro e w' ⟨⟨dr, mf, md⟩, ow, D, he, hO, hb⟩
    exact ⟨(dr, ow), he, ⟨D, mf, md, hO⟩, hb⟩
  · rintro ⟨dr, ow⟩ W W' ⟨D, mf, md, hO⟩ hb hlt v0 v1 v2
    have hO' := hO.via hb
    refine (scompare_same W.heap.size B.bt dr ow _ _ _ _ _ ⟨#[]⟩ ⟨#[]⟩ 2 g.ft.root g.base (fun w' => Below w.heap.size w w' ∧ W'.heap.size ≤ w'.heap.size ∧ ∀ k o, W.heap.size ≤ k → k < W'.heap.size → w'.cell? ⟨k, o, none⟩ = W'.cell? ⟨k, o, none⟩) W' hlt v0 v1 v2 (fun W2 hb2 => ?_)).mono (fun e w' ⟨h1, h2, h3, h4⟩ => ⟨h1, h2, h2, h3, h4⟩)
    have := object_all h (b := ⟨dr, mf, md⟩) (ow := ow) 5 (Nat.le_refl _) t [] hok (at_nil objs t) ⟨(fun x hx => by cases hx), by simp⟩ (by simp) ⟨#[]⟩ D W2 objs (fun _ => none) objs.length (hO'.via hb2) .nil (fun _ _ => rfl) hfew
    rw [h.flat.kind, ← h.flat.root, hbase] at this
    refine this.mono ?_
    rintro e w' ⟨he, D', f', h1, h2, h3⟩
    have hcell : ∀ k o, W.heap.size ≤ k → k < W2.heap.size → w'.cell? ⟨k, o, none⟩ = W2.cell? ⟨k, o, none⟩ := fun k o hk1 hk2 => h2.cell hk2 (fun hd => by have := (hO.inb k hd).2; omega) o
    refine ⟨he, ⟨h1.below, Nat.le_trans hb2.size h2.keeps.size, fun k o hk1 hk2 => ?_⟩, fun j o hj hj2 => hcell j o (by rcases hj with rfl | hj; exact Nat.le_refl _; omega) hj2⟩
    rw [hcell k o hk1 (Nat.lt_of_lt_of_le hk2 hb2.size)]
    exact hb2.cell (p := ⟨k, o, none⟩) hk2

set_option maxRecDepth 100000 in
set_option maxHeartbeats 400000 in
theorem status_ws (wb bt : Nat) (v : Value) (er : Int) (R : World → Prop) (w : World) (hwb : wb < w.heap.size) (c0 : w.cell? ⟨wb, 0, none⟩ = some (.pointer (some ⟨bt, 0, none⟩)))
    (hc : Calls Tryz.prog 53 #[.pointer (some ⟨bt, 0, none⟩)] w fun e w' => e = .returned (.tuple #[v, .int .i64 er]) ∧ R w') :
    Calls Tryz.prog 27 #[.pointer (some ⟨wb, 0, none⟩)] w fun e w' => e = .returned (.tuple #[v, .int .i64 er]) ∧ R w' := by
  have HC : Hid _ := hc
  clear hc
  go_enter Tryz.func27, Tryz.ntmps27
  go_wp2_with (go_at_call 53; refine Calls.mono HC.out ?_; rintro e w1 ⟨rfl, hR⟩)
  go_ret2
  exact ⟨rfl, hR⟩

end
end Go.Proofs.YtajopoddmfdejaaGreat

namespace Go.Proofs.YtajopoddmfdejaaGreat
open Go.RowKit Go.Sort Go.Shelf
set_option linter.unusedVariables false

/-- The bytes of a file of the tree's own. -/
def fcOf (a : List Ob) (fl : Nat → Option (Int × ByteArray)) : FileC := fun f => match fl f with
  | none => ⟨#[]⟩
  | some (id, d) => if id ≠ 0 then bytesOf a id else d

theorem kid_sem {a : List Ob} {fc : FileC} {t u : LT} {ks ku : Kids} (h : ∀ q, sem a fc t q = sem a fc u q) (hk : kids a t = some ks) (hu : kids a u = some ku) (rk : RisingK ks) (ru : RisingK ku) :
    ks.map (·.1) = ku.map (·.1) ∧ ∀ k (h1 : k < ks.length) (h2 : k < ku.length), ∀ q, sem a fc (ks[k]).2 q = sem a fc (ku[k]).2 q := by
  have hn : ∀ n r, ((pickK ks n).bind fun c => sem a fc c r) = ((pickK ku n).bind fun c => sem a fc c r) := by
    intro n r
    have := h (n :: r)
    rw [sem_cons, sem_cons, hk, hu, Option.bind_some, Option.bind_some] at this
    exact this
  have hnames : ks.map (·.1) = ku.map (·.1) := by
    refine names_eq rk ru (fun n => ?_)
    have := hn n []
    cases h1 : pickK ks n <;> cases h2 : pickK ku n <;> rw [h1, h2] at this <;> simp [sem_nil] at this ⊢
  refine ⟨hnames, fun k h1 h2 q => ?_⟩
  have he : (ks[k]).1 = (ku[k]).1 := by
    have := congrArg (fun l => l[k]?) hnames
    simp only [List.getElem?_map, List.getElem?_eq_getElem h1, List.getElem?_eq_getElem h2, Option.map_some, Option.some.injEq] at this
    exact this
  have := hn (ks[k]).1 q
  rw [pick_getK rk h1, he, pick_getK ru h2, Option.bind_some, Option.bind_some] at this
  exact this

theorem stored_kid (e : Ent) : (∃ i, (kidOf e).2 = .file i) ∨ ∃ i, (kidOf e).2 = .dir i := by
  unfold kidOf ltOf
  by_cases h : e.2.1 = 2
  · exact .inr ⟨e.2.2, by simp [h]⟩
  · exact .inl ⟨e.2.2, by simp [h]⟩

theorem kidOf_id (e : Ent) : (kidOf e).2.id = e.2.2 := by
  unfold kidOf ltOf
  by_cases h : e.2.1 = 2 <;> simp [h, LT.id]
theorem kidOf_kind {e : Ent} (h : e.2.1 = 1 ∨ e.2.1 = 2) : (kidOf e).2.kind = e.2.1 := by
  unfold kidOf ltOf
  rcases h with h | h <;> simp [h, LT.kind]

theorem sem_kind {a : List Ob} {fc : FileC} {t u : LT} (h : sem a fc t [] = sem a fc u []) : t.kind = u.kind := by
  rw [sem_nil, sem_nil] at h
  have h := Option.some.inj h
  cases t <;> cases u <;> simp [nd, LT.kind] at h ⊢

theorem objR_sem {a : List Ob} (hX : Exact a) (hO : Once a) {fl : Nat → Option (Int × ByteArray)} (hfl : FlSz a fl) : ∀ (n : Nat) (t u : LT), LTok a n t → LTok a n u → ((∃ i, u = .file i) ∨ ∃ i, u = .dir i) → (∀ q, sem a (fcOf a fl) t q = sem a (fcOf a fl) u q) → objR fl n t a = (u.id, a) := by
  have hS := hX.sound
  -- files
  have hfile : ∀ (n : Nat) (t : LT) (id : Int), t.kind = 1 → LTok a n t → kindOf a id = 1 → nd a (fcOf a fl) t = .file (bytesOf a id) → objR fl n t a = (id, a) := by
    intro n t id hk hok hid hnd
    cases t with
    | file i =>
      have hi : kindOf a i = 1 := by cases n <;> simpa [LTok] using hok
      have : bytesOf a i = bytesOf a id := by simpa [nd] using hnd
      have e := hO.file_inj hi hid this
      cases n <;> (rw [objR, e])
    | held f =>
      have hob : objR fl n (.held f) a = heldR (fl f) a := by cases n <;> rw [objR]
      rw [hob]
      have hb : fcOf a fl f = bytesOf a id := by simpa [nd] using hnd
      unfold fcOf at hb
      cases hf : fl f with
      | none =>
        rw [hf] at hb
        show fileD a ⟨#[]⟩ = _
        have hb' : (⟨#[]⟩ : ByteArray) = bytesOf a id := hb
        rw [hb']; exact hO.fileD_id hid
      | some x =>
        obtain ⟨i, d⟩ := x
        rw [hf] at hb
        by_cases h0 : i ≠ 0
        · have hb' : bytesOf a i = bytesOf a id := by simpa [h0] using hb
          have e := hO.file_inj ((hfl f i d hf).1 h0) hid hb'
          show (if i ≠ 0 then (i, a) else fileD a d) = _
          rw [if_pos h0, e]
        · have hb' : d = bytesOf a id := by simpa [h0] using hb
          show (if i ≠ 0 then (i, a) else fileD a d) = _
          rw [if_neg h0, hb']; exact hO.fileD_id hid
    | dir i => cases hk
    | own es => cases hk
  have hent : ∀ (id : Int), kindOf a id = 2 → ∀ e ∈ entsOf a id, (e.2.1 = 1 ∨ e.2.1 = 2) := fun id hk e he => ((hS.2 id hk).2.2 e he).2.1
  intro n
  induction n with
  | zero =>
    intro t u hok huk hu hsem
    have hkind := sem_kind (hsem [])
    rcases hu with ⟨id, rfl⟩ | ⟨id, rfl⟩
    · have hid : kindOf a id = 1 := by simpa [LTok] using huk
      refine hfile 0 t id hkind hok hid ?_
      have := hsem []
      rw [sem_nil, sem_nil] at this
      exact Option.some.inj this
    · have hid : kindOf a id = 2 ∧ highOf a id ≤ 0 := by simpa [LTok] using huk
      have hnone : ∀ j, kindOf a j = 2 → highOf a j ≤ 0 → entsOf a j = [] := by
        intro j hj hh
        cases he : entsOf a j with
        | nil => rfl
        | cons e r =>
          have h1 := ((hS.2 j hj).2.2 e (by rw [he]; simp)).2.2.2
          have h2 := hS.1 e.2.2
          omega
      cases t with
      | file i => cases hkind
      | held f => cases hkind
      | dir i =>
        have hi : kindOf a i = 2 ∧ highOf a i ≤ 0 := by simpa [LTok] using hok
        have e := hO.dir_inj hi.1 hid.1 (by rw [hnone i hi.1 hi.2, hnone id hid.1 hid.2])
        rw [objR, e]; rfl
      | own es =>
        rw [objR]
        have := hO.dirD_id hid.1
        rw [hnone id hid.1 hid.2] at this
        exact this
  | succ n ih =>
    intro t u hok huk hu hsem
    have hkind := sem_kind (hsem [])
    rcases hu with ⟨id, rfl⟩ | ⟨id, rfl⟩
    · have hid : kindOf a id = 1 := by simpa [LTok] using huk
      refine hfile _ t id hkind hok hid ?_
      have := hsem []
      rw [sem_nil, sem_nil] at this
      exact Option.some.inj this
    · have hid : kindOf a id = 2 := by rw [LTok] at huk; exact huk.1
      obtain ⟨ru, _, u3⟩ := ok_kids hS huk (ks := (entsOf a id).map kidOf) rfl
      -- what stands in t is, one by one, what stands in the stored directory
      have hkids : ∀ (ks : Kids), kids a t = some ks → ks.length = (entsOf a id).length ∧ ∀ k (h1 : k < ks.length) (h2 : k < (entsOf a id).length), (ks[k]).1 = ((entsOf a id)[k]).1 ∧ (ks[k]).2.kind = ((entsOf a id)[k]).2.1 ∧ objR fl n (ks[k]).2 a = (((entsOf a id)[k]).2.2, a) := by
        intro ks hks
        obtain ⟨rk, _, k3⟩ := ok_kids hS hok hks
        obtain ⟨hnm, hsm⟩ := kid_sem hsem hks (show kids a (.dir id) = some ((entsOf a id).map kidOf) from rfl) rk ru
        have hl : ks.length = (entsOf a id).length := by have := congrArg List.length hnm; simpa using this
        refine ⟨hl, fun k h1 h2 => ?_⟩
        have h2' : k < ((entsOf a id).map kidOf).length := by simpa using h2
        have hs := hsm k h1 h2'
        rw [List.getElem_map] at hs
        obtain ⟨_, m, hm, hokk⟩ := k3 _ (List.getElem_mem h1)
        obtain rfl : m = n := by omega
        have hu3 := u3 _ (List.getElem_mem h2')
        rw [List.getElem_map] at hu3
        obtain ⟨_, m', hm', hoku⟩ := hu3
        obtain rfl : m' = m := by omega
        have hih := ih (ks[k]).2 (kidOf (entsOf a id)[k]).2 hokk hoku (stored_kid _) hs
        rw [kidOf_id] at hih
        refine ⟨?_, ?_, hih⟩
        · have := congrArg (fun l => l[k]?) hnm
          simp only [List.getElem?_map, List.getElem?_eq_getElem h1, List.getElem?_eq_getElem h2, Option.map_some, Option.some.injEq] at this
          exact this
        · rw [sem_kind (hs []), kidOf_kind (hent id hid _ (List.getElem_mem h2))]
      cases t with
      | file i => cases hkind
      | held f => cases hkind
      | dir i =>
        have hi : kindOf a i = 2 := by rw [LTok] at hok; exact hok.1
        obtain ⟨hl, hk⟩ := hkids _ rfl
        have hee : entsOf a i = entsOf a id := by
          apply List.ext_getElem
          · simpa using hl
          · intro k h1 h2
            obtain ⟨q1, q2, q3⟩ := hk k (by simpa using h1) h2
            rw [List.getElem_map] at q1 q2 q3
            have hst : objR fl n (kidOf (entsOf a i)[k]).2 a = ((kidOf (entsOf a i)[k]).2.id, a) := by
              rcases stored_kid (entsOf a i)[k] with ⟨j, hj⟩ | ⟨j, hj⟩ <;> rw [hj] <;> cases n <;> (rw [objR]; rfl)
            rw [hst, kidOf_id] at q3
            rw [kidOf_kind (hent i hi _ (List.getElem_mem h1))] at q2
            exact Prod.ext q1 (Prod.ext q2 (congrArg Prod.fst q3))
        rw [objR, hO.dir_inj hi hid hee]; rfl
      | own es =>
        obtain ⟨hl, hk⟩ := hkids es rfl
        have hpre : ∀ k, k ≤ es.length → kidsR fl n (es.take k) a = ((entsOf a id).take k, a) := by
          intro k
          induction k with
          | zero => intro _; simp [kidsR]
          | succ k ihk =>
            intro hkl
            have h1 : k < es.length := by omega
            have h2 : k < (entsOf a id).length := by omega
            obtain ⟨q1, q2, q3⟩ := hk k h1 h2
            rw [List.take_succ_eq_append_getElem h1, kidsR_snoc, ihk (by omega), List.take_succ_eq_append_getElem h2]
            simp only [q3, q1, q2]
        have hall := hpre es.length (Nat.le_refl _)
        rw [List.take_length, hl, List.take_length] at hall
        rw [objR_own, hall]
        exact hO.dirD_id hid

end Go.Proofs.YtajopoddmfdejaaGreat

namespace Go.Proofs.YtajopoddmfdejaaGreat
open Go.RowKit Go.Sort Go.Shelf
set_option linter.unusedVariables false

/-! ### no fetch fails -/
theorem find_nobrk {objs : List Ob} {t : LT} {fs : FS} (h : fs.brk = false) (r : List ByteArray) : (findR objs t fs r).2 = findE objs t r := by
  rcases findR_cases objs t fs r with ⟨_, h2, _⟩ | ⟨h1, _⟩
  · exact h2
  · rw [h1.1] at h; cases h
theorem look_nobrk {objs : List Ob} {t : LT} {fs : FS} (h : fs.brk = false) (r : List ByteArray) : (lookR objs t fs r).2 = lookE objs t r := by
  rcases lookR_cases objs t fs r with ⟨_, h2, _⟩ | ⟨h1, _⟩
  · exact h2
  · rw [h1.1] at h; cases h
theorem findE_some {objs : List Ob} {t c : LT} {r : List ByteArray} (h : t.at objs r.reverse = some c) : findE objs t r = (0, c) := by
  obtain ⟨h1, h2⟩ := findE_at objs t r
  by_cases h0 : (findE objs t r).1 = 0
  · have := h1 h0
    rw [h] at this
    exact Prod.ext h0 (Option.some.inj this).symm
  · rw [h2 h0] at h; cases h
theorem lookE_some {objs : List Ob} {t d : LT} {ks : Kids} {r : List ByteArray} (h : t.at objs r.reverse = some d) (hk : kids objs d = some ks) : lookE objs t r = (0, ks) := by
  unfold lookE
  rw [findE_some h]
  simp only
  cases d with
  | file i => simp [kids] at hk
  | held f => simp [kids] at hk
  | own es => simp [kids] at hk; rw [← hk]; rfl
  | dir i => simp [kids] at hk; rw [← hk]; rfl

/-- What stands at a path stands at every path on the way to it. -/
theorem at_pre {objs : List Ob} {t : LT} {p q : List ByteArray} (h : p <+: q) (hq : t.at objs q ≠ none) : t.at objs p ≠ none := by
  obtain ⟨r, rfl⟩ := h
  rw [at_append] at hq
  intro e
  rw [e] at hq
  exact hq rfl

/-- What a rename that answers OK, to a path where nothing was, found and did. -/
structure Ren (objs : List Ob) (t : LT) (nc nd : ByteArray) (rc rd : List ByteArray) (df dt c : LT) (kf kt : Kids) (t1 : LT) : Prop where
  af : t.at objs rc.reverse = some df
  kkf : kids objs df = some kf
  pf : pickK kf nc = some c
  at_ : t.at objs rd.reverse = some dt
  kkt : kids objs dt = some kt
  pt : pickK kt nd = none
  np : ¬ (rc.reverse ++ [nc]) <+: (rd.reverse ++ [nd])
  pn : ¬ (rd.reverse ++ [nd]) <+: (rc.reverse ++ [nc])
  eq : t1 = modG objs (fun ks => putK ks nd c) rd.reverse (modG objs (fun ks => dropK ks nc) rc.reverse t)

theorem ren_of {objs : List Ob} {t : LT} {fs : FS} {nc nd : ByteArray} {rc rd : List ByteArray} (h : (renameR objs t fs (nc :: rc) (nd :: rd)).2.1 = 0) (hn : t.at objs (rd.reverse ++ [nd]) = none) : ∃ df dt c kf kt, Ren objs t nc nd rc rd df dt c kf kt (renameR objs t fs (nc :: rc) (nd :: rd)).2.2 := by
  unfold renameR at h ⊢
  by_cases h0 : (findR objs t fs (nc :: rc)).2.1 ≠ 0
  · simp only [if_pos h0] at h; exact absurd h h0
  simp only [if_neg h0] at h ⊢
  obtain ⟨ha, _⟩ := kept_of_find (Decidable.not_not.1 h0)
  have ha0 := ha
  rw [List.reverse_cons] at ha
  have hpn : ¬ (rd.reverse ++ [nd]) <+: (rc.reverse ++ [nc]) := fun hp => at_pre hp (by rw [ha]; simp) hn
  by_cases h1 : (nc :: rc).reverse <+: (nd :: rd).reverse ∧ nc :: rc ≠ nd :: rd
  · rw [if_pos h1] at h; exact absurd h (by simp)
  rw [if_neg h1] at h ⊢
  have hne : nc :: rc ≠ nd :: rd := by
    intro e
    have e2 := congrArg List.reverse e
    rw [List.reverse_cons, List.reverse_cons] at e2
    exact hpn (by rw [e2]; exact List.prefix_refl _)
  have hnp : ¬ (rc.reverse ++ [nc]) <+: (rd.reverse ++ [nd]) := by
    intro hp
    rw [List.reverse_cons, List.reverse_cons] at h1
    exact h1 ⟨hp, hne⟩
  by_cases h2 : (lookR objs t (findR objs t fs (nc :: rc)).1 rd).2.1 ≠ 0 ∨ nc :: rc = nd :: rd
  · rw [if_pos h2] at h
    rcases h2 with h2 | h2
    · exact absurd h h2
    · exact absurd h2 hne
  rw [if_neg h2] at h ⊢
  by_cases h3 : (roomG objs (lookR objs t (findR objs t fs (nc :: rc)).1 rd).1 (decide (rc = rd)) (lookR objs t (findR objs t fs (nc :: rc)).1 rd).2.2 nd (findR objs t fs (nc :: rc)).2.2).2 ≠ 0
  · rw [if_pos h3] at h; exact absurd h h3
  rw [if_neg h3] at h ⊢
  by_cases h4 : 5 < ((rd.length + 1 : Nat) : Int) + hgt objs 5 (findR objs t fs (nc :: rc)).2.2
  · rw [if_pos h4] at h; exact absurd h (by simp)
  rw [if_neg h4]
  obtain ⟨df, kf, haf, hkf, hpf⟩ := at_snoc ha
  obtain ⟨dt, hat, hkt⟩ := look_at (Decidable.not_not.1 (fun h => h2 (.inl h)))
  refine ⟨df, dt, _, kf, _, haf, hkf, hpf, hat, hkt, ?_, hnp, hpn, rfl⟩
  cases hp : pickK (lookR objs t (findR objs t fs (nc :: rc)).1 rd).2.2 nd with
  | none => rfl
  | some x => rw [at_kid hat hkt, hp, Option.bind_some, at_nil] at hn; cases hn

theorem hgt_le {objs : List Ob} (hX : Exact objs) : ∀ (n : Nat) (c : LT), LTok objs n c → hgt objs n c ≤ n
  | n, .file id, h => by
    have hk : kindOf objs id = 1 := by cases n <;> simpa [LTok] using h
    have : hgt objs n (.file id) = highOf objs id := by cases n <;> rfl
    rw [this, hX.low id hk]; omega
  | n, .held f, _ => by
    have : hgt objs n (.held f) = 0 := by cases n <;> rfl
    rw [this]; omega
  | n, .dir id, h => by
    have hk : highOf objs id ≤ n := by cases n <;> (rw [LTok] at h; exact h.2)
    have : hgt objs n (.dir id) = highOf objs id := by cases n <;> rfl
    rw [this]; exact hk
  | 0, .own es, _ => by rw [hgt]; omega
  | n + 1, .own es, h => by
    rw [LTok] at h
    rw [hgt, foldl_max_le]
    refine ⟨by omega, fun x hx => ?_⟩
    have := hgt_le hX n x.2 (h.2.2 x hx).2
    omega

/-- Behind it: where it stood nothing stands, and there is room for it. -/
theorem ren_room {objs : List Ob} (hS : Sound objs) {t t1 : LT} (hok : LTok objs 5 t) {nc nd : ByteArray} {rc rd : List ByteArray} {df dt c : LT} {kf kt : Kids} (h : Ren objs t nc nd rc rd df dt c kf kt t1) :
    t1.at objs (rd.reverse ++ [nd]) = some c ∧ ∃ d' k', t1.at objs rc.reverse = some d' ∧ kids objs d' = some k' ∧ pickK k' nc = none ∧ (k'.length < 16 ∨ rd = rc) := by
  obtain ⟨haf, hkf, hpf, hat, hkt, hpt, hnp, hpn, rfl⟩ := h
  obtain ⟨_, hdf, _⟩ := ok_at hS _ hok haf
  obtain ⟨hrf, h16, _⟩ := ok_kids hS hdf hkf
  have hth : thereK kf nc = true := by rw [← pick_there hrf, hpf]; rfl
  have hlt : (dropK kf nc).length < 16 := by
    rw [dropK_length hth]
    have := thereK_lt hth
    omega
  have hdn : pickK (dropK kf nc) nc = none := by rw [pick_drop hrf hth, if_pos rfl]
  have hnq : ¬ (rc.reverse ++ [nc]) <+: rd.reverse := fun hp => hnp (hp.trans (List.prefix_append _ _))
  obtain ⟨d1, k1, e1, e2, _⟩ := drop_dir hrf haf hkf hth hat hkt hnq
  have hok1 := drop_ok hS hok haf hkf nc
  obtain ⟨_, hd1, _⟩ := ok_at hS _ hok1 e1
  have hr1 := (ok_kids hS hd1 e2).1
  obtain ⟨m1, m2⟩ := at_mod objs (fun ks => dropK ks nc) rc.reverse t df kf haf hkf
  obtain ⟨p1, p2⟩ := at_mod objs (fun ks => putK ks nd c) rd.reverse (modG objs (fun ks => dropK ks nc) rc.reverse t) d1 k1 e1 e2
  clear m1
  generalize modG objs (fun ks => dropK ks nc) rc.reverse t = tD at e1 hok1 m2 p1 p2 ⊢
  refine ⟨by rw [p1, pick_put hr1, if_pos rfl, Option.bind_some, at_nil], ?_⟩
  by_cases hqp : rd.reverse <+: rc.reverse
  · obtain ⟨s, hs⟩ := hqp
    cases s with
    | nil =>
      rw [List.append_nil] at hs
      have hrr : rd = rc := List.reverse_inj.1 hs
      subst hrr
      rw [m2] at e1
      cases e1
      simp only [kids, Option.some.injEq] at e2
      subst e2
      refine ⟨_, _, p2, rfl, ?_, .inr rfl⟩
      rw [pick_put (dropK_rising hrf), if_neg (fun e => hnp (by rw [e]; exact List.prefix_refl _)), hdn]
    | cons m r =>
      have hm : m ≠ nd := by
        intro e
        have : (rd.reverse ++ [nd]) <+: (rc.reverse ++ [nc]) := ⟨r ++ [nc], by rw [← hs, e]; simp⟩
        exact hpn this
      refine ⟨.own (dropK kf nc), dropK kf nc, ?_, rfl, hdn, .inl hlt⟩
      rw [← hs, p1, pick_put hr1, if_neg hm]
      rw [← hs] at m2
      rw [at_kid e1 e2] at m2
      exact m2
  · by_cases hpq : rc.reverse <+: rd.reverse
    · obtain ⟨m, hm, hxm⟩ := prefix_get hpq (fun e => hqp (e ▸ List.prefix_refl _))
      obtain ⟨r, hr⟩ := hxm
      have hr' : rd.reverse = rc.reverse ++ m :: r := by rw [← hr]; simp
      rw [hr'] at e1
      obtain ⟨dq, kq, w1, w2, w3⟩ := at_mod_way objs (fun ks => putK ks nd c) rc.reverse m r tD d1 e1
      rw [m2] at w1
      cases w1
      simp only [kids, Option.some.injEq] at w2
      rw [hr']
      refine ⟨_, _, w3, rfl, ?_, .inl ?_⟩
      · rw [pick_map, ← w2, hdn]
        split <;> rfl
      · rw [List.length_map, ← w2]; exact hlt
    · refine ⟨.own (dropK kf nc), dropK kf nc, ?_, rfl, hdn, .inl hlt⟩
      rw [at_mod_other objs _ rd.reverse rc.reverse _ d1 e1 hpq hqp]
      exact m2

/-- Back again: it answers OK, and all reads as it did. -/
theorem ren_back {objs : List Ob} (hX : Exact objs) {t t1 : LT} (hok : LTok objs 5 t) (hok1 : LTok objs 5 t1) {nc nd : ByteArray} {rc rd : List ByteArray} {df dt c : LT} {kf kt : Kids} (h : Ren objs t nc nd rc rd df dt c kf kt t1) {fs : FS} (hb : fs.brk = false) (hl : rc.length ≤ 4) :
    (renameR objs t1 fs (nd :: rd) (nc :: rc)).2.1 = 0 ∧ ∀ fc x, sem objs fc (renameR objs t1 fs (nd :: rd) (nc :: rc)).2.2 x = sem objs fc t x := by
  have hS := hX.sound
  obtain ⟨hc1, d', k', a1, a2, a3, a4⟩ := ren_room hS hok h
  have h0 := h
  obtain ⟨haf, hkf, hpf, hat, hkt, hpt, hnp, hpn, ht1⟩ := h
  have hcat : t.at objs (rc.reverse ++ [nc]) = some c := by rw [at_kid haf hkf, hpf, Option.bind_some, at_nil]
  obtain ⟨hlen, hokc, _⟩ := ok_at hS _ hok hcat
  have hrev : (nd :: rd).reverse = rd.reverse ++ [nd] := List.reverse_cons
  have hfind : (findR objs t1 fs (nd :: rd)).2 = (0, c) := by
    rw [find_nobrk hb]
    exact findE_some (by rw [hrev]; exact hc1)
  have hfb : (findR objs t1 fs (nd :: rd)).1.brk = false := (q_find objs t1 fs (nd :: rd)).2 hb
  have hlook : (lookR objs t1 (findR objs t1 fs (nd :: rd)).1 rc).2 = (0, k') := by
    rw [look_nobrk hfb]
    exact lookE_some a1 a2
  have hroom : (roomG objs (lookR objs t1 (findR objs t1 fs (nd :: rd)).1 rc).1 (decide (rd = rc)) k' nc c).2 = 0 := by
    unfold roomG
    rw [a3]
    simp only
    rw [if_neg]
    rintro ⟨q1, q2⟩
    rcases a4 with a4 | a4
    · omega
    · rw [decide_eq_true a4] at q2; cases q2
  have hdepth : ¬ 5 < ((rc.length + 1 : Nat) : Int) + hgt objs 5 c := by
    have e5 : 5 - (rc.reverse ++ [nc]).length = 4 - rc.length := by simp
    rw [e5] at hokc
    have h1 := hgt_le hX _ _ hokc
    have h2 := hgt_stable (4 - rc.length) 5 c (by omega) hokc
    omega
  have hres : (renameR objs t1 fs (nd :: rd) (nc :: rc)).2 = (0, modG objs (fun ks => putK ks nc c) rc.reverse (modG objs (fun ks => dropK ks nd) rd.reverse t1)) := by
    unfold renameR
    simp only [hfind, hlook, hroom]
    rw [if_neg (by simp), if_neg, if_neg, if_neg (by simp), if_neg hdepth]
    · rintro (q | q)
      · exact q rfl
      · have e2 := congrArg List.reverse q
        rw [List.reverse_cons, List.reverse_cons] at e2
        exact hpn (by rw [e2]; exact List.prefix_refl _)
    · rintro ⟨q, _⟩
      rw [List.reverse_cons, List.reverse_cons] at q
      exact hpn q
  rw [hres]
  refine ⟨rfl, fun fc x => ?_⟩
  simp only
  -- the way back
  obtain ⟨dd, kd, b1, b2, b3⟩ := at_snoc (objs := objs) (t := t1) (q := rd.reverse) (n := nd) hc1
  have hback := sem_rename (fc := fc) hS hok1 b1 b2 b3 a1 a2 hpn x
  have hforth : ∀ y, sem objs fc t1 y = if (rd.reverse ++ [nd]) <+: y then sem objs fc t ((rc.reverse ++ [nc]) ++ y.drop (rd.reverse ++ [nd]).length) else if (rc.reverse ++ [nc]) <+: y then none else sem objs fc t y := fun y => by
    rw [ht1]; exact sem_rename (fc := fc) hS hok haf hkf hpf hat hkt hnp y
  rw [hback]
  by_cases hx : (rc.reverse ++ [nc]) <+: x
  · rw [if_pos hx]
    obtain ⟨y, rfl⟩ := hx
    rw [List.drop_left, hforth, if_pos (List.prefix_append _ _), List.drop_left]
  · rw [if_neg hx]
    by_cases hx2 : (rd.reverse ++ [nd]) <+: x
    · rw [if_pos hx2]
      obtain ⟨y, rfl⟩ := hx2
      have : t.at objs ((rd.reverse ++ [nd]) ++ y) = none := by
        rw [at_append, at_kid hat hkt, hpt]; rfl
      unfold sem
      rw [this]; rfl
    · rw [if_neg hx2, hforth, if_neg hx2, if_neg hx]

/-! ### how much of it is the tree's own -/
def cs (n : Nat) (ks : Kids) : Nat := (ks.map fun x => cntO n x.2).sum
theorem cs_stored (n : Nat) (es : List Ent) : cs n (es.map kidOf) = 0 := by
  unfold cs
  induction es with
  | nil => rfl
  | cons e r ih =>
    simp only [List.map_cons, List.sum_cons]
    rw [ih]
    rcases stored_kid e with ⟨i, h⟩ | ⟨i, h⟩ <;> rw [h] <;> cases n <;> rw [cntO]
theorem cnt_kids (objs : List Ob) (n : Nat) (t : LT) {ks : Kids} (h : kids objs t = some ks) : cs n ks ≤ cntO (n + 1) t := by
  cases t with
  | file i => simp [kids] at h
  | held f => simp [kids] at h
  | dir i =>
    simp only [kids, Option.some.injEq] at h
    rw [← h, cs_stored]; omega
  | own es =>
    simp only [kids, Option.some.injEq] at h
    rw [← h, cntO]
    unfold cs
    omega

theorem cs_map (m : Nat) (g : LT → LT) : ∀ {ks : Kids}, RisingK ks → ∀ {n : ByteArray} {c : LT}, pickK ks n = some c → cs m (ks.map fun x => if x.1 = n then (x.1, g x.2) else x) + cntO m c = cs m ks + cntO m (g c)
  | [], _, n, c, h => by simp [pickK] at h
  | x :: r, hr, n, c, h => by
    unfold cs
    simp only [List.map_cons, List.sum_cons]
    by_cases hx : x.1 = n
    · have hc : x.2 = c := pick_unique hr h (by simp) hx
      have hrest : (r.map fun x => if x.1 = n then (x.1, g x.2) else x) = r := by
        conv => rhs; rw [← List.map_id r]
        refine List.map_congr_left fun y hy => ?_
        have hlt := (List.pairwise_cons.1 hr).1 y hy
        rw [if_neg (fun e => by rw [hx, e, cmpN_self] at hlt; omega)]; rfl
      rw [if_pos hx, hrest, hc]
      simp only
      omega
    · rw [if_neg hx]
      have hp : pickK r n = some c := by
        unfold pickK at h ⊢
        rw [List.find?_cons_of_neg (by simpa using hx)] at h; exact h
      have ih := cs_map m g hr.tail hp
      unfold cs at ih
      omega

theorem cnt_mod {objs : List Ob} (hS : Sound objs) (f : Kids → Kids) : ∀ (p : List ByteArray) (m k : Nat) (t d : LT) (ks : Kids), LTok objs k t → t.at objs p = some d → kids objs d = some ks →
    cntO (p.length + 1 + m) (modG objs f p t) + cs m ks ≤ cntO (p.length + 1 + m) t + cs m (f ks) + p.length + 1
  | [], m, k, t, d, ks, _, ha, hk => by
    rw [at_nil] at ha; cases ha
    have h1 := cnt_kids objs m t hk
    have h2 : modG objs f [] t = .own (f ks) := by rw [modG, hk]; rfl
    rw [h2, List.length_nil, Nat.zero_add, Nat.add_comm 1 m, cntO]
    unfold cs at *
    omega
  | n :: p, m, k, t, d, ks, hok, ha, hk => by
    rw [at_cons] at ha
    cases hkt : kids objs t with
    | none => rw [hkt] at ha; simp at ha
    | some es =>
      rw [hkt, Option.bind_some] at ha
      cases hc : pickK es n with
      | none => rw [hc] at ha; simp at ha
      | some c =>
        rw [hc, Option.bind_some] at ha
        obtain ⟨hr, _, h3⟩ := ok_kids hS hok hkt
        obtain ⟨_, k', _, hok'⟩ := h3 _ (pick_mem hc)
        have ih := cnt_mod hS f p m k' c d ks hok' ha hk
        have e : (n :: p).length + 1 + m = (p.length + 1 + m) + 1 := by simp; omega
        have h1 := cnt_kids objs (p.length + 1 + m) t hkt
        have h2 : modG objs f (n :: p) t = .own (es.map fun x => if x.1 = n then (x.1, modG objs f p x.2) else x) := by rw [modG, hkt]; rfl
        rw [e, h2, cntO]
        have hm := cs_map (p.length + 1 + m) (modG objs f p) hr hc
        unfold cs at *
        simp only [List.length_cons]
        omega

theorem cs_put (m : Nat) (n : ByteArray) (c : LT) : ∀ {ks : Kids}, RisingK ks → cs m (putK ks n c) ≤ cs m ks + cntO m c
  | [], _ => by
    have e : putK ([] : Kids) n c = [(n, c)] := rfl
    rw [e]; unfold cs; simp
  | x :: r, hr => by
    by_cases h : cmpN x.1 n < 0
    · rw [putK_cons_lt h]
      have ih := cs_put m n c hr.tail
      unfold cs at ih ⊢
      simp only [List.map_cons, List.sum_cons]
      omega
    · rw [putK_cons_ge hr h]
      unfold cs
      by_cases hx : x.1 = n
      · rw [if_pos hx]; simp only [List.map_cons, List.sum_cons]; omega
      · rw [if_neg hx]; simp only [List.map_cons, List.sum_cons]; omega
theorem cs_drop (m : Nat) (n : ByteArray) (ks : Kids) : cs m (dropK ks n) ≤ cs m ks := by
  have key : ∀ (l : Kids) (i : Nat), cs m (l.eraseIdx i) ≤ cs m l := by
    intro l
    induction l with
    | nil => intro i; simp
    | cons x r ih =>
      intro i
      cases i with
      | zero => unfold cs; simp
      | succ i =>
        have := ih i
        unfold cs at this ⊢
        simp only [List.eraseIdx_cons_succ, List.map_cons, List.sum_cons]
        omega
  exact key ks _

theorem ren_cnt {objs : List Ob} (hS : Sound objs) {t t1 : LT} (hok : LTok objs 5 t) {nc nd : ByteArray} {rc rd : List ByteArray} {df dt c : LT} {kf kt : Kids} (h : Ren objs t nc nd rc rd df dt c kf kt t1) (hlc : rc.length ≤ 4) (hld : rd.length ≤ 4) (hc0 : ∀ n, cntO n c = 0) : cntO 5 t1 ≤ cntO 5 t + 10 := by
  obtain ⟨haf, hkf, hpf, hat, hkt, hpt, hnp, hpn, rfl⟩ := h
  obtain ⟨_, hdf, _⟩ := ok_at hS _ hok haf
  obtain ⟨hrf, _, _⟩ := ok_kids hS hdf hkf
  have hth : thereK kf nc = true := by rw [← pick_there hrf, hpf]; rfl
  have hnq : ¬ (rc.reverse ++ [nc]) <+: rd.reverse := fun hp => hnp (hp.trans (List.prefix_append _ _))
  obtain ⟨d1, k1, e1, e2, _⟩ := drop_dir hrf haf hkf hth hat hkt hnq
  have hok1 := drop_ok hS hok haf hkf nc
  obtain ⟨_, hd1, _⟩ := ok_at hS _ hok1 e1
  have hr1 := (ok_kids hS hd1 e2).1
  have c1 := cnt_mod hS (fun ks => dropK ks nc) rc.reverse (4 - rc.length) 5 t df kf hok haf hkf
  have c2 := cnt_mod hS (fun ks => putK ks nd c) rd.reverse (4 - rd.length) 5 _ d1 k1 hok1 e1 e2
  have f1 : rc.reverse.length + 1 + (4 - rc.length) = 5 := by simp; omega
  have f2 : rd.reverse.length + 1 + (4 - rd.length) = 5 := by simp; omega
  rw [f1] at c1
  rw [f2] at c2
  have g1 := cs_drop (4 - rc.length) nc kf
  have g2 := cs_put (4 - rd.length) nd c hr1
  simp only [List.length_reverse] at c1 c2
  have hcc := hc0 (4 - rd.length)
  omega

end Go.Proofs.YtajopoddmfdejaaGreat

namespace Go.Proofs.YtajopoddmfdejaaGreat
open Go.RowKit Go.Sort Go.Shelf
set_option linter.unusedVariables false

/-- The objects that made leaves. -/
structure Obs8 (objs : List Ob) (id : Int) : Prop where
  exact : Exact objs
  once : Once objs
  ok : LTok objs 5 (.dir id)
  len : objs.length ≤ 100

/-- A workspace of it, between two calls. -/
def BSt (W wr : World) (s p : Nat) (B : WB) (objs : List Ob) (id : Int) (lim : Nat) (t : LT) : Prop := ∃ tg g, Old W wr tg ∧ QInv tg wr s 3 p B objs g lim t ∧ g.fs.brk = false ∧ g.base = id

theorem BSt.below {W wr w' : World} {s p : Nat} {B : WB} {objs : List Ob} {id : Int} {lim : Nat} {t : LT} (h : BSt W wr s p B objs id lim t) (hb : Below wr.heap.size wr w') : BSt W w' s p B objs id lim t := by
  obtain ⟨tg, g, hO, hQ, h1, h2⟩ := h
  exact ⟨tg, g, hO.any (P := fun _ => False) (fun h => h) (Moves.of_below hb), hQ.below hb, h1, h2⟩

set_option maxRecDepth 100000 in
set_option maxHeartbeats 400000 in
theorem work_walk (s : Nat) (id : Int) (R : Nat → World → Prop) (w : World) (hc : Calls Tryz.prog 40 #[.pointer (some ⟨s, 0, none⟩), .int .i64 id] w fun e w' => ∃ wb : Nat, e = .returned (.tuple #[.pointer (some ⟨wb, 0, none⟩), .int .i64 0]) ∧ R wb w') :
    Calls Tryz.prog 12 #[.pointer (some ⟨s, 0, none⟩), .int .i64 id] w fun e w' => ∃ wb : Nat, e = .returned (.tuple #[.pointer (some ⟨wb, 0, none⟩), .bool true]) ∧ R wb w' := by
  have HC : Hid _ := hc
  clear hc
  go_enter Tryz.func12, Tryz.ntmps12
  go_wp2_with fail
  refine Calls.mono HC.out ?_
  rintro e w1 ⟨wb, rfl, hR⟩
  have HR : Hid _ := hR
  clear hR HC
  go_wp2
  go_ret2
  exact ⟨wb, rfl, HR.out⟩

/-- work, behind made. -/
theorem b_work {W wr : World} {s p : Nat} {id : Int} (h : Made W wr s p id) :
    ∃ objs, Obs8 objs id ∧ Calls Tryz.prog 12 #[.pointer (some ⟨s, 0, none⟩), .int .i64 id] wr fun e w' => ∃ B : WB, e = .returned (.tuple #[.pointer (some ⟨B.wb, 0, none⟩), .bool true]) ∧ BSt W w' s p B objs id 60000 (.dir id) := by
  obtain ⟨tg, objs, got, hO, hS, hX, hOn, hok, hlen, hid⟩ := h
  refine ⟨objs, ⟨hX, hOn, hok, hlen⟩, (work_walk s id (fun wb w' => ∃ B : WB, B.wb = wb ∧ BSt W w' s p B objs id 60000 (.dir id)) wr ((qcheckout (i := 3) hS (by decide) hok).mono ?_)).mono ?_⟩
  · rintro e w' ⟨B, he, tg', m, hQ⟩
    exact ⟨B.wb, he, B, rfl, tg', _, hO.any (fun h => h) m, hQ, rfl, rfl⟩
  · rintro e w' ⟨wb, he, B, rfl, hB⟩
    exact ⟨B, he, hB⟩

theorem size_not4 (objs : List Ob) (fl : Nat → Option (Int × ByteArray)) (fs : FS) (c : LT) : (sizeG objs fl fs c).2.1 ≠ 4 := by
  have hk : ∀ c, c.kind = 2 → (kidsG objs fs c).2.1 ≠ 4 := by
    intro c hc
    cases c with
    | file i => cases hc
    | held f => cases hc
    | own es => simp [kidsG]
    | dir i => simp only [kidsG]; split <;> simp
  cases c with
  | file i => simp only [sizeG]; split <;> simp
  | held f =>
    simp only [sizeG, bytesG]
    split
    · simp
    · split
      · simp
      · split <;> simp
  | own es => exact hk _ rfl
  | dir i => exact hk _ rfl

theorem stat_none {objs : List Ob} {fl : Nat → Option (Int × ByteArray)} {t : LT} {fs : FS} (hb : fs.brk = false) {r : List ByteArray} (h : (statR objs fl t fs r).2.1 = 4) : t.at objs r.reverse = none := by
  unfold statR at h
  by_cases h0 : (findR objs t fs r).2.1 ≠ 0
  · have := find_nobrk (objs := objs) (t := t) hb r
    rw [this] at h0
    exact (findE_at objs t r).2 h0
  · simp only [if_neg h0] at h
    by_cases h1 : (sizeG objs fl (findR objs t fs r).1 (findR objs t fs r).2.2).2.1 ≠ 0
    · rw [if_pos h1] at h
      exact absurd h (size_not4 _ _ _ _)
    · rw [if_neg h1] at h
      simp at h

theorem q_stat (objs : List Ob) (fl : Nat → Option (Int × ByteArray)) (t : LT) (fs : FS) (r : List ByteArray) (h : fs.brk = false) : (statR objs fl t fs r).1.brk = false := by
  rcases fair_stat objs fl t fs r with ⟨h1, _⟩ | ⟨h1, _⟩
  · rw [h1.1]; exact h
  · rw [h1.1] at h; cases h

theorem b_stat {W wr : World} {s p : Nat} {B : WB} {objs : List Ob} {id : Int} {lim : Nat} {t : LT} (h : BSt W wr s p B objs id lim t) (hl : lim ≤ 100000) {r : List ByteArray} (hL : Good r.reverse) :
    Calls Tryz.prog 28 #[.pointer (some ⟨B.wb, 0, none⟩), .string (joinB r.reverse)] wr fun e w' => ∃ k sz er : Int, e = .returned (.tuple #[.agg #[.int .i64 k, .int .i64 sz], .int .i64 er]) ∧ (er = 4 → t.at objs r.reverse = none) ∧ BSt W w' s p B objs id (lim + 400) t := by
  obtain ⟨tg, g, hO, hQ, hb, hba⟩ := h
  refine (qstat hQ (by omega) hL).mono ?_
  rintro e w' ⟨he, tg', g', t', m, hQ', rfl, hfs, hfl, hbs⟩
  exact ⟨_, _, _, he, stat_none hb, tg', g', hO.any (mine0 (by decide)) m, hQ', by rw [hfs]; exact q_stat _ _ _ _ _ hb, by rw [hbs]; exact hba⟩

theorem rename_err {objs : List Ob} {t : LT} {fs : FS} {nc nd : ByteArray} {rc rd : List ByteArray} (h : (renameR objs t fs (nc :: rc) (nd :: rd)).2.1 ≠ 0) : (renameR objs t fs (nc :: rc) (nd :: rd)).2.2 = t := by
  unfold renameR at h ⊢
  simp only at h ⊢
  split
  · rfl
  · rename_i h0
    rw [if_neg h0] at h
    split
    · rfl
    · rename_i h1
      rw [if_neg h1] at h
      split
      · rfl
      · rename_i h2
        rw [if_neg h2] at h
        split
        · rfl
        · rename_i h3
          rw [if_neg h3] at h
          split
          · rfl
          · rename_i h4
            rw [if_neg h4] at h
            exact absurd rfl h

theorem b_rename {W wr : World} {s p : Nat} {B : WB} {objs : List Ob} {id : Int} {lim : Nat} {t : LT} (h : BSt W wr s p B objs id lim t) (hl : lim ≤ 100000) {nc nd : ByteArray} {rc rd : List ByteArray} (hc : Good (rc.reverse ++ [nc])) (hd : Good (rd.reverse ++ [nd])) :
    Calls Tryz.prog 24 #[.pointer (some ⟨B.wb, 0, none⟩), .string (joinB (rc.reverse ++ [nc])), .string (joinB (rd.reverse ++ [nd]))] wr fun e w' => ∃ er : Int, e = .returned (.int .i64 er) ∧ ∃ t', BSt W w' s p B objs id (lim + 400) t' ∧ (er ≠ 0 → t' = t) ∧ (er = 0 → t.at objs (rd.reverse ++ [nd]) = none → ∃ df dt c kf kt, Ren objs t nc nd rc rd df dt c kf kt t') := by
  obtain ⟨tg, g, hO, hQ, hb, hba⟩ := h
  refine (qrename hQ (by omega) hc hd).mono ?_
  rintro e w' ⟨he, tg', g', t', m, hQ', rfl, hfs, hfl, hbs⟩
  exact ⟨_, he, _, ⟨tg', g', hO.any (mine0 (by decide)) m, hQ', by rw [hfs]; exact (q_rename objs t g.fs nc nd rc rd).2 hb, by rw [hbs]; exact hba⟩, rename_err, fun h0 hn => ren_of h0 hn⟩

theorem b_back {W wr : World} {s p : Nat} {B : WB} {objs : List Ob} {id : Int} {lim : Nat} {t1 : LT} (hObs : Obs8 objs id) (h : BSt W wr s p B objs id lim t1) (hl : lim ≤ 100000) {nc nd : ByteArray} {rc rd : List ByteArray} (hc : Good (rc.reverse ++ [nc])) (hd : Good (rd.reverse ++ [nd])) {df dt c : LT} {kf kt : Kids} (hR : Ren objs (.dir id) nc nd rc rd df dt c kf kt t1) :
    Calls Tryz.prog 24 #[.pointer (some ⟨B.wb, 0, none⟩), .string (joinB (rd.reverse ++ [nd])), .string (joinB (rc.reverse ++ [nc]))] wr fun e w' => e = .returned (.int .i64 0) ∧ ∃ t2, BSt W w' s p B objs id (lim + 400) t2 ∧ (∀ fc x, sem objs fc t2 x = sem objs fc (.dir id) x) ∧ cntO 5 t2 ≤ 30 := by
  obtain ⟨tg, g, hO, hQ, hb, hba⟩ := h
  have hS := hObs.exact.sound
  have hrc : rc.length ≤ 4 := by have := hc.len; simp at this; omega
  have hrd : rd.length ≤ 4 := by have := hd.len; simp at this; omega
  obtain ⟨e0, hsem⟩ := ren_back hObs.exact hObs.ok hQ.ok hR (fs := g.fs) hb hrc
  obtain ⟨hc1, d', k', a1, a2, a3, _⟩ := ren_room hS hObs.ok hR
  have hcs : ∀ n, cntO n c = 0 := by
    have hcat : (LT.dir id).at objs (rc.reverse ++ [nc]) = some c := by rw [at_kid hR.af hR.kkf, hR.pf, Option.bind_some, at_nil]
    intro n
    have hst := stored_at objs (rc.reverse ++ [nc]) id
    rw [hcat] at hst
    cases c with
    | file i => cases n <;> rw [cntO]
    | dir i => cases n <;> rw [cntO]
    | held f => have := hst.2; simp [ofOf] at this
    | own es => have := hst.1; simp [odOf] at this
  have hn1 : t1.at objs (rc.reverse ++ [nc]) = none := by rw [at_kid a1 a2, a3]; rfl
  obtain ⟨df2, dt2, c2, kf2, kt2, hR2⟩ := ren_of (fs := g.fs) e0 hn1
  have hc2 : c2 = c := by
    have : t1.at objs (rd.reverse ++ [nd]) = some c2 := by rw [at_kid hR2.af hR2.kkf, hR2.pf, Option.bind_some, at_nil]
    rw [hc1] at this
    exact (Option.some.inj this).symm
  have n1 := ren_cnt hS hObs.ok hR hrc hrd hcs
  have n2 := ren_cnt hS hQ.ok hR2 hrd hrc (by rw [hc2]; exact hcs)
  have n0 : cntO 5 (.dir id) = 0 := by rw [cntO]
  refine (qrename hQ (by omega) hd hc).mono ?_
  rintro e w' ⟨he, tg', g', t', m, hQ', rfl, hfs, hfl, hbs⟩
  rw [e0] at he
  exact ⟨he, _, ⟨tg', g', hO.any (mine0 (by decide)) m, hQ', by rw [hfs]; exact (q_rename objs t1 g.fs nd nc rd rc).2 hb, by rw [hbs]; exact hba⟩, hsem, by omega⟩

/-- A tree that reads as its base does, little of which is its own. -/
def AsBase (objs : List Ob) (id : Int) (t : LT) : Prop := (∀ fc x, sem objs fc t x = sem objs fc (.dir id) x) ∧ cntO 5 t ≤ 30
theorem asBase_dir (objs : List Ob) (id : Int) : AsBase objs id (.dir id) := ⟨fun _ _ => rfl, by rw [cntO]; omega⟩

theorem base_objR {tg : Tags} {w : World} {s i p : Nat} {B : WB} {objs : List Ob} {g : WG} {lim : Nat} {t : LT} {id : Int} (hObs : Obs8 objs id) (hQ : QInv tg w s i p B objs g lim t) (hA : AsBase objs id t) : Base8 tg w s i p B objs g lim t ∧ objR g.fl 5 t objs = (id, objs) := by
  have hB : Base8 tg w s i p B objs g lim t := ⟨hQ.inv, hQ.flat, hObs.exact, hQ.fl⟩
  exact ⟨hB, objR_sem hObs.exact hObs.once hB.flSz 5 t (.dir id) hQ.ok hObs.ok (.inr ⟨id, rfl⟩) (fun q => hA.1 _ q)⟩

theorem b_status {W wr : World} {s p : Nat} {B : WB} {objs : List Ob} {id : Int} {lim : Nat} {t : LT} (hObs : Obs8 objs id) (h : BSt W wr s p B objs id lim t) (hA : AsBase objs id t) :
    Calls Tryz.prog 27 #[.pointer (some ⟨B.wb, 0, none⟩)] wr fun e w' => e = .returned (.tuple #[.slice none 0 0, .int .i64 0]) ∧ BSt W w' s p B objs id lim t := by
  have h0 := h
  obtain ⟨tg, g, hO, hQ, hb, hba⟩ := h
  obtain ⟨hB, hR⟩ := base_objR hObs hQ hA
  obtain ⟨hwb, c0, _⟩ := hQ.ws
  have hlen := hObs.len
  have hcn := hA.2
  refine (status_ws B.wb B.bt _ 0 _ wr hwb c0 (status_same hB hQ.ok (by omega) (by rw [hR, hba]))).mono ?_
  rintro e w' ⟨he, hbl⟩
  exact ⟨he, h0.below hbl⟩

theorem b_commit {W wr : World} {s p : Nat} {B : WB} {objs : List Ob} {id : Int} {lim : Nat} {t : LT} (hObs : Obs8 objs id) (h : BSt W wr s p B objs id lim t) (hA : AsBase objs id t) :
    Calls Tryz.prog 20 #[.pointer (some ⟨B.wb, 0, none⟩)] wr fun e w' => e = .returned (.tuple #[.int .i64 id, .int .i64 0]) ∧ Below W.heap.size W w' := by
  obtain ⟨tg, g, hO, hQ, hb, hba⟩ := h
  obtain ⟨hB, hR⟩ := base_objR hObs hQ hA
  obtain ⟨hwb, c0, _⟩ := hQ.ws
  have hlen := hObs.len
  have hcn := hA.2
  have hc := commit_any hB hQ.ok (by omega) (by rw [hR]; show objs.length ≤ 400; omega)
  rw [hR] at hc
  refine (commit_ws B.wb B.bt _ _ wr hwb c0 hc).mono ?_
  rintro e w' ⟨he, x', tg', _, _, m, _⟩
  exact ⟨he, (hO.any (by simp) m).1⟩

end Go.Proofs.YtajopoddmfdejaaGreat
