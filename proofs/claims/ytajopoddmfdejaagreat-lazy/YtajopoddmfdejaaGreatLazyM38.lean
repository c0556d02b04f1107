/-
  What is proved here: the walks of an outline's functions: file, and object where nothing is to be worked out. the walks of an outline's functions: object of something of the tree's own, work of a file.
-/
import Derived.Test.YtajopoddmfdejaaGreatLazyM37
namespace Go.Proofs.YtajopoddmfdejaaGreat
open Go.RowKit Go.Sort Go.Shelf
set_option linter.unusedVariables false

set_option maxRecDepth 100000 in
set_option maxHeartbeats 400000 in
theorem fobject_any (f : Nat) (id : Int) (w : World) (c1 : w.cell? ⟨f, 1, none⟩ = some (.int .i64 id)) :
    Calls Tryz.prog 169 #[.pointer (some ⟨f, 0, none⟩)] w fun e w' => e = .returned (.int .i64 id) ∧ w' = w := by
  go_enter Tryz.func169, Tryz.ntmps169
  go_wp2
  go_ret
  exact ⟨rfl, rfl⟩

/-- The boxes of a function that is given an outline and a path. -/
theorem two_boxes (w : World) (x y : Obj) : Below w.heap.size w ((w.alloc x).alloc y) ∧ Below w.heap.size w ((w.alloc x).alloc y).drew := by
  have h : Below w.heap.size w ((w.alloc x).alloc y) := ((Below.refl w.heap.size w).alloc (Nat.le_refl _) x).alloc (by simp) y
  exact ⟨h, below_drew h⟩

set_option maxRecDepth 100000 in
set_option maxHeartbeats 1000000 in
theorem ofile_stored (bt oF dr ow f : Nat) (s0 s1 s2 s3 s4 : ByteArray) (id : Int) (w : World) (hbt : bt < w.heap.size) (hf : f < w.heap.size) (c7 : w.cell? ⟨bt, 7, none⟩ = some (.map (some oF))) (cf : w.cell? ⟨f, 1, none⟩ = some (.int .i64 id)) (hid : id ≠ 0)
    (hlk : ∀ W, Below w.heap.size w W → (Instr.lookup 127 (.map (some oF)) (.agg #[.string s0, .string s1, .string s2, .string s3, .string s4]) false).run Tryz.prog W = .ok (.pointer (some ⟨f, 0, none⟩)) W) :
    Calls Tryz.prog 144 #[.agg #[.pointer (some ⟨bt, 0, none⟩), .pointer (some ⟨dr, 0, none⟩), .map (some ow)], .agg #[.string s0, .string s1, .string s2, .string s3, .string s4]] w fun e w' => e = .returned (.int .i64 id) ∧ Below w.heap.size w w' := by
  obtain ⟨hb0, hb1⟩ := two_boxes w (.cells #[.pointer (some ⟨bt, 0, none⟩), .pointer (some ⟨dr, 0, none⟩), .map (some ow)] 121) (.cells #[.string s0, .string s1, .string s2, .string s3, .string s4] 104)
  have hl := hlk _ hb1
  have hfo := fun W h => fobject_any f id W h
  have cf1 := (hb1.cell (p := ⟨f, 1, none⟩) hf).trans cf
  have hid' : (id == 0) = false := by simpa using hid
  have HB : Hid _ := hb1
  clear hlk hb0 hb1
  go_enter Tryz.func144, Tryz.ntmps144
  go_wp2
  go_region
  all_goals
    go_wp2_with (go_at_call 169; refine Calls.mono (hfo _ cf1) ?_; rintro e w1 ⟨rfl, rfl⟩)
    go_ret
    exact ⟨rfl, HB.out⟩

set_option maxRecDepth 100000 in
set_option maxHeartbeats 1000000 in
theorem ofile_own (bt oF dr ow f : Nat) (s0 s1 s2 s3 s4 d : ByteArray) (r : Int) (R : World → Prop) (w : World) (hbt : bt < w.heap.size) (hf : f < w.heap.size) (c7 : w.cell? ⟨bt, 7, none⟩ = some (.map (some oF))) (cf : w.cell? ⟨f, 1, none⟩ = some (.int .i64 0)) (cd : w.cell? ⟨f, 2, none⟩ = some (.string d))
    (hlk : ∀ W, Below w.heap.size w W → (Instr.lookup 127 (.map (some oF)) (.agg #[.string s0, .string s1, .string s2, .string s3, .string s4]) false).run Tryz.prog W = .ok (.pointer (some ⟨f, 0, none⟩)) W)
    (hF : ∀ W, Below w.heap.size w W → Calls Tryz.prog 170 #[.pointer (some ⟨dr, 0, none⟩), .string d] W fun e w' => e = .returned (.int .i64 r) ∧ R w') :
    Calls Tryz.prog 144 #[.agg #[.pointer (some ⟨bt, 0, none⟩), .pointer (some ⟨dr, 0, none⟩), .map (some ow)], .agg #[.string s0, .string s1, .string s2, .string s3, .string s4]] w fun e w' => e = .returned (.int .i64 r) ∧ R w' := by
  obtain ⟨hb0, hb1⟩ := two_boxes w (.cells #[.pointer (some ⟨bt, 0, none⟩), .pointer (some ⟨dr, 0, none⟩), .map (some ow)] 121) (.cells #[.string s0, .string s1, .string s2, .string s3, .string s4] 104)
  have hl := hlk _ hb1
  have hfo := fun W h => fobject_any f 0 W h
  have hby := fun W h1 h2 => bytes_own f d W h1 h2
  have cf1 := (hb1.cell (p := ⟨f, 1, none⟩) hf).trans cf
  have cd1 := (hb1.cell (p := ⟨f, 2, none⟩) hf).trans cd
  have hD := hF _ hb1
  have HB : Hid _ := hb1
  have HD : Hid _ := hD
  clear hlk hb0 hb1 hF hD
  go_enter Tryz.func144, Tryz.ntmps144
  go_wp2
  go_region
  all_goals
    go_wp2_with (first
      | (go_at_call 169; refine Calls.mono (hfo _ cf1) ?_; rintro e w1 ⟨rfl, rfl⟩)
      | (go_at_call 135; refine Calls.mono (hby _ cf1 cd1) ?_; rintro e w1 ⟨rfl, rfl⟩)
      | (go_at_call 170; refine Calls.mono HD.out ?_; rintro e w2 ⟨rfl, hR⟩))
    go_ret
    exact ⟨rfl, hR⟩

set_option maxRecDepth 100000 in
set_option maxHeartbeats 1000000 in
theorem oobject_stored (bt dr ow : Nat) (s0 s1 s2 s3 s4 nm : ByteArray) (k id : Int) (w : World) (hid : id ≠ 0) :
    Calls Tryz.prog 65 #[.agg #[.pointer (some ⟨bt, 0, none⟩), .pointer (some ⟨dr, 0, none⟩), .map (some ow)], .agg #[.string s0, .string s1, .string s2, .string s3, .string s4], .agg #[.string nm, .int .i64 k, .int .i64 id]] w fun e w' => e = .returned (.int .i64 id) ∧ Below w.heap.size w w' := by
  have hb : ∀ x y z : Obj, Below w.heap.size w (((w.alloc x).alloc y).alloc z) := fun x y z => (((Below.refl w.heap.size w).alloc (Nat.le_refl _) x).alloc (by simp) y).alloc (by simp; omega) z
  have HB : Hid _ := hb
  have hid' : (id == 0) = false := by simpa using hid
  clear hb
  go_enter Tryz.func65, Tryz.ntmps65
  go_wp2
  go_ret
  exact ⟨rfl, HB.out _ _ _⟩

end Go.Proofs.YtajopoddmfdejaaGreat

namespace Go.Proofs.YtajopoddmfdejaaGreat
open Go.RowKit Go.Sort Go.Shelf
set_option linter.unusedVariables false

/-- The boxes of object. -/
def objBoxes (w : World) (bt dr ow : Nat) (s0 s1 s2 s3 s4 nm : ByteArray) (k id : Int) : World := ((w.alloc (.cells #[.pointer (some ⟨bt, 0, none⟩), .pointer (some ⟨dr, 0, none⟩), .map (some ow)] 121)).alloc (.cells #[.string s0, .string s1, .string s2, .string s3, .string s4] 104)).alloc (.cells #[.string nm, .int .i64 k, .int .i64 id] 76)
theorem objBoxes_below (w : World) (bt dr ow : Nat) (s0 s1 s2 s3 s4 nm : ByteArray) (k id : Int) : Below w.heap.size w (objBoxes w bt dr ow s0 s1 s2 s3 s4 nm k id) := (((Below.refl w.heap.size w).alloc (Nat.le_refl _) _).alloc (by simp) _).alloc (by simp; omega) _

theorem cell_at {w : World} {b : Nat} {c : Array Value} {t : TypeId} {z : Nat × Nat} (h : w.heap[b]? = some (.cells c t z)) (o : Nat) : w.cell? ⟨b, o, none⟩ = c[o]? := by simp [World.cell?, h]
theorem heap_alloc3 (w : World) (x y z : Obj) : (((w.alloc x).alloc y).alloc z).heap[w.heap.size]? = some x ∧ (((w.alloc x).alloc y).alloc z).heap[w.heap.size + 1]? = some y := by
  constructor
  · rw [RowKit.Below.heap_alloc _ _ _ (by simp; omega), heap_alloc2_old]
  · rw [RowKit.Below.heap_alloc _ _ _ (by simp), heap_alloc2_new]
theorem objBoxes_cells (w : World) (bt dr ow : Nat) (s0 s1 s2 s3 s4 nm : ByteArray) (k id : Int) : (objBoxes w bt dr ow s0 s1 s2 s3 s4 nm k id).cell? ⟨w.heap.size, 2, none⟩ = some (.map (some ow)) ∧ (objBoxes w bt dr ow s0 s1 s2 s3 s4 nm k id).cell? ⟨w.heap.size + 1, 0, none⟩ = some (.string s0) ∧ (objBoxes w bt dr ow s0 s1 s2 s3 s4 nm k id).cell? ⟨w.heap.size + 1, 1, none⟩ = some (.string s1) ∧ (objBoxes w bt dr ow s0 s1 s2 s3 s4 nm k id).cell? ⟨w.heap.size + 1, 2, none⟩ = some (.string s2) ∧ (objBoxes w bt dr ow s0 s1 s2 s3 s4 nm k id).cell? ⟨w.heap.size + 1, 3, none⟩ = some (.string s3) ∧ (objBoxes w bt dr ow s0 s1 s2 s3 s4 nm k id).cell? ⟨w.heap.size + 1, 4, none⟩ = some (.string s4) := by
  obtain ⟨h0, h1⟩ := heap_alloc3 w (.cells #[.pointer (some ⟨bt, 0, none⟩), .pointer (some ⟨dr, 0, none⟩), .map (some ow)] 121) (.cells #[.string s0, .string s1, .string s2, .string s3, .string s4] 104) (.cells #[.string nm, .int .i64 k, .int .i64 id] 76)
  exact ⟨cell_at h0 2, cell_at h1 0, cell_at h1 1, cell_at h1 2, cell_at h1 3, cell_at h1 4⟩

set_option maxRecDepth 100000 in
set_option maxHeartbeats 1000000 in
theorem oobject_own (bt dr ow : Nat) (s0 s1 s2 s3 s4 nm : ByteArray) (k r : Int) (R R2 : World → Prop) (w : World)
    (hlk : ∀ W, Below w.heap.size w W → (Instr.lookup 119 (.map (some ow)) (.agg #[.string s0, .string s1, .string s2, .string s3, .string s4]) true).run Tryz.prog W = .ok (.tuple #[.int .i64 0, .bool false]) W)
    (hwork : Calls Tryz.prog 109 #[.agg #[.pointer (some ⟨bt, 0, none⟩), .pointer (some ⟨dr, 0, none⟩), .map (some ow)], .agg #[.string s0, .string s1, .string s2, .string s3, .string s4], .int .i64 k] (objBoxes w bt dr ow s0 s1 s2 s3 s4 nm k 0) fun e w' => e = .returned (.int .i64 r) ∧ R w')
    (hbox : ∀ w', R w' → ∀ j o, w.heap.size ≤ j → j < w.heap.size + 3 → w'.cell? ⟨j, o, none⟩ = (objBoxes w bt dr ow s0 s1 s2 s3 s4 nm k 0).cell? ⟨j, o, none⟩)
    (hsz : ∀ w', R w' → w.heap.size + 3 ≤ w'.heap.size)
    (hnote : ∀ w', R w' → ∃ w'', (Instr.mapUpdate 119 (.map (some ow)) (.agg #[.string s0, .string s1, .string s2, .string s3, .string s4]) (.int .i64 r)).run Tryz.prog w' = .ok () w'' ∧ R2 w'') :
    Calls Tryz.prog 65 #[.agg #[.pointer (some ⟨bt, 0, none⟩), .pointer (some ⟨dr, 0, none⟩), .map (some ow)], .agg #[.string s0, .string s1, .string s2, .string s3, .string s4], .agg #[.string nm, .int .i64 k, .int .i64 0]] w fun e w' => e = .returned (.int .i64 r) ∧ R2 w' := by
  have hl := hlk _ (objBoxes_below w bt dr ow s0 s1 s2 s3 s4 nm k 0)
  have HW : Hid _ := hwork
  have HB : Hid _ := hbox
  have HS : Hid _ := hsz
  have HN : Hid _ := hnote
  clear hlk hwork hbox hsz hnote
  obtain ⟨x02, x10, x11, x12, x13, x14⟩ := objBoxes_cells w bt dr ow s0 s1 s2 s3 s4 nm k 0
  have HX : Hid _ := And.intro x02 (And.intro x10 (And.intro x11 (And.intro x12 (And.intro x13 x14))))
  clear x02 x10 x11 x12 x13 x14
  unfold objBoxes at hl HW
  go_enter Tryz.func65, Tryz.ntmps65
  go_wp2_with fail
  refine Calls.mono HW.out ?_
  rintro e w1 ⟨rfl, hR⟩
  have hbx := HB.out w1 hR
  have hz := HS.out w1 hR
  obtain ⟨w2, hmu, hR2⟩ := HN.out w1 hR
  have b02 := hbx w.heap.size 2 (Nat.le_refl _) (by omega)
  have b10 := hbx (w.heap.size + 1) 0 (by omega) (by omega)
  have b11 := hbx (w.heap.size + 1) 1 (by omega) (by omega)
  have b12 := hbx (w.heap.size + 1) 2 (by omega) (by omega)
  have b13 := hbx (w.heap.size + 1) 3 (by omega) (by omega)
  have b14 := hbx (w.heap.size + 1) 4 (by omega) (by omega)
  rw [HX.out.1] at b02
  rw [HX.out.2.1] at b10
  rw [HX.out.2.2.1] at b11
  rw [HX.out.2.2.2.1] at b12
  rw [HX.out.2.2.2.2.1] at b13
  rw [HX.out.2.2.2.2.2] at b14
  have hz0 : w.heap.size < w1.heap.size := by omega
  have hz1 : w.heap.size + 1 < w1.heap.size := by omega
  have HR2 : Hid _ := hR2
  clear hbx hR hR2 HW HB HN HS
  go_wp2
  go_ret
  exact ⟨rfl, HR2.out⟩

set_option maxRecDepth 100000 in
set_option maxHeartbeats 1000000 in
theorem owork_file (bt dr ow : Nat) (s0 s1 s2 s3 s4 : ByteArray) (r : Int) (R : World → Prop) (w : World)
    (hfile : ∀ W, Below w.heap.size w W → Calls Tryz.prog 144 #[.agg #[.pointer (some ⟨bt, 0, none⟩), .pointer (some ⟨dr, 0, none⟩), .map (some ow)], .agg #[.string s0, .string s1, .string s2, .string s3, .string s4]] W fun e w' => e = .returned (.int .i64 r) ∧ R w') :
    Calls Tryz.prog 109 #[.agg #[.pointer (some ⟨bt, 0, none⟩), .pointer (some ⟨dr, 0, none⟩), .map (some ow)], .agg #[.string s0, .string s1, .string s2, .string s3, .string s4], .int .i64 1] w fun e w' => e = .returned (.int .i64 r) ∧ R w' := by
  obtain ⟨hb0, _⟩ := two_boxes w (.cells #[.pointer (some ⟨bt, 0, none⟩), .pointer (some ⟨dr, 0, none⟩), .map (some ow)] 121) (.cells #[.string s0, .string s1, .string s2, .string s3, .string s4] 104)
  have hf := hfile _ hb0
  have HF : Hid _ := hf
  clear hfile hf hb0
  go_enter Tryz.func109, Tryz.ntmps109
  go_wp2_with (go_at_call 144; refine Calls.mono HF.out ?_; rintro e w1 ⟨rfl, hR⟩)
  go_ret
  exact ⟨rfl, hR⟩

end Go.Proofs.YtajopoddmfdejaaGreat
