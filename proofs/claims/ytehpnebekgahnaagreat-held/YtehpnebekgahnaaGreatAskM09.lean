/-
  What is proved here: Bytes, Clear, start of an opened file, and Read, walked over whatever Bytes answers.
-/
import Derived.Test.YtehpnebekgahnaaGreatAskM08
namespace Go.Proofs.YtehpnebekgahnaaGreat
open Go.RowKit
set_option linter.unusedVariables false

set_option maxRecDepth 100000 in
set_option maxHeartbeats 400000 in
theorem bytes_own (f : Nat) (d : ByteArray) (w : World) (c1 : w.cell? ⟨f, 1, none⟩ = some (.int .i64 0)) (c2 : w.cell? ⟨f, 2, none⟩ = some (.string d)) :
    Calls Tryz.prog 75 #[.pointer (some ⟨f, 0, none⟩)] w fun e w' => e = .returned (.tuple #[.string d, .int .i64 0]) ∧ w' = w := by
  go_enter Tryz.func75, Tryz.ntmps75
  go_wp2
  go_ret2
  exact ⟨rfl, rfl⟩

set_option maxRecDepth 100000 in
set_option maxHeartbeats 400000 in
theorem bytes_get (f b : Nat) (id er : Int) (d : ByteArray) (R : World → Prop) (w : World) (hf : f < w.heap.size) (c0 : w.cell? ⟨f, 0, none⟩ = some (.pointer (some ⟨b, 0, none⟩))) (c1 : w.cell? ⟨f, 1, none⟩ = some (.int .i64 id)) (hid : id ≠ 0)
    (hg : Calls Tryz.prog 106 #[.pointer (some ⟨b, 0, none⟩), .int .i64 id] w.drew fun e w' => e = .returned (.tuple #[.string d, .int .i64 er]) ∧ R w') :
    Calls Tryz.prog 75 #[.pointer (some ⟨f, 0, none⟩)] w fun e w' => e = .returned (.tuple #[.string d, .int .i64 er]) ∧ R w' := by
  have hid' : (id == 0) = false := by simpa using hid
  go_enter Tryz.func75, Tryz.ntmps75
  go_wp2
  go_region_with (go_at_call 106; refine hg.mono ?_; rintro e w1 ⟨rfl, hR⟩)
  all_goals
    go_wp2
    go_ret2
    exact ⟨rfl, hR⟩

set_option maxRecDepth 100000 in
set_option maxHeartbeats 400000 in
theorem clear_walk (f : Nat) (x y z : Value) (w : World) (hf : f < w.heap.size) (c0 : w.cell? ⟨f, 0, none⟩ = some x) (c1 : w.cell? ⟨f, 1, none⟩ = some y) (c2 : w.cell? ⟨f, 2, none⟩ = some z) (f0 : ∀ o, w.frozen? ⟨f, o, none⟩ = false)
    (hc : (convert 171 9 (.slice none 0 0)).run Tryz.prog w = .ok (.string ⟨#[]⟩) w) :
    Calls Tryz.prog 61 #[.pointer (some ⟨f, 0, none⟩)] w fun e w' => e = .returned (.tuple #[]) ∧ w' = ((w.setCell ⟨f, 0, none⟩ (.pointer none)).setCell ⟨f, 1, none⟩ (.int .i64 0)).setCell ⟨f, 2, none⟩ (.string ⟨#[]⟩) := by
  have hs := set_walk f (.slice none 0 0) ⟨#[]⟩ x y z w hf c0 c1 c2 f0 hc
  go_enter Tryz.func61, Tryz.ntmps61
  go_wp2_with (go_at_call 99; refine hs.mono ?_; rintro e w1 ⟨rfl, rfl⟩)
  go_end0
  exact ⟨rfl, rfl⟩

set_option maxRecDepth 100000 in
set_option maxHeartbeats 400000 in
theorem start_at (o : Nat) (fg pl n : Int) (w : World) (c1 : w.cell? ⟨o, 1, none⟩ = some (.int .i64 fg)) (c2 : w.cell? ⟨o, 2, none⟩ = some (.int .i64 pl)) (hand : (bits BinOp.and IntKind.i64 fg 32 != 0) = false) :
    Calls Tryz.prog 74 #[.pointer (some ⟨o, 0, none⟩), .int .i64 n] w fun e w' => e = .returned (.int .i64 pl) ∧ w' = w := by
  go_enter Tryz.func74, Tryz.ntmps74
  go_wp2
  go_ret
  exact ⟨rfl, rfl⟩

set_option maxRecDepth 100000 in
set_option maxHeartbeats 400000 in
theorem read_err (o f : Nat) (fg pl n er : Int) (d : ByteArray) (R : World → Prop) (w : World) (c0 : w.cell? ⟨o, 0, none⟩ = some (.pointer (some ⟨f, 0, none⟩))) (c1 : w.cell? ⟨o, 1, none⟩ = some (.int .i64 fg)) (c2 : w.cell? ⟨o, 2, none⟩ = some (.int .i64 pl))
    (hfg : (bits BinOp.and IntKind.i64 fg 1 == 0) = false) (hn : 1 ≤ n) (h0 : 0 ≤ pl) (h1 : pl < 256) (her : er ≠ 0)
    (hg : Calls Tryz.prog 75 #[.pointer (some ⟨f, 0, none⟩)] w fun e w' => e = .returned (.tuple #[.string d, .int .i64 er]) ∧ R w') :
    Calls Tryz.prog 37 #[.pointer (some ⟨o, 0, none⟩), .int .i64 n] w fun e w' => e = .returned (.tuple #[.string ⟨#[]⟩, .int .i64 er]) ∧ R w' := by
  have her' : (er == 0) = false := by simpa using her
  have hnn : ¬ n < 0 := by omega
  obtain ⟨m, hm⟩ : ∃ m, m = min n (256 - pl) := ⟨_, rfl⟩
  have hm0 : (m == 0) = false := by simp; omega
  have hwm : IntKind.i64.wrap (256 - pl) = 256 - pl := by rw [IntKind.wrap_i64] <;> omega
  go_enter Tryz.func37, Tryz.ntmps37
  go_wp2_with (go_at_call 75; refine hg.mono ?_; rintro e w1 ⟨rfl, hR⟩)
  go_ret2
  exact ⟨rfl, hR⟩

set_option maxRecDepth 100000 in
set_option maxHeartbeats 400000 in
theorem read_ok (o f : Nat) (fg pl n : Int) (d : ByteArray) (R : World → Prop) (w : World) (c0 : w.cell? ⟨o, 0, none⟩ = some (.pointer (some ⟨f, 0, none⟩))) (c1 : w.cell? ⟨o, 1, none⟩ = some (.int .i64 fg)) (c2 : w.cell? ⟨o, 2, none⟩ = some (.int .i64 pl))
    (hfg : (bits BinOp.and IntKind.i64 fg 1 == 0) = false) (hn : 1 ≤ n) (h0 : 0 ≤ pl) (h1 : pl < 256) (hd : d.size ≤ 256)
    (hg : Calls Tryz.prog 75 #[.pointer (some ⟨f, 0, none⟩)] w fun e w' => e = .returned (.tuple #[.string d, .int .i64 0]) ∧ R w')
    (hR : ∀ w1, R w1 → o < w1.heap.size ∧ w1.cell? ⟨o, 2, none⟩ = some (.int .i64 pl) ∧ w1.frozen? ⟨o, 2, none⟩ = false) :
    Calls Tryz.prog 37 #[.pointer (some ⟨o, 0, none⟩), .int .i64 n] w fun e w' => e = .returned (.tuple #[.string (d.extract (min pl.toNat d.size) (min (min pl.toNat d.size + (min n (256 - pl)).toNat) d.size)), .int .i64 0]) ∧ ∃ w1, R w1 ∧ w' = w1.setCell ⟨o, 2, none⟩ (.int .i64 (pl + (d.extract (min pl.toNat d.size) (min (min pl.toNat d.size + (min n (256 - pl)).toNat) d.size)).size)) := by
  have hnn : ¬ n < 0 := by omega
  obtain ⟨m, hm⟩ : ∃ m, m = min n (256 - pl) := ⟨_, rfl⟩
  have hm0 : (m == 0) = false := by simp; omega
  have hwm : IntKind.i64.wrap (256 - pl) = 256 - pl := by rw [IntKind.wrap_i64] <;> omega
  go_enter Tryz.func37, Tryz.ntmps37
  go_wp2_with (go_at_call 75; refine hg.mono ?_; rintro e w1 ⟨rfl, hR1⟩; obtain ⟨k0, k2, kf⟩ := hR w1 hR1)
  go_ret2
  have e1 : (min pl (d.size : Int)).toNat = min pl.toNat d.size := by omega
  have e2 : (min (min pl (d.size : Int) + min n (256 - pl)) (d.size : Int)).toNat = min (min pl.toNat d.size + (min n (256 - pl)).toNat) d.size := by omega
  have e3 : (min (min (min pl (d.size : Int) + min n (256 - pl)) (d.size : Int)).toNat d.size - (min pl (d.size : Int)).toNat : Nat) = (d.extract (min pl.toNat d.size) (min (min pl.toNat d.size + (min n (256 - pl)).toNat) d.size)).size := by
    rw [ByteArray.size_extract, ← e2, ← e1]
  rw [e3, e1, e2]
  exact ⟨rfl, w1, hR1, rfl⟩
end Go.Proofs.YtehpnebekgahnaaGreat
