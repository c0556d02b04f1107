/-
  What is proved here: 'entries': what is in the directory that stands at a path.
-/
import Derived.Test.YtajopoddmfdejaaGreatNearM11
namespace Go.Proofs.YtajopoddmfdejaaGreat
open Go.RowKit Go.Sort Go.Shelf
set_option linter.unusedVariables false

theorem keyVP {q : List ByteArray} (hq : Good q) : keyOf Tryz.prog 104 (.agg (pathA q)) = some (keyP Tryz.prog q) := keyOf_path hq.val

set_option maxRecDepth 100000 in
set_option maxHeartbeats 400000 in
theorem ents_not (t : Nat) (s0 s1 s2 s3 s4 nm : ByteArray) (k id : Int) (w : World) (hk : k ≠ 2) :
    Calls Tryz.prog 118 #[.pointer (some ⟨t, 0, none⟩), .agg #[.string s0, .string s1, .string s2, .string s3, .string s4], .agg #[.string nm, .int .i64 k, .int .i64 id]] w fun e w' => e = .returned (.tuple #[.slice none 0 0, .int .i64 5]) ∧ Below w.heap.size w w' := by
  have hk' : (k == 2) = false := by simpa using hk
  go_enter Tryz.func118, Tryz.ntmps118
  go_wp2
  go_ret2
  exact ⟨rfl, ((Below.refl _ _).alloc (Nat.le_refl _) _).alloc (by simp) _⟩

set_option maxRecDepth 100000 in
set_option maxHeartbeats 400000 in
theorem ents_own (t m : Nat) (s0 s1 s2 s3 s4 nm : ByteArray) (v : Value) (w : World) (ht : t < w.heap.size) (c8 : w.cell? ⟨t, 8, none⟩ = some (.map (some m)))
    (hlk : ∀ W, Below w.heap.size w W → (Instr.lookup 128 (.map (some m)) (.agg #[.string s0, .string s1, .string s2, .string s3, .string s4]) false).run Tryz.prog W = .ok v W) :
    Calls Tryz.prog 118 #[.pointer (some ⟨t, 0, none⟩), .agg #[.string s0, .string s1, .string s2, .string s3, .string s4], .agg #[.string nm, .int .i64 2, .int .i64 0]] w fun e w' => e = .returned (.tuple #[v, .int .i64 0]) ∧ Below w.heap.size w w' := by
  have hl := hlk _ (below_drew (((Below.refl w.heap.size w).alloc (Nat.le_refl _) (.cells #[.string s0, .string s1, .string s2, .string s3, .string s4] 104)).alloc (by simp) (.cells #[.string nm, .int .i64 2, .int .i64 0] 76)))
  clear hlk
  go_enter Tryz.func118, Tryz.ntmps118
  go_wp2
  go_region
  all_goals
    go_wp2
    go_ret2
    exact ⟨rfl, below_drew (((Below.refl _ _).alloc (Nat.le_refl _) _).alloc (by simp) _)⟩

set_option maxRecDepth 100000 in
set_option maxHeartbeats 400000 in
theorem ents_get (t d : Nat) (s0 s1 s2 s3 s4 nm : ByteArray) (id : Int) (R : Value → Int → World → World → Prop) (w : World) (ht : t < w.heap.size) (c2 : w.cell? ⟨t, 2, none⟩ = some (.pointer (some ⟨d, 0, none⟩))) (hid : id ≠ 0)
    (hget : ∀ W, Below w.heap.size w W → Calls Tryz.prog 150 #[.pointer (some ⟨d, 0, none⟩), .int .i64 id] W fun e w' => ∃ v er, e = .returned (.tuple #[v, .int .i64 er]) ∧ R v er W w') :
    Calls Tryz.prog 118 #[.pointer (some ⟨t, 0, none⟩), .agg #[.string s0, .string s1, .string s2, .string s3, .string s4], .agg #[.string nm, .int .i64 2, .int .i64 id]] w fun e w' => ∃ v er W, Below w.heap.size w W ∧ e = .returned (.tuple #[v, .int .i64 er]) ∧ R v er W w' := by
  have hW := below_drew (((Below.refl w.heap.size w).alloc (Nat.le_refl _) (.cells #[.string s0, .string s1, .string s2, .string s3, .string s4] 104)).alloc (by simp) (.cells #[.string nm, .int .i64 2, .int .i64 id] 76))
  have hg := hget _ hW
  have HW : Hid _ := hW
  have hid' : (id == 0) = false := by simpa using hid
  clear hget hW
  go_enter Tryz.func118, Tryz.ntmps118
  go_wp2
  go_region_with (go_at_call 150; refine hg.mono ?_; rintro e w1 ⟨v, er, rfl, hR⟩; have HR : Hid _ := hR; clear hR)
  all_goals
    go_wp2
    go_ret2
    exact ⟨v, er, _, HW.out, rfl, HR.out⟩

end Go.Proofs.YtajopoddmfdejaaGreat
