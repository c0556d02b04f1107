/-
  What is proved here: Stat of a tree, and of a workspace, at any path: as the model says. a draft of objects: what adding one to it does to memory.
-/
import Derived.Test.YtajopoddmfdejaaGreatNearM40
import Derived.Test.YtajopoddmfdejaaGreatNearM34
import Derived.Test.YtajopoddmfdejaaGreatNearM04
namespace Go.Proofs.YtajopoddmfdejaaGreat
open Go.RowKit Go.Sort Go.Shelf
set_option linter.unusedVariables false

section
variable {s i p : Nat} {B : WB} {objs : List Ob}

end
end Go.Proofs.YtajopoddmfdejaaGreat

namespace Go.Proofs.YtajopoddmfdejaaGreat
open Go.RowKit Go.Sort Go.Shelf
set_option linter.unusedVariables false

set_option maxRecDepth 100000 in
set_option maxHeartbeats 400000 in
theorem count_any (p n cap : Nat) (a : Option Addr) (w : World) (h0 : w.cell? ⟨p, 0, none⟩ = some (.slice a n cap)) :
    Calls Tryz.prog 44 #[.pointer (some ⟨p, 0, none⟩)] w fun e w' => e = .returned (.int .i64 n) ∧ w' = w := by
  go_enter Tryz.func44, Tryz.ntmps44
  go_wp2
  go_ret
  exact ⟨rfl, rfl⟩

theorem cell_set_other {w : World} {b k o o' : Nat} {v : Value} (h : k ≠ b) : (w.setCell ⟨b, o, none⟩ v).cell? ⟨k, o', none⟩ = w.cell? ⟨k, o', none⟩ := World.cell?_of_block (a := ⟨k, o', none⟩) (Below.heap_setCell _ _ _ _ h)

/-- What a draft's 'add' leaves: the row of objects is one longer, and the draft's second cell leads to it. -/
def AddedD (w w' : World) (b : Nat) (a : Option Addr) (n cap : Nat) (xs news : List Value) : Prop :=
  ∃ g cap' w1, w1.ownsRow 0 145 4 (.slice (some ⟨g, 0, none⟩) (n + 1) cap') (n + 1) (xs ++ news) ∧ (∃ o1 o2, ((w.alloc o1).alloc o2).drew.grownBy w1 (Value.slice a n cap).ownBlock ∧ ((some g : Option Nat) = (Value.slice a n cap).ownBlock ∨ g = w.heap.size + 2)) ∧
    ∃ q, w' = (w1.setCell ⟨b, 1, none⟩ (.slice (some ⟨g, 0, none⟩) (n + 1) cap')).drewN q

set_option maxRecDepth 100000 in
set_option maxHeartbeats 800000 in
theorem dadd_some (b p : Nat) (k h : Int) (d : ByteArray) (a : Option Addr) (n cap : Nat) (xs : List Value) (ea : Option Addr) (el ec : Nat) (pa : Option Addr) (pn pc : Nat) (w : World) (hb : b < w.heap.size) (hp : p < w.heap.size) (hbp : b ≠ p) (hn : n < 4000) (hpn : pn ≤ 400)
    (k0 : w.cell? ⟨b, 0, none⟩ = some (.pointer (some ⟨p, 0, none⟩))) (k1 : w.cell? ⟨b, 1, none⟩ = some (.slice a n cap)) (f1 : w.frozen? ⟨b, 1, none⟩ = false) (q0 : w.cell? ⟨p, 0, none⟩ = some (.slice pa pn pc))
    (hown : w.ownsRow 0 145 4 (.slice a n cap) n xs) (hba : some b ≠ (Value.slice a n cap).ownBlock) (hpa : some p ≠ (Value.slice a n cap).ownBlock) :
    Calls Tryz.prog 171 #[.pointer (some ⟨b, 0, none⟩), .agg #[.int .i64 k, .string d, .slice ea el ec, .int .i64 h]] w fun e w' => e = .returned (.int .i64 ((pn : Int) + ((n + 1 : Nat) : Int))) ∧ AddedD w w' b a n cap xs [.int .i64 k, .string d, .slice ea el ec, .int .i64 h] := by
  obtain ⟨i0, hi, hz0, hz1, hz2⟩ := info_parts info51
  have h1c : ∀ u ∈ [Value.int .i64 k, .string d, .slice ea el ec, .int .i64 h], u.oneCell' = true := by intro u hu; simp at hu; rcases hu with rfl | rfl | rfl | rfl <;> rfl
  have HO : Hid (w.ownsRow 0 145 4 (.slice a n cap) n xs) := hown
  have HB : Hid (some b ≠ (Value.slice a n cap).ownBlock) := hba
  have HP : Hid (some p ≠ (Value.slice a n cap).ownBlock) := hpa
  have H1 : Hid (∀ u ∈ [Value.int .i64 k, .string d, .slice ea el ec, .int .i64 h], u.oneCell' = true) := h1c
  have hcnt := fun W h => count_any p pn pc pa W h
  have hpb : ¬ p = b := fun e => hbp e.symm
  clear hown hba hpa h1c
  go_enter Tryz.func171, Tryz.ntmps171
  go_wp2
  go_region_law (refine step_append_own_at rfl (.tmp 9) (.tmp 11) 132 rfl 0 145 i0 _ 4 56 Tryz.underlying132 hi hz0 hz1 hz2 rfl (by decide) (.slice a n cap) n xs (by simp [Act.eval]) ((HO.out.alloc _).alloc _) ⟨w.heap.size + 1, 0, none⟩ 1 1 [.int .i64 k, .string d, .slice ea el ec, .int .i64 h] (by simp [Act.eval]) rfl (by have q := cells4 (w.alloc (.cells #[.int .i64 k, .string d, .slice ea el ec, .int .i64 h] 145)) (.int .i64 k) (.string d) (.slice ea el ec) (.int .i64 h) 145; rw [World.size_alloc] at q; exact q) H1.out (by unfold maxLen; omega) (by omega) (Nat.zero_le _) ?_; intro v' w1 hown' hgrow hloc; obtain ⟨g, cap', rfl⟩ := slice_of_owns hown' (by omega); have k0' := grown_cell hgrow hb HB.out k0; have k1' := grown_cell hgrow hb HB.out k1; have k2' := grown_frozen hgrow hb HB.out f1; have q0' := grown_cell hgrow hp HP.out q0)
  all_goals
    have q1 : ∀ X : Value, (w1.setCell ⟨b, 1, none⟩ X).cell? ⟨p, 0, none⟩ = some (.slice pa pn pc) := fun X => (cell_set_other hpb).trans q0'
    have HFIN : Hid (∀ q, AddedD w ((w1.setCell ⟨b, 1, none⟩ (.slice (some ⟨g, 0, none⟩) (n + 1) cap')).drewN q) b a n cap xs [.int .i64 k, .string d, .slice ea el ec, .int .i64 h]) := fun q => ⟨g, cap', w1, hown', ⟨_, _, hgrow, by simpa [Value.ownBlock] using hloc⟩, q, rfl⟩
    clear hgrow hown' hloc q0' HO HB HP H1
    obtain ⟨m, hm⟩ : ∃ m, n + 1 = m := ⟨_, rfl⟩
    have hmb : m ≤ 4000 := by omega
    rw [hm] at HFIN ⊢
    have HM : Hid (n + 1 = m) := hm
    clear hm
    go_wp2
    go_quiet (first | (go_at_call 44; exact Calls.quiet_of_same (hcnt _ (q1 _))))
    go_wp2
    go_ret
    obtain rfl := HM.out
    exact ⟨rfl, HFIN.out _⟩

end Go.Proofs.YtajopoddmfdejaaGreat
