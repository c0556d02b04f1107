/-
  What is proved here: 'begin': the document's own objects are put.
-/
import Derived.Test.YtogeefmegegnnaaGreatLawR
namespace Go.Proofs.YtogeefmegegnnaaGreat
open Go.RowKit Go.Sort Go.Shelf
set_option linter.unusedVariables false
variable {ft : PTail}

theorem fits_nil (k a1 a2 a3 : Int) (S T : ByteArray) (lc : Nat) (w : World) (hS : S.size ≤ maxLen) : (Step.mk k a1 a2 a3 S T none 0 lc []).Fits w :=
  ⟨hS, ⟨rfl, fun h => absurd h (Nat.lt_irrefl _)⟩, Nat.zero_le _, (fun e he => by cases he)⟩

theorem listed_lit (W : World) (es : List Ent) (t : TypeId) (cs : Array Value) (hcs : cs = (flat es).toArray) : Listed (W.alloc (.cells cs t)) (some ⟨W.heap.size, 0, none⟩) es.length es := by
  refine ⟨rfl, fun _ => ⟨W.heap.size, 0, rfl, by simp, fun j u hu => ?_⟩⟩
  have := lit_cells W (flat es) t j u hu
  rw [add_flat] at this
  rw [hcs]; exact this

def entX : Ent := (⟨#[120]⟩, 1, 1)
def entD : Ent := (⟨#[100]⟩, 2, 2)
def entA : Ent := (⟨#[97]⟩, 1, 1)

theorem fits_lit (W : World) (es : List Ent) (t : TypeId) (cs : Array Value) (hcs : cs = (flat es).toArray) (hl : es.length ≤ 16) (hs : ∀ e ∈ es, e.1.size ≤ 12) (n : Nat) (hn : n = es.length) : (Step.mk 2 0 0 0 ⟨#[]⟩ ⟨#[]⟩ (some ⟨W.heap.size, 0, none⟩) n n es).Fits (W.alloc (.cells cs t)) := by
  subst hn
  exact ⟨show ByteArray.size ⟨#[]⟩ ≤ maxLen by decide, listed_lit W es t cs hcs, Nat.le_trans hl (by decide), fun e he => Nat.le_trans (hs e he) (by decide)⟩

set_option maxRecDepth 100000 in
set_option maxHeartbeats 4000000 in
theorem begin_any (w : World) : Calls Tryz.prog 44 #[] w fun e w' => ∃ W s r q, e = .returned (.tuple #[.pointer (some ⟨W, 0, none⟩), .bool true]) ∧ q ≤ 3 ∧ Game pt0 w.heap.size w' W s r q ∧ Below w.heap.size w w' := by
  go_enter Tryz.func44, Tryz.ntmps44
  go_wp2_with fail
  refine Calls.mono (newStore_inv _) ?_
  rintro _ w1 ⟨s, rfl, hi, hb⟩
  have G0 : Hid _ := game_new hi hb
  have hz := hb.size
  clear hi
  go_wp2_with fail
  have hst := game_step G0.out (by simp; omega) (by omega) ⟨1, 0, 0, 0, ⟨#[97, 98, 99]⟩, ⟨#[]⟩, none, 0, 0, []⟩ (fits_nil _ _ _ _ _ _ _ _ (by decide)) ⟨by decide, by decide⟩
  refine Calls.mono hst ?_
  rintro _ w4 ⟨rfl, q4, hq4, g4, hb4⟩
  have G4 : Hid (Game pt0 w.heap.size w4 (w1.heap.size + 1) s w1.heap.size q4) := g4
  have hz4 : w1.heap.size + 2 ≤ w4.heap.size := by have := hb4.size; simpa using this
  have hbw4 : Below w.heap.size w w4 := ((hb.alloc hz _).alloc (by simp; omega) _).trans hb4
  clear g4 hb4 hst G0
  go_wp2_with fail
  have a5 : ∀ B, Below w4.heap.size w4 (w4.alloc B) := fun B => (Below.refl _ _).alloc (Nat.le_refl _) _
  have hst := game_step (Game.below G4.out (a5 (.cells #[.string ⟨#[120]⟩, .int .i64 1, .int .i64 1] 112))) (by simp; omega) (by omega) (Step.mk 2 0 0 0 ⟨#[]⟩ ⟨#[]⟩ (some ⟨w4.heap.size, 0, none⟩) 1 1 [entX]) (fits_lit w4 [entX] _ _ rfl (by decide) (by decide) 1 rfl) ⟨show (1 : Int) ≤ 2 by decide, show (2 : Int) ≤ 5 by decide⟩
  refine Calls.mono hst ?_
  rintro _ w5 ⟨rfl, q5, hq5, g5, hb5⟩
  have G5 : Hid (Game pt0 w.heap.size w5 (w1.heap.size + 1) s w1.heap.size q5) := g5
  have hz5 : w4.heap.size ≤ w5.heap.size := by have := hb5.size; simp at this; omega
  have hbw5 : Below w.heap.size w w5 := (hbw4.alloc (by omega) _).trans hb5
  clear g5 hb5 hst G4 a5
  go_wp2_with fail
  have a6 : ∀ B, Below w5.heap.size w5 (w5.alloc B) := fun B => (Below.refl _ _).alloc (Nat.le_refl _) _
  have hst := game_step (Game.below G5.out (a6 (.cells #[.string ⟨#[100]⟩, .int .i64 2, .int .i64 2, .string ⟨#[97]⟩, .int .i64 1, .int .i64 1] 112))) (by simp; omega) (by omega) (Step.mk 2 0 0 0 ⟨#[]⟩ ⟨#[]⟩ (some ⟨w5.heap.size, 0, none⟩) 2 2 [entD, entA]) (fits_lit w5 [entD, entA] _ _ rfl (by decide) (by decide) 2 rfl) ⟨show (1 : Int) ≤ 2 by decide, show (2 : Int) ≤ 5 by decide⟩
  refine Calls.mono hst ?_
  rintro _ w6 ⟨rfl, q6, hq6, g6, hb6⟩
  have G6 : Hid (Game pt0 w.heap.size w6 (w1.heap.size + 1) s w1.heap.size q6) := g6
  have hbw6 : Below w.heap.size w w6 := (hbw5.alloc (by omega) _).trans hb6
  clear g6 hb6 hst G5 a6
  go_wp2
  go_ret2
  exact ⟨_, s, _, q6, rfl, by omega, G6.out, hbw6⟩
end Go.Proofs.YtogeefmegegnnaaGreat
