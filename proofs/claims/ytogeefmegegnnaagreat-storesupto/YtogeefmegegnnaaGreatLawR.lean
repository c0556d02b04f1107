/-
  What is proved here: what holds between two steps ('Game'); 'still'; 'begin'.
-/
import Derived.Test.YtogeefmegegnnaaGreatLawQ
namespace Go.Proofs.YtogeefmegegnnaaGreat
open Go.RowKit Go.Sort Go.Shelf
set_option linter.unusedVariables false
variable {ft : PTail}

/-- Between two steps: all that the law, the document and the store have lies past B. -/
def Game (ft : PTail) (B : Nat) (w : World) (W s r q : Nat) : Prop :=
  ∃ FL FR FS FH objs ros ea ec hs, W3 ft FL FR FS w W s r objs ros (.slice none 0 0) (.slice none 0 0) (.bool false) (.slice none 0 0) (.slice ea (4 * q) ec) (.slice none 0 0) (.slice none 0 0) ∧ Held FH w ea ec q hs ∧ (∀ k, FH k → ¬ F3 FL FR FS k) ∧ ∀ k, F3 FL FR FS k ∨ FH k → B ≤ k

theorem Game.below {B : Nat} {w w' : World} {W s r q : Nat} (g : Game ft B w W s r q) (hb : Below w.heap.size w w') : Game ft B w' W s r q := by
  obtain ⟨FL, FR, FS, FH, objs, ros, ea, ec, hs, h, hh, hap, hB⟩ := g
  exact ⟨FL, FR, FS, FH, objs, ros, ea, ec, hs, h.below hb, hh.keep (fun k hk => hb.block k (hh.lt k hk)) hb.size, hap, hB⟩

theorem Game.cells {B : Nat} {w : World} {W s r q : Nat} (g : Game ft B w W s r q) : w.cell? ⟨W, 0, none⟩ = some (.pointer (some ⟨s, 0, none⟩)) ∧ W < w.heap.size := by
  obtain ⟨FL, FR, FS, FH, objs, ros, ea, ec, hs, h, hh, hap, hB⟩ := g
  exact ⟨(LawS.cells h.law).1, (LawS.cells h.law).2.2.1⟩

theorem game_step {B : Nat} {w : World} {W s r q : Nat} (g : Game ft B w W s r q) (hBw : B ≤ w.heap.size) (hq : 4 * q ≤ 1000000000) (o : Step) (ho : o.Fits w) (hk : 1 ≤ o.kind ∧ o.kind ≤ 5) :
    Calls Tryz.prog 45 #[.pointer (some ⟨W, 0, none⟩), o.val] w fun e w' => e = .returned (.bool true) ∧ ∃ q', q' ≤ q + 1 ∧ Game ft B w' W s r q' ∧ Below B w w' := by
  obtain ⟨FL, FR, FS, FH, objs, ros, ea, ec, hs, h, hh, hap, hB⟩ := g
  refine (store_step h hh hap hq o ho hk).mono fun e w' ⟨he, q', hq', FL', FR', FS', FH', objs', ros', ea', ec', hs', h', hh', hap', hsub, hkp⟩ => ⟨he, q', hq', ⟨FL', FR', FS', FH', objs', ros', ea', ec', hs', h', hh', hap', fun k hk => ?_⟩, ⟨hkp.os, hkp.tape, hkp.output, hkp.size, fun k hk => hkp.block k (by omega) (fun hf => by have := hB k hf; omega)⟩⟩
  rcases hsub k hk with e | e
  · exact hB k e
  · omega

theorem game_still {B : Nat} {w : World} {W s r q : Nat} (g : Game ft B w W s r q) (hq : 4 * q ≤ 1000000000) :
    Calls Tryz.prog 48 #[.pointer (some ⟨W, 8, none⟩)] w fun e w' => e = .returned (.bool true) ∧ w' = w := by
  obtain ⟨FL, FR, FS, FH, objs, ros, ea, ec, hs, h, hh, hap, hB⟩ := g
  obtain ⟨a0, a1, a2, a3, a4, hW⟩ := h.block
  have e8 : w.cell? ⟨W, 8, none⟩ = some (.slice none 0 0) := by simp [World.cell?, hW]
  have e9 : w.cell? ⟨W, 9, none⟩ = some (.slice ea (4 * q) ec) := by simp [World.cell?, hW]
  have e10 : w.cell? ⟨W, 10, none⟩ = some (.slice none 0 0) := by simp [World.cell?, hW]
  have e11 : w.cell? ⟨W, 11, none⟩ = some (.slice none 0 0) := by simp [World.cell?, hW]
  rw [← hh.len] at e9 hq
  have row := hh.row
  rw [← hh.len] at row
  refine still_any W ea ec hs w (LawS.cells h.law).2.2.1 e8 e9 e10 e11 row hh.full hq (fun x hx => ?_)
  obtain ⟨i, hi, rfl⟩ := List.getElem_of_mem hx
  have := (hh.lists i hi).1
  omega

/-- A new store, a new document's store, a new world of the law. -/
theorem game_new {w w1 : World} {s : Nat} (hi : Inv ft (NewF (fun _ => False) w w1) w1 s []) (hb : Below w.heap.size w w1) :
    Game ft w.heap.size ((w1.alloc (.cells #[.slice none 0 0] 147)).alloc (.cells #[.pointer (some ⟨s, 0, none⟩), .pointer (some ⟨w1.heap.size, 0, none⟩), .slice none 0 0, .slice none 0 0, .slice none 0 0, .slice none 0 0, .slice none 0 0, .bool false, .slice none 0 0, .slice none 0 0, .slice none 0 0, .slice none 0 0] 106)) (w1.heap.size + 1) s w1.heap.size 0 := by
  have z := hb.size
  obtain ⟨w2, hw2⟩ : ∃ w2, w2 = w1.alloc (.cells #[.slice none 0 0] 147) := ⟨_, rfl⟩
  rw [← hw2]
  obtain ⟨w3, hw3⟩ : ∃ w3, w3 = w2.alloc (.cells #[.pointer (some ⟨s, 0, none⟩), .pointer (some ⟨w1.heap.size, 0, none⟩), .slice none 0 0, .slice none 0 0, .slice none 0 0, .slice none 0 0, .slice none 0 0, .bool false, .slice none 0 0, .slice none 0 0, .slice none 0 0, .slice none 0 0] 106) := ⟨_, rfl⟩
  rw [← hw3]
  have s2 : w2.heap.size = w1.heap.size + 1 := by rw [hw2]; simp
  have s3 : w3.heap.size = w1.heap.size + 2 := by rw [hw3]; simp [s2]
  have hr : w3.heap[w1.heap.size]? = some (.cells #[.slice none 0 0] 147 (0, 0)) := by
    rw [hw3, Below.heap_alloc _ _ _ (by omega), hw2]
    exact heap_alloc_new _ _
  have hW : w3.heap[w1.heap.size + 1]? = some (.cells #[.pointer (some ⟨s, 0, none⟩), .pointer (some ⟨w1.heap.size, 0, none⟩), .slice none 0 0, .slice none 0 0, .slice none 0 0, .slice none 0 0, .slice none 0 0, .bool false, .slice none 0 0, .slice none 0 0, .slice none 0 0, .slice none 0 0] 106 (0, 0)) := by
    rw [hw3, ← s2]
    exact heap_alloc_new _ _
  have hk : ∀ k, k < w1.heap.size → w3.heap[k]? = w1.heap[k]? := fun k hk => by
    rw [hw3, Below.heap_alloc _ _ _ (by omega), hw2, Below.heap_alloc _ _ _ hk]
  refine ⟨fun k => k = w1.heap.size + 1, fun k => k = w1.heap.size, NewF (fun _ => False) w w1, fun _ => False, [], [], none, 0, [], ⟨?_, ?_, ?_, ?_, ?_, ?_⟩, ?_, ?_, ?_⟩
  · exact ⟨none, none, none, 0, 0, 0, [], ⟨rfl, hW, World.ownsRow_nil _ _ _ _, World.ownsRow_nil _ _ _ _, World.ownsRow_nil _ _ _ _, (fun g hg => by cases hg), (fun g hg => by cases hg), (fun g hg => by cases hg)⟩, rfl, (fun p hp => by cases hp)⟩
  · exact ⟨none, 0, ⟨rfl, (fun g hg => by cases hg), hr, World.ownsRow_nil _ _ _ _, by simp, (fun o ho => by cases ho)⟩⟩
  · exact Inv.keep hi (fun _ h => h) (fun k hk' => hk k (by rcases hk' with h | h; exact h.elim; exact h.2))
  · exact ⟨rfl, (fun i h1 => by cases h1), (fun o ho => by cases ho)⟩
  · intro i hi; cases hi
  · refine ⟨fun k hk' => by omega, fun k hk' => ⟨by omega, by omega⟩, fun k hk' => ?_, fun k hk' hs => ?_⟩
    · rcases hk' with h | h
      · exact h.elim
      · have := h.2; exact ⟨by omega, by omega⟩
    · rcases hs with h | h
      · exact h.elim
      · have := h.2; omega
  · exact ⟨rfl, World.ownsRow_nil _ _ _ _, (fun g hg => by cases hg), (fun i hi => by cases hi), fun k hk => hk.elim⟩
  · intro k hk; exact hk.elim
  · intro k hk'
    rcases hk' with (h | h | h) | h
    · omega
    · omega
    · rcases h with h | h
      · exact h.elim
      · exact h.1
    · exact h.elim
end Go.Proofs.YtogeefmegegnnaaGreat
