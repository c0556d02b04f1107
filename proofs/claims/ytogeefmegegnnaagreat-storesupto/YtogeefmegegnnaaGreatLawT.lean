/-
  What is proved here: 'plays', for the kinds of steps that a store has; 'Stores'.
-/
import Derived.Test.YtogeefmegegnnaaGreatLawS
namespace Go.Proofs.YtogeefmegegnnaaGreat
open Go.RowKit Go.Sort Go.Shelf
set_option linter.unusedVariables false
variable {ft : PTail}

/-- A script in memory. -/
structure Scripted (w : World) (a : Option Addr) (n : Nat) (ops : List Step) : Prop where
  len : ops.length = n
  many : n ≤ 2097152
  cells : ∀ i (hi : i < ops.length), ∃ b off, a = some ⟨b, off, none⟩ ∧ b < w.heap.size ∧ w.cell? ⟨b, off + i * 7, none⟩ = some (.int .i64 ops[i].kind) ∧ w.cell? ⟨b, off + i * 7 + 1, none⟩ = some (.int .i64 ops[i].a1) ∧ w.cell? ⟨b, off + i * 7 + 2, none⟩ = some (.int .i64 ops[i].a2) ∧ w.cell? ⟨b, off + i * 7 + 3, none⟩ = some (.int .i64 ops[i].a3) ∧
    w.cell? ⟨b, off + i * 7 + 4, none⟩ = some (.string ops[i].S) ∧ w.cell? ⟨b, off + i * 7 + 5, none⟩ = some (.string ops[i].T) ∧ w.cell? ⟨b, off + i * 7 + 6, none⟩ = some (.slice ops[i].la ops[i].lm ops[i].lc)
  fits : ∀ o ∈ ops, o.Fits w

theorem Step.Fits.below {o : Step} {w w' : World} (h : o.Fits w) (hb : Below w.heap.size w w') : o.Fits w' := ⟨h.S, h.list.below hb, h.many, h.names⟩

set_option maxRecDepth 100000 in
set_option maxHeartbeats 8000000 in
theorem plays_any (w : World) (a : Option Addr) (n c : Nat) (ops : List Step) (h : Scripted w a n ops) :
    Calls Tryz.prog 14 #[.slice a n c, .int .i64 5, .bool false] w fun e w' => e = .returned (.bool true) ∧ Below w.heap.size w w' := by
  have HS : Hid (Scripted w a n ops) := h
  have hmany := h.many
  clear h
  go_enter Tryz.func14, Tryz.ntmps14
  go_wp2_with fail
  refine Calls.mono (begin_any w) ?_
  rintro _ w1 ⟨W, s, r, q0, rfl, hq0, g, hb⟩
  have G : Hid (Game pt0 w.heap.size w1 W s r q0) := g
  clear g
  go_wp2
  go_loopw [8, 9] (fun ok i wr => ∃ k q : Nat, k ≤ n ∧ ok = .bool true ∧ i = .int .i64 (k : Int) ∧ q ≤ 3 + k ∧ Hid (Game pt0 w.heap.size wr W s r q) ∧ Below w.heap.size w wr) (fun _ i _ => n - (intOf i).toNat)
  case atStart => exact ⟨0, q0, Nat.zero_le _, rfl, rfl, hq0, G.out, hb⟩
  case round =>
    obtain ⟨k, q, hk, rfl, rfl, hq, GR, hbr⟩ := hrel
    clear hb G
    have hwr := hbr.size
    have hWr := (Game.cells GR.out).2
    by_cases hlt : k < n
    · have hko : k < ops.length := by rw [HS.out.len]; exact hlt
      obtain ⟨b, off, ha, hbl, x0, x1, x2, x3, x4, x5, x6⟩ := HS.out.cells k hko
      have HF : Hid (ops[k].Fits w) := HS.out.fits _ (List.getElem_mem hko)
      obtain ⟨o, ho⟩ : ∃ o, o = ops[k] := ⟨_, rfl⟩
      rw [← ho] at x0 x1 x2 x3 x4 x5 x6 HF
      obtain ⟨kind, a1, a2, a3, S, T, la, lm, lc, es⟩ := o
      simp only at x0 x1 x2 x3 x4 x5 x6
      have y0 := (hbr.cell (p := ⟨b, off + k * 7, none⟩) hbl).trans x0
      have y1 := (hbr.cell (p := ⟨b, off + k * 7 + 1, none⟩) hbl).trans x1
      have y2 := (hbr.cell (p := ⟨b, off + k * 7 + 2, none⟩) hbl).trans x2
      have y3 := (hbr.cell (p := ⟨b, off + k * 7 + 3, none⟩) hbl).trans x3
      have y4 := (hbr.cell (p := ⟨b, off + k * 7 + 4, none⟩) hbl).trans x4
      have y5 := (hbr.cell (p := ⟨b, off + k * 7 + 5, none⟩) hbl).trans x5
      have y6 := (hbr.cell (p := ⟨b, off + k * 7 + 6, none⟩) hbl).trans x6
      have hblr : b < wr.heap.size := by omega
      have hkn : (k : Int) < (n : Int) := by omega
      have HST : Hid (∀ B, Calls Tryz.prog 48 #[.pointer (some ⟨W, 8, none⟩)] (wr.alloc B) fun e w' => e = .returned (.bool true) ∧ w' = wr.alloc B) := fun B => game_still (Game.below GR.out ((Below.refl _ _).alloc (Nat.le_refl _) B)) (by omega)
      subst ha
      clear x0 x1 x2 x3 x4 x5 x6 ho
      by_cases hin : 1 ≤ kind ∧ kind ≤ 5
      · have HPL : Hid (∀ B, Calls Tryz.prog 45 #[.pointer (some ⟨W, 0, none⟩), .agg #[.int .i64 kind, .int .i64 a1, .int .i64 a2, .int .i64 a3, .string S, .string T, .slice la lm lc]] (wr.alloc B) fun e w' => e = .returned (.bool true) ∧ ∃ q', q' ≤ q + 1 ∧ Game pt0 w.heap.size w' W s r q' ∧ Below w.heap.size (wr.alloc B) w') := fun B =>
          game_step (Game.below GR.out ((Below.refl _ _).alloc (Nat.le_refl _) B)) (by simp; omega) (by omega) ⟨kind, a1, a2, a3, S, T, la, lm, lc, es⟩ (HF.out.below (hbr.alloc hwr B)) hin
        obtain ⟨h1, h5⟩ := hin
        have t1 : decide (kind < 1) = false := decide_eq_false (by omega)
        have t2 : decide (5 < kind) = false := decide_eq_false (by omega)
        have t3 : (kind == 21) = false := by simp; omega
        have t4 : kind ≤ 7 := by omega
        have t5 : kind < 6 := by omega
        go_wp2_with (first
          | (go_at_call 45; refine Calls.mono (HPL.out _) ?_; rintro _ w4 ⟨rfl, q', hq', g4, hb4⟩; have G4 : Hid (Game pt0 w.heap.size w4 W s r q') := g4; have hWr4 := (Game.cells g4).2; have hbw4 : Below w.heap.size w w4 := (hbr.alloc hwr _).trans hb4; clear g4 hb4; have HST4 : Hid _ := game_still G4.out (by omega))
          | (go_at_call 48; refine Calls.mono HST4.out ?_; rintro _ _ ⟨rfl, rfl⟩))
        go_roundw
        case rel => exact ⟨k + 1, q', by omega, rfl, by go_num, by omega, G4.out, hbw4⟩
        case measure => simp [intOf]; omega
      · have HG : Hid (∀ B, Game pt0 w.heap.size (wr.alloc B) W s r q) := fun B => Game.below GR.out ((Below.refl _ _).alloc (Nat.le_refl _) B)
        by_cases h1 : kind < 1
        · go_wp2_with (go_at_call 48; refine Calls.mono (HST.out _) ?_; rintro _ _ ⟨rfl, rfl⟩)
          go_roundw
          case rel => exact ⟨k + 1, q, by omega, rfl, by go_num, by omega, HG.out _, hbr.alloc hwr _⟩
          case measure => simp [intOf]; omega
        · have t1 : decide (kind < 1) = false := decide_eq_false h1
          have t2 : 5 < kind := by omega
          go_wp2_with (go_at_call 48; refine Calls.mono (HST.out _) ?_; rintro _ _ ⟨rfl, rfl⟩)
          go_roundw
          case rel => exact ⟨k + 1, q, by omega, rfl, by go_num, by omega, HG.out _, hbr.alloc hwr _⟩
          case measure => simp [intOf]; omega
    · have hnl : decide ((k : Int) < (n : Int)) = false := decide_eq_false (by omega)
      go_wp2
      go_ret
      exact ⟨rfl, hbr⟩

set_option maxRecDepth 100000 in
theorem stores_walk (w : World) (a : Option Addr) (n c : Nat) (ops : List Step) (h : Scripted w a n ops) :
    Calls Tryz.prog 3 #[.slice a n c] w fun e w' => e = .returned (.bool true) ∧ Below w.heap.size w w' := by
  have hp := plays_any w a n c ops h
  clear h
  go_enter Tryz.func3, Tryz.ntmps3
  go_wp2_with fail
  refine Calls.mono hp ?_
  rintro _ w1 ⟨rfl, hb⟩
  go_wp2
  go_ret
  exact ⟨rfl, hb⟩
end Go.Proofs.YtogeefmegegnnaaGreat
