/-
  What is proved here: canopykeep's Back returns true, and what was there stands. the steps that came in, as they lie in memory. closed facts of the row of 'Back', each by itself (all in one would take too much memory).
-/
import Derived.Test.YtajopoddmfdejaaGreatBackM51
import Derived.Test.YtajopoddmfdejaaGreatBackM48
import Derived.Test.YtajopoddmfdejaaGreatRows
import Derived.Deep.Slices
import Derived.Deep.Strs
import Derived.ChangeShapes
import Derived.Test.YtajopoddmfdejaaGreatChecked
import Derived.JoinedCond
namespace Go.Proofs.YtajopoddmfdejaaGreat
open Go.RowKit Go.Sort Go.Shelf
set_option linter.unusedVariables false

theorem BSt.old {W wr : World} {s p : Nat} {B : WB} {objs : List Ob} {id : Int} {lim : Nat} {t : LT} (h : BSt W wr s p B objs id lim t) : Below W.heap.size W wr := by
  obtain ⟨_, _, hO, _⟩ := h
  exact hO.1

set_option maxRecDepth 100000 in
set_option maxHeartbeats 8000000 in
theorem back_walk (W : World) (a : Option Addr) (len cap : Nat) (c d : Int) (hS : StepsAt W a len) (hlen : len ≤ maxLen) (hc : i64 c) (hd : i64 d) :
    Calls Tryz.prog 6 #[.slice a len cap, .int .i64 c, .int .i64 d] W fun e w' => e = .returned (.bool true) ∧ Below W.heap.size W w' := by
  have hmd := made_walk W a len cap hS hlen
  have hpc := fun w => path_exact c w hc
  have hpd := fun w => path_exact d w hd
  obtain ⟨nc, rc, ec⟩ := (pathL_letters c).split
  obtain ⟨nd, rd, ed⟩ := (pathL_letters d).split
  have gc := (pathL_letters c).good
  have gd := (pathL_letters d).good
  rw [ec] at hpc gc
  rw [ed] at hpd gd
  have HST : Hid (∀ {wr : World} {s p : Nat} {B : WB} {objs : List Ob} {id : Int} {lim : Nat} {t : LT}, BSt W wr s p B objs id lim t → lim ≤ 100000 → Calls Tryz.prog 28 #[.pointer (some ⟨B.wb, 0, none⟩), .string (joinB (rd.reverse ++ [nd]))] wr fun e w' => ∃ k sz er : Int, e = .returned (.tuple #[.agg #[.int .i64 k, .int .i64 sz], .int .i64 er]) ∧ (er = 4 → t.at objs (rd.reverse ++ [nd]) = none) ∧ BSt W w' s p B objs id (lim + 400) t) := by
    intro wr s p B objs id lim t h hl
    have := b_stat h hl (r := nd :: rd) (by rw [List.reverse_cons]; exact gd)
    rw [List.reverse_cons] at this
    exact this
  have HRN : Hid _ := @b_rename W
  have HBK : Hid _ := @b_back W
  have HGC : Hid _ := And.intro gc gd
  clear hS hc hd ec ed gc gd
  go_enter Tryz.func6, Tryz.ntmps6
  go_wp2_with fail
  refine Calls.mono hmd ?_
  rintro e w1 ⟨s, p, id, rfl, hM⟩
  obtain ⟨objs, hObs, hwk⟩ := b_work hM
  have HW : Hid _ := hwk
  have HO : Hid _ := hObs
  clear hmd hM hwk hObs
  go_wp2_with fail
  refine Calls.mono HW.out ?_
  rintro e w2 ⟨B, rfl, hB⟩
  have HB : Hid _ := HST.out hB (by decide)
  clear HW hB
  go_wp2_with fail
  refine Calls.mono (hpd _) ?_
  rintro e w2' ⟨rfl, rfl⟩
  go_wp2_with fail
  refine Calls.mono HB.out ?_
  rintro e w3 ⟨k, sz, es, rfl, hes, hB3⟩
  have HB3 : Hid _ := fun X => HRN.out (hB3.below ((Below.refl w3.heap.size w3).alloc (Nat.le_refl _) X)) (by decide) HGC.out.1 HGC.out.2
  have HES : Hid _ := hes
  clear HB hB3 hes
  go_wp2_with fail
  refine Calls.mono (hpc _) ?_
  rintro e w3' ⟨rfl, rfl⟩
  go_wp2_with fail
  refine Calls.mono (hpd _) ?_
  rintro e w3' ⟨rfl, rfl⟩
  go_wp2_with fail
  refine Calls.mono (HB3.out _) ?_
  rintro e w4 ⟨er, rfl, t1, hB4, hne, hR⟩
  clear HB3
  by_cases her : er = 0
  · subst her
    by_cases hes4 : es = 4
    · subst hes4
      obtain ⟨df, dt, c1, kf, kt, hRen⟩ := hR rfl (HES.out rfl)
      have HB5 : Hid _ := HBK.out HO.out hB4 (by decide) HGC.out.1 HGC.out.2 hRen
      clear hR hne hB4 hRen HES
      go_wp2_with fail
      refine Calls.mono (hpd _) ?_
      rintro e w4' ⟨rfl, rfl⟩
      go_wp2_with fail
      refine Calls.mono (hpc _) ?_
      rintro e w4' ⟨rfl, rfl⟩
      go_wp2_with fail
      refine Calls.mono HB5.out ?_
      rintro e w5 ⟨rfl, t2, hB5, hsem, hcnt⟩
      have HS5 : Hid _ := And.intro (b_status HO.out hB5 ⟨hsem, hcnt⟩) (And.intro hsem hcnt)
      clear HB5 hB5 hsem hcnt
      go_wp2_with fail
      refine Calls.mono HS5.out.1 ?_
      rintro e w6 ⟨rfl, hB6⟩
      have HC6 : Hid _ := b_commit HO.out hB6 HS5.out.2
      clear hB6
      go_wp2_with fail
      refine Calls.mono HC6.out ?_
      rintro e w7 ⟨rfl, hb7⟩
      have HB7 : Hid _ := hb7
      clear hb7 HC6
      go_wp2
      go_ret
      exact ⟨rfl, HB7.out⟩
    · have hes' : (es == 4) = false := by simpa using hes4
      have HB4 : Hid _ := hB4.old
      clear hR hne hB4 HES hes4
      go_wp2
      go_ret
      exact ⟨rfl, HB4.out⟩
  · have her' : (er == 0) = false := by simpa using her
    have ht := hne her
    rw [ht] at hB4
    have HS5 : Hid _ := b_status HO.out hB4 (asBase_dir objs id)
    clear hR hne hB4 HES ht her
    go_wp2_with fail
    refine Calls.mono HS5.out ?_
    rintro e w6 ⟨rfl, hB6⟩
    have HC6 : Hid _ := b_commit HO.out hB6 (asBase_dir objs id)
    clear hB6 HS5
    go_wp2_with fail
    refine Calls.mono HC6.out ?_
    rintro e w7 ⟨rfl, hb7⟩
    have HB7 : Hid _ := hb7
    clear hb7 HC6
    go_wp2
    go_ret
    exact ⟨rfl, HB7.out⟩

end Go.Proofs.YtajopoddmfdejaaGreat

namespace Go.Proofs.YtajopoddmfdejaaGreat
open Go.RowKit Go.Sort Go.Shelf Go.ChangeShapes Go.WideShapes Go.Deep
set_option linter.unusedVariables false

theorem nStep : Tryz.prog.cellsOf 24 = 4 := by kernel_rfl
theorem nStr1 : Tryz.prog.cellsOf 9 = 1 := by kernel_rfl
theorem nInt1 : Tryz.prog.cellsOf 3 = 1 := by kernel_rfl

theorem i64_of {n : Int} (h : (Lit.int .i64 n).wf = true) : i64 n := by
  simp [Lit.wf] at h
  exact h

theorem add_plain (g o j : Nat) : (⟨g, o, none⟩ : Addr).add j = ⟨g, o + j, none⟩ := by
  unfold Addr.add
  split
  · next h => subst h; rfl
  · rfl
theorem cell_of {w : World} {a : Addr} {i : Nat} {v : Value} (hs : a.spot = none) (h : w.cell? (a.add i) = some v) : w.cell? ⟨a.block, a.off + i, none⟩ = some v := by
  obtain ⟨b, o, sp⟩ := a
  simp only at hs
  subst hs
  rw [add_plain] at h
  exact h
theorem add_blk (a : Addr) (n : Nat) : (a.add n).block = a.block := by unfold Addr.add; split <;> rfl

section
variable {H : Type} {enc : TypeId × Value → H} {w : World} {base : Nat} {sp : Nat → Bool} {held : Bool}

theorem trod_struct4 {P : Program} {t : TypeId} {f0 f1 f2 f3 : Field} {fuel : Nat} {cs : List Value} {x : DataW H × List MemPlace} (ht : P.underlying t = some (.struct #[f0, f1, f2, f3])) (h : DataW.trod enc P w base sp held fuel t cs = some x) :
    ∃ y0 y1 y2 y3 n, cs.length = P.cellsOf t ∧ DataW.trod enc P w base sp held n f0.type ((cs.drop f0.offset).take (P.cellsOf f0.type)) = some y0 ∧ DataW.trod enc P w base sp held n f1.type ((cs.drop f1.offset).take (P.cellsOf f1.type)) = some y1 ∧
      DataW.trod enc P w base sp held n f2.type ((cs.drop f2.offset).take (P.cellsOf f2.type)) = some y2 ∧ DataW.trod enc P w base sp held n f3.type ((cs.drop f3.offset).take (P.cellsOf f3.type)) = some y3 := by
  obtain ⟨xs, n, _, rfl, hl, hlen, hf⟩ := DataW.trod_struct ht h
  match xs, hlen with
  | [y0, y1, y2, y3], _ => exact ⟨y0, y1, y2, y3, n, hl, by simpa using hf 0 f0 rfl, by simpa using hf 1 f1 rfl, by simpa using hf 2 f2 rfl, by simpa using hf 3 f3 rfl⟩

set_option maxRecDepth 100000 in
theorem open_step {n : Nat} {cs : List Value} {x : DataW H × List MemPlace} (h : DataW.trod enc Tryz.prog w base sp held n 24 cs = some x) : ∃ kd a b d, cs = [.int .i64 kd, .int .i64 a, .int .i64 b, .string d] ∧ i64 kd ∧ i64 a ∧ i64 b ∧ d.size ≤ maxLen := by
  obtain ⟨y0, y1, y2, y3, n', hl, g0, g1, g2, g3⟩ := trod_struct4 Tryz.underlying24 h
  rw [nStep] at hl
  match cs, hl with
  | [v0, v1, v2, v3], _ =>
    simp only [nStr1, nInt1, List.drop_zero, List.drop_succ_cons, List.take_succ_cons, List.take_zero] at g0 g1 g2 g3
    obtain ⟨i0, e0, _, w0⟩ := DataW.trod_int Tryz.underlying3 g0
    obtain ⟨i1, e1, _, w1⟩ := DataW.trod_int Tryz.underlying3 g1
    obtain ⟨i2, e2, _, w2⟩ := DataW.trod_int Tryz.underlying3 g2
    obtain ⟨s3, e3, _, hs3⟩ := DataW.trod_string Tryz.underlying9 g3
    simp only [List.cons.injEq, and_true] at e0 e1 e2 e3
    subst e0; subst e1; subst e2; subst e3
    exact ⟨i0, i1, i2, s3, rfl, i64_of w0, i64_of w1, i64_of w2, hs3⟩

/-- The steps. -/
theorem open_steps {n : Nat} {v : Value} {x : DataW H × List MemPlace} (h : DataW.trod enc Tryz.prog w base sp held n 22 [v] = some x) : ∃ a len c, v = .slice a len c ∧ len ≤ maxLen ∧ StepsAt w a len := by
  rcases open_slice Tryz.underlying22 h with ⟨hc, _⟩ | ⟨a, len, cap, m, n', D, Pl, hc, hb, hl, hm, hmm, hxx, hall⟩
  · simp only [List.cons.injEq, and_true] at hc
    exact ⟨none, 0, 0, hc, Nat.zero_le _, ⟨fun h => absurd h (Nat.lt_irrefl _)⟩⟩
  · simp only [List.cons.injEq, and_true] at hc
    have hlm : len ≤ m := by rw [hmm]; split <;> omega
    rw [nStep] at hall
    refine ⟨some a, len, cap, hc, by omega, ⟨fun hp => ?_⟩⟩
    have hsp : a.spot = none := by
      obtain ⟨cs, h1, h2⟩ := hall 0 (by omega)
      obtain ⟨kd, x, y, d, rfl, _⟩ := open_step h2
      obtain ⟨_, _, hcell⟩ := World.cells?_some h1
      have := World.cell?_spot (v := .int .i64 kd) (by rw [hcell 0 (by omega)]; rfl)
      simpa [Addr.add] using this
    have hbl : a.block < w.heap.size := by
      obtain ⟨cs, h1, h2⟩ := hall 0 (by omega)
      have := World.cells?_block h1 (by omega)
      rw [add_blk] at this; exact this
    have ha : a = ⟨a.block, a.off, none⟩ := by
      obtain ⟨b, o, s⟩ := a
      simp only at hsp
      subst hsp; rfl
    refine ⟨a.block, a.off, by rw [← ha], hbl, fun i hi => ?_⟩
    obtain ⟨cs, h1, h2⟩ := hall i (by omega)
    obtain ⟨kd, x, y, d, rfl, q0, q1, q2, q3⟩ := open_step h2
    obtain ⟨_, _, hcell⟩ := World.cells?_some h1
    have hc' : ∀ j (hj : j < 4), w.cell? ⟨a.block, a.off + i * 4 + j, none⟩ = ([Value.int .i64 kd, .int .i64 x, .int .i64 y, .string d])[j]? := fun j hj => by
      have := hcell j hj
      have hj' : j < [Value.int .i64 kd, .int .i64 x, .int .i64 y, .string d].length := by simpa using hj
      rw [add_add, List.getElem?_eq_getElem hj'] at this
      rw [List.getElem?_eq_getElem hj', Nat.add_assoc]
      exact cell_of hsp this
    exact ⟨kd, x, y, d, q0, q1, q2, q3, hc' 0 (by omega), hc' 1 (by omega), hc' 2 (by omega), hc' 3 (by omega)⟩
end
end Go.Proofs.YtajopoddmfdejaaGreat

namespace Go.Proofs.YtajopoddmfdejaaGreat
open Go

theorem backPlace : (Rows.backRow.inPlace == Tryz.pinned.checked.prog.inPlace 6) = true := by kernel_rfl
theorem backOpen : (Rows.backRow.unfollowed == Tryz.pinned.checked.prog.unfollowed 6) = true := by kernel_rfl
theorem backAgain : (Rows.backRow.recurses == Tryz.pinned.checked.prog.recurses 6) = true := by kernel_rfl
theorem backNames : (Rows.backRow.named == Tryz.pinned.checked.prog.varsNamed 6) = true := by kernel_rfl
theorem backFacts : joinedFacts Tryz.pinned.checked.prog 6 Tryz.f6 Rows.backSpec Rows.backRow = true := by
  unfold joinedFacts
  rw [backPlace, backOpen, backAgain, backNames]
  kernel_rfl

end Go.Proofs.YtajopoddmfdejaaGreat
