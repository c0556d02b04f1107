/-
  What is proved here: canopykeep's Apart returns true, and what was there stands.
-/
import Derived.Test.YtajopoddmfdejaaGreatApartM45
namespace Go.Proofs.YtajopoddmfdejaaGreat
open Go.RowKit Go.Sort Go.Shelf
set_option linter.unusedVariables false
set_option maxRecDepth 100000 in
set_option maxHeartbeats 8000000 in
theorem apart_walk (W : World) (a a1 a2 : Option Addr) (len cap len1 cap1 len2 cap2 : Nat) (hS : StepsAt W a len) (hlen : len ≤ maxLen) (hS1 : StepsAt W a1 len1) (hlen1 : len1 ≤ maxLen) (hS2 : StepsAt W a2 len2) (hlen2 : len2 ≤ maxLen) :
    Calls Tryz.prog 10 #[.slice a len cap, .slice a1 len1 cap1, .slice a2 len2 cap2] W fun e w' => e = .returned (.bool true) ∧ Below W.heap.size W w' := by
  have hmd := made_walk W a len cap hS hlen
  have HS1 : Hid _ := hS1
  have HS2 : Hid _ := hS2
  unfold maxLen at hlen1 hlen2
  clear hS hS1 hS2 hlen
  go_enter Tryz.func10, Tryz.ntmps10
  go_wp2_with fail
  refine Calls.mono hmd ?_
  rintro e w1 ⟨s, p, id, rfl, hM⟩
  obtain ⟨objs, hObs, hst⟩ := many_made hM
  have HO : Hid _ := hObs
  have HW : Hid _ := many_work hst (i := 3) (by decide) (fun x hx => by cases hx) HO.out.ok
  clear hmd hM hst hObs
  go_wp2_with fail
  refine Calls.mono HW.out ?_
  rintro e w2 ⟨B3, g3, rfl, q3, r3, h2⟩
  clear HW
  have HW : Hid _ := many_work h2 (i := 4) (by decide) (fun x hx => by simp at hx; rw [hx]; show (3 : Nat) ≠ 4; decide) HO.out.ok
  clear h2
  go_wp2_with fail
  refine Calls.mono HW.out ?_
  rintro e w3 ⟨B4, g4, rfl, q4, r4, h3⟩
  clear HW
  have HW : Hid _ := many_work h3 (i := 5) (by decide) (fun x hx => by
    simp at hx
    rcases hx with hx | hx
    · rw [hx]; show (4 : Nat) ≠ 5; decide
    · rw [hx]; show (3 : Nat) ≠ 5; decide) HO.out.ok
  clear h3
  go_wp2_with fail
  refine Calls.mono HW.out ?_
  rintro e w4 ⟨B5, g5, rfl, q5, r5, h4⟩
  have HN0 : Hid _ := ap_begin q5 q3 h4
  clear h4 HW q3 q4 q5 r3 r4 r5 g3 g4 g5
  go_wp2
  go_loopw [16] (fun i wr => ∃ k : Nat, k ≤ 90 ∧ i = .int .i64 (k : Int) ∧ Hid (ApSt W wr s p objs B3 B4 B5 (60000 + k * 1500))) (fun i _ => 90 - (intOf i).toNat)
  case atStart => exact ⟨0, Nat.zero_le _, rfl, HN0⟩
  case round =>
    obtain ⟨k, hk9, rfl, HR⟩ := hrel
    rename World => wr
    clear HN0
    by_cases hlt1 : k < len1
    · by_cases hl9 : k < 90
      · have HSS : Hid _ := HS1.out
        obtain ⟨b1, o1, rfl, hb1, hst1⟩ := HS1.out.at_ (by omega)
        obtain ⟨kd, x, y, d, h1, h2, h3, h4, c0, c1, c2, c3⟩ := hst1 k hlt1
        have hbel : Below W.heap.size W wr := ApSt.old HR.out
        have e0 := (hbel.cell (p := ⟨b1, o1 + k * 4, none⟩) hb1).trans c0
        have e1 := (hbel.cell (p := ⟨b1, o1 + k * 4 + 1, none⟩) hb1).trans c1
        have e2 := (hbel.cell (p := ⟨b1, o1 + k * 4 + 2, none⟩) hb1).trans c2
        have e3 := (hbel.cell (p := ⟨b1, o1 + k * 4 + 3, none⟩) hb1).trans c3
        have hbr : b1 < wr.heap.size := Nat.lt_of_lt_of_le hb1 hbel.size
        have HD3 : Hid _ := ap_do3 HO.out HR.out (by omega) h1 h2 h3 h4
        have HI : Hid _ := And.intro h1 (And.intro h2 (And.intro h3 h4))
        have HCC : Hid _ := And.intro c0 (And.intro c1 (And.intro c2 c3))
        clear c0 c1 c2 c3 hst1 hbel h1 h2 h3 h4
        go_wp2_with fail
        refine Calls.mono HD3.out ?_
        rintro e w4 ⟨er, rfl, h4⟩
        have H4 : Hid _ := h4
        have hbel : Below W.heap.size W w4 := ApMid.old H4.out
        have f0 := (hbel.cell (p := ⟨b1, o1 + k * 4, none⟩) hb1).trans HCC.out.1
        have f1 := (hbel.cell (p := ⟨b1, o1 + k * 4 + 1, none⟩) hb1).trans HCC.out.2.1
        have f2 := (hbel.cell (p := ⟨b1, o1 + k * 4 + 2, none⟩) hb1).trans HCC.out.2.2.1
        have f3 := (hbel.cell (p := ⟨b1, o1 + k * 4 + 3, none⟩) hb1).trans HCC.out.2.2.2
        have hbr4 : b1 < w4.heap.size := Nat.lt_of_lt_of_le hb1 hbel.size
        have HD5 : Hid _ := ap_do5 H4.out (by omega) HI.out.1 HI.out.2.1 HI.out.2.2.1 HI.out.2.2.2
        clear h4 HD3 e0 e1 e2 e3 hbr hbel HCC HI
        go_wp2_with fail
        refine Calls.mono HD5.out ?_
        rintro e w5 ⟨rfl, h5⟩
        have H5 : Hid _ := h5
        clear h5 HD5 H4 f0 f1 f2 f3 hbr4
        by_cases hlt2 : k < len2
        · obtain ⟨b2, o2, rfl, hb2, hst2⟩ := HS2.out.at_ (by omega)
          obtain ⟨kd, x, y, d, h1, h2, h3, h4, c0, c1, c2, c3⟩ := hst2 k hlt2
          have hbel : Below W.heap.size W w5 := ApSt.old H5.out
          have e0 := (hbel.cell (p := ⟨b2, o2 + k * 4, none⟩) hb2).trans c0
          have e1 := (hbel.cell (p := ⟨b2, o2 + k * 4 + 1, none⟩) hb2).trans c1
          have e2 := (hbel.cell (p := ⟨b2, o2 + k * 4 + 2, none⟩) hb2).trans c2
          have e3 := (hbel.cell (p := ⟨b2, o2 + k * 4 + 3, none⟩) hb2).trans c3
          have hbr : b2 < w5.heap.size := Nat.lt_of_lt_of_le hb2 hbel.size
          have HD4 : Hid _ := ap_do4 H5.out (by omega) h1 h2 h3 h4
          clear c0 c1 c2 c3 hst2 hbel h1 h2 h3 h4
          go_wp2_with fail
          refine Calls.mono HD4.out ?_
          rintro e w9 ⟨er9, rfl, h9⟩
          have H9 : Hid _ := h9
          clear h9 HD4 e0 e1 e2 e3 hbr
          go_wp2
          exact ⟨⟨k + 1, by omega, by simp, by rw [show 60000 + (k + 1) * 1500 = 60000 + k * 1500 + 1500 by omega]; exact ApSt.mono H9.out (by omega)⟩, by simp only [intOf]; omega⟩
        · have H9 : Hid _ := H5.out
          go_wp2
          exact ⟨⟨k + 1, by omega, by simp, by rw [show 60000 + (k + 1) * 1500 = 60000 + k * 1500 + 1500 by omega]; exact ApSt.mono H9.out (by omega)⟩, by simp only [intOf]; omega⟩
      · have HA3 : Hid _ := ap_all3 HR.out (by omega)
        go_wp2_with fail
        refine Calls.mono HA3.out ?_
        rintro e w6 ⟨v6, L6, rfl, h6⟩
        have HA5 : Hid _ := ap_all5 h6 (by omega)
        clear h6 HA3
        go_wp2_with fail
        refine Calls.mono HA5.out ?_
        rintro e w7 ⟨v7, rfl, hb7, h7⟩
        have H7 : Hid _ := h7
        clear h7 HA5
        go_wp2_with fail
        refine Calls.mono H7.out ?_
        rintro e w8 ⟨rfl, hb8⟩
        have hbf := below_via hb7 hb8
        clear hb8 H7
        go_wp2
        go_ret
        exact ⟨rfl, hbf⟩
    · by_cases hlt2 : k < len2
      · by_cases hl9 : k < 90
        · obtain ⟨b2, o2, rfl, hb2, hst2⟩ := HS2.out.at_ (by omega)
          obtain ⟨kd, x, y, d, h1, h2, h3, h4, c0, c1, c2, c3⟩ := hst2 k hlt2
          have hbel : Below W.heap.size W wr := ApSt.old HR.out
          have e0 := (hbel.cell (p := ⟨b2, o2 + k * 4, none⟩) hb2).trans c0
          have e1 := (hbel.cell (p := ⟨b2, o2 + k * 4 + 1, none⟩) hb2).trans c1
          have e2 := (hbel.cell (p := ⟨b2, o2 + k * 4 + 2, none⟩) hb2).trans c2
          have e3 := (hbel.cell (p := ⟨b2, o2 + k * 4 + 3, none⟩) hb2).trans c3
          have hbr : b2 < wr.heap.size := Nat.lt_of_lt_of_le hb2 hbel.size
          have HD4 : Hid _ := ap_do4 HR.out (by omega) h1 h2 h3 h4
          clear c0 c1 c2 c3 hst2 hbel h1 h2 h3 h4
          go_wp2_with fail
          refine Calls.mono HD4.out ?_
          rintro e w9 ⟨er9, rfl, h9⟩
          have H9 : Hid _ := h9
          clear h9 HD4 e0 e1 e2 e3 hbr
          go_wp2
          exact ⟨⟨k + 1, by omega, by simp, by rw [show 60000 + (k + 1) * 1500 = 60000 + k * 1500 + 1500 by omega]; exact ApSt.mono H9.out (by omega)⟩, by simp only [intOf]; omega⟩
        · have HA3 : Hid _ := ap_all3 HR.out (by omega)
          go_wp2_with fail
          refine Calls.mono HA3.out ?_
          rintro e w6 ⟨v6, L6, rfl, h6⟩
          have HA5 : Hid _ := ap_all5 h6 (by omega)
          clear h6 HA3
          go_wp2_with fail
          refine Calls.mono HA5.out ?_
          rintro e w7 ⟨v7, rfl, hb7, h7⟩
          have H7 : Hid _ := h7
          clear h7 HA5
          go_wp2_with fail
          refine Calls.mono H7.out ?_
          rintro e w8 ⟨rfl, hb8⟩
          have hbf := below_via hb7 hb8
          clear hb8 H7
          go_wp2
          go_ret
          exact ⟨rfl, hbf⟩
      · have HA3 : Hid _ := ap_all3 HR.out (by omega)
        go_wp2_with fail
        refine Calls.mono HA3.out ?_
        rintro e w6 ⟨v6, L6, rfl, h6⟩
        have HA5 : Hid _ := ap_all5 h6 (by omega)
        clear h6 HA3
        go_wp2_with fail
        refine Calls.mono HA5.out ?_
        rintro e w7 ⟨v7, rfl, hb7, h7⟩
        have H7 : Hid _ := h7
        clear h7 HA5
        go_wp2_with fail
        refine Calls.mono H7.out ?_
        rintro e w8 ⟨rfl, hb8⟩
        have hbf := below_via hb7 hb8
        clear hb8 H7
        go_wp2
        go_ret
        exact ⟨rfl, hbf⟩
end Go.Proofs.YtajopoddmfdejaaGreat
