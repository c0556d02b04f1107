/-
  What is proved here: canopykeep's Committed returns true, and what was there stands.
-/
import Derived.Test.YtajopoddmfdejaaGreatComtdM47
namespace Go.Proofs.YtajopoddmfdejaaGreat
open Go.RowKit Go.Sort Go.Shelf
set_option linter.unusedVariables false
theorem ShOne.row {W wr : World} {s p : Nat} {objs : List Ob} {B : WB} {lim N : Nat} {v : Value} {L : List Thing8} {rows : List (Value × List Thing8)} (h : ShOne W wr s p objs B lim v L rows N) : wr.ownsRow 0 40 3 v L.length (flatT L) := by
 obtain ⟨g, t, hM, _⟩ := h
 exact hM.row (r := (v, L)) (List.mem_cons_self ..)
theorem CmK.row {W wr : World} {s p : Nat} {x : List Ob} {c : Int} {B : WB} {lim k : Nat} {v : Value} {L : List Thing8} (h : CmK W wr s p x c B lim v L k) : wr.ownsRow 0 40 3 v L.length (flatT L) := by
 obtain ⟨g, t, hM, _⟩ := h
 exact hM.row (r := (v, L)) (List.mem_cons_self ..)
theorem CmK.below {W wr w' : World} {s p : Nat} {x : List Ob} {c : Int} {B : WB} {lim k : Nat} {v : Value} {L : List Thing8} (h : CmK W wr s p x c B lim v L k) (hb : Below wr.heap.size wr w') : CmK W w' s p x c B lim v L k := by
 obtain ⟨g, t, hM, hr⟩ := h
 exact ⟨g, t, hM.below hb, hr⟩
theorem CmW.old {W wr : World} {s p : Nat} {objs : List Ob} {B : WB} {lim N : Nat} (h : CmW W wr s p objs B lim N) : Below W.heap.size W wr := by
 obtain ⟨g, t, hM, _⟩ := h
 exact hM.old
theorem CmW.objects {W wr : World} {s p : Nat} {objs : List Ob} {B : WB} {lim N : Nat} (h : CmW W wr s p objs B lim N) : Calls Tryz.prog 21 #[.pointer (some ⟨s, 0, none⟩)] wr fun e w' => e = .returned (.int .i64 (objs.length : Int)) /\ w' = wr := by
 obtain ⟨g, t, hM, _⟩ := h
 exact many_objects hM
set_option maxRecDepth 100000 in
set_option maxHeartbeats 8000000 in
theorem committed_walk (W : World) (a a1 : Option Addr) (len cap len1 cap1 : Nat) (hS : StepsAt W a len) (hlen : len <= maxLen) (hS1 : StepsAt W a1 len1) (hlen1 : len1 <= maxLen) :
  Calls Tryz.prog 4 #[.slice a len cap, .slice a1 len1 cap1] W fun e w' => e = .returned (.bool true) /\ Below W.heap.size W w' := by
 have hmd := made_walk2 W a len cap hS hlen
 have HS1 : Hid _ := hS1
 unfold maxLen at hlen1
 clear hS hS1 hlen
 go_enter Tryz.func4, Tryz.ntmps4
 go_wp2_with fail
 refine Calls.mono hmd ?_
 rintro e w1 ⟨s, p, id, rfl, hM⟩
 obtain ⟨objs, hObs, hbig, hm⟩ := many_made2 hM
 have HO : Hid _ := hObs
 have HBG : Hid _ := hbig
 have HW : Hid _ := cm_work HBG.out HO.out.ok hm
 clear hmd hM hm hObs hbig
 go_wp2_with fail
 refine Calls.mono HW.out ?_
 rintro e w2 ⟨B, g, rfl, h2⟩
 have HOB : Hid _ := many_objects h2
 have HFI : Hid _ := cm_first HO.out HBG.out h2
 clear HW h2
 obtain ⟨nO, hNO⟩ : ∃ nO : Int, nO = (objs.length : Int) := ⟨_, rfl⟩
 have HNO : Hid _ := hNO
 rw [<- hNO] at HOB
 clear hNO
 go_wp2_with fail
 refine Calls.mono HOB.out ?_
 rintro e w3 ⟨rfl, hw⟩
 obtain rfl := hw.symm
 clear HOB
 go_wp2_with fail
 refine Calls.mono HFI.out ?_
 rintro e w3 ⟨rfl, h3⟩
 have HOB : Hid _ := CmW.objects h3
 have HN0 : Hid _ := h3
 rw [<- HNO.out] at HOB
 clear h3 HFI
 go_wp2_with fail
 refine Calls.mono HOB.out ?_
 rintro e w4 ⟨rfl, hw⟩
 obtain rfl := hw.symm
 clear HOB
 go_wp2
 go_loopw [12] (fun i wr => ∃ k : Nat, k <= 90 /\ i = .int .i64 (k : Int) /\ Hid (CmW W wr s p objs B (60000 + k * 500) (95 + k))) (fun i _ => 90 - (intOf i).toNat)
 case atStart => exact ⟨0, Nat.zero_le _, rfl, HN0⟩
 case round =>
  obtain ⟨k, hk9, rfl, HR⟩ := hrel
  rename World => wr
  clear HN0
  by_cases hgo : k < len1 /\ k < 90
  ·obtain ⟨hlt, hl9⟩ := hgo
   obtain ⟨b, o, rfl, hb, hst⟩ := HS1.out.at_ (by omega)
   obtain ⟨kd, x, y, d, h1, h2, h3, h4, c0, c1, c2, c3⟩ := hst k hlt
   have hbel : Below W.heap.size W wr := CmW.old HR.out
   have e0 := (hbel.cell (p := ⟨b, o + k * 4, none⟩) hb).trans c0
   have e1 := (hbel.cell (p := ⟨b, o + k * 4 + 1, none⟩) hb).trans c1
   have e2 := (hbel.cell (p := ⟨b, o + k * 4 + 2, none⟩) hb).trans c2
   have e3 := (hbel.cell (p := ⟨b, o + k * 4 + 3, none⟩) hb).trans c3
   have hbr : b < wr.heap.size := Nat.lt_of_lt_of_le hb hbel.size
   have HD : Hid _ := cm_do HR.out (by omega) h1 h2 h3 h4
   clear c0 c1 c2 c3 hst hbel h1 h2 h3 h4 HR HS1
   go_wp2_with fail
   refine Calls.mono HD.out ?_
   rintro e w4 ⟨er, rfl, h4⟩
   have H4 : Hid _ := h4
   clear h4 HD
   go_wp2
   exact ⟨⟨k + 1, by omega, by simp, by rw [show 60000 + (k + 1) * 500 = 60000 + k * 500 + 500 by omega]; exact H4⟩, by simp only [intOf]; omega⟩
  ·by_cases hlt : k < len1
   case' pos =>
    have hl9 : ¬ k < 90 := fun h => hgo ⟨hlt, h⟩
   all_goals
    clear hgo
    have HAL : Hid _ := cm_all HR.out (by omega) (by omega)
    clear HR
    go_wp2_with fail
    refine Calls.mono HAL.out ?_
    rintro e w5 ⟨v, L, rfl, h5⟩
    obtain ⟨av, cv, hv⟩ := rowT_shape (ShOne.row h5)
    subst hv
    have HCO : Hid _ := cm_commit HO.out h5
    clear HAL h5
    go_wp2_with fail
    refine Calls.mono HCO.out ?_
    rintro e w6 ⟨c, rfl, h6⟩
    have HNI : Hid _ := cm_nil h6
    clear HCO h6
    go_wp2_with fail
    refine Calls.mono HNI.out ?_
    rintro e w7 ⟨r, x, rfl, hC, hokr, hen, h7⟩
    have HC : Hid _ := hC
    have HAN : Hid _ := cm_anew hokr hen h7
    have hnL : L.length <= 190 := hC.few
    clear HNI h7 hC hokr hen
    go_wp2_with fail
    refine Calls.mono HAN.out ?_
    rintro e w8 ⟨B2, rfl, h8⟩
    obtain ⟨nL, hNL⟩ : ∃ nL, nL = L.length := ⟨_, rfl⟩
    have HNL : Hid _ := hNL
    rw [<- hNL] at hnL h8
    rw [<- hNL]
    have H8 : Hid _ := h8
    obtain ⟨lim8, hlim8⟩ : ∃ lim8, lim8 = 60000 + k * 500 + 4000000000 := ⟨_, rfl⟩
    rw [<- hlim8] at H8
    have hl8 : lim8 <= 4900000000 := by omega
    clear HAN h8 hNL hlim8
    go_wp2
    go_loopw [19, 20] (fun i _ wr => (i = .int .i64 (-1) /\ ∃ l, l <= 5900000000 /\ Hid (CmU W wr s p x B2 l (.slice av nL cv) L (.own []))) \/ ∃ k l : Nat, k < nL /\ i = .int .i64 (k : Int) /\ l + 1500 * (k + 1) <= 5900000000 /\ Hid (CmU W wr s p x B2 l (.slice av nL cv) L (.own []))) (fun i _ _ => (intOf i + 1).toNat)
    case atStart =>
     by_cases h0 : nL = 0
     ·exact .inl ⟨by rw [h0]; rfl, lim8, by omega, H8⟩
     ·exact .inr ⟨nL - 1, lim8, by omega, by rw [show ((nL - 1 : Nat) : Int) = (nL : Int) - 1 by omega], by omega, H8⟩
    case round =>
     rcases hrel with ⟨rfl, l, hl, HU⟩ | ⟨k2, l, hk2, rfl, hl, HU⟩
     ·rename World => wr2
      have HB : Hid (CmK W wr2 s p x c B2 l (.slice av nL cv) L 0) := cm_begin HU.out
      clear HU H8
      go_wp2
      go_loopw [21] (fun i wr => ∃ k l : Nat, k <= nL /\ i = .int .i64 (k : Int) /\ l + 500 * (nL - k) <= 6900000000 /\ Hid (CmK W wr s p x c B2 l (.slice av nL cv) L k)) (fun i _ => nL - (intOf i).toNat)
      case atStart => exact ⟨0, l, Nat.zero_le _, rfl, by omega, HB⟩
      case round =>
       obtain ⟨k3, l3, hk3, rfl, hl3, HK⟩ := hrel
       rename World => wr3
       by_cases hkn : k3 < nL
       ·have hkL : k3 < L.length := by rw [<- HNL.out]; exact hkn
        obtain ⟨gv, c1, e1, hgv, x0, x1, x2⟩ := rowT_cells (CmK.row HK.out) rfl hkL
        rw [<- HNL.out] at e1
        cases e1
        by_cases hd : (L[k3]).2.1 = 2
        ·have HMK : Hid _ := cm_mkdir HC.out hkL hd (by omega) HK.out
         rw [hd] at x1
         generalize (L[k3]).1 = P3 at x0 HMK
         generalize (L[k3]).2.2 = D3 at x2
         clear HK HB hd
         go_wp2_with fail
         refine Calls.mono HMK.out ?_
         rintro e w9 ⟨rfl, h9⟩
         have H9 : Hid _ := h9
         clear h9 HMK x0 x1 x2
         go_wp2
         exact ⟨⟨k3 + 1, l3 + 500, by omega, by simp, by omega, H9⟩, by simp [intOf]; omega⟩
        ·have HPT : Hid _ := cm_put HC.out hkL hd (by omega) (CmK.below HK.out (below_drew (Below.refl _ _)))
         have hd' : ((L[k3]).2.1 == 2) = false := by simpa using hd
         generalize (L[k3]).1 = P3 at x0 HPT
         generalize (L[k3]).2.2 = D3 at x2 HPT
         generalize (L[k3]).2.1 = K3 at x1 hd'
         clear HK HB hd
         go_wp2
         go_region_with (go_at_call 26; refine Calls.mono HPT.out ?_; rintro e w9 ⟨rfl, h9⟩; have H9 : Hid _ := h9; clear h9)
         all_goals
          clear HPT x0 x1 x2
          go_wp2
          exact ⟨⟨k3 + 1, l3 + 500, by omega, by simp, by omega, H9⟩, by simp [intOf]; omega⟩
       ·have hke : k3 = nL := by omega
        have hk9 := HK.out
        rw [hke, HNL.out] at hk9
        have HOB : Hid _ := cm_objects hk9
        have HLA : Hid _ := cm_last HC.out hk9
        generalize (x.length : Int) = nx at HOB HLA
        clear hk9 hke HK HB
        go_wp2_with fail
        refine Calls.mono HOB.out ?_
        rintro e w10 ⟨rfl, hw⟩
        obtain rfl := hw.symm
        clear HOB
        go_wp2_with fail
        refine Calls.mono HLA.out ?_
        rintro e w11 ⟨rfl, hb11, h11⟩
        have H11 : Hid _ := h11
        clear h11 HLA
        go_wp2_with fail
        refine Calls.mono H11.out ?_
        rintro e w12 ⟨rfl, hw⟩
        obtain rfl := hw.symm
        clear H11
        go_wp2
        go_ret
        exact ⟨rfl, hb11⟩
     ·rename World => wr2
      have HZ : Hid _ := cm_z HC.out.exact (by omega) HU.out
      clear HU H8
      go_wp2_with fail
      refine Calls.mono HZ.out ?_
      rintro e w9 ⟨rfl, h9⟩
      have HZY : Hid _ := cm_zy HC.out.exact (by omega) h9
      clear h9 HZ
      go_wp2_with fail
      refine Calls.mono HZY.out ?_
      rintro e w10 ⟨rfl, h10⟩
      have HY : Hid _ := cm_y HC.out.exact (by omega) h10
      clear h10 HZY
      go_wp2_with fail
      refine Calls.mono HY.out ?_
      rintro e w11 ⟨rfl, h11⟩
      have H11 : Hid _ := h11
      clear h11 HY
      go_wp2
      refine ⟨?_, by simp [intOf]⟩
      by_cases h0 : k2 = 0
      ·exact .inl ⟨by rw [h0]; rfl, _, by omega, H11⟩
      ·exact .inr ⟨k2 - 1, _, by omega, by rw [show ((k2 - 1 : Nat) : Int) = (k2 : Int) - 1 by omega], by omega, H11⟩
end Go.Proofs.YtajopoddmfdejaaGreat
