/-
  What is proved here: canopykeep's Asked returns true, and what was there stands.
-/
import Derived.Test.YtehpnebekgahnaaGreatAskM48
namespace Go.Proofs.YtehpnebekgahnaaGreat
open Go.RowKit Go.Sort Go.Shelf
set_option linter.unusedVariables false

theorem has_e {ks : Kids} (h : pickK ks nameE = some (.file 1)) : ∃ j, ∃ hj : j < (ks.map entOf).length, ((ks.map entOf)[j]).1 = nameE := by
  unfold pickK at h
  cases hf : ks.find? (fun x => decide (x.1 = nameE)) with
  | none => rw [hf] at h; cases h
  | some x =>
    have h1 := List.mem_of_find?_eq_some hf
    have h2 : x.1 = nameE := by have := List.find?_some hf; exact of_decide_eq_true this
    obtain ⟨j, hj, hx⟩ := List.getElem_of_mem h1
    refine ⟨j, by simpa using hj, ?_⟩
    rw [List.getElem_map, hx]
    exact h2

set_option maxRecDepth 100000 in
set_option maxHeartbeats 8000000 in
theorem asked_walk (W : World) (a : Option Addr) (len cap : Nat) (how n : Int) (hS : StepsAt W a len) (hlen : len ≤ maxLen) (hh : i64 how) (hn : i64 n) :
    Calls Tryz.prog 4 #[.slice a len cap, .int .i64 how, .int .i64 n] W fun e w' => e = .returned (.bool true) ∧ Below W.heap.size W w' := by
  have hp2 := fun w => kpick_any how 2 w hh (by decide) (by decide)
  obtain ⟨q0, q1⟩ := pickN_range (c := how) (n := 2) (by decide)
  generalize pickN how 2 = pk at hp2 q0 q1
  have hp3 := fun w => kpick_any n 300 w hn (by decide) (by decide)
  obtain ⟨r0, r1⟩ := pickN_range (c := n) (n := 300) (by decide)
  generalize pickN n 300 = pn at hp3 r0 r1
  have hw1 : IntKind.i64.wrap (1 + pk) = 1 + pk := by rw [IntKind.wrap_i64] <;> omega
  have hw2 : IntKind.i64.wrap (1 + pn) = 1 + pn := by rw [IntKind.wrap_i64] <;> omega
  have hhow : 1 + pk = 1 ∨ 1 + pk = 2 := by omega
  have hn1 : 1 ≤ 1 + pn := by omega
  have hpl := plain_any W
  have HS : Hid _ := hS
  unfold maxLen at hlen
  clear hS hh hn
  go_enter Tryz.func4, Tryz.ntmps4
  go_wp2_with fail
  refine hpl.mono ?_
  rintro e w1 ⟨s, B, rfl, p, tg, objs, g, t, hT, ht, hb, hK⟩
  have HT : Hid _ := hT
  have HK : Hid (KSt W w1 s p B objs 0) := ⟨tg, g, t, ⟨hb, ht⟩, hK⟩
  clear hT ht hb hK hpl
  go_wp2
  go_loopw [10] (fun i wr => ∃ k : Nat, k ≤ len ∧ k ≤ 90 ∧ i = .int .i64 (k : Int) ∧ Hid (KSt W wr s p B objs (k * 500))) (fun i _ => 90 - (intOf i).toNat)
  case atStart => exact ⟨0, Nat.zero_le _, Nat.zero_le _, rfl, HK⟩
  case round =>
    obtain ⟨k, hk, hk9, rfl, HR⟩ := hrel
    by_cases hlt : k < len
    · by_cases hl9 : k < 90
      · obtain ⟨b, o, rfl, hb, hst⟩ := HS.out.at_ (by omega)
        obtain ⟨kd, x, y, d, h1, h2, h3, h4, c0, c1, c2, c3⟩ := hst k hlt
        have hbel : Below W.heap.size W wr := by obtain ⟨_, _, _, h, _⟩ := HR.out; exact h.1
        have e0 := (hbel.cell (p := ⟨b, o + k * 4, none⟩) hb).trans c0
        have e1 := (hbel.cell (p := ⟨b, o + k * 4 + 1, none⟩) hb).trans c1
        have e2 := (hbel.cell (p := ⟨b, o + k * 4 + 2, none⟩) hb).trans c2
        have e3 := (hbel.cell (p := ⟨b, o + k * 4 + 3, none⟩) hb).trans c3
        have hdo := kst_do HR.out (by omega) h1 h2 h3 h4
        have HDO : Hid _ := hdo
        clear c0 c1 c2 c3 hst hdo hbel
        go_wp2_with fail
        refine Calls.mono HDO.out ?_
        rintro e w2 ⟨er, rfl, hK2⟩
        have HK2 : Hid _ := hK2
        clear hK2
        go_wp2
        exact ⟨⟨k + 1, by omega, by omega, by simp, by rw [show (k + 1) * 500 = k * 500 + 500 by omega]; exact HK2⟩, by simp only [intOf]; omega⟩
      · have hk0 : k = 90 := by omega
        obtain ⟨ks, hpk, hks, hli⟩ := kst_list HR.out (by omega)
        have HPK : Hid _ := hpk
        have HLI : Hid _ := hli
        clear hpk hli HS HK HR
        go_wp2_with fail
        refine Calls.mono HLI.out ?_
        rintro e w2 ⟨lb, rfl, hL⟩
        have hnm : NmsAt w2 lb (ks.map entOf) ks.length := by obtain ⟨_, _, _, _, _, _, h⟩ := hL; exact h
        have HN : Hid _ := hnm
        have HL : Hid _ := hL
        have hlb := hnm.lt
        clear hL hnm HLI
        go_wp2
        go_loopw [13, 14] (fun th i wr => ∃ (j : Nat) (b : Bool), j ≤ ks.length ∧ i = .int .i64 (j : Int) ∧ th = .bool b ∧ wr = w2 ∧ Hid (b = false → ∀ x (hx : x < (ks.map entOf).length), x < j → ((ks.map entOf)[x]).1 ≠ nameE)) (fun _ i _ => ks.length - (intOf i).toNat)
        case atStart => exact ⟨0, false, Nat.zero_le _, rfl, rfl, rfl, fun _ x _ h => by omega⟩
        case round =>
          obtain ⟨j, b, hj, rfl, rfl, rfl, HB⟩ := hrel
          by_cases hjl : j < ks.length
          · have hj' : j < (ks.map entOf).length := by simpa using hjl
            have cj := HN.out.nms j hj' hjl
            cases b with
            | true =>
              go_wp2
              exact ⟨⟨j + 1, true, hjl, by simp, by trivial, by trivial, fun h => by cases h⟩, by simp only [intOf]; omega⟩
            | false =>
              by_cases he : ((ks.map entOf)[j]).1 = nameE
              · rw [he] at cj
                unfold nameE at cj
                go_wp2
                exact ⟨⟨j + 1, true, hjl, by simp, by trivial, by trivial, fun h => by cases h⟩, by simp only [intOf]; omega⟩
              · have hne : (((ks.map entOf)[j]).1.toList == [101]) = false := by
                  apply beq_eq_false_iff_ne.2
                  intro h
                  exact he (toL_inj (by rw [ByteArray.toList_eq] at h; exact h))
                have hall : Hid (∀ x (hx : x < (ks.map entOf).length), x < j + 1 → ((ks.map entOf)[x]).1 ≠ nameE) := fun x hx hxj => by
                  by_cases e : x = j
                  · subst e; exact he
                  · exact HB.out rfl x hx (by omega)
                generalize hxx : ((ks.map entOf)[j]).1 = nx at cj hne
                clear he hxx
                go_wp2
                exact ⟨⟨j + 1, false, hjl, by simp, by trivial, by trivial, fun _ => hall.out⟩, by simp only [intOf]; omega⟩
          · have hbt : b = true := by
              cases b with
              | true => rfl
              | false =>
                obtain ⟨x, hx, hxe⟩ := has_e HPK.out
                exact absurd hxe (HB.out rfl x hx (by have : x < ks.length := by simpa using hx
                                                      omega))
            subst hbt
            obtain ⟨m, hm, hfe⟩ := lst_fetched HL.out
            have HFE : Hid _ := hfe
            have hkd : kindOf objs 1 = 1 := by rw [two_kind HT.out]; rfl
            have hby := two_bytes HT.out
            have HKD : Hid _ := hkd
            have HBY : Hid _ := hby
            clear hfe HL HB HN hkd hby
            go_wp2_with fail
            refine Calls.mono HFE.out ?_
            rintro e w3 ⟨fa, fc, rfl, hF⟩
            have hbr := fst_break hF hhow
            have HBR : Hid _ := hbr
            clear hF HFE hbr
            go_wp2_with (go_at_call 8; refine Calls.mono (hp2 _) ?_; rintro e w4 ⟨rfl, rfl⟩)
            refine Calls.mono HBR.out ?_
            rintro e w5 ⟨rfl, hB5⟩
            have hopn := bst_open hB5 HKD.out HPK.out
            have HOP : Hid _ := hopn
            clear hopn hB5 HBR
            go_wp2_with fail
            refine Calls.mono HOP.out ?_
            rintro e w6 ⟨rfl, hO⟩
            have hfl := ost_fails hO hn1
            have HFL : Hid _ := hfl
            clear hfl hO HOP
            go_wp2_with (go_at_call 8; refine Calls.mono (hp3 _) ?_; rintro e w7 ⟨rfl, rfl⟩)
            refine Calls.mono HFL.out ?_
            rintro e w8 ⟨rfl, hO2⟩
            have hrd := ost_reads hO2 HBY.out hn1
            have HRD : Hid _ := hrd
            clear hrd hO2 HFL
            go_wp2_with (go_at_call 8; refine Calls.mono (hp3 _) ?_; rintro e w9 ⟨rfl, rfl⟩)
            refine Calls.mono HRD.out ?_
            rintro e w10 ⟨rfl, hE⟩
            have hfe2 := end_fetched hE
            have HFE2 : Hid _ := hfe2
            unfold oneB
            clear hfe2 hE HRD
            go_wp2_with fail
            refine Calls.mono HFE2.out ?_
            rintro e w11 ⟨fa2, fc2, rfl, hbel⟩
            go_wp2
            go_ret
            exact ⟨rfl, hbel⟩
    · have hk0 : k = len := by omega
      obtain ⟨ks, hpk, hks, hli⟩ := kst_list HR.out (by omega)
      have HPK : Hid _ := hpk
      have HLI : Hid _ := hli
      clear hpk hli HS HK HR
      go_wp2_with fail
      refine Calls.mono HLI.out ?_
      rintro e w2 ⟨lb, rfl, hL⟩
      have hnm : NmsAt w2 lb (ks.map entOf) ks.length := by obtain ⟨_, _, _, _, _, _, h⟩ := hL; exact h
      have HN : Hid _ := hnm
      have HL : Hid _ := hL
      have hlb := hnm.lt
      clear hL hnm HLI
      go_wp2
      go_loopw [13, 14] (fun th i wr => ∃ (j : Nat) (b : Bool), j ≤ ks.length ∧ i = .int .i64 (j : Int) ∧ th = .bool b ∧ wr = w2 ∧ Hid (b = false → ∀ x (hx : x < (ks.map entOf).length), x < j → ((ks.map entOf)[x]).1 ≠ nameE)) (fun _ i _ => ks.length - (intOf i).toNat)
      case atStart => exact ⟨0, false, Nat.zero_le _, rfl, rfl, rfl, fun _ x _ h => by omega⟩
      case round =>
        obtain ⟨j, b, hj, rfl, rfl, rfl, HB⟩ := hrel
        by_cases hjl : j < ks.length
        · have hj' : j < (ks.map entOf).length := by simpa using hjl
          have cj := HN.out.nms j hj' hjl
          cases b with
          | true =>
            go_wp2
            exact ⟨⟨j + 1, true, hjl, by simp, by trivial, by trivial, fun h => by cases h⟩, by simp only [intOf]; omega⟩
          | false =>
            by_cases he : ((ks.map entOf)[j]).1 = nameE
            · rw [he] at cj
              unfold nameE at cj
              go_wp2
              exact ⟨⟨j + 1, true, hjl, by simp, by trivial, by trivial, fun h => by cases h⟩, by simp only [intOf]; omega⟩
            · have hne : (((ks.map entOf)[j]).1.toList == [101]) = false := by
                apply beq_eq_false_iff_ne.2
                intro h
                exact he (toL_inj (by rw [ByteArray.toList_eq] at h; exact h))
              have hall : Hid (∀ x (hx : x < (ks.map entOf).length), x < j + 1 → ((ks.map entOf)[x]).1 ≠ nameE) := fun x hx hxj => by
                by_cases e : x = j
                · subst e; exact he
                · exact HB.out rfl x hx (by omega)
              generalize hxx : ((ks.map entOf)[j]).1 = nx at cj hne
              clear he hxx
              go_wp2
              exact ⟨⟨j + 1, false, hjl, by simp, by trivial, by trivial, fun _ => hall.out⟩, by simp only [intOf]; omega⟩
        · have hbt : b = true := by
            cases b with
            | true => rfl
            | false =>
              obtain ⟨x, hx, hxe⟩ := has_e HPK.out
              exact absurd hxe (HB.out rfl x hx (by have : x < ks.length := by simpa using hx
                                                    omega))
          subst hbt
          obtain ⟨m, hm, hfe⟩ := lst_fetched HL.out
          have HFE : Hid _ := hfe
          have hkd : kindOf objs 1 = 1 := by rw [two_kind HT.out]; rfl
          have hby := two_bytes HT.out
          have HKD : Hid _ := hkd
          have HBY : Hid _ := hby
          clear hfe HL HB HN hkd hby
          go_wp2_with fail
          refine Calls.mono HFE.out ?_
          rintro e w3 ⟨fa, fc, rfl, hF⟩
          have hbr := fst_break hF hhow
          have HBR : Hid _ := hbr
          clear hF HFE hbr
          go_wp2_with (go_at_call 8; refine Calls.mono (hp2 _) ?_; rintro e w4 ⟨rfl, rfl⟩)
          refine Calls.mono HBR.out ?_
          rintro e w5 ⟨rfl, hB5⟩
          have hopn := bst_open hB5 HKD.out HPK.out
          have HOP : Hid _ := hopn
          clear hopn hB5 HBR
          go_wp2_with fail
          refine Calls.mono HOP.out ?_
          rintro e w6 ⟨rfl, hO⟩
          have hfl := ost_fails hO hn1
          have HFL : Hid _ := hfl
          clear hfl hO HOP
          go_wp2_with (go_at_call 8; refine Calls.mono (hp3 _) ?_; rintro e w7 ⟨rfl, rfl⟩)
          refine Calls.mono HFL.out ?_
          rintro e w8 ⟨rfl, hO2⟩
          have hrd := ost_reads hO2 HBY.out hn1
          have HRD : Hid _ := hrd
          clear hrd hO2 HFL
          go_wp2_with (go_at_call 8; refine Calls.mono (hp3 _) ?_; rintro e w9 ⟨rfl, rfl⟩)
          refine Calls.mono HRD.out ?_
          rintro e w10 ⟨rfl, hE⟩
          have hfe2 := end_fetched hE
          have HFE2 : Hid _ := hfe2
          unfold oneB
          clear hfe2 hE HRD
          go_wp2_with fail
          refine Calls.mono HFE2.out ?_
          rintro e w11 ⟨fa2, fc2, rfl, hbel⟩
          go_wp2
          go_ret
          exact ⟨rfl, hbel⟩
end Go.Proofs.YtehpnebekgahnaaGreat
