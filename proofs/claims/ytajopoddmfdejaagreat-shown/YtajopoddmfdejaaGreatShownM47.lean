/-
  What is proved here: canopykeep's Shown returns true, and what was there stands.
-/
import Derived.Test.YtajopoddmfdejaaGreatShownM46
import Derived.Test.YtajopoddmfdejaaGreatShownM43
namespace Go.Proofs.YtajopoddmfdejaaGreat
open Go.RowKit Go.Sort Go.Shelf
set_option linter.unusedVariables false
theorem steps_below {W W1 : World} {a : Option Addr} {len : Nat} (h : StepsAt W a len) (hb : Below W.heap.size W W1) : StepsAt W1 a len := by
  refine ⟨fun hl => ?_⟩
  obtain ⟨b, o, e, hlt, hst⟩ := h.at_ hl
  refine ⟨b, o, e, Nat.lt_of_lt_of_le hlt hb.size, fun k hk => ?_⟩
  obtain ⟨kd, x, y, d, h1, h2, h3, h4, c0, c1, c2, c3⟩ := hst k hk
  exact ⟨kd, x, y, d, h1, h2, h3, h4, (hb.cell (p := ⟨b, o + k * 4, none⟩) hlt).trans c0, (hb.cell (p := ⟨b, o + k * 4 + 1, none⟩) hlt).trans c1, (hb.cell (p := ⟨b, o + k * 4 + 2, none⟩) hlt).trans c2, (hb.cell (p := ⟨b, o + k * 4 + 3, none⟩) hlt).trans c3⟩
theorem cellsT4 {w : World} {b : Nat} {s0 s1 s2 s3 : Value} {t : TypeId} (h : w.heap[b]? = some (.cells #[s0, s1, s2, s3] t (0, 0))) : w.cell? ⟨b, 0, none⟩ = some s0 ∧ w.cell? ⟨b, 1, none⟩ = some s1 ∧ w.cell? ⟨b, 2, none⟩ = some s2 ∧ w.cell? ⟨b, 3, none⟩ = some s3 :=
  ⟨by simp [World.cell?, h], by simp [World.cell?, h], by simp [World.cell?, h], by simp [World.cell?, h]⟩
theorem step_box {W w' : World} {kd x y : Int} {d : ByteArray} {ty : TypeId} (hb : Below (W.alloc (.cells #[.int .i64 kd, .int .i64 x, .int .i64 y, .string d] ty)).heap.size (W.alloc (.cells #[.int .i64 kd, .int .i64 x, .int .i64 y, .string d] ty)) w') : W.heap.size < w'.heap.size ∧ w'.cell? ⟨W.heap.size, 0, none⟩ = some (.int .i64 kd) ∧ w'.cell? ⟨W.heap.size, 1, none⟩ = some (.int .i64 x) ∧ w'.cell? ⟨W.heap.size, 2, none⟩ = some (.int .i64 y) ∧ w'.cell? ⟨W.heap.size, 3, none⟩ = some (.string d) := by
  have hlt : W.heap.size < (W.alloc (.cells #[.int .i64 kd, .int .i64 x, .int .i64 y, .string d] ty)).heap.size := by simp
  have hn := heap_alloc_new W (.cells #[.int .i64 kd, .int .i64 x, .int .i64 y, .string d] ty)
  refine ⟨Nat.lt_of_lt_of_le hlt hb.size, (hb.cell (p := ⟨W.heap.size, 0, none⟩) hlt).trans ?_, (hb.cell (p := ⟨W.heap.size, 1, none⟩) hlt).trans ?_, (hb.cell (p := ⟨W.heap.size, 2, none⟩) hlt).trans ?_, (hb.cell (p := ⟨W.heap.size, 3, none⟩) hlt).trans ?_⟩ 
  · exact (cellsT4 hn).1
  · exact (cellsT4 hn).2.1
  · exact (cellsT4 hn).2.2.1
  · exact (cellsT4 hn).2.2.2
set_option maxRecDepth 100000 in
set_option maxHeartbeats 8000000 in
theorem shown_walk (W : World) (a : Option Addr) (len cap : Nat) (kd x y : Int) (d : ByteArray) (hS : StepsAt W a len) (hlen : len ≤ maxLen) (hk : i64 kd) (hx : i64 x) (hy : i64 y) (hd : d.size ≤ maxLen) :
    Calls Tryz.prog 3 #[.slice a len cap, .agg #[.int .i64 kd, .int .i64 x, .int .i64 y, .string d]] W fun e w' => e = .returned (.bool true) ∧ Below W.heap.size W w' := by
  have HB0 : Hid (Below W.heap.size W (W.alloc (.cells #[.int .i64 kd, .int .i64 x, .int .i64 y, .string d] 24))) := (Below.refl _ _).alloc (Nat.le_refl _) _
  have HMD : Hid _ := made_walk2 (W.alloc (.cells #[.int .i64 kd, .int .i64 x, .int .i64 y, .string d] 24)) a len cap (steps_below hS HB0.out) hlen
  have HBX : Hid (∀ w', Below (W.alloc (.cells #[.int .i64 kd, .int .i64 x, .int .i64 y, .string d] 24)).heap.size (W.alloc (.cells #[.int .i64 kd, .int .i64 x, .int .i64 y, .string d] 24)) w' → W.heap.size < w'.heap.size ∧ w'.cell? ⟨W.heap.size, 0, none⟩ = some (.int .i64 kd) ∧ w'.cell? ⟨W.heap.size, 1, none⟩ = some (.int .i64 x) ∧ w'.cell? ⟨W.heap.size, 2, none⟩ = some (.int .i64 y) ∧ w'.cell? ⟨W.heap.size, 3, none⟩ = some (.string d)) := fun w' hb => step_box hb
  have HI : Hid _ := And.intro hk (And.intro hx (And.intro hy hd))
  clear hS hlen
  go_enter Tryz.func3, Tryz.ntmps3
  go_wp2_with fail
  refine Calls.mono HMD.out ?_
  generalize hW1 : W.alloc (.cells #[.int .i64 kd, .int .i64 x, .int .i64 y, .string d] 24) = W1 at HB0 HBX
  clear hW1
  rintro e w1 ⟨s, p, id, rfl, hM⟩
  obtain ⟨objs, hObs, hbig, hm⟩ := many_made2 hM
  have HO : Hid _ := hObs
  have HBG : Hid _ := hbig
  have HW : Hid _ := many_work hm (i := 3) (by decide) (fun x hx => by cases hx) HO.out.ok
  clear HMD hM hm hObs hbig
  go_wp2_with fail
  refine Calls.mono HW.out ?_
  rintro e w2 ⟨B, g, rfl, hg, hgb, h2⟩
  have HA : Hid _ := sh_all h2 (by decide) rfl HBG.out
  clear HW h2
  go_wp2_with fail
  refine Calls.mono HA.out ?_
  rintro e w3 ⟨v1, rfl, h3⟩
  generalize thingsR objs (fcOf objs g.fl) 5 [] (.dir id) = L1 at h3
  obtain ⟨hlt3, b0, b1, b2, b3⟩ := HBX.out w3 (ShOne.old h3)
  have HD : Hid _ := sh_do HO.out.exact h3 (by decide) HI.out.1 HI.out.2.1 HI.out.2.2.1 HI.out.2.2.2
  clear HA h3 hg hgb
  go_wp2_with fail
  refine Calls.mono HD.out ?_
  rintro e w4 ⟨er, rfl, h4⟩
  have HA2 : Hid _ := sh_all2 h4 (by decide)
  clear HD h4 b0 b1 b2 b3 hlt3
  go_wp2_with fail
  refine Calls.mono HA2.out ?_
  rintro e w5 ⟨v2, L2, rfl, h5, hF, hl1⟩
  have H5 : Hid _ := h5
  have HF : Hid _ := hF
  have HL1 : Hid _ := hl1
  clear HA2 h5 hF hl1
  by_cases her : er = 0
  · subst her
    obtain ⟨hlt5, b0, b1, b2, b3⟩ := HBX.out w5 (ShOne.old H5.out)
    have hF3 := HF.out.2.2 rfl
    have hpx := fun W => path_exact x W HI.out.2.1
    have hpy := fun W => path_exact y W HI.out.2.2.1
    have hL2 : L2.length ≤ 1118480 := by obtain ⟨g, t, _, _, _, _, h⟩ := H5.out; exact h
    have hFB := fun P w' (hb : Below w5.heap.size w5 w') => sh_find H5.out (r := (v2, L2)) (List.mem_cons_self ..) hL2 P hb
    have hFA := fun P w' (hb : Below w5.heap.size w5 w') => sh_find H5.out (r := (v1, L1)) (by simp) HL1.out P hb
    have hpk := fun W => kpick_any kd 6 W HI.out.1 (by decide) (by decide)
    obtain ⟨hp0, hp1⟩ := pickN_range (c := kd) (n := 6) (by decide)
    generalize pickN kd 6 = pk at hpk hp0 hp1 hF3
    generalize joinB (pathL x) = X at hpx hF3
    generalize joinB (pathL y) = Y at hpy hF3
    have HFB : Hid _ := hFB Y
    have HF1 : Hid _ := hFB X w5 (Below.refl _ _)
    have HFA : Hid _ := hFA X
    have HF3 : Hid _ := hF3
    have HPK : Hid _ := hpk
    clear hF3 hFB hFA HF HL1 hL2 hpk
    go_wp2_with fail
    refine Calls.mono (hpx _) ?_
    rintro e wr1 ⟨rfl, hw⟩
    obtain rfl := hw.symm
    go_wp2_with fail
    refine Calls.mono (hpy _) ?_
    rintro e wr1 ⟨rfl, hw⟩
    obtain rfl := hw.symm
    clear hpx hpy
    go_wp2_with fail
    refine Calls.mono HF1.out ?_
    rintro e w6 ⟨s0, k0, s1, is0, rfl, hf0, hb6⟩
    have hb6' : Below w5.heap.size w5 (w6.alloc (.cells #[.string s0, .int .i64 k0, .string s1] 40)) := hb6.alloc hb6.size _
    clear HF1 b0 b1 b2 b3 hlt5
    go_wp2_with fail
    refine Calls.mono (HFA.out _ hb6') ?_
    rintro e w7 ⟨s2, k2, s3, is2, rfl, hf2, hb7⟩
    have hb7' : Below w5.heap.size w5 w7 := below_via hb6' hb7
    have hbF : Below w5.heap.size w5 (w7.alloc (.cells #[.string s2, .int .i64 k2, .string s3] 40)) := hb7'.alloc hb7'.size _
    have t1 : w7.cell? ⟨w6.heap.size, 1, none⟩ = some (.int .i64 k0) := (hb7.cell (p := ⟨w6.heap.size, 1, none⟩) (by simp)).trans (cellsT3 (heap_alloc_new w6 _)).2.2.1
    have t2 : w7.cell? ⟨w6.heap.size, 2, none⟩ = some (.string s1) := (hb7.cell (p := ⟨w6.heap.size, 2, none⟩) (by simp)).trans (cellsT3 (heap_alloc_new w6 _)).2.2.2.1
    have ht7 : w6.heap.size < w7.heap.size := Nat.lt_of_lt_of_le (by simp) hb7.size
    obtain ⟨hlt7, b0, b1, b2, b3⟩ := HBX.out w7 (below_via (ShOne.old H5.out) hb7')
    clear HFA hb6 hb6' hb7 hb7' b1 b2
    go_wp2_with fail
    refine Calls.mono (HPK.out _) ?_
    rintro e wr1 ⟨rfl, rfl⟩
    have h6 : pk = 0 ∨ pk = 1 ∨ pk = 2 ∨ pk = 3 ∨ pk = 4 ∨ pk = 5 := by omega
    clear HPK b0 hp0 hp1
    rcases h6 with rfl | rfl | rfl | rfl | rfl | rfl
    iterate 3
      focus
        obtain ⟨u1, u2, u3, u4⟩ := Found.some hf0 (HF3.out.1 (by decide))
        dsimp only at u2 u3
        have u2 := u2.symm
        have u3 := u3.symm
        have u4 := u4.symm
        subst u2 u3 u4
        have HSH : Hid _ := fun W => short_any d W hd
        clear hf0 hf2 HF3 HFB u1
        go_wp2
        go_quiet (first | (go_at_call 19; exact Calls.quiet_of_same (HSH.out _)))
        have HCO : Hid _ := fun n9 => sh_commit HO.out.exact HO.out.len (ShOne.below H5.out (below_drewN hbF n9))
        clear H5 HSH
        go_wp2_with fail
        refine Calls.mono (HCO.out _) ?_
        rintro e w9 ⟨c9, rfl, h9⟩
        have HWK : Hid _ := sh_work h9
        clear h9 HCO
        go_wp2_with fail
        refine Calls.mono HWK.out ?_
        rintro e w10 ⟨B10, rfl, h10⟩
        have HLA : Hid _ := sh_last h10 (by omega)
        clear h10 HWK
        go_wp2_with fail
        refine Calls.mono HLA.out ?_
        rintro e w11 ⟨v11, rfl, hb11, h11⟩
        have H11 : Hid _ := h11
        clear h11 HLA
        go_wp2_with fail
        refine Calls.mono H11.out ?_
        rintro e w12 ⟨rfl, hb12⟩
        have hbf := below_via HB0.out (below_via hb11 hb12)
        clear hb12 H11 hb11
        go_wp2
        go_ret
        exact ⟨rfl, hbf⟩
    · obtain ⟨u1, u2, u3, u4⟩ := Found.some hf0 (HF3.out.2.1 rfl).1
      have u5 := Found.none hf2 (HF3.out.2.1 rfl).2
      dsimp only at u2 u3
      have u2 := u2.symm
      have u3 := u3.symm
      have u4 := u4.symm
      have u5 := u5.symm
      subst u2 u3 u4 u5
      clear hf0 hf2 HF3 HFB u1
      have HCO : Hid _ := sh_commit HO.out.exact HO.out.len (ShOne.below H5.out hbF)
      clear H5 
      go_wp2_with fail
      refine Calls.mono HCO.out ?_
      rintro e w9 ⟨c9, rfl, h9⟩
      have HWK : Hid _ := sh_work h9
      clear h9 HCO
      go_wp2_with fail
      refine Calls.mono HWK.out ?_
      rintro e w10 ⟨B10, rfl, h10⟩
      have HLA : Hid _ := sh_last h10 (by omega)
      clear h10 HWK
      go_wp2_with fail
      refine Calls.mono HLA.out ?_
      rintro e w11 ⟨v11, rfl, hb11, h11⟩
      have H11 : Hid _ := h11
      clear h11 HLA
      go_wp2_with fail
      refine Calls.mono H11.out ?_
      rintro e w12 ⟨rfl, hb12⟩
      have hbf := below_via HB0.out (below_via hb11 hb12)
      clear hb12 H11 hb11
      go_wp2
      go_ret
      exact ⟨rfl, hbf⟩
    · have u4 := Found.none hf0 (HF3.out.2.2.1 rfl).1
      have u5 := hf2.2.symm.trans (HF3.out.2.2.1 rfl).2
      have u4 := u4.symm
      have u5 := u5.symm
      subst u4 u5
      clear hf0 hf2 HF3 HFB
      have HCO : Hid _ := sh_commit HO.out.exact HO.out.len (ShOne.below H5.out hbF)
      clear H5 
      go_wp2_with fail
      refine Calls.mono HCO.out ?_
      rintro e w9 ⟨c9, rfl, h9⟩
      have HWK : Hid _ := sh_work h9
      clear h9 HCO
      go_wp2_with fail
      refine Calls.mono HWK.out ?_
      rintro e w10 ⟨B10, rfl, h10⟩
      have HLA : Hid _ := sh_last h10 (by omega)
      clear h10 HWK
      go_wp2_with fail
      refine Calls.mono HLA.out ?_
      rintro e w11 ⟨v11, rfl, hb11, h11⟩
      have H11 : Hid _ := h11
      clear h11 HLA
      go_wp2_with fail
      refine Calls.mono H11.out ?_
      rintro e w12 ⟨rfl, hb12⟩
      have hbf := below_via HB0.out (below_via hb11 hb12)
      clear hb12 H11 hb11
      go_wp2
      go_ret
      exact ⟨rfl, hbf⟩
    · obtain ⟨⟨k9, z9, y1, y2⟩, y3⟩ := HF3.out.2.2.2 rfl
      obtain ⟨u1, u2, u3, u4⟩ := Found.some hf2 y1
      clear u1
      have u5 := hf0.2.symm.trans y3
      dsimp only at u2 u3
      have u2 := u2.symm
      have u3 := u3.symm
      have u4 := u4.symm
      subst u2 u3 u4
      have HY2 : Hid _ := y2
      have HU5 : Hid _ := u5
      clear hf0 hf2 HF3 y1 y3 y2 u5
      go_wp2_with fail
      refine Calls.mono (HFB.out _ hbF) ?_
      rintro e w8 ⟨q0, qk, q1, qs, rfl, hf8, hb8⟩
      obtain ⟨x1, x2, x3, x4⟩ := Found.some hf8 HY2.out
      clear x1
      dsimp only at x2 x3
      have x2 := x2.symm
      have x3 := x3.symm
      have x4 := x4.symm
      subst x2 x3 x4
      have o1 : w8.cell? ⟨w7.heap.size, 1, none⟩ = some (.int .i64 k9) := (hb8.cell (p := ⟨w7.heap.size, 1, none⟩) (by simp)).trans (cellsT3 (heap_alloc_new w7 _)).2.2.1
      have o2 : w8.cell? ⟨w7.heap.size, 2, none⟩ = some (.string z9) := (hb8.cell (p := ⟨w7.heap.size, 2, none⟩) (by simp)).trans (cellsT3 (heap_alloc_new w7 _)).2.2.2.1
      have ho8 : w7.heap.size < w8.heap.size := Nat.lt_of_lt_of_le (by simp) hb8.size
      have hb8' : Below w5.heap.size w5 w8 := below_via hbF hb8
      have u5 := HU5.out.symm
      clear hf8 hb8 HY2 HFB HU5
      subst u5
      have HCO : Hid _ := fun o9 => sh_commit HO.out.exact HO.out.len (ShOne.below H5.out (hb8'.alloc hb8'.size o9))
      clear H5 
      go_wp2_with fail
      refine Calls.mono (HCO.out _) ?_
      rintro e w9 ⟨c9, rfl, h9⟩
      have HWK : Hid _ := sh_work h9
      clear h9 HCO
      go_wp2_with fail
      refine Calls.mono HWK.out ?_
      rintro e w10 ⟨B10, rfl, h10⟩
      have HLA : Hid _ := sh_last h10 (by omega)
      clear h10 HWK
      go_wp2_with fail
      refine Calls.mono HLA.out ?_
      rintro e w11 ⟨v11, rfl, hb11, h11⟩
      have H11 : Hid _ := h11
      clear h11 HLA
      go_wp2_with fail
      refine Calls.mono H11.out ?_
      rintro e w12 ⟨rfl, hb12⟩
      have hbf := below_via HB0.out (below_via hb11 hb12)
      clear hb12 H11 hb11
      go_wp2
      go_ret
      exact ⟨rfl, hbf⟩
  · have he0 : (er == 0) = false := by simpa using her
    have he1 : (er == 14) = false := by simpa using HF.out.1
    have he2 : (er != 14) = true := by simpa using HF.out.1
    have he3 : ¬ er = 14 := HF.out.1
    have HSM : Hid _ := sh_same H5.out (HF.out.2.1 her)
    have hb5 : Below W1.heap.size W1 w5 := ShOne.old H5.out
    clear HF H5 her HL1
    go_wp2_with fail
    refine Calls.mono HSM.out ?_
    rintro e w6 ⟨rfl, hb6⟩
    have hbf := below_via HB0.out (below_via hb5 hb6)
    clear hb6 HSM hb5
    go_wp2
    go_ret
    exact ⟨rfl, hbf⟩
end Go.Proofs.YtajopoddmfdejaaGreat
