/-
  What is proved here: canopykeep's Held returns true, and what was there stands.
-/
import Derived.Test.YtehpnebekgahnaaGreatHeldM02
namespace Go.Proofs.YtehpnebekgahnaaGreat
open Go.RowKit Go.Sort Go.Shelf
set_option linter.unusedVariables false

theorem op2_some (b f b1 : Nat) (p0 p1 : Int) : op2 b f b1 p0 p1 0 ≠ none ∧ op2 b f b1 p0 p1 1 ≠ none := ⟨(fun h => by cases h), (fun h => by cases h)⟩

set_option maxRecDepth 100000 in
set_option maxHeartbeats 16000000 in
theorem held_walk (W : World) (a : Option Addr) (len cap : Nat) (c : Int) (d : ByteArray) (how : Int) (hS : StepsAt W a len) (hlen : len ≤ maxLen) (hc : i64 c) (hd : d.size ≤ maxLen) (hh : i64 how) :
    Calls Tryz.prog 3 #[.slice a len cap, .int .i64 c, .string d, .int .i64 how] W fun e w' => e = .returned (.bool true) ∧ Below W.heap.size W w' := by
  have hp3 := fun w => kpick_any how 3 w hh (by decide) (by decide)
  obtain ⟨q0, q1⟩ := pickN_range (c := how) (n := 3) (by decide)
  generalize pickN how 3 = pk at hp3 q0 q1
  have hpc := fun w => kpick_any c 300 w hc (by decide) (by decide)
  obtain ⟨r0, r1⟩ := pickN_range (c := c) (n := 300) (by decide)
  generalize pickN c 300 = pn at hpc r0 r1
  have hw2 : IntKind.i64.wrap (1 + pn) = 1 + pn := by rw [IntKind.wrap_i64] <;> omega
  have hn1 : 1 ≤ 1 + pn := by omega
  have hpl := plain_any W
  have HS : Hid _ := hS
  unfold maxLen at hlen hd
  clear hS hh hc
  have hcase : pk = 0 ∨ pk = 1 ∨ pk = 2 := by omega
  clear q0 q1
  go_enter Tryz.func3, Tryz.ntmps3
  go_wp2_with fail
  refine hpl.mono ?_
  rintro e w1 ⟨s, B, rfl, p, tg, objs, g, t, hT, ht, hb, hK⟩
  have HT : Hid _ := hT
  have HK : Hid (KSt W w1 s p B objs 0) := ⟨tg, g, t, ⟨hb, ht⟩, hK⟩
  clear hT ht hb hK hpl
  go_wp2
  go_loopw [12] (fun i wr => ∃ k : Nat, k ≤ len ∧ k ≤ 90 ∧ i = .int .i64 (k : Int) ∧ Hid (KSt W wr s p B objs (k * 500))) (fun i _ => 90 - (intOf i).toNat)
  case atStart => exact ⟨0, Nat.zero_le _, Nat.zero_le _, rfl, HK⟩
  case round =>
    obtain ⟨k, hk, hk9, rfl, HR⟩ := hrel
    by_cases hlt : k < len
    · by_cases hl9 : k < 90
      · obtain ⟨b, o, rfl, hb, hst⟩ := HS.out.at_ (by omega)
        obtain ⟨kd, x, y, dd, h1, h2, h3, h4, c0, c1, c2, c3⟩ := hst k hlt
        have hbel : Below W.heap.size W wr := by obtain ⟨_, _, _, h, _⟩ := HR.out; exact h.1
        have e0 := (hbel.cell (p := ⟨b, o + k * 4, none⟩) hb).trans c0
        have e1 := (hbel.cell (p := ⟨b, o + k * 4 + 1, none⟩) hb).trans c1
        have e2 := (hbel.cell (p := ⟨b, o + k * 4 + 2, none⟩) hb).trans c2
        have e3 := (hbel.cell (p := ⟨b, o + k * 4 + 3, none⟩) hb).trans c3
        have hdo := kst_do HR.out (by omega) h1 h2 h3 h4
        have HDO : Hid _ := hdo
        clear c0 c1 c2 c3 hst hdo hbel
        go_wp2_with fail
        refine Calls.mono HDO.out ?_
        rintro e w2 ⟨er, rfl, hK2⟩
        have HK2 : Hid _ := hK2
        clear hK2
        go_wp2
        exact ⟨⟨k + 1, by omega, by omega, by simp, by rw [show (k + 1) * 500 = k * 500 + 500 by omega]; exact HK2⟩, by simp only [intOf]; omega⟩
      · have hk0 : k = 90 := by omega
        have hkd : kindOf objs 1 = 1 := by rw [two_kind HT.out]; rfl
        have HBY : Hid _ := two_bytes HT.out
        have ho1 := h_open1 HR.out (by omega) hkd
        have HO1 : Hid _ := ho1
        clear HS HK HR HT hkd ho1
        go_wp2_with fail
        refine Calls.mono HO1.out ?_
        rintro e w2 ⟨rfl, f, b, hs2⟩
        have ho2 := h_open2 hs2
        have HO2 : Hid _ := ho2
        clear HO1 hs2 ho2
        go_wp2_with fail
        refine Calls.mono HO2.out ?_
        rintro e w3 ⟨rfl, b1, hs3⟩
        have HS3 : Hid (HeadSt W w3 s p B objs 61000 f (op2 b f b1 0 0)) := hs3
        clear HO2 hs3
        rcases hcase with rfl | rfl | rfl
        · go_wp2_with (go_at_call 8; refine Calls.mono (hp3 _) ?_; rintro e w4 ⟨rfl, rfl⟩)
          refine Calls.mono (h_remove HS3.out) ?_
          rintro e w5 ⟨rfl, hm⟩
          have HM : Hid _ := hm
          clear hm HS3
          have hC := apart_gone f
          by_cases hbig : 200 < d.size
          · have hd2 : (d.extract 0 200).size ≤ 200 := by (rw [← toL_len, toL_cut]; simp; omega)
            have hwr := l_write hC HBY.out hd2 HM.out
            have HW : Hid _ := hwr
            have hXs := one_sizeB (d.extract 0 200) hd2
            clear hwr HM HBY
            go_wp2_with fail
            refine Calls.mono HW.out ?_
            rintro e w7 ⟨rfl, q, hf⟩
            have hX : (oneB ++ (d.extract 0 200)) = (⟨#[49]⟩ ++ (d.extract 0 200) : ByteArray) := rfl
            generalize hXX : oneB ++ (d.extract 0 200) = X at hf hXs hX
            have hXq : (X.toList == (⟨#[49]⟩ ++ (d.extract 0 200) : ByteArray).toList) = true := by rw [hX]; exact beq_self_eq_true _
            have hr0 := l_read0 hC hXs hf
            have HR0 : Hid _ := hr0
            clear hr0 hf HW hX hXX
            go_wp2_with fail
            refine Calls.mono HR0.out ?_
            rintro e w8 ⟨rfl, p0, he8⟩
            have hsk := l_seek hC he8
            have HSK : Hid _ := hsk
            clear he8 hsk HR0
            go_wp2_with fail
            refine Calls.mono HSK.out ?_
            rintro e w9 ⟨rfl, he9⟩
            have hra := l_readA hC hn1 he9
            have hys := read_size X 0 (1 + pn)
            have hyz := read_parts hXs hn1
            have HRA : Hid _ := hra
            clear hra he9 HSK
            go_wp2_with (go_at_call 8; refine Calls.mono (hpc _) ?_; rintro e w10 ⟨rfl, rfl⟩)
            refine Calls.mono HRA.out ?_
            rintro e w11 ⟨rfl, he11⟩
            have hrb := l_readB hC (by omega) he11
            have hzs := read_size X (0 + (readB X 0 (1 + pn)).size) 1000
            have HRB : Hid _ := hrb
            clear hrb he11 HRA
            generalize readB X (0 + (readB X 0 (1 + pn)).size) 1000 = z at HRB hyz hzs
            generalize readB X 0 (1 + pn) = y at hyz hys ⊢
            have hyq : ((y ++ z).toList == X.toList) = true := by rw [hyz]; exact beq_self_eq_true _
            clear hyz
            go_wp2_with fail
            refine Calls.mono HRB.out ?_
            rintro e w12 ⟨rfl, q2, he12⟩
            have HE : Hid _ := he12
            clear he12 HRB
            go_wp2_with fail
            refine Calls.mono (e_none (by omega) (fun _ _ h => h) HE.out) ?_
            rintro e w13 ⟨rfl, he13⟩
            have hbel : Below W.heap.size W w13 := by obtain ⟨ks, g, hH, _⟩ := he13; obtain ⟨tg, hO, _⟩ := hH.inv; exact hO.1
            have HB : Hid _ := hbel
            clear he13 hbel HE
            go_wp2_with (go_at_call 8; refine Calls.mono (hp3 _) ?_; rintro e w14 ⟨rfl, rfl⟩)
            go_ret
            exact ⟨rfl, HB.out.alloc HB.out.size _⟩
          · have hd2 : d.size ≤ 200 := by omega
            have hwr := l_write hC HBY.out hd2 HM.out
            have HW : Hid _ := hwr
            have hXs := one_sizeB d hd2
            clear hwr HM HBY
            go_wp2_with fail
            refine Calls.mono HW.out ?_
            rintro e w7 ⟨rfl, q, hf⟩
            have hX : (oneB ++ d) = (⟨#[49]⟩ ++ d : ByteArray) := rfl
            generalize hXX : oneB ++ d = X at hf hXs hX
            have hXq : (X.toList == (⟨#[49]⟩ ++ d : ByteArray).toList) = true := by rw [hX]; exact beq_self_eq_true _
            have hr0 := l_read0 hC hXs hf
            have HR0 : Hid _ := hr0
            clear hr0 hf HW hX hXX
            go_wp2_with fail
            refine Calls.mono HR0.out ?_
            rintro e w8 ⟨rfl, p0, he8⟩
            have hsk := l_seek hC he8
            have HSK : Hid _ := hsk
            clear he8 hsk HR0
            go_wp2_with fail
            refine Calls.mono HSK.out ?_
            rintro e w9 ⟨rfl, he9⟩
            have hra := l_readA hC hn1 he9
            have hys := read_size X 0 (1 + pn)
            have hyz := read_parts hXs hn1
            have HRA : Hid _ := hra
            clear hra he9 HSK
            go_wp2_with (go_at_call 8; refine Calls.mono (hpc _) ?_; rintro e w10 ⟨rfl, rfl⟩)
            refine Calls.mono HRA.out ?_
            rintro e w11 ⟨rfl, he11⟩
            have hrb := l_readB hC (by omega) he11
            have hzs := read_size X (0 + (readB X 0 (1 + pn)).size) 1000
            have HRB : Hid _ := hrb
            clear hrb he11 HRA
            generalize readB X (0 + (readB X 0 (1 + pn)).size) 1000 = z at HRB hyz hzs
            generalize readB X 0 (1 + pn) = y at hyz hys ⊢
            have hyq : ((y ++ z).toList == X.toList) = true := by rw [hyz]; exact beq_self_eq_true _
            clear hyz
            go_wp2_with fail
            refine Calls.mono HRB.out ?_
            rintro e w12 ⟨rfl, q2, he12⟩
            have HE : Hid _ := he12
            clear he12 HRB
            go_wp2_with fail
            refine Calls.mono (e_none (by omega) (fun _ _ h => h) HE.out) ?_
            rintro e w13 ⟨rfl, he13⟩
            have hbel : Below W.heap.size W w13 := by obtain ⟨ks, g, hH, _⟩ := he13; obtain ⟨tg, hO, _⟩ := hH.inv; exact hO.1
            have HB : Hid _ := hbel
            clear he13 hbel HE
            go_wp2_with (go_at_call 8; refine Calls.mono (hp3 _) ?_; rintro e w14 ⟨rfl, rfl⟩)
            go_ret
            exact ⟨rfl, HB.out.alloc HB.out.size _⟩
        · go_wp2_with (go_at_call 8; refine Calls.mono (hp3 _) ?_; rintro e w4 ⟨rfl, rfl⟩)
          refine Calls.mono (h_rename HS3.out) ?_
          rintro e w5 ⟨rfl, hm⟩
          have HM : Hid _ := hm
          clear hm HS3
          have hC := apart_moved f
          by_cases hbig : 200 < d.size
          · have hd2 : (d.extract 0 200).size ≤ 200 := by (rw [← toL_len, toL_cut]; simp; omega)
            have hwr := l_write hC HBY.out hd2 HM.out
            have HW : Hid _ := hwr
            have hXs := one_sizeB (d.extract 0 200) hd2
            clear hwr HM HBY
            go_wp2_with fail
            refine Calls.mono HW.out ?_
            rintro e w7 ⟨rfl, q, hf⟩
            have hX : (oneB ++ (d.extract 0 200)) = (⟨#[49]⟩ ++ (d.extract 0 200) : ByteArray) := rfl
            generalize hXX : oneB ++ (d.extract 0 200) = X at hf hXs hX
            have hXq : (X.toList == (⟨#[49]⟩ ++ (d.extract 0 200) : ByteArray).toList) = true := by rw [hX]; exact beq_self_eq_true _
            have hr0 := l_read0 hC hXs hf
            have HR0 : Hid _ := hr0
            clear hr0 hf HW hX hXX
            go_wp2_with fail
            refine Calls.mono HR0.out ?_
            rintro e w8 ⟨rfl, p0, he8⟩
            have hsk := l_seek hC he8
            have HSK : Hid _ := hsk
            clear he8 hsk HR0
            go_wp2_with fail
            refine Calls.mono HSK.out ?_
            rintro e w9 ⟨rfl, he9⟩
            have hra := l_readA hC hn1 he9
            have hys := read_size X 0 (1 + pn)
            have hyz := read_parts hXs hn1
            have HRA : Hid _ := hra
            clear hra he9 HSK
            go_wp2_with (go_at_call 8; refine Calls.mono (hpc _) ?_; rintro e w10 ⟨rfl, rfl⟩)
            refine Calls.mono HRA.out ?_
            rintro e w11 ⟨rfl, he11⟩
            have hrb := l_readB hC (by omega) he11
            have hzs := read_size X (0 + (readB X 0 (1 + pn)).size) 1000
            have HRB : Hid _ := hrb
            clear hrb he11 HRA
            generalize readB X (0 + (readB X 0 (1 + pn)).size) 1000 = z at HRB hyz hzs
            generalize readB X 0 (1 + pn) = y at hyz hys ⊢
            have hyq : ((y ++ z).toList == X.toList) = true := by rw [hyz]; exact beq_self_eq_true _
            clear hyz
            go_wp2_with fail
            refine Calls.mono HRB.out ?_
            rintro e w12 ⟨rfl, q2, he12⟩
            have HE : Hid _ := he12
            clear he12 HRB
            go_wp2_with fail
            refine Calls.mono (e_none (by omega) (fun _ _ h => h.1) HE.out) ?_
            rintro e w13 ⟨rfl, he13⟩
            have HE2 : Hid _ := end_moved he13
            clear he13 HE
            go_wp2_with (go_at_call 8; refine Calls.mono (hp3 _) ?_; rintro e w14 ⟨rfl, rfl⟩)
            refine Calls.mono (e_told_box (by omega) (by omega) nameF_valid rfl (op2_some _ _ _ _ _) HE2.out _) ?_
            rintro e w15 ⟨rfl, hbel⟩
            go_wp2
            go_ret
            exact ⟨rfl, hbel⟩
          · have hd2 : d.size ≤ 200 := by omega
            have hwr := l_write hC HBY.out hd2 HM.out
            have HW : Hid _ := hwr
            have hXs := one_sizeB d hd2
            clear hwr HM HBY
            go_wp2_with fail
            refine Calls.mono HW.out ?_
            rintro e w7 ⟨rfl, q, hf⟩
            have hX : (oneB ++ d) = (⟨#[49]⟩ ++ d : ByteArray) := rfl
            generalize hXX : oneB ++ d = X at hf hXs hX
            have hXq : (X.toList == (⟨#[49]⟩ ++ d : ByteArray).toList) = true := by rw [hX]; exact beq_self_eq_true _
            have hr0 := l_read0 hC hXs hf
            have HR0 : Hid _ := hr0
            clear hr0 hf HW hX hXX
            go_wp2_with fail
            refine Calls.mono HR0.out ?_
            rintro e w8 ⟨rfl, p0, he8⟩
            have hsk := l_seek hC he8
            have HSK : Hid _ := hsk
            clear he8 hsk HR0
            go_wp2_with fail
            refine Calls.mono HSK.out ?_
            rintro e w9 ⟨rfl, he9⟩
            have hra := l_readA hC hn1 he9
            have hys := read_size X 0 (1 + pn)
            have hyz := read_parts hXs hn1
            have HRA : Hid _ := hra
            clear hra he9 HSK
            go_wp2_with (go_at_call 8; refine Calls.mono (hpc _) ?_; rintro e w10 ⟨rfl, rfl⟩)
            refine Calls.mono HRA.out ?_
            rintro e w11 ⟨rfl, he11⟩
            have hrb := l_readB hC (by omega) he11
            have hzs := read_size X (0 + (readB X 0 (1 + pn)).size) 1000
            have HRB : Hid _ := hrb
            clear hrb he11 HRA
            generalize readB X (0 + (readB X 0 (1 + pn)).size) 1000 = z at HRB hyz hzs
            generalize readB X 0 (1 + pn) = y at hyz hys ⊢
            have hyq : ((y ++ z).toList == X.toList) = true := by rw [hyz]; exact beq_self_eq_true _
            clear hyz
            go_wp2_with fail
            refine Calls.mono HRB.out ?_
            rintro e w12 ⟨rfl, q2, he12⟩
            have HE : Hid _ := he12
            clear he12 HRB
            go_wp2_with fail
            refine Calls.mono (e_none (by omega) (fun _ _ h => h.1) HE.out) ?_
            rintro e w13 ⟨rfl, he13⟩
            have HE2 : Hid _ := end_moved he13
            clear he13 HE
            go_wp2_with (go_at_call 8; refine Calls.mono (hp3 _) ?_; rintro e w14 ⟨rfl, rfl⟩)
            refine Calls.mono (e_told_box (by omega) (by omega) nameF_valid rfl (op2_some _ _ _ _ _) HE2.out _) ?_
            rintro e w15 ⟨rfl, hbel⟩
            go_wp2
            go_ret
            exact ⟨rfl, hbel⟩
        · go_wp2_with (go_at_call 8; refine Calls.mono (hp3 _) ?_; rintro e w4 ⟨rfl, rfl⟩)
          refine Calls.mono (h_put HS3.out rfl (op2_some _ _ _ _ _)) ?_
          rintro e w5 ⟨rfl, f2, hm⟩
          have HP : Hid _ := hm
          clear hm HS3
          go_wp2_with fail
          refine Calls.mono (h_instead HP.out) ?_
          rintro e w6 ⟨rfl, hm⟩
          have HM : Hid _ := hm
          clear hm HP
          have hC := apart_other f
          by_cases hbig : 200 < d.size
          · have hd2 : (d.extract 0 200).size ≤ 200 := by (rw [← toL_len, toL_cut]; simp; omega)
            have hwr := l_write hC HBY.out hd2 HM.out
            have HW : Hid _ := hwr
            have hXs := one_sizeB (d.extract 0 200) hd2
            clear hwr HM HBY
            go_wp2_with fail
            refine Calls.mono HW.out ?_
            rintro e w7 ⟨rfl, q, hf⟩
            have hX : (oneB ++ (d.extract 0 200)) = (⟨#[49]⟩ ++ (d.extract 0 200) : ByteArray) := rfl
            generalize hXX : oneB ++ (d.extract 0 200) = X at hf hXs hX
            have hXq : (X.toList == (⟨#[49]⟩ ++ (d.extract 0 200) : ByteArray).toList) = true := by rw [hX]; exact beq_self_eq_true _
            have hr0 := l_read0 hC hXs hf
            have HR0 : Hid _ := hr0
            clear hr0 hf HW hX hXX
            go_wp2_with fail
            refine Calls.mono HR0.out ?_
            rintro e w8 ⟨rfl, p0, he8⟩
            have hsk := l_seek hC he8
            have HSK : Hid _ := hsk
            clear he8 hsk HR0
            go_wp2_with fail
            refine Calls.mono HSK.out ?_
            rintro e w9 ⟨rfl, he9⟩
            have hra := l_readA hC hn1 he9
            have hys := read_size X 0 (1 + pn)
            have hyz := read_parts hXs hn1
            have HRA : Hid _ := hra
            clear hra he9 HSK
            go_wp2_with (go_at_call 8; refine Calls.mono (hpc _) ?_; rintro e w10 ⟨rfl, rfl⟩)
            refine Calls.mono HRA.out ?_
            rintro e w11 ⟨rfl, he11⟩
            have hrb := l_readB hC (by omega) he11
            have hzs := read_size X (0 + (readB X 0 (1 + pn)).size) 1000
            have HRB : Hid _ := hrb
            clear hrb he11 HRA
            generalize readB X (0 + (readB X 0 (1 + pn)).size) 1000 = z at HRB hyz hzs
            generalize readB X 0 (1 + pn) = y at hyz hys ⊢
            have hyq : ((y ++ z).toList == X.toList) = true := by rw [hyz]; exact beq_self_eq_true _
            clear hyz
            go_wp2_with fail
            refine Calls.mono HRB.out ?_
            rintro e w12 ⟨rfl, q2, he12⟩
            have HE : Hid _ := he12
            clear he12 HRB
            obtain ⟨f3, he3⟩ := end_other HE.out
            have HE3 : Hid _ := he3
            clear he3 HE
            go_wp2_with fail
            refine Calls.mono (e_stat (by omega) nameE_valid HE3.out) ?_
            rintro e w13 ⟨rfl, he13⟩
            have HE2 : Hid _ := he13
            clear he13 HE3
            go_wp2_with (go_at_call 8; refine Calls.mono (hp3 _) ?_; rintro e w14 ⟨rfl, rfl⟩)
            refine Calls.mono (e_told_box (by omega) (by decide) nameE_valid rfl (op2_some _ _ _ _ _) HE2.out _) ?_
            rintro e w15 ⟨rfl, hbel⟩
            unfold otherB
            go_wp2
            go_ret
            exact ⟨rfl, hbel⟩
          · have hd2 : d.size ≤ 200 := by omega
            have hwr := l_write hC HBY.out hd2 HM.out
            have HW : Hid _ := hwr
            have hXs := one_sizeB d hd2
            clear hwr HM HBY
            go_wp2_with fail
            refine Calls.mono HW.out ?_
            rintro e w7 ⟨rfl, q, hf⟩
            have hX : (oneB ++ d) = (⟨#[49]⟩ ++ d : ByteArray) := rfl
            generalize hXX : oneB ++ d = X at hf hXs hX
            have hXq : (X.toList == (⟨#[49]⟩ ++ d : ByteArray).toList) = true := by rw [hX]; exact beq_self_eq_true _
            have hr0 := l_read0 hC hXs hf
            have HR0 : Hid _ := hr0
            clear hr0 hf HW hX hXX
            go_wp2_with fail
            refine Calls.mono HR0.out ?_
            rintro e w8 ⟨rfl, p0, he8⟩
            have hsk := l_seek hC he8
            have HSK : Hid _ := hsk
            clear he8 hsk HR0
            go_wp2_with fail
            refine Calls.mono HSK.out ?_
            rintro e w9 ⟨rfl, he9⟩
            have hra := l_readA hC hn1 he9
            have hys := read_size X 0 (1 + pn)
            have hyz := read_parts hXs hn1
            have HRA : Hid _ := hra
            clear hra he9 HSK
            go_wp2_with (go_at_call 8; refine Calls.mono (hpc _) ?_; rintro e w10 ⟨rfl, rfl⟩)
            refine Calls.mono HRA.out ?_
            rintro e w11 ⟨rfl, he11⟩
            have hrb := l_readB hC (by omega) he11
            have hzs := read_size X (0 + (readB X 0 (1 + pn)).size) 1000
            have HRB : Hid _ := hrb
            clear hrb he11 HRA
            generalize readB X (0 + (readB X 0 (1 + pn)).size) 1000 = z at HRB hyz hzs
            generalize readB X 0 (1 + pn) = y at hyz hys ⊢
            have hyq : ((y ++ z).toList == X.toList) = true := by rw [hyz]; exact beq_self_eq_true _
            clear hyz
            go_wp2_with fail
            refine Calls.mono HRB.out ?_
            rintro e w12 ⟨rfl, q2, he12⟩
            have HE : Hid _ := he12
            clear he12 HRB
            obtain ⟨f3, he3⟩ := end_other HE.out
            have HE3 : Hid _ := he3
            clear he3 HE
            go_wp2_with fail
            refine Calls.mono (e_stat (by omega) nameE_valid HE3.out) ?_
            rintro e w13 ⟨rfl, he13⟩
            have HE2 : Hid _ := he13
            clear he13 HE3
            go_wp2_with (go_at_call 8; refine Calls.mono (hp3 _) ?_; rintro e w14 ⟨rfl, rfl⟩)
            refine Calls.mono (e_told_box (by omega) (by decide) nameE_valid rfl (op2_some _ _ _ _ _) HE2.out _) ?_
            rintro e w15 ⟨rfl, hbel⟩
            unfold otherB
            go_wp2
            go_ret
            exact ⟨rfl, hbel⟩
    · have hk0 : k = len := by omega
      have hkd : kindOf objs 1 = 1 := by rw [two_kind HT.out]; rfl
      have HBY : Hid _ := two_bytes HT.out
      have ho1 := h_open1 HR.out (by omega) hkd
      have HO1 : Hid _ := ho1
      clear HS HK HR HT hkd ho1
      go_wp2_with fail
      refine Calls.mono HO1.out ?_
      rintro e w2 ⟨rfl, f, b, hs2⟩
      have ho2 := h_open2 hs2
      have HO2 : Hid _ := ho2
      clear HO1 hs2 ho2
      go_wp2_with fail
      refine Calls.mono HO2.out ?_
      rintro e w3 ⟨rfl, b1, hs3⟩
      have HS3 : Hid (HeadSt W w3 s p B objs 61000 f (op2 b f b1 0 0)) := hs3
      clear HO2 hs3
      rcases hcase with rfl | rfl | rfl
      · go_wp2_with (go_at_call 8; refine Calls.mono (hp3 _) ?_; rintro e w4 ⟨rfl, rfl⟩)
        refine Calls.mono (h_remove HS3.out) ?_
        rintro e w5 ⟨rfl, hm⟩
        have HM : Hid _ := hm
        clear hm HS3
        have hC := apart_gone f
        by_cases hbig : 200 < d.size
        · have hd2 : (d.extract 0 200).size ≤ 200 := by (rw [← toL_len, toL_cut]; simp; omega)
          have hwr := l_write hC HBY.out hd2 HM.out
          have HW : Hid _ := hwr
          have hXs := one_sizeB (d.extract 0 200) hd2
          clear hwr HM HBY
          go_wp2_with fail
          refine Calls.mono HW.out ?_
          rintro e w7 ⟨rfl, q, hf⟩
          have hX : (oneB ++ (d.extract 0 200)) = (⟨#[49]⟩ ++ (d.extract 0 200) : ByteArray) := rfl
          generalize hXX : oneB ++ (d.extract 0 200) = X at hf hXs hX
          have hXq : (X.toList == (⟨#[49]⟩ ++ (d.extract 0 200) : ByteArray).toList) = true := by rw [hX]; exact beq_self_eq_true _
          have hr0 := l_read0 hC hXs hf
          have HR0 : Hid _ := hr0
          clear hr0 hf HW hX hXX
          go_wp2_with fail
          refine Calls.mono HR0.out ?_
          rintro e w8 ⟨rfl, p0, he8⟩
          have hsk := l_seek hC he8
          have HSK : Hid _ := hsk
          clear he8 hsk HR0
          go_wp2_with fail
          refine Calls.mono HSK.out ?_
          rintro e w9 ⟨rfl, he9⟩
          have hra := l_readA hC hn1 he9
          have hys := read_size X 0 (1 + pn)
          have hyz := read_parts hXs hn1
          have HRA : Hid _ := hra
          clear hra he9 HSK
          go_wp2_with (go_at_call 8; refine Calls.mono (hpc _) ?_; rintro e w10 ⟨rfl, rfl⟩)
          refine Calls.mono HRA.out ?_
          rintro e w11 ⟨rfl, he11⟩
          have hrb := l_readB hC (by omega) he11
          have hzs := read_size X (0 + (readB X 0 (1 + pn)).size) 1000
          have HRB : Hid _ := hrb
          clear hrb he11 HRA
          generalize readB X (0 + (readB X 0 (1 + pn)).size) 1000 = z at HRB hyz hzs
          generalize readB X 0 (1 + pn) = y at hyz hys ⊢
          have hyq : ((y ++ z).toList == X.toList) = true := by rw [hyz]; exact beq_self_eq_true _
          clear hyz
          go_wp2_with fail
          refine Calls.mono HRB.out ?_
          rintro e w12 ⟨rfl, q2, he12⟩
          have HE : Hid _ := he12
          clear he12 HRB
          go_wp2_with fail
          refine Calls.mono (e_none (by omega) (fun _ _ h => h) HE.out) ?_
          rintro e w13 ⟨rfl, he13⟩
          have hbel : Below W.heap.size W w13 := by obtain ⟨ks, g, hH, _⟩ := he13; obtain ⟨tg, hO, _⟩ := hH.inv; exact hO.1
          have HB : Hid _ := hbel
          clear he13 hbel HE
          go_wp2_with (go_at_call 8; refine Calls.mono (hp3 _) ?_; rintro e w14 ⟨rfl, rfl⟩)
          go_ret
          exact ⟨rfl, HB.out.alloc HB.out.size _⟩
        · have hd2 : d.size ≤ 200 := by omega
          have hwr := l_write hC HBY.out hd2 HM.out
          have HW : Hid _ := hwr
          have hXs := one_sizeB d hd2
          clear hwr HM HBY
          go_wp2_with fail
          refine Calls.mono HW.out ?_
          rintro e w7 ⟨rfl, q, hf⟩
          have hX : (oneB ++ d) = (⟨#[49]⟩ ++ d : ByteArray) := rfl
          generalize hXX : oneB ++ d = X at hf hXs hX
          have hXq : (X.toList == (⟨#[49]⟩ ++ d : ByteArray).toList) = true := by rw [hX]; exact beq_self_eq_true _
          have hr0 := l_read0 hC hXs hf
          have HR0 : Hid _ := hr0
          clear hr0 hf HW hX hXX
          go_wp2_with fail
          refine Calls.mono HR0.out ?_
          rintro e w8 ⟨rfl, p0, he8⟩
          have hsk := l_seek hC he8
          have HSK : Hid _ := hsk
          clear he8 hsk HR0
          go_wp2_with fail
          refine Calls.mono HSK.out ?_
          rintro e w9 ⟨rfl, he9⟩
          have hra := l_readA hC hn1 he9
          have hys := read_size X 0 (1 + pn)
          have hyz := read_parts hXs hn1
          have HRA : Hid _ := hra
          clear hra he9 HSK
          go_wp2_with (go_at_call 8; refine Calls.mono (hpc _) ?_; rintro e w10 ⟨rfl, rfl⟩)
          refine Calls.mono HRA.out ?_
          rintro e w11 ⟨rfl, he11⟩
          have hrb := l_readB hC (by omega) he11
          have hzs := read_size X (0 + (readB X 0 (1 + pn)).size) 1000
          have HRB : Hid _ := hrb
          clear hrb he11 HRA
          generalize readB X (0 + (readB X 0 (1 + pn)).size) 1000 = z at HRB hyz hzs
          generalize readB X 0 (1 + pn) = y at hyz hys ⊢
          have hyq : ((y ++ z).toList == X.toList) = true := by rw [hyz]; exact beq_self_eq_true _
          clear hyz
          go_wp2_with fail
          refine Calls.mono HRB.out ?_
          rintro e w12 ⟨rfl, q2, he12⟩
          have HE : Hid _ := he12
          clear he12 HRB
          go_wp2_with fail
          refine Calls.mono (e_none (by omega) (fun _ _ h => h) HE.out) ?_
          rintro e w13 ⟨rfl, he13⟩
          have hbel : Below W.heap.size W w13 := by obtain ⟨ks, g, hH, _⟩ := he13; obtain ⟨tg, hO, _⟩ := hH.inv; exact hO.1
          have HB : Hid _ := hbel
          clear he13 hbel HE
          go_wp2_with (go_at_call 8; refine Calls.mono (hp3 _) ?_; rintro e w14 ⟨rfl, rfl⟩)
          go_ret
          exact ⟨rfl, HB.out.alloc HB.out.size _⟩
      · go_wp2_with (go_at_call 8; refine Calls.mono (hp3 _) ?_; rintro e w4 ⟨rfl, rfl⟩)
        refine Calls.mono (h_rename HS3.out) ?_
        rintro e w5 ⟨rfl, hm⟩
        have HM : Hid _ := hm
        clear hm HS3
        have hC := apart_moved f
        by_cases hbig : 200 < d.size
        · have hd2 : (d.extract 0 200).size ≤ 200 := by (rw [← toL_len, toL_cut]; simp; omega)
          have hwr := l_write hC HBY.out hd2 HM.out
          have HW : Hid _ := hwr
          have hXs := one_sizeB (d.extract 0 200) hd2
          clear hwr HM HBY
          go_wp2_with fail
          refine Calls.mono HW.out ?_
          rintro e w7 ⟨rfl, q, hf⟩
          have hX : (oneB ++ (d.extract 0 200)) = (⟨#[49]⟩ ++ (d.extract 0 200) : ByteArray) := rfl
          generalize hXX : oneB ++ (d.extract 0 200) = X at hf hXs hX
          have hXq : (X.toList == (⟨#[49]⟩ ++ (d.extract 0 200) : ByteArray).toList) = true := by rw [hX]; exact beq_self_eq_true _
          have hr0 := l_read0 hC hXs hf
          have HR0 : Hid _ := hr0
          clear hr0 hf HW hX hXX
          go_wp2_with fail
          refine Calls.mono HR0.out ?_
          rintro e w8 ⟨rfl, p0, he8⟩
          have hsk := l_seek hC he8
          have HSK : Hid _ := hsk
          clear he8 hsk HR0
          go_wp2_with fail
          refine Calls.mono HSK.out ?_
          rintro e w9 ⟨rfl, he9⟩
          have hra := l_readA hC hn1 he9
          have hys := read_size X 0 (1 + pn)
          have hyz := read_parts hXs hn1
          have HRA : Hid _ := hra
          clear hra he9 HSK
          go_wp2_with (go_at_call 8; refine Calls.mono (hpc _) ?_; rintro e w10 ⟨rfl, rfl⟩)
          refine Calls.mono HRA.out ?_
          rintro e w11 ⟨rfl, he11⟩
          have hrb := l_readB hC (by omega) he11
          have hzs := read_size X (0 + (readB X 0 (1 + pn)).size) 1000
          have HRB : Hid _ := hrb
          clear hrb he11 HRA
          generalize readB X (0 + (readB X 0 (1 + pn)).size) 1000 = z at HRB hyz hzs
          generalize readB X 0 (1 + pn) = y at hyz hys ⊢
          have hyq : ((y ++ z).toList == X.toList) = true := by rw [hyz]; exact beq_self_eq_true _
          clear hyz
          go_wp2_with fail
          refine Calls.mono HRB.out ?_
          rintro e w12 ⟨rfl, q2, he12⟩
          have HE : Hid _ := he12
          clear he12 HRB
          go_wp2_with fail
          refine Calls.mono (e_none (by omega) (fun _ _ h => h.1) HE.out) ?_
          rintro e w13 ⟨rfl, he13⟩
          have HE2 : Hid _ := end_moved he13
          clear he13 HE
          go_wp2_with (go_at_call 8; refine Calls.mono (hp3 _) ?_; rintro e w14 ⟨rfl, rfl⟩)
          refine Calls.mono (e_told_box (by omega) (by omega) nameF_valid rfl (op2_some _ _ _ _ _) HE2.out _) ?_
          rintro e w15 ⟨rfl, hbel⟩
          go_wp2
          go_ret
          exact ⟨rfl, hbel⟩
        · have hd2 : d.size ≤ 200 := by omega
          have hwr := l_write hC HBY.out hd2 HM.out
          have HW : Hid _ := hwr
          have hXs := one_sizeB d hd2
          clear hwr HM HBY
          go_wp2_with fail
          refine Calls.mono HW.out ?_
          rintro e w7 ⟨rfl, q, hf⟩
          have hX : (oneB ++ d) = (⟨#[49]⟩ ++ d : ByteArray) := rfl
          generalize hXX : oneB ++ d = X at hf hXs hX
          have hXq : (X.toList == (⟨#[49]⟩ ++ d : ByteArray).toList) = true := by rw [hX]; exact beq_self_eq_true _
          have hr0 := l_read0 hC hXs hf
          have HR0 : Hid _ := hr0
          clear hr0 hf HW hX hXX
          go_wp2_with fail
          refine Calls.mono HR0.out ?_
          rintro e w8 ⟨rfl, p0, he8⟩
          have hsk := l_seek hC he8
          have HSK : Hid _ := hsk
          clear he8 hsk HR0
          go_wp2_with fail
          refine Calls.mono HSK.out ?_
          rintro e w9 ⟨rfl, he9⟩
          have hra := l_readA hC hn1 he9
          have hys := read_size X 0 (1 + pn)
          have hyz := read_parts hXs hn1
          have HRA : Hid _ := hra
          clear hra he9 HSK
          go_wp2_with (go_at_call 8; refine Calls.mono (hpc _) ?_; rintro e w10 ⟨rfl, rfl⟩)
          refine Calls.mono HRA.out ?_
          rintro e w11 ⟨rfl, he11⟩
          have hrb := l_readB hC (by omega) he11
          have hzs := read_size X (0 + (readB X 0 (1 + pn)).size) 1000
          have HRB : Hid _ := hrb
          clear hrb he11 HRA
          generalize readB X (0 + (readB X 0 (1 + pn)).size) 1000 = z at HRB hyz hzs
          generalize readB X 0 (1 + pn) = y at hyz hys ⊢
          have hyq : ((y ++ z).toList == X.toList) = true := by rw [hyz]; exact beq_self_eq_true _
          clear hyz
          go_wp2_with fail
          refine Calls.mono HRB.out ?_
          rintro e w12 ⟨rfl, q2, he12⟩
          have HE : Hid _ := he12
          clear he12 HRB
          go_wp2_with fail
          refine Calls.mono (e_none (by omega) (fun _ _ h => h.1) HE.out) ?_
          rintro e w13 ⟨rfl, he13⟩
          have HE2 : Hid _ := end_moved he13
          clear he13 HE
          go_wp2_with (go_at_call 8; refine Calls.mono (hp3 _) ?_; rintro e w14 ⟨rfl, rfl⟩)
          refine Calls.mono (e_told_box (by omega) (by omega) nameF_valid rfl (op2_some _ _ _ _ _) HE2.out _) ?_
          rintro e w15 ⟨rfl, hbel⟩
          go_wp2
          go_ret
          exact ⟨rfl, hbel⟩
      · go_wp2_with (go_at_call 8; refine Calls.mono (hp3 _) ?_; rintro e w4 ⟨rfl, rfl⟩)
        refine Calls.mono (h_put HS3.out rfl (op2_some _ _ _ _ _)) ?_
        rintro e w5 ⟨rfl, f2, hm⟩
        have HP : Hid _ := hm
        clear hm HS3
        go_wp2_with fail
        refine Calls.mono (h_instead HP.out) ?_
        rintro e w6 ⟨rfl, hm⟩
        have HM : Hid _ := hm
        clear hm HP
        have hC := apart_other f
        by_cases hbig : 200 < d.size
        · have hd2 : (d.extract 0 200).size ≤ 200 := by (rw [← toL_len, toL_cut]; simp; omega)
          have hwr := l_write hC HBY.out hd2 HM.out
          have HW : Hid _ := hwr
          have hXs := one_sizeB (d.extract 0 200) hd2
          clear hwr HM HBY
          go_wp2_with fail
          refine Calls.mono HW.out ?_
          rintro e w7 ⟨rfl, q, hf⟩
          have hX : (oneB ++ (d.extract 0 200)) = (⟨#[49]⟩ ++ (d.extract 0 200) : ByteArray) := rfl
          generalize hXX : oneB ++ (d.extract 0 200) = X at hf hXs hX
          have hXq : (X.toList == (⟨#[49]⟩ ++ (d.extract 0 200) : ByteArray).toList) = true := by rw [hX]; exact beq_self_eq_true _
          have hr0 := l_read0 hC hXs hf
          have HR0 : Hid _ := hr0
          clear hr0 hf HW hX hXX
          go_wp2_with fail
          refine Calls.mono HR0.out ?_
          rintro e w8 ⟨rfl, p0, he8⟩
          have hsk := l_seek hC he8
          have HSK : Hid _ := hsk
          clear he8 hsk HR0
          go_wp2_with fail
          refine Calls.mono HSK.out ?_
          rintro e w9 ⟨rfl, he9⟩
          have hra := l_readA hC hn1 he9
          have hys := read_size X 0 (1 + pn)
          have hyz := read_parts hXs hn1
          have HRA : Hid _ := hra
          clear hra he9 HSK
          go_wp2_with (go_at_call 8; refine Calls.mono (hpc _) ?_; rintro e w10 ⟨rfl, rfl⟩)
          refine Calls.mono HRA.out ?_
          rintro e w11 ⟨rfl, he11⟩
          have hrb := l_readB hC (by omega) he11
          have hzs := read_size X (0 + (readB X 0 (1 + pn)).size) 1000
          have HRB : Hid _ := hrb
          clear hrb he11 HRA
          generalize readB X (0 + (readB X 0 (1 + pn)).size) 1000 = z at HRB hyz hzs
          generalize readB X 0 (1 + pn) = y at hyz hys ⊢
          have hyq : ((y ++ z).toList == X.toList) = true := by rw [hyz]; exact beq_self_eq_true _
          clear hyz
          go_wp2_with fail
          refine Calls.mono HRB.out ?_
          rintro e w12 ⟨rfl, q2, he12⟩
          have HE : Hid _ := he12
          clear he12 HRB
          obtain ⟨f3, he3⟩ := end_other HE.out
          have HE3 : Hid _ := he3
          clear he3 HE
          go_wp2_with fail
          refine Calls.mono (e_stat (by omega) nameE_valid HE3.out) ?_
          rintro e w13 ⟨rfl, he13⟩
          have HE2 : Hid _ := he13
          clear he13 HE3
          go_wp2_with (go_at_call 8; refine Calls.mono (hp3 _) ?_; rintro e w14 ⟨rfl, rfl⟩)
          refine Calls.mono (e_told_box (by omega) (by decide) nameE_valid rfl (op2_some _ _ _ _ _) HE2.out _) ?_
          rintro e w15 ⟨rfl, hbel⟩
          unfold otherB
          go_wp2
          go_ret
          exact ⟨rfl, hbel⟩
        · have hd2 : d.size ≤ 200 := by omega
          have hwr := l_write hC HBY.out hd2 HM.out
          have HW : Hid _ := hwr
          have hXs := one_sizeB d hd2
          clear hwr HM HBY
          go_wp2_with fail
          refine Calls.mono HW.out ?_
          rintro e w7 ⟨rfl, q, hf⟩
          have hX : (oneB ++ d) = (⟨#[49]⟩ ++ d : ByteArray) := rfl
          generalize hXX : oneB ++ d = X at hf hXs hX
          have hXq : (X.toList == (⟨#[49]⟩ ++ d : ByteArray).toList) = true := by rw [hX]; exact beq_self_eq_true _
          have hr0 := l_read0 hC hXs hf
          have HR0 : Hid _ := hr0
          clear hr0 hf HW hX hXX
          go_wp2_with fail
          refine Calls.mono HR0.out ?_
          rintro e w8 ⟨rfl, p0, he8⟩
          have hsk := l_seek hC he8
          have HSK : Hid _ := hsk
          clear he8 hsk HR0
          go_wp2_with fail
          refine Calls.mono HSK.out ?_
          rintro e w9 ⟨rfl, he9⟩
          have hra := l_readA hC hn1 he9
          have hys := read_size X 0 (1 + pn)
          have hyz := read_parts hXs hn1
          have HRA : Hid _ := hra
          clear hra he9 HSK
          go_wp2_with (go_at_call 8; refine Calls.mono (hpc _) ?_; rintro e w10 ⟨rfl, rfl⟩)
          refine Calls.mono HRA.out ?_
          rintro e w11 ⟨rfl, he11⟩
          have hrb := l_readB hC (by omega) he11
          have hzs := read_size X (0 + (readB X 0 (1 + pn)).size) 1000
          have HRB : Hid _ := hrb
          clear hrb he11 HRA
          generalize readB X (0 + (readB X 0 (1 + pn)).size) 1000 = z at HRB hyz hzs
          generalize readB X 0 (1 + pn) = y at hyz hys ⊢
          have hyq : ((y ++ z).toList == X.toList) = true := by rw [hyz]; exact beq_self_eq_true _
          clear hyz
          go_wp2_with fail
          refine Calls.mono HRB.out ?_
          rintro e w12 ⟨rfl, q2, he12⟩
          have HE : Hid _ := he12
          clear he12 HRB
          obtain ⟨f3, he3⟩ := end_other HE.out
          have HE3 : Hid _ := he3
          clear he3 HE
          go_wp2_with fail
          refine Calls.mono (e_stat (by omega) nameE_valid HE3.out) ?_
          rintro e w13 ⟨rfl, he13⟩
          have HE2 : Hid _ := he13
          clear he13 HE3
          go_wp2_with (go_at_call 8; refine Calls.mono (hp3 _) ?_; rintro e w14 ⟨rfl, rfl⟩)
          refine Calls.mono (e_told_box (by omega) (by decide) nameE_valid rfl (op2_some _ _ _ _ _) HE2.out _) ?_
          rintro e w15 ⟨rfl, hbel⟩
          unfold otherB
          go_wp2
          go_ret
          exact ⟨rfl, hbel⟩
end Go.Proofs.YtehpnebekgahnaaGreat
