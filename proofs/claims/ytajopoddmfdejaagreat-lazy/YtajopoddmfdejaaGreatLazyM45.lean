/-
  What is proved here: canopykeep's Lazy returns true, and what was there stands.
-/
import Derived.Test.YtajopoddmfdejaaGreatLazyM44
namespace Go.Proofs.YtajopoddmfdejaaGreat
open Go.RowKit Go.Sort Go.Shelf
set_option linter.unusedVariables false

theorem l_made {W wr : World} {s p : Nat} {id : Int} (h : Made W wr s p id) : ∃ objs got, Obs8 objs id ∧ StSt W wr s p objs 60000 got [] [] := by
  obtain ⟨tg, objs, got, hO, hS, hX, hOn, hok, hlen, hid⟩ := h
  exact ⟨objs, got, ⟨hX, hOn, hok, hlen⟩, tg, hO, hS, fun r hr => (by cases hr), fun r hr => (by cases hr)⟩

theorem row_lower {w : World} {b b' : Nat} {e : TypeId} {size : Nat} {v : Value} {n : Nat} {xs : List Value} (hb : b' ≤ b) (h : w.ownsRow b e size v n xs) : w.ownsRow b' e size v n xs := by
  obtain ⟨h1, h2⟩ := h
  refine ⟨h1, ?_⟩
  rcases h2 with h | ⟨g, c, cur, hv, hg, r⟩
  · exact .inl h
  · exact .inr ⟨g, c, cur, hv, Nat.le_trans hb hg, r⟩
theorem encN_one (xs : List Int) : ∀ u ∈ encN xs, u.oneCell' = true := by
  intro u hu
  obtain ⟨x, _, rfl⟩ := List.mem_map.1 hu
  rfl
theorem statA_ok {objs : List Ob} {id : Int} (hObs : Obs8 objs id) (r : List ByteArray) : (statA objs id r).1 ≠ 14 := (stat_gr hObs.exact.sound hObs.ok (fun _ => none) (fs := fsAll) rfl r).2.1

set_option maxRecDepth 100000 in
set_option maxHeartbeats 8000000 in
theorem lazy_walk (W : World) (a : Option Addr) (len cap : Nat) (c d : Int) (hS : StepsAt W a len) (hlen : len ≤ maxLen) (hc : i64 c) (hd : i64 d) :
    Calls Tryz.prog 7 #[.slice a len cap, .int .i64 c, .int .i64 d] W fun e w' => e = .returned (.bool true) ∧ Below W.heap.size W w' := by
  obtain ⟨i0, hi, hz0, hz1, hz2⟩ := info_parts infoID
  have hmd := made_walk W a len cap hS hlen
  have hpc := fun w => path_exact c w hc
  have hpd := fun w => path_exact d w hd
  have HL : Hid (Letters (pathL c) ∧ Letters (pathL d)) := ⟨pathL_letters c, pathL_letters d⟩
  generalize pathL c = lc at hpc HL
  generalize pathL d = ld at hpd HL
  clear hS hc hd
  go_enter Tryz.func7, Tryz.ntmps7
  go_wp2_with fail
  refine Calls.mono hmd ?_
  rintro e w1 ⟨s, p, id, rfl, hM⟩
  obtain ⟨objs, got, hObs, hst⟩ := l_made hM
  have HO : Hid _ := hObs
  have HF0 : Hid _ := l_fetched hst (by decide)
  have HST : Hid _ := @l_statL W
  clear hmd hM hst hObs
  go_wp2_with fail
  refine Calls.mono HF0.out ?_
  rintro e w2 ⟨v0, rfl, h2⟩
  obtain ⟨a0, c0, hv⟩ : ∃ a c, v0 = .slice a got.length c := IdRow.shape (h2.row (r := (v0, got)) (List.mem_cons_self ..))
  subst hv
  have HW : Hid _ := l_work HO.out.ok h2
  clear HF0 h2
  go_wp2_with fail
  refine Calls.mono HW.out ?_
  rintro e w3 ⟨B, rfl, h3⟩
  have HS3 : Hid _ := l_status HO.out h3
  clear HW h3
  go_wp2_with fail
  refine Calls.mono HS3.out ?_
  rintro e w4 ⟨rfl, h4⟩
  have HF4 : Hid _ := l_fetched8 h4 (by decide)
  clear HS3 h4
  go_wp2_with fail
  refine Calls.mono HF4.out ?_
  rintro e w5 ⟨v1, rfl, h5⟩
  obtain ⟨a1, c1, hv⟩ : ∃ a c, v1 = .slice a (got ++ []).length c := IdRow.shape (h5.row (r := (v1, got ++ [])) (List.mem_cons_self ..))
  subst hv
  have hnb : (got ++ []).length = got.length := by rw [List.append_nil]
  obtain ⟨nb, hNB⟩ : ∃ nb, nb = got.length := ⟨_, rfl⟩
  have HNB : Hid _ := hNB
  rw [hnb]
  rw [← hNB]
  have hnb0 : nb ≤ 60000 := by have := h5.len; rw [hnb] at this; omega
  obtain ⟨⟨ea, ka, sa⟩, hea⟩ : ∃ x, x = statA objs id lc.reverse := ⟨_, rfl⟩
  obtain ⟨⟨eb, kb, sb⟩, heb⟩ : ∃ x, x = statA objs id ld.reverse := ⟨_, rfl⟩
  have hea4 : ea ≠ 14 := by have := statA_ok HO.out lc.reverse; rw [← hea] at this; exact this
  have heb4 : eb ≠ 14 := by have := statA_ok HO.out ld.reverse; rw [← heb] at this; exact this
  have HSC : Hid (∀ {wr : World} {lim : Nat} {before L : List Int} {ps : List (List ByteArray)} {rows : List (Value × List Int)} {boxes : List (Nat × Obj)}, LzSt W wr s p B objs id lim before L ps rows boxes → lim ≤ 100000 → Calls Tryz.prog 28 #[.pointer (some ⟨B.wb, 0, none⟩), .string (joinB lc)] wr fun e w' => e = .returned (.tuple #[.agg #[.int .i64 ka, .int .i64 sa], .int .i64 ea]) ∧ ∃ M, LzSt W w' s p B objs id (lim + 400) before (L ++ M) (lc :: ps) rows boxes) := by
    intro wr lim before L ps rows boxes h hl
    have := HST.out HO.out HL.out.1.good h hl
    rw [← hea] at this
    exact this.mono (fun e w' ⟨h1, _, h2⟩ => ⟨h1, h2⟩)
  have HSD : Hid (∀ {wr : World} {lim : Nat} {before L : List Int} {ps : List (List ByteArray)} {rows : List (Value × List Int)} {boxes : List (Nat × Obj)}, LzSt W wr s p B objs id lim before L ps rows boxes → lim ≤ 100000 → Calls Tryz.prog 28 #[.pointer (some ⟨B.wb, 0, none⟩), .string (joinB ld)] wr fun e w' => e = .returned (.tuple #[.agg #[.int .i64 kb, .int .i64 sb], .int .i64 eb]) ∧ ∃ M, LzSt W w' s p B objs id (lim + 400) before (L ++ M) (ld :: ps) rows boxes) := by
    intro wr lim before L ps rows boxes h hl
    have := HST.out HO.out HL.out.2.good h hl
    rw [← heb] at this
    exact this.mono (fun e w' ⟨h1, _, h2⟩ => ⟨h1, h2⟩)
  have HS5 : Hid _ := HSC.out h5 (by decide)
  clear HF4 h5 hnb hNB hea heb HST
  go_wp2_with fail
  refine Calls.mono (hpc _) ?_
  rintro e w5' ⟨rfl, rfl⟩
  go_wp2_with fail
  refine Calls.mono (hpd _) ?_
  rintro e w5' ⟨rfl, rfl⟩
  go_wp2_with fail
  refine Calls.mono HS5.out ?_
  rintro e w6 ⟨rfl, M1, h6⟩
  have HS6 : Hid _ := fun X => HSC.out (h6.box X) (by decide)
  clear HS5 h6
  go_wp2_with fail
  refine Calls.mono (HS6.out _) ?_
  rintro e w7 ⟨rfl, M2, h7⟩
  have HS7 : Hid _ := fun X => l_fetched8 (h7.box X) (by decide)
  clear HS6 h7 HSC
  go_wp2_with fail
  refine Calls.mono (HS7.out _) ?_
  rintro e w8 ⟨v2, rfl, h8⟩
  obtain ⟨L2, hL2⟩ : ∃ L2, L2 = [] ++ M1 ++ M2 := ⟨_, rfl⟩
  rw [← hL2] at h8
  obtain ⟨a2, c2, hv⟩ : ∃ a c, v2 = .slice a (got ++ L2).length c := IdRow.shape (h8.row (r := (v2, got ++ L2)) (List.mem_cons_self ..))
  subst hv
  have HMU : Hid _ := h8.must HO.out (l := lc) (by simp)
  have HS8 : Hid _ := HSD.out h8 (by decide)
  have hn2l := h8.len
  obtain ⟨n2, hn2⟩ : ∃ n2, n2 = (got ++ L2).length := ⟨_, rfl⟩
  have hn2b : nb ≤ n2 := by rw [hn2, HNB.out]; simp
  have HN2 : Hid _ := hn2
  rw [← hn2] at hn2l ⊢
  clear HS7 h8 hL2 HSD hn2
  go_wp2_with fail
  refine Calls.mono HS8.out ?_
  rintro e w9 ⟨rfl, M3, h9⟩
  have HMY : Hid _ := h9.may HO.out (l := lc) (l' := ld) (by simp)
  have HS9 : Hid _ := fun X => l_commit HO.out (h9.box X)
  clear HS8 h9
  go_wp2_with fail
  refine Calls.mono (HS9.out _) ?_
  rintro e w10 ⟨rfl, h10⟩
  have HS10 : Hid _ := l_fetched h10 (by decide)
  clear HS9 h10
  go_wp2_with fail
  refine Calls.mono HS10.out ?_
  rintro e w11 ⟨v3, rfl, h11⟩
  obtain ⟨G3, hG3⟩ : ∃ G3, G3 = got ++ (L2 ++ M3) := ⟨_, rfl⟩
  rw [← hG3] at h11 HMY
  obtain ⟨a3, c3, hv⟩ : ∃ a c, v3 = .slice a G3.length c := IdRow.shape (h11.row (r := (v3, G3)) (List.mem_cons_self ..))
  subst hv
  obtain ⟨n3, hn3⟩ : ∃ n3, n3 = G3.length := ⟨_, rfl⟩
  have hn3b : nb ≤ n3 := by rw [hn3, hG3, HNB.out]; simp
  have hdec : decide (n3 < nb) = false := decide_eq_false (by omega)
  have hn3l : n3 ≤ 61200 := by rw [hn3]; exact h11.len
  have HN3 : Hid _ := hn3
  have hbx7 := h11.box_at (List.mem_cons_of_mem _ (List.mem_cons_of_mem _ (List.mem_cons_self ..)))
  have hbx8 := h11.box_at (List.mem_cons_of_mem _ (List.mem_cons_self ..))
  have k70 := cell_at hbx7 0
  have k71 := cell_at hbx7 1
  have k80 := cell_at hbx8 0
  have k81 := cell_at hbx8 1
  have lt7 := (Array.getElem?_eq_some_iff.1 hbx7).1
  have lt8 := (Array.getElem?_eq_some_iff.1 hbx8).1
  rw [← hn3]
  have HS11 : Hid _ := l_allowed HO.out h11 HL.out.1
  have H11 : Hid _ := h11
  clear HS10 h11 hG3 hn3 hbx7 hbx8
  have hee : (ea == 14) = false := by simpa using hea4
  have heb' : (eb == 14) = false := by simpa using heb4
  clear hea4 heb4
  go_wp2_with fail
  refine Calls.mono HS11.out ?_
  rintro e w12 ⟨vm, rfl, hrm, hb12⟩
  have hKc := chain_len objs lc id
  have hKd := chain_len objs ld id
  have hCP := chain_pos objs id ld
  have hlc := HL.out.1.len
  have hld := HL.out.2.len
  have HAD : Hid _ := l_allowed HO.out (StSt.below H11.out hb12) HL.out.2
  clear HS11
  generalize chainR objs id lc = Xc at hrm hKc HMU HMY ⊢
  generalize chainR objs id ld = Xd at hKd hCP HMY HAD
  obtain ⟨Cc, mc⟩ := Xc
  obtain ⟨Cd, md⟩ := Xd
  dsimp only at hrm hKc hKd hCP HMU HMY HAD ⊢
  have HCP : Hid _ := hCP
  have hCd4 : Cd.length ≤ 4 := by omega
  obtain ⟨am, cm, hv⟩ : ∃ a c, vm = .slice a Cc.length c := IdRow.shape (row_base0 hrm)
  subst hv
  have hW11 := StSt.old H11.out
  have HST12 : Hid _ := StSt.below H11.out hb12
  obtain ⟨nm, hnm⟩ : ∃ nm, nm = Cc.length := ⟨_, rfl⟩
  have HNM : Hid _ := hnm
  have HRM : Hid _ := hrm
  have HB12 : Hid _ := hb12
  have HW11 : Hid _ := hW11
  have hnm4 : nm ≤ 4 := by omega
  have hmc4 : mc ≤ nm := by omega
  have hmd4 : md ≤ 4 := by omega
  have HHAS : Hid (∀ k (hk : k < Cc.length), k < mc → Calls Tryz.prog 31 #[.slice a2 n2 c2, .int .i64 (nb : Int), .int .i64 Cc[k]] w12 fun e w' => e = .returned (.bool true) ∧ w' = w12) := by
    intro k hk hkm
    have hrow : IdRow w12 (.slice a2 n2 c2) (got ++ L2) := by
      have := StSt.row HST12.out (r := (Value.slice a2 (got ++ L2).length c2, got ++ L2)) (List.mem_cons_of_mem _ (List.mem_cons_self ..))
      rw [HN2.out]; exact this
    have hh := has_any _ _ nb (Cc[k]) w12 hrow (by rw [← HN2.out]; omega) (by rw [← HN2.out]; exact hn2b)
    have := HMU.out k hkm hk
    rw [← HNB.out] at this
    rw [this] at hh
    exact hh
  rw [← hnm]
  clear hb12 hrm hW11 hnm hKc hKd hCP hlc hld
  go_wp2
  go_loopw [28] (fun i wr => ∃ k : Nat, k ≤ mc ∧ i = .int .i64 (k : Int) ∧ wr = w12) (fun i _ => mc - (intOf i).toNat)
  case atStart => exact ⟨0, Nat.zero_le _, rfl, rfl⟩
  case round =>
    obtain ⟨k, hk, rfl, rfl⟩ := hrel
    by_cases hkm : k < mc
    · have hkC : k < Cc.length := by rw [← HNM.out]; omega
      have hkn : k < nm := by omega
      obtain ⟨g, hg, hgl, cc⟩ := IdRow.at_ (row_base0 HRM.out) hkC
      subst hg
      have HH : Hid _ := HHAS.out k hkC hkm
      clear HHAS
      go_wp2_with fail
      refine Calls.mono HH.out ?_
      rintro e w12' ⟨rfl, rfl⟩
      clear HH
      go_wp2
      go_roundw
      case rel => exact ⟨k + 1, by omega, by go_num, by trivial⟩
      case measure => simp [intOf]; omega
    · have hkm0 : k = mc := by omega
      clear HHAS HMU
      go_wp2_with fail
      refine Calls.mono HAD.out ?_
      rintro e w13 ⟨vd, rfl, hrd, hb13⟩
      have hnd1 : 0 < Cd.length := HCP.out
      obtain ⟨gd, cd, hv⟩ := slice_of_owns hrd hnd1
      subst hv
      obtain ⟨nd, hnd⟩ : ∃ nd, nd = Cd.length := ⟨_, rfl⟩
      have hnd0 : 0 < nd := by rw [hnd]; exact hnd1
      have hnd4 : nd ≤ 4 := by rw [hnd]; exact hCd4
      have HND : Hid _ := hnd
      have hrm13 : w13.ownsRow w11.heap.size 26 1 (.slice am nm cm) nm (encN Cc) := by rw [HNM.out]; exact row_below HRM.out hb13
      have HRM13 : Hid _ := hrm13
      have hb11 : Below w11.heap.size w11 w13 := HB12.out.trans (hb13.mono HB12.out.size)
      have hbW : Below W.heap.size W w13 := HW11.out.trans (hb11.mono HW11.out.size)
      have HSZ : Hid (w11.heap.size ≤ w13.heap.size) := hb11.size
      have HCE : Hid _ := World.ownsRow.cells hrd (g := gd) rfl
      have hls := StSt.row H11.out (r := (Value.slice a3 G3.length c3, G3)) (List.mem_cons_self ..)
      have HKL : Hid (∀ w14, w13.grownBy w14 (Value.slice am nm cm).ownBlock → IdRow w14 (.slice a3 n3 c3) G3 ∧ Below W.heap.size W w14) := by
        intro w14 hg
        refine ⟨?_, grown_own8 hbW hbW.size (row_lower HW11.out.size HRM13.out) hg⟩
        have h13 := row_below hls hb11
        rw [HN3.out]
        refine ownsRow_keep h13 (fun g hgg => hg.block g (ownsRow_lt h13 hgg) (fun e => ?_))
        have h1 := (World.ownsRow.lt HRM13.out g e.symm).1
        have h2 := ownsRow_lt hls hgg
        omega
      rw [← hnd]
      clear hrd hb13 hrm13 hnd hls hkm0 HAD HB12 hb11
      go_wp2_with (at_builtin; refine wpList_append_own _ rfl (.tmp 161) (.tmp 162) 64 rfl w11.heap.size 26 i0 _ 1 8 Tryz.underlying64 hi hz0 hz1 hz2 rfl (by decide) (.slice am nm cm) nm (encN Cc) rfl HRM13.out ⟨gd, 0, none⟩ nd cd (encN Cd) rfl (by rw [encN_len, HND.out, Nat.mul_one]) HCE.out (encN_one Cd) (by unfold maxLen; omega) (by omega) HSZ.out ?_)
      intro v' w14 hown' hgrow _
      obtain ⟨hlist, hbW4⟩ := HKL.out w14 hgrow
      obtain ⟨gm, cm', hv⟩ := slice_of_owns hown' (by omega)
      subst hv
      have hmay : IdRow w14 (.slice (some ⟨gm, 0, none⟩) (nm + nd) cm') (Cc ++ Cd) := by
        unfold IdRow
        rw [show (Cc ++ Cd).length = nm + nd by rw [List.length_append, HNM.out, HND.out], show encN (Cc ++ Cd) = encN Cc ++ encN Cd by simp [encN]]
        exact row_base0 hown'
      have HH2 : Hid (∀ (w : World), Below w14.heap.size w14 w → ∀ k (hk : k < G3.length), nb ≤ k → Calls Tryz.prog 31 #[.slice (some ⟨gm, 0, none⟩) (nm + nd) cm', .int .i64 0, .int .i64 G3[k]] w fun e w' => e = .returned (.bool true) ∧ w' = w) := by
        intro w hb k hk hbk
        have hh := has_any _ _ 0 (G3[k]) w (row_below hmay hb) (by rw [List.length_append, ← HNM.out, ← HND.out]; omega) (Nat.zero_le _)
        have := HMY.out.1 k hk (by rw [← HNB.out]; exact hbk)
        rw [this] at hh
        exact hh
      have HLR : Hid _ := hlist
      have HBW : Hid _ := hbW4
      clear hown' hgrow hmay hlist hbW4 HKL HRM13 HCE HSZ
      go_wp2
      go_loopw [32] (fun i wr => ∃ k : Nat, nb ≤ k ∧ k ≤ n3 ∧ i = .int .i64 (k : Int) ∧ Below w14.heap.size w14 wr) (fun i _ => n3 - (intOf i).toNat)
      case atStart => exact ⟨nb, Nat.le_refl _, hn3b, rfl, Below.refl _ _⟩
      case round =>
        obtain ⟨k, hkb, hk3, rfl, hbr⟩ := hrel
        rename World => wr
        by_cases hkl : k < n3
        · have hkG : k < G3.length := by rw [← HN3.out]; exact hkl
          obtain ⟨g3, hg3, hgl, cx⟩ := IdRow.at_ (row_below HLR.out hbr) hkG
          subst hg3
          have HH : Hid _ := HH2.out wr hbr k hkG hkb
          obtain ⟨x, hx⟩ : ∃ x, x = G3[k] := ⟨_, rfl⟩
          have HX : Hid _ := hx
          rw [← hx] at cx HH
          clear hx
          go_wp2_with fail
          refine Calls.mono HH.out ?_
          rintro e wr' ⟨rfl, rfl⟩
          clear HH
          go_wp2
          go_loopw [33, 34] (fun b j wq => ∃ m : Nat, nb ≤ m ∧ m ≤ k ∧ b = .bool true ∧ j = .int .i64 (m : Int) ∧ Below wr'.heap.size wr' wq) (fun _ j _ => k - (intOf j).toNat)
          case atStart => exact ⟨nb, Nat.le_refl _, hkb, rfl, rfl, Below.refl _ _⟩
          case round =>
            obtain ⟨m, hmb, hmk, rfl, rfl, hbq⟩ := hrel
            rename World => wq
            by_cases hml : m < k
            · have hmG : m < G3.length := by rw [← HN3.out]; omega
              have hrq := row_below (row_below HLR.out hbr) hbq
              obtain ⟨g4, hg4, hgl4, cy⟩ := IdRow.at_ hrq hmG
              obtain ⟨g5, hg5, hgl5, cx5⟩ := IdRow.at_ hrq hkG
              cases hg4
              cases hg5
              have hne := HMY.out.2 m k hmG hkG (by rw [← HNB.out]; exact hmb) hml
              obtain ⟨y, hy⟩ : ∃ y, y = G3[m] := ⟨_, rfl⟩
              rw [← hy] at cy hne
              rw [← HX.out] at cx5 hne
              have hne' : (y == x) = false := by simpa using hne
              have hne'' : (y != x) = true := by simpa using hne
              clear hy hne hrq cx
              go_wp2
              go_quiet (fail)
              go_wp2
              exact ⟨⟨m + 1, by omega, by omega, rfl, by simp, by first | exact hbq | exact below_drewN hbq _⟩, by simp [intOf]; omega⟩
            · go_wp2
              exact ⟨⟨k + 1, by omega, by omega, by simp, hbr.trans (hbq.mono hbr.size)⟩, by simp [intOf]; omega⟩
        · go_wp2
          go_ret
          exact ⟨rfl, HBW.out.trans (hbr.mono HBW.out.size)⟩

end Go.Proofs.YtajopoddmfdejaaGreat
