/-
  What is proved here: canopykeep's Near returns true, and what was there stands.
-/
import Derived.Test.YtajopoddmfdejaaGreatNearM49
import Derived.Test.YtajopoddmfdejaaGreatNearM50
namespace Go.Proofs.YtajopoddmfdejaaGreat
open Go.RowKit Go.Sort Go.Shelf
set_option linter.unusedVariables false

theorem near_dir {W wr : World} {s p : Nat} {objs : List Ob} {id : Int} {lim : Nat} {got : List Int} {rows : List (Value × List Int)} {boxes : List (Nat × Obj)} (hObs : Obs8 objs id) (h : StSt W wr s p objs lim got rows boxes) :
    Calls Tryz.prog 33 #[.pointer (some ⟨s, 0, none⟩), .int .i64 id] wr fun e w' => (∃ g c, e = .returned (.tuple #[.slice (some ⟨g, 0, none⟩) (entsOf objs id).length c, .int .i64 0]) ∧ wr.heap.size ≤ g ∧ g < w'.heap.size ∧ ∀ j u, (flat (entsOf objs id))[j]? = some u → w'.cell? ⟨g, 0 + j, none⟩ = some u) ∧ Below wr.heap.size wr w' := by
  obtain ⟨tg, hO, ⟨hfr, ft, hb, hI, hg, hS, hl⟩, hK⟩ := h
  refine (storeGetDir hI.inv id).mono ?_
  rintro e w' ⟨hg, hb'⟩
  refine ⟨?_, hb'⟩
  rcases hg with ⟨h1, _⟩ | ⟨j, hj, rfl, h2, g, he, hrow⟩
  · exact absurd (kind_base hObs) h1
  · rw [entsOf_at hj]
    exact ⟨g, _, he, (hrow.lt g rfl).1, (hrow.lt g rfl).2, owns_cells hrow⟩
theorem near_ent {objs : List Ob} {id : Int} (hObs : Obs8 objs id) {e : Ent} (he : e ∈ entsOf objs id) (hd : e.2.1 = 2) : kindOf objs e.2.2 = 2 ∧ highOf objs e.2.2 ≤ 5 := by
  obtain ⟨_, _, h3, h4⟩ := (hObs.exact.sound.2 id (kind_base hObs)).2.2 e he
  have := hObs.ok
  rw [LTok] at this
  exact ⟨by rw [h3, hd], by have := this.2; omega⟩
theorem near_under {W wr : World} {s p : Nat} {objs : List Ob} {id : Int} {lim : Nat} {got : List Int} {rows : List (Value × List Int)} {boxes : List (Nat × Obj)} (hObs : Obs8 objs id) (h : StSt W wr s p objs lim got rows boxes) {i : Int} (hi : kindOf objs i = 2 ∧ highOf objs i ≤ 5) :
    Calls Tryz.prog 34 #[.pointer (some ⟨s, 0, none⟩), .int .i64 i] wr fun e w' => ∃ v, e = .returned v ∧ w'.ownsRow wr.heap.size 26 1 v (underR objs 5 i).length (encN (underR objs 5 i)) ∧ Below wr.heap.size wr w' := by
  obtain ⟨tg, hO, ⟨hfr, ft, hb, hI, hg, hS, hl⟩, hK⟩ := h
  exact under_all hI hObs.exact.sound 5 i (Nat.le_refl _) hi.1 hi.2 wr (Below.refl _ _)
theorem near_file {W wr : World} {s p : Nat} {objs : List Ob} {id : Int} {lim : Nat} {got : List Int} {rows : List (Value × List Int)} {boxes : List (Nat × Obj)} (hObs : Obs8 objs id) (h : StSt W wr s p objs lim got rows boxes) {i : Int} (hi : i ∈ mayL objs id) :
    Calls Tryz.prog 35 #[.pointer (some ⟨s, 0, none⟩), .int .i64 i] wr fun e w' => e = .returned (.tuple #[.string ByteArray.empty, .int .i64 13]) ∧ Below wr.heap.size wr w' := by
  obtain ⟨tg, hO, ⟨hfr, ft, hb, hI, hg, hS, hl⟩, hK⟩ := h
  have hk := may_kind hObs.exact.sound (kind_base hObs) i hi
  refine (storeGetFile hI.inv i).mono ?_
  rintro e w' ⟨hf, hb'⟩
  rcases hf with ⟨_, he⟩ | ⟨j, hj, rfl, h1, _⟩
  · exact ⟨he, hb'⟩
  · rw [kindOf_in hj, h1] at hk; cases hk
theorem may_bound {objs : List Ob} {id : Int} (hObs : Obs8 objs id) : (mayL objs id).length ≤ 20000000 := by
  have hS := hObs.exact.sound
  obtain ⟨_, h16, hall⟩ := hS.2 id (kind_base hObs)
  have := flat_bound (fun e : Ent => if e.1 = nameA ∧ e.2.1 = 2 then underR objs 5 e.2.2 else []) (uBound 5) (entsOf objs id) (fun e he => by
    split
    · rename_i hd
      exact under_bound hS 5 e.2.2 (by rw [(hall e he).2.2.1, hd.2])
    · simp)
  have hu : uBound 5 = 1118481 := by decide
  rw [hu] at this
  unfold mayL
  simp only [List.length_cons]
  omega
theorem near_has {wr : World} {objs : List Ob} {id : Int} (hObs : Obs8 objs id) {v : Value} (hrow : IdRow wr v (mayL objs id)) {x : Int} (hx : x ∈ mayL objs id) :
    Calls Tryz.prog 31 #[v, .int .i64 0, .int .i64 x] wr fun e w' => e = .returned (.bool true) ∧ w' = wr := by
  have hh := has_any v (mayL objs id) 0 x wr hrow (by have := may_bound hObs; omega) (Nat.zero_le _)
  rw [show hasB (mayL objs id) 0 x = true by unfold hasB; rw [List.drop_zero]; exact decide_eq_true hx] at hh
  exact hh

set_option maxRecDepth 100000 in
set_option maxHeartbeats 8000000 in
theorem near_walk (W : World) (a a' : Option Addr) (len cap len' cap' : Nat) (hS : StepsAt W a len) (hlen : len ≤ maxLen) (hS' : StepsAt W a' len') (hlen' : len' ≤ maxLen) :
    Calls Tryz.prog 8 #[.slice a len cap, .slice a' len' cap'] W fun e w' => e = .returned (.bool true) ∧ Below W.heap.size W w' := by
  obtain ⟨i0, hi, hz0, hz1, hz2⟩ := info_parts infoID
  have hmd := made_walk W a len cap hS hlen
  have HS' : Hid _ := hS'
  unfold maxLen at hlen'
  clear hS hS' hlen
  go_enter Tryz.func8, Tryz.ntmps8
  go_wp2_with fail
  refine Calls.mono hmd ?_
  rintro e w1 ⟨s, p, id, rfl, hM⟩
  obtain ⟨objs, got, hObs, hst⟩ := l_made hM
  have HO : Hid _ := hObs
  have HW : Hid _ := l_work HO.out.ok hst
  clear hmd hM hst hObs
  go_wp2_with fail
  refine Calls.mono HW.out ?_
  rintro e w2 ⟨B, rfl, h2⟩
  have HF2 : Hid _ := l_fetched8 h2 (by decide)
  clear HW h2
  go_wp2_with fail
  refine Calls.mono HF2.out ?_
  rintro e w3 ⟨v0, rfl, h3⟩
  rw [List.append_nil] at h3
  obtain ⟨a0, c0, hv⟩ : ∃ a c, v0 = .slice a got.length c := IdRow.shape (h3.row (r := (v0, got)) (List.mem_cons_self ..))
  subst hv
  have HN0 : Hid _ := ne_begin HO.out h3
  obtain ⟨nb, hNB⟩ : ∃ nb, nb = got.length := ⟨_, rfl⟩
  have HNB : Hid _ := hNB
  have hnb0 : nb ≤ 60000 := by have := h3.len; rw [List.append_nil] at this; omega
  obtain ⟨v0, hv0⟩ : ∃ v0 : Value, v0 = .slice a0 got.length c0 := ⟨_, rfl⟩
  rw [← hv0] at HN0
  rw [← hNB]
  clear HF2 h3 hNB hv0
  go_wp2
  go_loopw [10] (fun i wr => ∃ k : Nat, k ≤ len' ∧ k ≤ 90 ∧ i = .int .i64 (k : Int) ∧ Hid (NeSt W wr s p B objs id (60000 + k * 400) got (fun _ => True) [(v0, got)])) (fun i _ => 90 - (intOf i).toNat)
  case atStart => exact ⟨0, Nat.zero_le _, Nat.zero_le _, rfl, HN0⟩
  case round =>
    obtain ⟨k, hk, hk9, rfl, HR⟩ := hrel
    rename World => wr
    by_cases hlt : k < len'
    · by_cases hl9 : k < 90
      · obtain ⟨b, o, rfl, hb, hst⟩ := HS'.out.at_ (by omega)
        obtain ⟨kd, x, y, d, h1, h2, h3, h4, c0, c1, c2, c3⟩ := hst k hlt
        have hbel : Below W.heap.size W wr := NeSt.old HR.out
        have e0 := (hbel.cell (p := ⟨b, o + k * 4, none⟩) hb).trans c0
        have e1 := (hbel.cell (p := ⟨b, o + k * 4 + 1, none⟩) hb).trans c1
        have e2 := (hbel.cell (p := ⟨b, o + k * 4 + 2, none⟩) hb).trans c2
        have hbr : b < wr.heap.size := Nat.lt_of_lt_of_le hb hbel.size
        have hpx := path_exact x wr h2
        have hpy := path_exact y wr h3
        have hpk := kpick_any kd 5 wr h1 (by decide) (by decide)
        obtain ⟨q0, q1⟩ := pickN_range (c := kd) (n := 5) (by decide)
        have HLL : Hid _ := And.intro (pathL_letters x) (pathL_letters y)
        have hsx : (joinB (pathL x)).size ≤ 39 := by have h1 := join_size (pathL_letters x).good.1; have h2 := (pathL_letters x).len; omega
        have hsy : (joinB (pathL y)).size ≤ 39 := by have h1 := join_size (pathL_letters y).good.1; have h2 := (pathL_letters y).len; omega
        generalize pathL x = lx at hpx HLL hsx
        generalize pathL y = ly at hpy HLL hsy
        generalize pickN kd 5 = pk at hpk q0 q1
        have hlim : 60000 + k * 400 ≤ 200000 := by omega
        have HMK : Hid _ := ne_mkdir HO.out HR.out hlim HLL.out.1
        have HRM : Hid _ := ne_remove HO.out HR.out hlim HLL.out.1
        have HRN : Hid _ := ne_rename HO.out HR.out hlim HLL.out.1 HLL.out.2
        have HLS : Hid _ := ne_list HO.out HR.out hlim HLL.out.1
        have HLA : Hid _ := ne_listA HO.out HR.out hlim
        clear c0 c1 c2 c3 hst hbel HS' HN0 HR h1 h2 h3 h4
        go_wp2_with fail
        refine Calls.mono hpx ?_
        rintro e wr1 ⟨rfl, rfl⟩
        go_wp2_with fail
        refine Calls.mono hpy ?_
        rintro e wr1 ⟨rfl, rfl⟩
        go_wp2_with fail
        refine Calls.mono hpk ?_
        rintro e wr1 ⟨rfl, rfl⟩
        have h5 : pk = 0 ∨ pk = 1 ∨ pk = 2 ∨ pk = 3 ∨ pk = 4 := by omega
        clear hpx hpy hpk q0 q1
        rcases h5 with rfl | rfl | rfl | rfl | rfl
        · go_wp2_with fail
          refine Calls.mono HMK.out ?_
          rintro e w4 ⟨er, rfl, h4⟩
          have H4 : Hid _ := h4
          clear h4 HMK HRM HRN HLS HLA
          go_wp2
          exact ⟨⟨k + 1, by omega, by omega, by simp, by rw [show 60000 + (k + 1) * 400 = 60000 + k * 400 + 400 by omega]; exact H4⟩, by simp only [intOf]; omega⟩
        · go_wp2_with fail
          refine Calls.mono HRM.out ?_
          rintro e w4 ⟨er, rfl, h4⟩
          have H4 : Hid _ := h4
          clear h4 HMK HRM HRN HLS HLA
          go_wp2
          exact ⟨⟨k + 1, by omega, by omega, by simp, by rw [show 60000 + (k + 1) * 400 = 60000 + k * 400 + 400 by omega]; exact H4⟩, by simp only [intOf]; omega⟩
        · go_wp2_with fail
          refine Calls.mono HRN.out ?_
          rintro e w4 ⟨er, rfl, h4⟩
          have H4 : Hid _ := h4
          clear h4 HMK HRM HRN HLS HLA
          go_wp2
          exact ⟨⟨k + 1, by omega, by omega, by simp, by rw [show 60000 + (k + 1) * 400 = 60000 + k * 400 + 400 by omega]; exact H4⟩, by simp only [intOf]; omega⟩
        · go_wp2_with fail
          refine Calls.mono HLS.out ?_
          rintro e w4 ⟨v, er, rfl, h4⟩
          have H4 : Hid _ := h4
          clear h4 HMK HRM HRN HLS HLA
          go_wp2
          exact ⟨⟨k + 1, by omega, by omega, by simp, by rw [show 60000 + (k + 1) * 400 = 60000 + k * 400 + 400 by omega]; exact H4⟩, by simp only [intOf]; omega⟩
        · go_wp2_with fail
          refine Calls.mono HLA.out ?_
          rintro e w4 ⟨v, er, rfl, _, h4⟩
          have H4 : Hid _ := h4.any
          clear h4 HMK HRM HRN HLS HLA
          go_wp2
          exact ⟨⟨k + 1, by omega, by omega, by simp, by rw [show 60000 + (k + 1) * 400 = 60000 + k * 400 + 400 by omega]; exact H4⟩, by simp only [intOf]; omega⟩
      · have hk0 : k = 90 := by omega
        obtain ⟨kk, hkk⟩ : ∃ kk, kk = 60000 + k * 400 := ⟨_, rfl⟩
        have hlim : kk ≤ 96000 := by omega
        rw [← hkk] at HR
        have HLA : Hid _ := ne_listA HO.out HR.out (by omega)
        clear HS' HN0 HR hkk
        go_wp2_with fail
        refine Calls.mono HLA.out ?_
        rintro e w4 ⟨v, er, rfl, her, h4⟩
        obtain ⟨L, hst, hLn, hLm⟩ := ne_end HO.out h4
        have HF : Hid _ := l_fetched hst (by omega)
        have her' : (er == 14) = false := by simpa using her
        have HL : Hid _ := And.intro hLn hLm
        clear HLA h4 hst her hLn hLm
        go_wp2_with fail
        refine Calls.mono HF.out ?_
        rintro e w5 ⟨v1, rfl, h5⟩
        obtain ⟨G, hG⟩ : ∃ G, G = got ++ L := ⟨_, rfl⟩
        rw [← hG] at h5
        obtain ⟨a1, c1, hv⟩ : ∃ a c, v1 = .slice a G.length c := IdRow.shape (StSt.row h5 (r := (v1, G)) (List.mem_cons_self ..))
        subst hv
        obtain ⟨n1, hn1⟩ : ∃ n1, n1 = G.length := ⟨_, rfl⟩
        have hnl : nb < n1 := by
          rw [hn1, hG, List.length_append, ← HNB.out]
          have := List.length_pos_iff.2 HL.out.1
          omega
        have hdec : decide (n1 ≤ nb) = false := decide_eq_false (by omega)
        have hn1l : n1 ≤ 210000 := by rw [hn1]; have := StSt.len h5; omega
        have HGM : Hid (∀ k (hk : k < G.length), nb ≤ k → G[k] ∈ mayL objs id) := by
          intro k hk hb
          apply HL.out.2
          subst hG
          rw [List.getElem_append_right (by rw [← HNB.out]; exact hb)]
          exact List.getElem_mem _
        have HN1 : Hid _ := hn1
        have H5 : Hid _ := h5
        rw [← hn1]
        have hb56 : Below w5.heap.size w5 (w5.alloc (.cells #[.int .i64 id] 26)) := (Below.refl _ _).alloc (Nat.le_refl _) _
        have HB56 : Hid _ := hb56
        have HDI : Hid _ := near_dir HO.out (StSt.below h5 hb56)
        have HW5 : Hid _ := StSt.old h5
        clear HF h5 hG hn1 HL hb56
        go_wp2_with fail
        refine Calls.mono HDI.out ?_
        rintro e w6 ⟨⟨g, cg, rfl, hgB, hgl, hcs⟩, hb6⟩
        obtain ⟨es, hes⟩ : ∃ es, es = entsOf objs id := ⟨_, rfl⟩
        rw [← hes] at hcs ⊢
        obtain ⟨f, hf⟩ : ∃ f : Ent → List Int, f = fun e => if e.1 = nameA ∧ e.2.1 = 2 then underR objs 5 e.2.2 else [] := ⟨_, rfl⟩
        have hb56 : Below w5.heap.size w5 w6 := below_via HB56.out hb6
        have hacc : AccSt w5.heap.size g es w6 (some ⟨w5.heap.size, 0, none⟩) 1 1 (id :: (es.take 0).flatMap f) := by
          refine ⟨?_, rfl, fun e => ?_, hgl, hcs⟩
          · exact row_below (W := w5.alloc (.cells #[.int .i64 id] 26)) ⟨rfl, .inr ⟨w5.heap.size, 1, _, rfl, Nat.le_refl _, heap_alloc_new w5 _, Nat.le_refl _, by decide, rfl, rfl⟩⟩ hb6
          · have := Option.some.inj e
            simp only at this
            simp at hgB
            omega
        have HA0 : Hid _ := hacc
        have HMY : Hid (mayL objs id = id :: es.flatMap f) := by show _ = _; rw [hes, hf]; rfl
        have hmb := may_bound HO.out
        have HT : Hid (∀ k, (id :: (es.take k).flatMap f).length ≤ 20000001) := fun k => by
          have h1 := flat_take f es k
          rw [HMY.out] at hmb
          simp only [List.length_cons] at hmb ⊢; omega
        have HE : Hid (∀ k (hk : k < es.length), es[k].2.1 = 2 → kindOf objs es[k].2.2 = 2 ∧ highOf objs es[k].2.2 ≤ 5) := by
          subst hes
          exact fun k hk hd => near_ent HO.out (List.getElem_mem hk) hd
        have HF : Hid _ := hf
        have h16 : es.length ≤ 16 := by rw [hes]; exact (HO.out.exact.sound.2 id (kind_base HO.out)).2.1
        obtain ⟨m, hm⟩ : ∃ m, m = es.length := ⟨_, rfl⟩
        have HM : Hid _ := hm
        rw [← hm] at h16 ⊢
        clear hacc hcs hgB hgl hb6 HDI hes hf hm hmb HB56
        go_wp2
        go_loopw [16, 19] (fun ov i wq => ∃ (k : Nat) (a : Option Addr) (n c : Nat), k ≤ m ∧ i = .int .i64 (k : Int) ∧ ov = .slice a n c ∧ n ≤ 20000001 ∧ Below w5.heap.size w5 wq ∧ Hid (AccSt w5.heap.size g es wq a n c (id :: (es.take k).flatMap f))) (fun _ i _ => m - (intOf i).toNat)
        case atStart => exact ⟨0, _, 1, 1, Nat.zero_le _, rfl, rfl, by omega, hb56, HA0⟩
        case round =>
          obtain ⟨k, a, n, c, hk, rfl, rfl, hn, hb, HA⟩ := hrel
          rename World => wq
          by_cases hkm : k < m
          · have hke : k < es.length := by rw [← HM.out]; exact hkm
            obtain ⟨d0, d1, d2⟩ := AccSt.cells HA.out hke
            have hgr : g < wq.heap.size := AccSt.lt HA.out
            have HSTEP : Hid _ := flat_step f hke
            have HENT : Hid _ := HE.out k hke
            by_cases hnm : es[k].1 = nameA
            · have hnm' : (es[k].1.toList == (⟨#[97]⟩ : ByteArray).toList) = true := by rw [hnm]; exact beq_self_eq_true nameA.toList
              have hnm'' : (es[k].1.toList == [97]) = true := by have := hnm'; rw [show (⟨#[97]⟩ : ByteArray).toList = [97] by rw [ByteArray.toList_eq]] at this; exact this
              by_cases hd : es[k].2.1 = 2
              · have HRR : Hid _ := near_under HO.out (StSt.below H5.out hb) (HENT.out hd)
                have hfe : f es[k] = underR objs 5 es[k].2.2 := by rw [HF.out]; simp only [if_pos (And.intro hnm hd)]
                have hsp : 0 < (f es[k]).length := by rw [hfe]; exact List.length_pos_of_mem (under_head objs 5 _)
                have HFE : Hid _ := hfe
                rw [hd] at d1
                clear hnm hd hfe
                go_wp2_with fail
                refine Calls.mono HRR.out ?_
                rintro e w7 ⟨v, rfl, hrow, hb7⟩
                rw [← HFE.out] at hrow
                have hbw2 : Below w5.heap.size w5 w7 := hb.trans (hb7.mono hb.size)
                have hA2 := AccSt.below HA.out hb7
                obtain ⟨gv, cv, rfl⟩ := slice_of_owns hrow hsp
                obtain ⟨q, hq⟩ : ∃ q, q = (f es[k]).length := ⟨_, rfl⟩
                have hqb : n + q ≤ 20000001 := by
                  have h1 := HT.out (k + 1)
                  rw [HSTEP.out] at h1
                  have h2 := AccSt.len HA.out
                  simp only [List.length_cons, List.length_append] at h1 h2
                  omega
                have HCV : Hid _ := World.ownsRow.cells hrow (g := gv) rfl
                have HQ : Hid _ := hq
                have HA2 : Hid _ := hA2
                rw [← hq]
                clear hrow hb7 hA2 hq HRR
                go_wp2_with (at_builtin; (refine wpList_append_own_at _ rfl (.tmp 147) (.tmp 148) 64 rfl w5.heap.size 26 i0 _ 1 8 Tryz.underlying64 hi hz0 hz1 hz2 rfl (by decide) (.slice a n c) n (encN (id :: (es.take k).flatMap f)) rfl (AccSt.row HA2.out) ⟨gv, 0, none⟩ q cv (encN (f es[k])) rfl (by rw [encN_len, HQ.out, Nat.mul_one]) HCV.out (encN_one8 _) (by unfold maxLen; omega) (by omega) hbw2.size ?_))
                intro v' w8 hown' hgrow _ hloc
                obtain ⟨a3, c3, hv, hA3⟩ := AccSt.grow HA2.out HQ.out hown' hgrow hloc
                subst hv
                have hb3 := grown_own8 hbw2 hbw2.size (AccSt.row HA2.out) hgrow
                have HA3 : Hid (AccSt w5.heap.size g es w8 a3 (n + q) c3 (id :: (es.take (k + 1)).flatMap f)) := by
                  show AccSt _ _ _ _ _ _ _ _
                  rw [HSTEP.out]; exact hA3
                clear hown' hgrow hloc hA3
                go_wp2
                exact ⟨⟨k + 1, a3, n + q, c3, by omega, by simp, rfl, hqb, hb3, HA3⟩, by simp [intOf]; omega⟩
              · have hd' : (es[k].2.1 == 2) = false := by simpa using hd
                have hfe : f es[k] = [] := by rw [HF.out]; simp only [if_neg (fun h : _ ∧ _ => hd h.2)]
                have HA3 : Hid (AccSt w5.heap.size g es wq a n c (id :: (es.take (k + 1)).flatMap f)) := by
                  show AccSt _ _ _ _ _ _ _ _
                  rw [HSTEP.out, hfe, List.append_nil]; exact HA.out
                clear hnm hd hfe
                go_wp2
                exact ⟨⟨k + 1, a, n, c, by omega, by simp, rfl, hn, hb, HA3⟩, by simp [intOf]; omega⟩
            · have hnm' : (es[k].1.toList == (⟨#[97]⟩ : ByteArray).toList) = false := toList_ne hnm
              have hnm'' : (es[k].1.toList == [97]) = false := by have := hnm'; rw [show (⟨#[97]⟩ : ByteArray).toList = [97] by rw [ByteArray.toList_eq]] at this; exact this
              have hfe : f es[k] = [] := by rw [HF.out]; simp only [if_neg (fun h : _ ∧ _ => hnm h.1)]
              have HA3 : Hid (AccSt w5.heap.size g es wq a n c (id :: (es.take (k + 1)).flatMap f)) := by
                show AccSt _ _ _ _ _ _ _ _
                rw [HSTEP.out, hfe, List.append_nil]; exact HA.out
              clear hnm hfe
              go_wp2
              exact ⟨⟨k + 1, a, n, c, by omega, by simp, rfl, hn, hb, HA3⟩, by simp [intOf]; omega⟩
          · have hkm' : k = m := by omega
            have hfin := HA.out
            rw [hkm', HM.out, List.take_length, ← HMY.out] at hfin
            have hmay : IdRow wq (.slice a n c) (mayL objs id) := by
              have h1 := AccSt.row hfin
              have h2 := AccSt.len hfin
              unfold IdRow
              rw [← h2]; exact row_base0 h1
            have hst6 := StSt.below H5.out hb
            have HST6 : Hid _ := hst6
            have HH2 : Hid _ := fun (wz : World) (hz : Below wq.heap.size wq wz) x (hx : x ∈ mayL objs id) => near_has HO.out (row_below hmay hz) hx
            have HLR : Hid (IdRow wq (.slice a1 n1 c1) G) := by
              have := StSt.row hst6 (r := (Value.slice a1 G.length c1, G)) (List.mem_cons_self ..)
              show IdRow _ _ _
              rw [HN1.out]; exact this
            have HGF : Hid _ := fun (wz : World) (hz : Below wq.heap.size wq wz) x (hx : x ∈ mayL objs id) => near_file HO.out (StSt.below hst6 hz) hx
            have HEND : Hid (Below W.heap.size W wq) := HW5.out.trans (hb.mono HW5.out.size)
            clear hfin hkm' hmay hst6 HA HA0 HE
            go_wp2
            go_loopw [21] (fun i wz => ∃ j : Nat, nb ≤ j ∧ j ≤ n1 ∧ i = .int .i64 (j : Int) ∧ Below wq.heap.size wq wz) (fun i _ => n1 - (intOf i).toNat)
            case atStart => exact ⟨nb, Nat.le_refl _, by omega, rfl, Below.refl _ _⟩
            case round =>
              obtain ⟨j, hjb, hj1, rfl, hbz⟩ := hrel
              rename World => wz
              by_cases hjl : j < n1
              · have hjG : j < G.length := by rw [← HN1.out]; exact hjl
                obtain ⟨g3, hg3, hgl3, cx⟩ := IdRow.at_ (row_below HLR.out hbz) hjG
                subst hg3
                have hmem := HGM.out j hjG hjb
                have HFI : Hid _ := HGF.out wz hbz _ hmem
                have HHI : Hid _ := fun w hb => HH2.out w hb _ hmem
                obtain ⟨x, hx⟩ : ∃ x, x = G[j] := ⟨_, rfl⟩
                rw [← hx] at cx HFI HHI
                clear hx hmem
                go_wp2_with fail
                refine Calls.mono HFI.out ?_
                rintro e wz1 ⟨rfl, hb1⟩
                have hbz1 : Below wq.heap.size wq wz1 := hbz.trans (hb1.mono hbz.size)
                have cx1 := (hb1.cell (p := ⟨g3, j, none⟩) hgl3).trans cx
                have hgl4 : g3 < wz1.heap.size := Nat.lt_of_lt_of_le hgl3 hb1.size
                clear cx
                go_wp2_with fail
                refine Calls.mono (HHI.out wz1 hbz1) ?_
                rintro e wz2 ⟨rfl, rfl⟩
                clear HFI HHI
                go_wp2
                exact ⟨⟨j + 1, by omega, by omega, by simp, hbz1⟩, by simp [intOf]; omega⟩
              · go_wp2
                go_ret
                exact ⟨rfl, HEND.out.trans (hbz.mono HEND.out.size)⟩
    · have hk0 : k = len' := by omega
      obtain ⟨kk, hkk⟩ : ∃ kk, kk = 60000 + k * 400 := ⟨_, rfl⟩
      have hlim : kk ≤ 96000 := by omega
      rw [← hkk] at HR
      have HLA : Hid _ := ne_listA HO.out HR.out (by omega)
      clear HS' HN0 HR hkk
      go_wp2_with fail
      refine Calls.mono HLA.out ?_
      rintro e w4 ⟨v, er, rfl, her, h4⟩
      obtain ⟨L, hst, hLn, hLm⟩ := ne_end HO.out h4
      have HF : Hid _ := l_fetched hst (by omega)
      have her' : (er == 14) = false := by simpa using her
      have HL : Hid _ := And.intro hLn hLm
      clear HLA h4 hst her hLn hLm
      go_wp2_with fail
      refine Calls.mono HF.out ?_
      rintro e w5 ⟨v1, rfl, h5⟩
      obtain ⟨G, hG⟩ : ∃ G, G = got ++ L := ⟨_, rfl⟩
      rw [← hG] at h5
      obtain ⟨a1, c1, hv⟩ : ∃ a c, v1 = .slice a G.length c := IdRow.shape (StSt.row h5 (r := (v1, G)) (List.mem_cons_self ..))
      subst hv
      obtain ⟨n1, hn1⟩ : ∃ n1, n1 = G.length := ⟨_, rfl⟩
      have hnl : nb < n1 := by
        rw [hn1, hG, List.length_append, ← HNB.out]
        have := List.length_pos_iff.2 HL.out.1
        omega
      have hdec : decide (n1 ≤ nb) = false := decide_eq_false (by omega)
      have hn1l : n1 ≤ 210000 := by rw [hn1]; have := StSt.len h5; omega
      have HGM : Hid (∀ k (hk : k < G.length), nb ≤ k → G[k] ∈ mayL objs id) := by
        intro k hk hb
        apply HL.out.2
        subst hG
        rw [List.getElem_append_right (by rw [← HNB.out]; exact hb)]
        exact List.getElem_mem _
      have HN1 : Hid _ := hn1
      have H5 : Hid _ := h5
      rw [← hn1]
      have hb56 : Below w5.heap.size w5 (w5.alloc (.cells #[.int .i64 id] 26)) := (Below.refl _ _).alloc (Nat.le_refl _) _
      have HB56 : Hid _ := hb56
      have HDI : Hid _ := near_dir HO.out (StSt.below h5 hb56)
      have HW5 : Hid _ := StSt.old h5
      clear HF h5 hG hn1 HL hb56
      go_wp2_with fail
      refine Calls.mono HDI.out ?_
      rintro e w6 ⟨⟨g, cg, rfl, hgB, hgl, hcs⟩, hb6⟩
      obtain ⟨es, hes⟩ : ∃ es, es = entsOf objs id := ⟨_, rfl⟩
      rw [← hes] at hcs ⊢
      obtain ⟨f, hf⟩ : ∃ f : Ent → List Int, f = fun e => if e.1 = nameA ∧ e.2.1 = 2 then underR objs 5 e.2.2 else [] := ⟨_, rfl⟩
      have hb56 : Below w5.heap.size w5 w6 := below_via HB56.out hb6
      have hacc : AccSt w5.heap.size g es w6 (some ⟨w5.heap.size, 0, none⟩) 1 1 (id :: (es.take 0).flatMap f) := by
        refine ⟨?_, rfl, fun e => ?_, hgl, hcs⟩
        · exact row_below (W := w5.alloc (.cells #[.int .i64 id] 26)) ⟨rfl, .inr ⟨w5.heap.size, 1, _, rfl, Nat.le_refl _, heap_alloc_new w5 _, Nat.le_refl _, by decide, rfl, rfl⟩⟩ hb6
        · have := Option.some.inj e
          simp only at this
          simp at hgB
          omega
      have HA0 : Hid _ := hacc
      have HMY : Hid (mayL objs id = id :: es.flatMap f) := by show _ = _; rw [hes, hf]; rfl
      have hmb := may_bound HO.out
      have HT : Hid (∀ k, (id :: (es.take k).flatMap f).length ≤ 20000001) := fun k => by
        have h1 := flat_take f es k
        rw [HMY.out] at hmb
        simp only [List.length_cons] at hmb ⊢; omega
      have HE : Hid (∀ k (hk : k < es.length), es[k].2.1 = 2 → kindOf objs es[k].2.2 = 2 ∧ highOf objs es[k].2.2 ≤ 5) := by
        subst hes
        exact fun k hk hd => near_ent HO.out (List.getElem_mem hk) hd
      have HF : Hid _ := hf
      have h16 : es.length ≤ 16 := by rw [hes]; exact (HO.out.exact.sound.2 id (kind_base HO.out)).2.1
      obtain ⟨m, hm⟩ : ∃ m, m = es.length := ⟨_, rfl⟩
      have HM : Hid _ := hm
      rw [← hm] at h16 ⊢
      clear hacc hcs hgB hgl hb6 HDI hes hf hm hmb HB56
      go_wp2
      go_loopw [16, 19] (fun ov i wq => ∃ (k : Nat) (a : Option Addr) (n c : Nat), k ≤ m ∧ i = .int .i64 (k : Int) ∧ ov = .slice a n c ∧ n ≤ 20000001 ∧ Below w5.heap.size w5 wq ∧ Hid (AccSt w5.heap.size g es wq a n c (id :: (es.take k).flatMap f))) (fun _ i _ => m - (intOf i).toNat)
      case atStart => exact ⟨0, _, 1, 1, Nat.zero_le _, rfl, rfl, by omega, hb56, HA0⟩
      case round =>
        obtain ⟨k, a, n, c, hk, rfl, rfl, hn, hb, HA⟩ := hrel
        rename World => wq
        by_cases hkm : k < m
        · have hke : k < es.length := by rw [← HM.out]; exact hkm
          obtain ⟨d0, d1, d2⟩ := AccSt.cells HA.out hke
          have hgr : g < wq.heap.size := AccSt.lt HA.out
          have HSTEP : Hid _ := flat_step f hke
          have HENT : Hid _ := HE.out k hke
          by_cases hnm : es[k].1 = nameA
          · have hnm' : (es[k].1.toList == (⟨#[97]⟩ : ByteArray).toList) = true := by rw [hnm]; exact beq_self_eq_true nameA.toList
            have hnm'' : (es[k].1.toList == [97]) = true := by have := hnm'; rw [show (⟨#[97]⟩ : ByteArray).toList = [97] by rw [ByteArray.toList_eq]] at this; exact this
            by_cases hd : es[k].2.1 = 2
            · have HRR : Hid _ := near_under HO.out (StSt.below H5.out hb) (HENT.out hd)
              have hfe : f es[k] = underR objs 5 es[k].2.2 := by rw [HF.out]; simp only [if_pos (And.intro hnm hd)]
              have hsp : 0 < (f es[k]).length := by rw [hfe]; exact List.length_pos_of_mem (under_head objs 5 _)
              have HFE : Hid _ := hfe
              rw [hd] at d1
              clear hnm hd hfe
              go_wp2_with fail
              refine Calls.mono HRR.out ?_
              rintro e w7 ⟨v, rfl, hrow, hb7⟩
              rw [← HFE.out] at hrow
              have hbw2 : Below w5.heap.size w5 w7 := hb.trans (hb7.mono hb.size)
              have hA2 := AccSt.below HA.out hb7
              obtain ⟨gv, cv, rfl⟩ := slice_of_owns hrow hsp
              obtain ⟨q, hq⟩ : ∃ q, q = (f es[k]).length := ⟨_, rfl⟩
              have hqb : n + q ≤ 20000001 := by
                have h1 := HT.out (k + 1)
                rw [HSTEP.out] at h1
                have h2 := AccSt.len HA.out
                simp only [List.length_cons, List.length_append] at h1 h2
                omega
              have HCV : Hid _ := World.ownsRow.cells hrow (g := gv) rfl
              have HQ : Hid _ := hq
              have HA2 : Hid _ := hA2
              rw [← hq]
              clear hrow hb7 hA2 hq HRR
              go_wp2_with (at_builtin; (refine wpList_append_own_at _ rfl (.tmp 147) (.tmp 148) 64 rfl w5.heap.size 26 i0 _ 1 8 Tryz.underlying64 hi hz0 hz1 hz2 rfl (by decide) (.slice a n c) n (encN (id :: (es.take k).flatMap f)) rfl (AccSt.row HA2.out) ⟨gv, 0, none⟩ q cv (encN (f es[k])) rfl (by rw [encN_len, HQ.out, Nat.mul_one]) HCV.out (encN_one8 _) (by unfold maxLen; omega) (by omega) hbw2.size ?_))
              intro v' w8 hown' hgrow _ hloc
              obtain ⟨a3, c3, hv, hA3⟩ := AccSt.grow HA2.out HQ.out hown' hgrow hloc
              subst hv
              have hb3 := grown_own8 hbw2 hbw2.size (AccSt.row HA2.out) hgrow
              have HA3 : Hid (AccSt w5.heap.size g es w8 a3 (n + q) c3 (id :: (es.take (k + 1)).flatMap f)) := by
                show AccSt _ _ _ _ _ _ _ _
                rw [HSTEP.out]; exact hA3
              clear hown' hgrow hloc hA3
              go_wp2
              exact ⟨⟨k + 1, a3, n + q, c3, by omega, by simp, rfl, hqb, hb3, HA3⟩, by simp [intOf]; omega⟩
            · have hd' : (es[k].2.1 == 2) = false := by simpa using hd
              have hfe : f es[k] = [] := by rw [HF.out]; simp only [if_neg (fun h : _ ∧ _ => hd h.2)]
              have HA3 : Hid (AccSt w5.heap.size g es wq a n c (id :: (es.take (k + 1)).flatMap f)) := by
                show AccSt _ _ _ _ _ _ _ _
                rw [HSTEP.out, hfe, List.append_nil]; exact HA.out
              clear hnm hd hfe
              go_wp2
              exact ⟨⟨k + 1, a, n, c, by omega, by simp, rfl, hn, hb, HA3⟩, by simp [intOf]; omega⟩
          · have hnm' : (es[k].1.toList == (⟨#[97]⟩ : ByteArray).toList) = false := toList_ne hnm
            have hnm'' : (es[k].1.toList == [97]) = false := by have := hnm'; rw [show (⟨#[97]⟩ : ByteArray).toList = [97] by rw [ByteArray.toList_eq]] at this; exact this
            have hfe : f es[k] = [] := by rw [HF.out]; simp only [if_neg (fun h : _ ∧ _ => hnm h.1)]
            have HA3 : Hid (AccSt w5.heap.size g es wq a n c (id :: (es.take (k + 1)).flatMap f)) := by
              show AccSt _ _ _ _ _ _ _ _
              rw [HSTEP.out, hfe, List.append_nil]; exact HA.out
            clear hnm hfe
            go_wp2
            exact ⟨⟨k + 1, a, n, c, by omega, by simp, rfl, hn, hb, HA3⟩, by simp [intOf]; omega⟩
        · have hkm' : k = m := by omega
          have hfin := HA.out
          rw [hkm', HM.out, List.take_length, ← HMY.out] at hfin
          have hmay : IdRow wq (.slice a n c) (mayL objs id) := by
            have h1 := AccSt.row hfin
            have h2 := AccSt.len hfin
            unfold IdRow
            rw [← h2]; exact row_base0 h1
          have hst6 := StSt.below H5.out hb
          have HST6 : Hid _ := hst6
          have HH2 : Hid _ := fun (wz : World) (hz : Below wq.heap.size wq wz) x (hx : x ∈ mayL objs id) => near_has HO.out (row_below hmay hz) hx
          have HLR : Hid (IdRow wq (.slice a1 n1 c1) G) := by
            have := StSt.row hst6 (r := (Value.slice a1 G.length c1, G)) (List.mem_cons_self ..)
            show IdRow _ _ _
            rw [HN1.out]; exact this
          have HGF : Hid _ := fun (wz : World) (hz : Below wq.heap.size wq wz) x (hx : x ∈ mayL objs id) => near_file HO.out (StSt.below hst6 hz) hx
          have HEND : Hid (Below W.heap.size W wq) := HW5.out.trans (hb.mono HW5.out.size)
          clear hfin hkm' hmay hst6 HA HA0 HE
          go_wp2
          go_loopw [21] (fun i wz => ∃ j : Nat, nb ≤ j ∧ j ≤ n1 ∧ i = .int .i64 (j : Int) ∧ Below wq.heap.size wq wz) (fun i _ => n1 - (intOf i).toNat)
          case atStart => exact ⟨nb, Nat.le_refl _, by omega, rfl, Below.refl _ _⟩
          case round =>
            obtain ⟨j, hjb, hj1, rfl, hbz⟩ := hrel
            rename World => wz
            by_cases hjl : j < n1
            · have hjG : j < G.length := by rw [← HN1.out]; exact hjl
              obtain ⟨g3, hg3, hgl3, cx⟩ := IdRow.at_ (row_below HLR.out hbz) hjG
              subst hg3
              have hmem := HGM.out j hjG hjb
              have HFI : Hid _ := HGF.out wz hbz _ hmem
              have HHI : Hid _ := fun w hb => HH2.out w hb _ hmem
              obtain ⟨x, hx⟩ : ∃ x, x = G[j] := ⟨_, rfl⟩
              rw [← hx] at cx HFI HHI
              clear hx hmem
              go_wp2_with fail
              refine Calls.mono HFI.out ?_
              rintro e wz1 ⟨rfl, hb1⟩
              have hbz1 : Below wq.heap.size wq wz1 := hbz.trans (hb1.mono hbz.size)
              have cx1 := (hb1.cell (p := ⟨g3, j, none⟩) hgl3).trans cx
              have hgl4 : g3 < wz1.heap.size := Nat.lt_of_lt_of_le hgl3 hb1.size
              clear cx
              go_wp2_with fail
              refine Calls.mono (HHI.out wz1 hbz1) ?_
              rintro e wz2 ⟨rfl, rfl⟩
              clear HFI HHI
              go_wp2
              exact ⟨⟨j + 1, by omega, by omega, by simp, hbz1⟩, by simp [intOf]; omega⟩
            · go_wp2
              go_ret
              exact ⟨rfl, HEND.out.trans (hbz.mono HEND.out.size)⟩
end Go.Proofs.YtajopoddmfdejaaGreat
