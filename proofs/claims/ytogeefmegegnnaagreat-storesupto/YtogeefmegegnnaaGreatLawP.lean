/-
  What is proved here: 'putDir' of the law's world.
-/
import Derived.Test.YtogeefmegegnnaaGreatLawO
namespace Go.Proofs.YtogeefmegegnnaaGreat
open Go.RowKit Go.Sort Go.Shelf
set_option linter.unusedVariables false
variable {ft : PTail}

theorem listed_of_owns {w : World} {b : Nat} {t : TypeId} {a : Option Addr} {m c : Nat} {es : List Ent} (h : w.ownsRow b t 3 (.slice a m c) m (flat es)) : Listed w a m es := by
  have hl : es.length = m := by have := h.1; rw [flat_len] at this; omega
  refine ⟨hl, fun hp => ?_⟩
  obtain ⟨g, c', hv⟩ := slice_of_owns h hp
  have ha := (Value.slice.inj hv).1
  subst ha
  exact ⟨g, 0, rfl, ownsRow_lt h rfl, owns_cells h⟩

/-- What lies past all that has turned. -/
theorem row_past {F : Nat → Prop} {B : Nat} {w w' : World} (hF : ∀ k, F k → k < B) (hk : Keeps F w w') {b : Nat} {t : TypeId} {sz n : Nat} {v : Value} {xs : List Value} (hr : w.ownsRow b t sz v n xs) (hb : B ≤ b) : w'.ownsRow b t sz v n xs :=
  ownsRow_keep hr (fun g hg => hk.block g (hr.lt g hg).2 (fun hf => by have := hF g hf; have := (hr.lt g hg).1; omega))

theorem keeps_then {F : Nat → Prop} {w w1 w2 : World} (a : Keeps F w w1) (b : Keeps F w1 w2) : Keeps F w w2 :=
  ⟨b.os.trans a.os, b.tape.trans a.tape, b.output.trans a.output, Nat.le_trans a.size b.size, fun q hq hn => (b.block q (Nat.lt_of_lt_of_le hq a.size) hn).trans (a.block q hq hn)⟩

theorem flat_left {es zs : List Ent} {j : Nat} {u : Value} (h : (flat es)[j]? = some u) : (flat (es ++ zs))[j]? = some u := by
  rw [flat_append, List.getElem?_append_left (List.getElem?_eq_some_iff.1 h).1]
  exact h

section
variable {FL FR FS FH : Nat → Prop} {w : World} {W s r : Nat} {objs ros : List Ob} {c5 c6 c7 c8 c9 c10 c11 : Value}

theorem w3_placeZ (h : W3 ft FL FR FS w W s r objs ros c5 c6 c7 c8 c9 c10 c11) (x : Ent) : Calls Tryz.prog 80 #[.pointer (some ⟨W, 0, none⟩), .int .i64 x.2.2] w fun e w' => e = .returned (.int .i64 (toAt objs.length x).2.2) ∧ w' = w := by
  by_cases hN : 1 ≤ x.2.2 ∧ x.2.2 ≤ (objs.length : Int)
  · obtain ⟨j, hj⟩ : ∃ j : Nat, x.2.2 = (j : Int) + 1 := ⟨(x.2.2 - 1).toNat, by omega⟩
    have e : (toAt objs.length x).2.2 = (j : Int) := by unfold toAt; rw [if_pos hN]; show x.2.2 - 1 = _; omega
    rw [e, hj]
    exact w3_place h j (by omega)
  · have e : (toAt objs.length x).2.2 = -1 := by unfold toAt; rw [if_neg hN]
    rw [e]
    exact w3_noplace h _ (by omega)

/-- What was lent, behind both puts. -/
theorem kept7 {w5 w6 w7 : World} {b1 b2 gin k cl : Nat} {al : Option Addr} {es : List Ent} (h : W3 ft FL FR FS w W s r objs ros c5 c6 c7 c8 c9 c10 c11) (hk6 : Keeps FS w5 w6) (hk7 : Keeps FR w6 w7) (hol : w5.ownsRow b1 112 3 (.slice al k cl) k (flat es)) (hin : w5.ownsRow b2 112 3 (.slice (some ⟨gin, 0, none⟩) (k + 3) (k + 3)) (k + 3) (flat (es ++ List.replicate 3 mk77)))
    (hb1 : w.heap.size ≤ b1) (hb2 : w.heap.size ≤ b2) (hbig : k ≤ 2097152) (hnil : k = 0 → al = none ∧ cl = 0) :
    Calls Tryz.prog 144 #[.slice (some ⟨gin, 0, none⟩) (k + 3) (k + 3), .slice al k cl] w7 (fun e w' => e = .returned (.bool true) ∧ Below w7.heap.size w7 w') ∧ w7.ownsRow b2 112 3 (.slice (some ⟨gin, 0, none⟩) (k + 3) (k + 3)) (k + 3) (flat (es ++ List.replicate 3 mk77)) := by
  have f6 : ∀ k, FS k → k < w.heap.size := fun k hk => (h.sep.sl k hk).1
  have f7 : ∀ k, FR k → k < w.heap.size := fun k hk => (h.sep.rl k hk).1
  have h7 := row_past f7 hk7 (row_past f6 hk6 hin hb2) hb2
  exact ⟨kept_gen gin al k cl es w7 (listed_of_owns (row_past f7 hk7 (row_past f6 hk6 hol hb1) hb1)) (by omega) hnil b2 h7, h7⟩

theorem toAt_ok {n : Nat} {es : List Ent} (hs : ∀ e ∈ es, e.1.size ≤ maxLen) : (∀ e ∈ es.map (toAt n), e.1.size ≤ maxLen) ∧ ∀ e ∈ es.map (toAt n), -1 ≤ e.2.2 ∧ e.2.2 < (n : Int) := by
  constructor
  · intro e he
    obtain ⟨e0, h0, rfl⟩ := List.mem_map.1 he
    exact hs e0 h0
  · intro e he
    obtain ⟨e0, h0, rfl⟩ := List.mem_map.1 he
    unfold toAt
    split
    · next hh => exact ⟨show -1 ≤ e0.2.2 - 1 by omega, show e0.2.2 - 1 < (n : Int) by omega⟩
    · exact ⟨show (-1 : Int) ≤ -1 by omega, show (-1 : Int) < (n : Int) by omega⟩

set_option maxRecDepth 100000 in
set_option maxHeartbeats 16000000 in
theorem wputDir (h : W3 ft FL FR FS w W s r objs ros c5 c6 c7 c8 c9 c10 c11) (k0 a1 a2 a3 : Int) (S T : ByteArray) (la : Option Addr) (lm lc : Nat) (es : List Ent) (hl : Listed w la lm es) (hbig : lm ≤ 2097152) (hsz : ∀ e ∈ es, e.1.size ≤ maxLen) :
    Calls Tryz.prog 77 #[.pointer (some ⟨W, 0, none⟩), .agg #[.int .i64 k0, .int .i64 a1, .int .i64 a2, .int .i64 a3, .string S, .string T, .slice la lm lc]] w fun e w' => e = .returned (.bool true) ∧ Stepped ft FL FR FS w w' W s r c5 c6 c7 c8 c9 c10 c11 := by
  obtain ⟨i0, hi, hz0, hz1, hz2⟩ := info_parts infoE
  obtain ⟨iI, hI, hI0, hI1, hI2⟩ := info_parts infoItem
  have HW : Hid (W3 ft FL FR FS w W s r objs ros c5 c6 c7 c8 c9 c10 c11) := h
  obtain ⟨p0, p1, hWl, hFW⟩ := h.law.cells
  obtain ⟨B, hB⟩ : ∃ B : Obj, B = .cells #[.int .i64 k0, .int .i64 a1, .int .i64 a2, .int .i64 a3, .string S, .string T, .slice la lm lc] 93 := ⟨_, rfl⟩
  obtain ⟨w1, hw1⟩ : ∃ w1, w1 = w.alloc B := ⟨_, rfl⟩
  have hb0 : Below w.heap.size w w1 := by rw [hw1]; exact (Below.refl _ _).alloc (Nat.le_refl _) B
  have b6 : w1.cell? ⟨w.heap.size, 6, none⟩ = some (.slice la lm lc) := by rw [hw1, hB]; simp
  have hs1 : w.heap.size < w1.heap.size := by rw [hw1]; simp
  have H1 : Hid (W3 ft FL FR FS w1 W s r objs ros c5 c6 c7 c8 c9 c10 c11) := h.below hb0
  have HL : Hid (Listed w la lm es) := hl
  have HS : Hid (∀ e ∈ es, e.1.size ≤ maxLen) := hsz
  obtain ⟨n, hn⟩ : ∃ n, n = objs.length := ⟨_, rfl⟩
  have HN : Hid (n = objs.length) := hn
  clear h hl hsz hn
  go_enter Tryz.func77, Tryz.ntmps77
  go_wp2
  rw [← hB, ← hw1]
  clear hB hw1
  go_loopw [5, 6, 7] (fun l m i wr => ∃ (k : Nat) (al : Option Addr) (cl : Nat) (am : Option Addr) (cm : Nat), k ≤ lm ∧ i = .int .i64 (k : Int) ∧ l = .slice al k cl ∧ m = .slice am k cm ∧ Below w1.heap.size w1 wr ∧ Hid (wr.ownsRow w1.heap.size 112 3 (.slice al k cl) k (flat (es.take k))) ∧ Hid (wr.ownsRow w1.heap.size 159 3 (.slice am k cm) k (flat ((es.take k).map (toAt n)))) ∧ Hid (k = 0 → al = none ∧ cl = 0)) (fun _ _ i _ => lm - (intOf i).toNat)
  case atStart => exact ⟨0, none, 0, none, 0, Nat.zero_le _, rfl, rfl, rfl, Below.refl _ _, World.ownsRow_nil _ _ _ _, World.ownsRow_nil _ _ _ _, fun _ => ⟨rfl, rfl⟩⟩
  case round =>
    obtain ⟨k, al, cl, am, cm, hk, rfl, rfl, rfl, hb, HOL, HOM, HNIL⟩ := hrel
    have hsz1 := hb.size
    have b6r := (hb.cell (p := ⟨w.heap.size, 6, none⟩) (by show w.heap.size < _; omega)).trans b6
    by_cases hlt : k < lm
    · obtain ⟨b, off, hla, hbl, hc⟩ := HL.out.2 (by omega)
      have hke : k < es.length := by rw [HL.out.1]; exact hlt
      obtain ⟨c0, c1, c2⟩ := row_cells hc hke
      obtain ⟨x, hx⟩ : ∃ x, x = es[k] := ⟨_, rfl⟩
      rw [← hx] at c0 c1 c2
      have hbw : Below w.heap.size w wr := hb0.trans (hb.mono (by omega))
      have x0 := (hbw.cell (p := ⟨b, off + k * 3, none⟩) hbl).trans c0
      have x1 := (hbw.cell (p := ⟨b, off + k * 3 + 1, none⟩) hbl).trans c1
      have x2 := (hbw.cell (p := ⟨b, off + k * 3 + 2, none⟩) hbl).trans c2
      have hblr : b < wr.heap.size := by omega
      rw [hla] at b6r
      have HX : Hid (x = es[k]) := hx
      have HID : Hid (∀ X, Calls Tryz.prog 78 #[.pointer (some ⟨W, 0, none⟩), .int .i64 x.2.2] (wr.alloc X) fun e w' => e = .returned (.int .i64 x.2.2) ∧ w' = wr.alloc X) := fun X => w3_id (H1.out.below (hb.alloc hb.size X)) x.2.2
      have hkm : (k : Int) < (lm : Int) := by omega
      clear hc c0 c1 c2 hx hla
      go_wp2_with (first | (go_at_call 78; refine Calls.mono (HID.out _) ?_; rintro _ _ ⟨rfl, rfl⟩) | (at_builtin; refine wpList_append_own _ rfl (.tmp 33) (.tmp 40) 91 rfl w1.heap.size 112 i0 _ 3 32 Tryz.underlying91 hi hz0 hz1 hz2 rfl (by decide) _ _ _ rfl ((HOL.out.alloc _).alloc _) ⟨wr.heap.size + 1, 0, none⟩ 1 1 (encE x) rfl rfl (item_cells (wr.alloc _) x _ _ (by simp)) (encE_one x) (by unfold maxLen; omega) (by omega) (by simp; omega) ?_))
      intro v' w2 hown' hgrow _
      have hB : w1.heap.size ≤ ((wr.alloc (Obj.cells #[Value.string x.fst, Value.int IntKind.i64 x.snd.fst, Value.int IntKind.i64 x.snd.snd] 112)).alloc (Obj.cells #[Value.string x.fst, Value.int IntKind.i64 x.snd.fst, Value.int IntKind.i64 x.snd.snd] 112)).heap.size := by simp; omega
      have hb2 : Below w1.heap.size w1 w2 := grown_own ((hb.alloc hb.size _).alloc (by simp; omega) _) hB ((HOL.out.alloc _).alloc _) hgrow
      have hnb : some wr.heap.size ≠ (Value.slice al k cl).ownBlock := fun e => by have := ownsRow_lt HOL.out e.symm; omega
      have hblk := hgrow.block wr.heap.size (by simp; omega) hnb
      have e0 : w2.cell? ⟨wr.heap.size, 0, none⟩ = some (.string x.1) := (World.cell?_of_block (a := ⟨wr.heap.size, 0, none⟩) hblk).trans (by simp)
      have e1 : w2.cell? ⟨wr.heap.size, 1, none⟩ = some (.int .i64 x.2.1) := (World.cell?_of_block (a := ⟨wr.heap.size, 1, none⟩) hblk).trans (by simp)
      have HOL2 : Hid (w2.ownsRow w1.heap.size 112 3 v' (k + 1) (flat (es.take (k + 1)))) := by show World.ownsRow _ _ _ _ _ _ _; rw [← take_snoc hke, ← HX.out]; exact hown'
      have HOM2 : Hid (w2.ownsRow w1.heap.size 159 3 (.slice am k cm) k (flat ((es.take k).map (toAt n)))) := ownsRow_keep HOM.out (fun g hg => by
        have hl := ownsRow_lt HOM.out hg
        rw [hgrow.block g (by simp; omega) (rows_apart HOM.out HOL.out (by decide) hg), Below.heap_alloc _ _ _ (by simp; omega), Below.heap_alloc _ _ _ hl])
      have hs2 : wr.heap.size < w2.heap.size := by have := hgrow.size; simp at this; omega
      have HPL : Hid (∀ q, Calls Tryz.prog 80 #[.pointer (some ⟨W, 0, none⟩), .int .i64 x.2.2] (w2.drewN q) fun e w' => e = .returned (.int .i64 (toAt n x).2.2) ∧ w' = w2.drewN q) := fun q => by rw [HN.out]; exact w3_placeZ (H1.out.below (below_drewN hb2 q)) x
      obtain ⟨al', cl', rfl⟩ := owns_form hown'
      clear hown' hgrow hB hblk hnb HID x0 x1 x2
      go_wp2
      go_region_law (first
        | (refine step_append_own_at rfl (.tmp 42) (.tmp 51) 155 rfl w1.heap.size 159 iI _ 3 32 Tryz.underlying155 hI hI0 hI1 hI2 rfl (by decide) (.slice am k cm) k (flat ((es.take k).map (toAt n))) (by simp [Act.eval]) (World.ownsRow.alloc (show w2.drew.ownsRow _ _ _ _ _ _ from HOM2.out) _) ⟨w2.heap.size, 0, none⟩ 1 1 (encE (toAt n x)) (by simp [Act.eval]) rfl (item_cells w2.drew (toAt n x) _ _ rfl) (encE_one _) (by unfold maxLen; omega) (by omega) (by have := hb2.size; simp; omega) ?_; intro v'' w3 hown'' hgrow'' _)
        | (go_simp; go_at_call 80; refine Calls.mono (HPL.out 1) ?_; rintro _ _ ⟨rfl, rfl⟩))
      all_goals
        have hb3 : Below w1.heap.size w1 w3 := grown_own ((below_drewN hb2 1).alloc hb2.size _) (by have := hb2.size; simp; omega) (World.ownsRow.alloc (show (w2.drewN 1).ownsRow _ _ _ _ _ _ from HOM2.out) _) hgrow''
        have HOM3 : Hid (w3.ownsRow w1.heap.size 159 3 v'' (k + 1) (flat ((es.take (k + 1)).map (toAt n)))) := by
          show World.ownsRow _ _ _ _ _ _ _
          rw [List.take_succ_eq_append_getElem hke, List.map_append, List.map_cons, List.map_nil, flat_append, flat_one_item, ← HX.out]
          exact hown''
        have HOL3 : Hid (w3.ownsRow w1.heap.size 112 3 (.slice al' (k + 1) cl') (k + 1) (flat (es.take (k + 1)))) := ownsRow_keep HOL2.out (fun g hg => by
          have hl := ownsRow_lt HOL2.out hg
          rw [hgrow''.block g (by simp; omega) (rows_apart HOL2.out HOM2.out (by decide) hg), Below.heap_alloc _ _ _ (show g < (w2.drewN 1).heap.size from hl)]
          rfl)
        obtain ⟨am', cm', rfl⟩ := owns_form hown''
        clear hown'' hgrow''
        go_wp2
        go_roundw
        case rel => exact ⟨k + 1, al', cl', am', cm', by omega, by go_num, rfl, rfl, hb3, HOL3.out, HOM3.out, fun e => by omega⟩
        case measure => simp [intOf]; omega
    · have hkl : k = lm := by omega
      subst hkl
      have hnl : decide ((k : Int) < (k : Int)) = false := decide_eq_false (by omega)
      have ht : es.take k = es := List.take_of_length_le (by rw [HL.out.1]; exact Nat.le_refl _)
      rw [ht] at HOL HOM
      have hlent := lent_gen al k cl es wr (listed_of_owns HOL.out) (by omega) HNIL.out
      have HLE : Hid _ := hlent
      clear hlent ht
      go_wp2_with (go_at_call 142; refine Calls.mono HLE.out ?_; rintro _ w5 ⟨gin, rfl, hin, hb5⟩; have HIN : Hid _ := hin; clear hin; have hb51 : Below w1.heap.size w1 w5 := hb.trans (hb5.mono hb.size); have m0 := (LawS.cells (H1.out.below hb51).law).1; have mW := (LawS.cells (H1.out.below hb51).law).2.2.1)
      have hbw5 : Below w.heap.size w w5 := hb0.trans (hb51.mono (by omega))
      have H5 : Hid (W3 ft FL FR FS w5 W s r objs ros c5 c6 c7 c8 c9 c10 c11) := H1.out.below hb51
      have HOL5 : Hid (w5.ownsRow w1.heap.size 112 3 (.slice al k cl) k (flat es)) := ownsRow_keep HOL.out (fun g hg => hb5.block g (ownsRow_lt HOL.out hg))
      have HOM5 : Hid (w5.ownsRow w1.heap.size 159 3 (.slice am k cm) k (flat (es.map (toAt n)))) := ownsRow_keep HOM.out (fun g hg => hb5.block g (ownsRow_lt HOM.out hg))
      have hgin : w1.heap.size ≤ gin ∧ gin < w5.heap.size := by have := World.ownsRow.lt HIN.out gin rfl; exact ⟨Nat.le_trans hb.size this.1, this.2⟩
      have hpd := storePutDir (HW.out.below (below_drewN hbw5 1)).sto gin 0 k (k + 3) es HL.out.1 hgin.2 (by omega) (fun j u hu => owns_cells HIN.out j u (flat_left hu)) HS.out
      have HPD : Hid _ := hpd
      have hs5 : w1.heap.size ≤ w5.heap.size := hb51.size
      have hwr1 : w1.heap.size ≤ wr.heap.size := hb.size
      clear hpd HOL HOM b6r b6
      go_region_with (first | (go_at_call 39; refine Calls.mono HPD.out ?_; rintro e w6 ⟨objs', hfp, hinv, hkp⟩; obtain ⟨id, ecc, he⟩ := hfp.shape; have HFP : Hid (DirPutG objs objs' es e) := hfp; have HE : Hid (e = .returned (.tuple #[.int .i64 id, .int .i64 ecc])) := he; rw [he]; clear hfp he))
      all_goals
        have hkp' : Keeps FS w5 w6 := ⟨hkp.os, hkp.tape, hkp.output, hkp.size, hkp.block⟩
        have HI6 : Hid (Inv ft (NewF FS w5 w6) w6 s objs') := hinv
        have HKP : Hid (Keeps FS w5 w6) := hkp'
        have hs6 : w5.heap.size ≤ w6.heap.size := hkp'.size
        have m1 : w6.cell? ⟨W, 1, none⟩ = some (.pointer (some ⟨r, 0, none⟩)) := (World.cell?_of_block (a := ⟨W, 1, none⟩) (hkp'.block W mW (fun hf => (HW.out.sep.sl W hf).2 hFW))).trans (LawS.cells H5.out.law).2.1
        have mW6 : W < w6.heap.size := by omega
        have R6 : RefInv FR w6 r ros := HW.out.ref.keep (fun _ h => h) (fun q hq => (hkp'.block q (by have := (HW.out.sep.rl q hq).1; omega) (HW.out.sep.rs q hq)).trans (hbw5.block q (HW.out.sep.rl q hq).1))
        have HOM6 := row_past (fun q hq => (HW.out.sep.sl q hq).1) hkp' HOM5.out (Nat.le_of_lt hs1)
        have hto := toAt_ok (n := n) HS.out
        have hrd := rputDir_any R6 am k cm (es.map (toAt n)) (listed_of_owns HOM6) (by omega) hto.1 (by rw [← HW.out.twin.1, ← HN.out]; exact hto.2)
        have HRD : Hid _ := hrd
        clear hrd hto HOM6 R6 hkp' hkp hinv HPD
        go_frame
        go_wp2_with (first
          | (go_at_call 143; refine Calls.mono HRD.out ?_; rintro _ w7 ⟨x, y, ros', rfl, hrp, hri, hrk⟩; have HAF : Hid _ := put_dir_facts HW.out hbw5 HKP.out HI6.out hrk hri HFP.out (by rw [← HN.out]; exact hrp) HE.out; have HKT : Hid _ := kept7 HW.out HKP.out hrk HOL5.out HIN.out (Nat.le_of_lt hs1) (by omega) hbig HNIL.out; have hs7 := hrk.size; clear hrp hri hrk)
          | (go_at_call 144; refine Calls.mono HKT.out.1 ?_; rintro _ w8 ⟨rfl, hb8⟩))
        have HR8 : Hid (w8.ownsRow 0 112 3 (.slice (some ⟨gin, 0, none⟩) (k + 3) (k + 3)) (k + 3) (flat (es ++ List.replicate 3 mk77))) := ownsRow_keep (owns_mono HKT.out.2 (Nat.zero_le _)) (fun g hg => hb8.block g (ownsRow_lt HKT.out.2 hg))
        clear HRD HOL5 HOM5 HIN HKT m0 m1
        go_loopw [16] (fun i wq => ∃ d : Nat, d ≤ k + 3 ∧ i = .int .i64 (d : Int) ∧ Hid (Keeps (fun q => q = gin) w8 wq) ∧ Hid (∃ xs, wq.ownsRow 0 112 3 (.slice (some ⟨gin, 0, none⟩) (k + 3) (k + 3)) (k + 3) xs)) (fun i _ => k + 3 - (intOf i).toNat)
        case atStart => exact ⟨0, Nat.zero_le _, rfl, Keeps.refl _, ⟨_, HR8.out⟩⟩
        case round =>
          obtain ⟨d, hd, rfl, HK, HXS⟩ := hrel
          obtain ⟨xs, hown⟩ := HXS.out
          by_cases hdl : d < k + 3
          · have hfz := fun j => hown.frozenAt j
            have hcs : ∀ j, j < 3 → ∃ v, wr.cell? ⟨gin, d * 3 + j, none⟩ = some v := fun j hj => by
              rw [hown.cellAt (d * 3 + j) (by omega)]
              exact ⟨_, List.getElem?_eq_getElem (by rw [hown.1]; omega)⟩
            obtain ⟨v0, e0⟩ := hcs 0 (by omega)
            obtain ⟨v1, e1⟩ := hcs 1 (by omega)
            obtain ⟨v2, e2⟩ := hcs 2 (by omega)
            rw [Nat.add_zero] at e0
            have hnm : (d : Int) < (k : Int) + 3 := by omega
            have hgl : gin < wr.heap.size := ownsRow_lt hown rfl
            have HO : Hid (wr.ownsRow 0 112 3 (.slice (some ⟨gin, 0, none⟩) (k + 3) (k + 3)) (k + 3) xs) := hown
            clear hcs HXS hown
            go_wp2
            refine ⟨⟨d + 1, by omega, by go_num, keeps_then (keeps_then (keeps_then HK.out (keeps_set rfl)) (keeps_set rfl)) (keeps_set rfl), ⟨_, (World.ownsRow.stored (World.ownsRow.stored (World.ownsRow.stored HO.out _ _).1 _ _).1 _ _).1⟩⟩, by simp [intOf]; omega⟩
          · have hnl : decide ((d : Int) < (k : Int) + 3) = false := decide_eq_false (by omega)
            obtain ⟨hA, A1, A2, A3, A4, A5, A6⟩ := HAF.out
            have hK9 : Keeps (fun q => q = gin) w7 wr := keeps_then (Keeps.of_below hb8) HK.out
            have hF := facts_stay A1 A2 A3 A4 A6 hK9 (fun hf => by have := HW.out.sep.ll gin hf; omega) (fun hf => by
              rcases hf with hf | hf
              · have := (HW.out.sep.rl gin hf).1; omega
              · have := hf.1; omega) (fun hf => by
              rcases hf with hf | hf
              · have := (HW.out.sep.sl gin hf).1; omega
              · have := hf.1; omega) (by omega)
            have HFF : Hid _ := hF
            have HA5 : Hid (Below0 ros') := A5
            have HAG : Hid (Agreed objs objs' ros ros' id ecc x y) := hA
            have hnum := fun (e : Int) (W' : World) => num_any e W'
            obtain ⟨hec, _, hcase⟩ := hA
            subst hec
            clear hown HXS hF A1 A2 A3 A4 A5 A6 hK9 HK HAF
            by_cases hy : ecc = 0
            · have hls := learn_step HFF.out.1 HFF.out.2.2.1 HFF.out.2.1 HFF.out.2.2.2.1 HA5.out HAG.out hy HW.out.twin.1
              subst hy
              clear hcase
              have hz : ((0 : Int) != 0) = false := by simp
              go_wp2_with (first
                | (go_at_call 46; refine Calls.mono (hnum _ _) ?_; rintro _ _ ⟨rfl, rfl⟩)
                | (go_at_call 76; refine Calls.mono hls ?_; rintro _ w9 ⟨rfl, hw9, hk9⟩))
              go_ret
              refine ⟨rfl, _, _, _, objs', ros', hw9, ?_, ?_⟩
              · have zw := HFF.out.2.2.2.2.size
                rintro q ((h | h) | (h | h) | (h | h))
                · exact .inl (.inl h)
                · exact .inr (Nat.le_trans zw h.1)
                · exact .inl (.inr (.inl h))
                · have := h.1; exact .inr (by omega)
                · exact .inl (.inr (.inr h))
                · have := h.1; exact .inr (by omega)
              · have kk := HFF.out.2.2.2.2
                exact ⟨hk9.os.trans kk.os, hk9.tape.trans kk.tape, hk9.output.trans kk.output, Nat.le_trans kk.size hk9.size, fun q hq hn => (hk9.block q (Nat.lt_of_lt_of_le hq kk.size) (fun h => hn (.inl h))).trans (kk.block q hq hn)⟩
            · have hid : id = 0 ∧ objs' = objs ∧ ros' = ros := by
                rcases hcase with h | h
                · exact h.2
                · exact absurd h.1 hy
              have hyb : (ecc != 0) = true := by simpa using hy
              have hee : (ecc != ecc) = false := by simp
              obtain ⟨rfl, rfl, rfl⟩ := hid
              clear hcase
              go_wp2_with (go_at_call 46; refine Calls.mono (hnum _ _) ?_; rintro _ _ ⟨rfl, rfl⟩)
              go_ret
              refine ⟨rfl, _, _, _, objs', ros', ⟨HFF.out.1, HFF.out.2.2.1, HFF.out.2.1, HW.out.twin, HW.out.at_, HFF.out.2.2.2.1⟩, ?_, HFF.out.2.2.2.2⟩
              · rintro q (h | (h | h) | (h | h))
                · exact .inl (.inl h)
                · exact .inl (.inr (.inl h))
                · have := h.1; exact .inr (by omega)
                · exact .inl (.inr (.inr h))
                · have := h.1; exact .inr (by omega)
end
end Go.Proofs.YtogeefmegegnnaaGreat
