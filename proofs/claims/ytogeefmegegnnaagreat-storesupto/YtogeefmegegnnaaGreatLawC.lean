/-
  What is proved here: 'grows': there is room for what is known of each object.
-/
import Derived.Test.YtogeefmegegnnaaGreatLawB
namespace Go.Proofs.YtogeefmegegnnaaGreat
open Go.RowKit Go.Sort Go.Shelf
set_option linter.unusedVariables false

theorem infoID : (Tryz.prog.info? 58).map (fun i => (i.zero, i.size, i.bytes)) = some (some (.int .i64 0), 1, 8) := by kernel_rfl
theorem infoB : (Tryz.prog.info? 4).map (fun i => (i.zero, i.size, i.bytes)) = some (some (.bool false), 1, 1) := by kernel_rfl
theorem infoI : (Tryz.prog.info? 3).map (fun i => (i.zero, i.size, i.bytes)) = some (some (.int .i64 0), 1, 8) := by kernel_rfl

def lenAt (W : Nat) (w : World) : Nat := match w.cell? ⟨W, 2, none⟩ with | some (.slice _ n _) => n | _ => 0

theorem one_cell (w : World) (v : Value) (t : TypeId) (n : Nat) (hn : n = w.heap.size) : ∀ j u, [v][j]? = some u → (w.alloc (.cells #[v] t)).cell? ((⟨n, 0, none⟩ : Addr).add j) = some u := by
  subst hn
  intro j u h
  match j, h with
  | 0, h => simpa [Addr.add] using h
  | j + 1, h => simp at h

section
variable {F G : Nat → Prop} {w : World} {W s r : Nat} {ia ka pa : Option Addr} {ic kc pc : Nat} {ids : List Int} {known : List Bool} {paths : List Int} {c5 c6 c7 c8 c9 c10 c11 : Value} {ros : List Ob}

/-- So far grown. -/
def Growing (F : Nat → Prop) (w wo : World) (W s r : Nat) (ids : List Int) (known : List Bool) (n0 k : Nat) (c5 c6 c7 c8 c9 c10 c11 : Value) : Prop :=
  ∃ ia ka pa ic kc pc paths, LawAt (NewF F w wo) wo W s r ia ka pa ic kc pc (ids ++ List.replicate k 0) (known ++ List.replicate k false) paths c5 c6 c7 c8 c9 c10 c11 ∧ paths.length = n0 + k ∧ (∀ p ∈ paths, 0 ≤ p ∧ p ≤ 301) ∧ Keeps F w wo

theorem Growing.drewN {F : Nat → Prop} {w wo : World} {W s r : Nat} {ids : List Int} {known : List Bool} {n0 k : Nat} {c5 c6 c7 c8 c9 c10 c11 : Value} (h : Growing F w wo W s r ids known n0 k c5 c6 c7 c8 c9 c10 c11) (q : Nat) : Growing F w (wo.drewN q) W s r ids known n0 k c5 c6 c7 c8 c9 c10 c11 := by
  obtain ⟨ia, ka, pa, ic, kc, pc, ps, hl, hpl, hpr, hkp⟩ := h
  exact ⟨ia, ka, pa, ic, kc, pc, ps, hl.keep (fun _ h => h) (fun _ _ => rfl), hpl, hpr, keeps_drewN hkp q⟩

theorem one_int {x : Int} : ∀ u ∈ [Value.int .i64 x], u.oneCell' = true := by intro u hu; simp at hu; subst hu; rfl
theorem one_bool {x : Bool} : ∀ u ∈ [Value.bool x], u.oneCell' = true := by intro u hu; simp at hu; subst hu; rfl
theorem kb_alloc (w : World) (q : Nat) (o : Obj) : ∀ k, k < w.heap.size → ((w.drewN q).alloc o).heap[k]? = w.heap[k]? := fun k hk => Below.heap_alloc _ _ _ hk
theorem kb_alloc0 (w : World) (o : Obj) : ∀ k, k < w.heap.size → (w.alloc o).heap[k]? = w.heap[k]? := fun k hk => Below.heap_alloc _ _ _ hk
theorem grown_W {w w0 w2 : World} {W : Nat} {cs : Array Value} {T : TypeId} {own : Option Nat} (hW : w.heap[W]? = some (.cells cs T (0, 0))) (kb : ∀ k, k < w.heap.size → w0.heap[k]? = w.heap[k]?) (hs : w.heap.size ≤ w0.heap.size) (hg : w0.grownBy w2 own) (hne : some W ≠ own) : w2.heap[W]? = some (.cells cs T (0, 0)) := by
  have hl : W < w.heap.size := (Array.getElem?_eq_some_iff.1 hW).1
  rw [hg.block W (by omega) hne, kb W hl, hW]
theorem W_cells {w : World} {W : Nat} {a0 a1 a2 a3 a4 a5 a6 a7 a8 a9 a10 a11 : Value} {T : TypeId} (h : w.heap[W]? = some (.cells #[a0, a1, a2, a3, a4, a5, a6, a7, a8, a9, a10, a11] T (0, 0))) :
    w.cell? ⟨W, 0, none⟩ = some a0 ∧ w.cell? ⟨W, 1, none⟩ = some a1 ∧ w.cell? ⟨W, 2, none⟩ = some a2 ∧ w.cell? ⟨W, 3, none⟩ = some a3 ∧ w.cell? ⟨W, 4, none⟩ = some a4 ∧ ∀ i, w.frozen? ⟨W, i, none⟩ = false := by
  refine ⟨?_, ?_, ?_, ?_, ?_, fun i => ?_⟩ <;> simp [World.cell?, World.frozen?, h]

theorem LawAt.mono {F F' : Nat → Prop} {w : World} {W s r : Nat} {ia ka pa : Option Addr} {ic kc pc : Nat} {ids : List Int} {known : List Bool} {paths : List Int} {c5 c6 c7 c8 c9 c10 c11 : Value} (h : LawAt F w W s r ia ka pa ic kc pc ids known paths c5 c6 c7 c8 c9 c10 c11) (hF : ∀ k, F k → F' k) : LawAt F' w W s r ia ka pa ic kc pc ids known paths c5 c6 c7 c8 c9 c10 c11 := h.keep hF (fun _ _ => rfl)
theorem newF_newF {F : Nat → Prop} {w w1 w2 : World} (h1 : w.heap.size ≤ w1.heap.size) (h2 : w1.heap.size ≤ w2.heap.size) {k : Nat} (h : NewF (NewF F w w1) w1 w2 k) : NewF F w w2 k := by
  rcases h with (h | h) | h
  · exact .inl h
  · exact .inr ⟨h.1, Nat.lt_of_lt_of_le h.2 h2⟩
  · exact .inr ⟨Nat.le_trans h1 h.1, h.2⟩
/-- One call behind another. -/
theorem keeps_trans {F : Nat → Prop} {w w1 w2 : World} (h1 : Keeps F w w1) (h2 : Keeps (NewF F w w1) w1 w2) : Keeps F w w2 :=
  ⟨h2.os.trans h1.os, h2.tape.trans h1.tape, h2.output.trans h1.output, Nat.le_trans h1.size h2.size, fun k hk hn => (h2.block k (Nat.lt_of_lt_of_le hk h1.size) (by rintro (h | h); exact hn h; omega)).trans (h1.block k hk hn)⟩

theorem Growing.three {F : Nat → Prop} {w wo w1 w2 w3 : World} {W s r : Nat} {i1 k1 p1 i2 k2 p2 i3 k3 p3 : Option Addr} {ic1 kc1 pc1 ic2 kc2 pc2 ic3 kc3 pc3 : Nat} {ids : List Int} {known : List Bool} {ps : List Int} {n0 k : Nat} {x : Int} {c5 c6 c7 c8 c9 c10 c11 : Value} (hkp : Keeps F w wo)
    (h1 : LawAt (NewF (NewF F w wo) wo w1) w1 W s r i1 k1 p1 ic1 kc1 pc1 ((ids ++ List.replicate k 0) ++ [0]) (known ++ List.replicate k false) ps c5 c6 c7 c8 c9 c10 c11 ∧ Keeps (NewF F w wo) wo w1)
    (h2 : LawAt (NewF (NewF (NewF F w wo) wo w1) w1 w2) w2 W s r i2 k2 p2 ic2 kc2 pc2 ((ids ++ List.replicate k 0) ++ [0]) ((known ++ List.replicate k false) ++ [false]) ps c5 c6 c7 c8 c9 c10 c11 ∧ Keeps (NewF (NewF F w wo) wo w1) w1 w2)
    (h3 : LawAt (NewF (NewF (NewF (NewF F w wo) wo w1) w1 w2) w2 w3) w3 W s r i3 k3 p3 ic3 kc3 pc3 ((ids ++ List.replicate k 0) ++ [0]) ((known ++ List.replicate k false) ++ [false]) (ps ++ [x]) c5 c6 c7 c8 c9 c10 c11 ∧ Keeps (NewF (NewF (NewF F w wo) wo w1) w1 w2) w2 w3)
    (hpl : ps.length = n0 + k) (hpr : ∀ p ∈ ps, 0 ≤ p ∧ p ≤ 301) (hx : 0 ≤ x ∧ x ≤ 301) : Growing F w w3 W s r ids known n0 (k + 1) c5 c6 c7 c8 c9 c10 c11 := by
  have s1 := h1.2.size
  have s2 := h2.2.size
  have s3 := h3.2.size
  have s0 := hkp.size
  refine ⟨i3, k3, p3, ic3, kc3, pc3, ps ++ [x], ?_, by simp [hpl]; omega, ?_, ?_⟩
  · have := h3.1.mono (F' := NewF F w w3) (fun q hq => by
      rcases hq with ((( h | h) | h) | h) | h
      · exact .inl h
      · exact .inr ⟨h.1, by omega⟩
      · exact .inr ⟨by omega, by omega⟩
      · exact .inr ⟨by omega, by omega⟩
      · exact .inr ⟨by omega, h.2⟩)
    rw [List.append_assoc, List.append_assoc, ← List.replicate_succ', ← List.replicate_succ'] at this
    exact this
  · intro p hp
    rcases List.mem_append.1 hp with h | h
    · exact hpr p h
    · rw [List.mem_singleton.1 h]; exact hx
  · have a := keeps_trans (keeps_trans h1.2 h2.2 : Keeps (NewF F w wo) wo w2) ((⟨h3.2.os, h3.2.tape, h3.2.output, h3.2.size, fun q hq hn => h3.2.block q hq (fun h => hn (newF_newF s1 s2 h))⟩ : Keeps (NewF (NewF F w wo) wo w2) w2 w3))
    exact keeps_trans hkp a
theorem Growing.lenAt {F : Nat → Prop} {w wo : World} {W s r : Nat} {ids : List Int} {known : List Bool} {n0 k : Nat} {c5 c6 c7 c8 c9 c10 c11 : Value} (h : Growing F w wo W s r ids known n0 k c5 c6 c7 c8 c9 c10 c11) : YtogeefmegegnnaaGreat.lenAt W wo = ids.length + k := by
  obtain ⟨ia, ka, pa, ic, kc, pc, ps, hl, hpl, hpr, hkp⟩ := h
  unfold YtogeefmegegnnaaGreat.lenAt
  rw [hl.c2]
  simp

theorem ref_stays {F G : Nat → Prop} {w wo : World} {r : Nat} {ros : List Ob} (hr : RefInv G w r ros) (hGF : ∀ k, G k → k < w.heap.size ∧ ¬ F k) (hk : Keeps F w wo) : RefInv G wo r ros :=
  hr.keep (fun _ h => h) (fun k hk' => hk.block k (hGF k hk').1 (hGF k hk').2)

set_option maxRecDepth 100000 in
set_option maxHeartbeats 4000000 in
theorem grows_any (h : LawAt F w W s r ia ka pa ic kc pc ids known paths c5 c6 c7 c8 c9 c10 c11) (hr : RefInv G w r ros) (hGF : ∀ k, G k → k < w.heap.size ∧ ¬ F k) (hlk : known.length = ids.length) (hlp : paths.length = ids.length) (hle : ids.length ≤ ros.length)
    (hAt : ∀ i (hi : i < ros.length), ∀ e ∈ ros[i].ents, 0 ≤ e.2.2 ∧ e.2.2 < (i : Int)) (hP : ∀ p ∈ paths, 0 ≤ p ∧ p ≤ 301) :
    Calls Tryz.prog 140 #[.pointer (some ⟨W, 0, none⟩)] w fun e w' => e = .returned (.tuple #[]) ∧ Growing F w w' W s r ids known ids.length (ros.length - ids.length) c5 c6 c7 c8 c9 c10 c11 := by
  have HR : Hid (RefInv G w r ros) := hr
  have HG : Hid (∀ k, G k → k < w.heap.size ∧ ¬ F k) := hGF
  have HA : Hid (∀ i (hi : i < ros.length), ∀ e ∈ ros[i].ents, 0 ≤ e.2.2 ∧ e.2.2 < (i : Int)) := hAt
  have HK : Hid (known.length = ids.length) := hlk
  have HS : Hid (Growing F w w W s r ids known ids.length 0 c5 c6 c7 c8 c9 c10 c11) := ⟨ia, ka, pa, ic, kc, pc, paths, by rw [List.replicate_zero, List.replicate_zero, List.append_nil, List.append_nil]; exact h.keep (fun k hk => Or.inl hk) (fun _ _ => rfl), by simpa using hlp, hP, ⟨rfl, rfl, rfl, Nat.le_refl _, fun _ _ _ => rfl⟩⟩
  have hm : ros.length ≤ 400 := by obtain ⟨_, _, h⟩ := hr; exact h.many
  clear h hr hGF hAt hP hlk hlp
  go_enter Tryz.func140, Tryz.ntmps140
  go_wp2
  go_loopw [] (fun wr => ∃ k : Nat, ids.length + k ≤ ros.length ∧ Hid (Growing F w wr W s r ids known ids.length k c5 c6 c7 c8 c9 c10 c11)) (fun wr => ros.length - lenAt W wr)
  case atStart => exact ⟨0, hle, HS.out⟩
  case round =>
    obtain ⟨k, hk, HGr⟩ := hrel
    obtain ⟨ia, ka, pa, ic, kc, pc, ps, hl, hpl, hpr, hkp⟩ := HGr.out
    have hil : (ids ++ List.replicate k (0 : Int)).length = ids.length + k := by simp
    have hkl : (known ++ List.replicate k false).length = ids.length + k := by simp [HK.out]
    have e1 := hl.c1
    have e2 := hl.c2
    have e4 := hl.c4
    rw [hil] at e2
    rw [hpl] at e4
    obtain ⟨ra, rcap, hra⟩ := ref_stays HR.out HG.out hkp
    have r0 := hra.c0
    obtain ⟨n, hn⟩ : ∃ n, n = ids.length + k := ⟨_, rfl⟩
    rw [← hn] at e2 e4 hk
    have HN : Hid (n = ids.length + k) := hn
    have HMs : Hid (lenAt W wr = n) := by unfold lenAt; rw [e2]; rfl
    by_cases hlt : n < ros.length
    · have hlt' : (n : Int) < (ros.length : Int) := by omega
      obtain ⟨g, rfl, hgl, _, _, cI, _⟩ := row_obs hra.row rfl hlt
      have hob := hra.obs ros[n] (List.getElem_mem hlt)
      have hat := HA.out n hlt
      obtain ⟨o, ho⟩ : ∃ o, o = ros[n] := ⟨_, rfl⟩
      rw [← ho] at hob hat cI
      obtain ⟨ok, od, oa, el, oc, es, oh⟩ := o
      have hrow : wr.ownsRow 0 159 3 (.slice oa el oc) el (flat es) := hob.row
      have cI' : wr.cell? ⟨g, n * 4 + 2, none⟩ = some (.slice oa el oc) := cI
      have hel : el ≤ 16 := hob.few
      have HE : Hid (es.length = el) := hob.len
      have HT : Hid (∀ e ∈ es, 0 ≤ e.2.2 ∧ e.2.2 < (n : Int)) := hat
      have HPs : Hid (ps.length = n) := by rw [hn]; exact hpl
      clear ho hob hat cI hn
      go_wp2
      go_quiet (fail)
      go_wp2
      go_quiet (fail)
      go_wp2
      rename World => wo
      go_loopw [3, 4] (fun v i wq => ∃ j : Nat, ∃ x : Int, j ≤ el ∧ i = .int .i64 j ∧ v = .int .i64 x ∧ 0 ≤ x ∧ x ≤ 302 * j ∧ (∃ q, wq = wo.drewN q)) (fun _ i _ => el - (intOf i).toNat)
      case atStart => exact ⟨0, 0, Nat.zero_le _, rfl, rfl, by omega, by omega, ⟨_, by rw [World.drewN_drewN]⟩⟩
      case round =>
        obtain ⟨j, x, hj, rfl, rfl, hx0, hx1, ⟨q, rfl⟩⟩ := hrel
        by_cases hjl : j < el
        · have hje : j < es.length := by rw [HE.out]; exact hjl
          obtain ⟨gi, ci, hvi⟩ := slice_of_owns hrow (by omega)
          obtain rfl := (Value.slice.inj hvi).1
          have hgil : gi < wo.heap.size := ownsRow_lt hrow rfl
          obtain ⟨_, _, a2⟩ := row_cells (off := 0) (owns_cells hrow) hje
          rw [Nat.zero_add] at a2
          obtain ⟨ha0, ha1⟩ := HT.out _ (List.getElem_mem hje)
          obtain ⟨jj, hjj⟩ : ∃ jj : Nat, es[j].2.2 = (jj : Int) := ⟨es[j].2.2.toNat, by omega⟩
          have hjn : jj < n := by omega
          have hjn' : (jj : Int) < (n : Int) := by omega
          rw [hjj] at a2
          have hjp : jj < ps.length := by rw [HPs.out]; exact hjn
          obtain ⟨gp, hpa, hgpl, cp, _⟩ := row_one hl.rowP (i := jj) (v := .int .i64 ps[jj]) (by simp [encI, List.getElem?_eq_getElem hjp])
          rw [hpa] at e4
          obtain ⟨hp0, hp1⟩ := hpr ps[jj] (List.getElem_mem hjp)
          clear hvi hpa hjj ha0 ha1
          go_wp2
          go_quiet (fail)
          go_wp2
          go_roundw
          case rel => exact ⟨j + 1, x + 1 + ps[jj], by omega, by go_num, rfl, by omega, by push_cast; omega, ⟨_, rfl⟩⟩
          case measure => simp [intOf]; omega
        · have RI : Hid (wo.ownsRow 0 58 1 (.slice ia n ic) n (encI (ids ++ List.replicate k 0))) := by have := hl.rowI; rw [hil, ← HN.out] at this; exact this
          have e3 := hl.c3
          rw [hkl, ← HN.out] at e3
          have fz := hl.fz
          obtain ⟨iI, hI, hI0, hI1, hI2⟩ := info_parts infoID
          obtain ⟨iB, hB, hB0, hB1, hB2⟩ := info_parts infoB
          obtain ⟨iP, hP, hP0, hP1, hP2⟩ := info_parts infoI
          have hWl : W < wo.heap.size := hl.lt
          by_cases hx3 : 300 < x
          · skip
            have hyr : (0 : Int) ≤ (301 : Int) ∧ (301 : Int) ≤ 301 := by omega
            go_wp2_with (at_builtin; refine wpList_append_at rfl (.tmp 60) (.tmp 61) 54 rfl 0 58 iI _ 1 8 Tryz.underlying54 hI hI0 hI1 hI2 rfl (by decide) (.slice ia n ic) n (encI (ids ++ List.replicate k 0)) rfl (RI.out.alloc _) ⟨wo.heap.size, 0, none⟩ 1 1 [.int .i64 0] rfl rfl (one_cell (wo.drewN q) _ _ _ rfl) one_int (by unfold maxLen; omega) (by omega) (Nat.zero_le _) ?_)
            intro v1 w1 ho1 hg1 hloc1
            obtain ⟨g1, cap1, rfl⟩ := slice_of_owns ho1 (by omega)
            have hW1 := grown_W hl.hW (kb_alloc wo q _) (by simp) hg1 (owns_ne_cells RI.out hl.hW (by decide))
            have P1 := push_after (i := 2) hl.hW RI.out (by decide) (kb_alloc wo q _) (by simp) ⟨rfl, rfl, rfl⟩ ho1 hg1 hloc1 (by omega)
            have L1 := hl.pushI (x := 0) (by rw [hil, ← HN.out]; exact P1)
            obtain ⟨f10, f11, f12, f13, f14, f1z⟩ := W_cells hW1
            rw [hkl, ← HN.out] at f13
            rw [hpl, ← HN.out] at f14
            rw [hil, ← HN.out] at f12
            have RK1 := L1.1.rowK
            rw [hkl, ← HN.out] at RK1
            have hs1 : wo.heap.size ≤ w1.heap.size := by have := L1.2.size; simpa using this
            have L1h : Hid _ := L1
            have HRK1 : Hid _ := RK1
            clear ho1 hg1 hloc1 P1 L1 RK1 hW1
            go_wp2_with (at_builtin; refine wpList_append_at rfl (.tmp 69) (.tmp 70) 95 rfl 0 4 iB _ 1 1 Tryz.underlying95 hB hB0 hB1 hB2 rfl (by decide) (.slice ka n kc) n (encB (known ++ List.replicate k false)) rfl (World.ownsRow.alloc HRK1.out _) ⟨w1.heap.size, 0, none⟩ 1 1 [.bool false] rfl rfl (one_cell _ _ _ _ (by simp)) one_bool (by unfold maxLen; omega) (by omega) (Nat.zero_le _) ?_)
            intro v2 w2 ho2 hg2 hloc2
            obtain ⟨g2, cap2, rfl⟩ := slice_of_owns ho2 (by omega)
            have hW2 := grown_W L1h.out.1.hW (kb_alloc0 _ _) (by simp) hg2 (owns_ne_cells HRK1.out L1h.out.1.hW (by decide))
            have P2 := push_after (i := 3) L1h.out.1.hW HRK1.out (by decide) (kb_alloc0 _ _) (by simp) ⟨rfl, rfl, rfl⟩ ho2 hg2 hloc2 (by simp)
            have L2 := L1h.out.1.pushK (x := false) (by rw [hkl, ← HN.out]; exact P2)
            obtain ⟨f20, f21, f22, f23, f24, f2z⟩ := W_cells hW2
            rw [hkl, ← HN.out] at f23
            rw [hpl, ← HN.out] at f24
            have RP2 := L2.1.rowP
            rw [hpl, ← HN.out] at RP2
            have L2h : Hid _ := L2
            have HRP2 : Hid _ := RP2
            clear ho2 hg2 hloc2 P2 L2 RP2 hW2 f10 f11 f12 f13 f14 f1z
            go_wp2_with (at_builtin; refine wpList_append_at rfl (.tmp 78) (.tmp 80) 96 rfl 0 3 iP _ 1 8 Tryz.underlying96 hP hP0 hP1 hP2 rfl (by decide) (.slice pa n pc) n (encI ps) rfl (World.ownsRow.alloc HRP2.out _) ⟨w2.heap.size, 0, none⟩ 1 1 [.int .i64 (301)] rfl rfl (one_cell _ _ _ _ (by simp)) one_int (by unfold maxLen; omega) (by omega) (Nat.zero_le _) ?_)
            intro v3 w3 ho3 hg3 hloc3
            obtain ⟨g3, cap3, rfl⟩ := slice_of_owns ho3 (by omega)
            have hW3 := grown_W L2h.out.1.hW (kb_alloc0 _ _) (by simp) hg3 (owns_ne_cells HRP2.out L2h.out.1.hW (by decide))
            have P3 := push_after (i := 4) L2h.out.1.hW HRP2.out (by decide) (kb_alloc0 _ _) (by simp) ⟨rfl, rfl, rfl⟩ ho3 hg3 hloc3 (by simp)
            have L3 := L2h.out.1.pushP (x := 301) (by rw [hpl, ← HN.out]; exact P3)
            obtain ⟨f30, f31, f32, f33, f34, f3z⟩ := W_cells hW3
            rw [hpl, ← HN.out] at f34
            have L3h : Hid _ := L3
            clear ho3 hg3 hloc3 P3 L3 hW3 f20 f21 f22 f23 f24 f2z
            go_wp2
            have HF : Growing F w (w3.setCell ⟨W, 4, none⟩ (.slice (some ⟨g3, 0, none⟩) (n + 1) cap3)) W s r ids known ids.length (k + 1) c5 c6 c7 c8 c9 c10 c11 := Growing.three hkp L1h.out L2h.out L3h.out hpl hpr hyr
            go_roundw
            case rel => exact ⟨k + 1, by have := HN.out; omega, HF⟩
            case measure =>
              have e := HF.lenAt
              rw [e, HMs.out]
              have := HN.out
              omega
          · skip
            have hyr : (0 : Int) ≤ (x : Int) ∧ (x : Int) ≤ 301 := by omega
            go_wp2_with (at_builtin; refine wpList_append_at rfl (.tmp 60) (.tmp 61) 54 rfl 0 58 iI _ 1 8 Tryz.underlying54 hI hI0 hI1 hI2 rfl (by decide) (.slice ia n ic) n (encI (ids ++ List.replicate k 0)) rfl (RI.out.alloc _) ⟨wo.heap.size, 0, none⟩ 1 1 [.int .i64 0] rfl rfl (one_cell (wo.drewN q) _ _ _ rfl) one_int (by unfold maxLen; omega) (by omega) (Nat.zero_le _) ?_)
            intro v1 w1 ho1 hg1 hloc1
            obtain ⟨g1, cap1, rfl⟩ := slice_of_owns ho1 (by omega)
            have hW1 := grown_W hl.hW (kb_alloc wo q _) (by simp) hg1 (owns_ne_cells RI.out hl.hW (by decide))
            have P1 := push_after (i := 2) hl.hW RI.out (by decide) (kb_alloc wo q _) (by simp) ⟨rfl, rfl, rfl⟩ ho1 hg1 hloc1 (by omega)
            have L1 := hl.pushI (x := 0) (by rw [hil, ← HN.out]; exact P1)
            obtain ⟨f10, f11, f12, f13, f14, f1z⟩ := W_cells hW1
            rw [hkl, ← HN.out] at f13
            rw [hpl, ← HN.out] at f14
            rw [hil, ← HN.out] at f12
            have RK1 := L1.1.rowK
            rw [hkl, ← HN.out] at RK1
            have hs1 : wo.heap.size ≤ w1.heap.size := by have := L1.2.size; simpa using this
            have L1h : Hid _ := L1
            have HRK1 : Hid _ := RK1
            clear ho1 hg1 hloc1 P1 L1 RK1 hW1
            go_wp2_with (at_builtin; refine wpList_append_at rfl (.tmp 69) (.tmp 70) 95 rfl 0 4 iB _ 1 1 Tryz.underlying95 hB hB0 hB1 hB2 rfl (by decide) (.slice ka n kc) n (encB (known ++ List.replicate k false)) rfl (World.ownsRow.alloc HRK1.out _) ⟨w1.heap.size, 0, none⟩ 1 1 [.bool false] rfl rfl (one_cell _ _ _ _ (by simp)) one_bool (by unfold maxLen; omega) (by omega) (Nat.zero_le _) ?_)
            intro v2 w2 ho2 hg2 hloc2
            obtain ⟨g2, cap2, rfl⟩ := slice_of_owns ho2 (by omega)
            have hW2 := grown_W L1h.out.1.hW (kb_alloc0 _ _) (by simp) hg2 (owns_ne_cells HRK1.out L1h.out.1.hW (by decide))
            have P2 := push_after (i := 3) L1h.out.1.hW HRK1.out (by decide) (kb_alloc0 _ _) (by simp) ⟨rfl, rfl, rfl⟩ ho2 hg2 hloc2 (by simp)
            have L2 := L1h.out.1.pushK (x := false) (by rw [hkl, ← HN.out]; exact P2)
            obtain ⟨f20, f21, f22, f23, f24, f2z⟩ := W_cells hW2
            rw [hkl, ← HN.out] at f23
            rw [hpl, ← HN.out] at f24
            have RP2 := L2.1.rowP
            rw [hpl, ← HN.out] at RP2
            have L2h : Hid _ := L2
            have HRP2 : Hid _ := RP2
            clear ho2 hg2 hloc2 P2 L2 RP2 hW2 f10 f11 f12 f13 f14 f1z
            go_wp2_with (at_builtin; refine wpList_append_at rfl (.tmp 78) (.tmp 80) 96 rfl 0 3 iP _ 1 8 Tryz.underlying96 hP hP0 hP1 hP2 rfl (by decide) (.slice pa n pc) n (encI ps) rfl (World.ownsRow.alloc HRP2.out _) ⟨w2.heap.size, 0, none⟩ 1 1 [.int .i64 (x)] rfl rfl (one_cell _ _ _ _ (by simp)) one_int (by unfold maxLen; omega) (by omega) (Nat.zero_le _) ?_)
            intro v3 w3 ho3 hg3 hloc3
            obtain ⟨g3, cap3, rfl⟩ := slice_of_owns ho3 (by omega)
            have hW3 := grown_W L2h.out.1.hW (kb_alloc0 _ _) (by simp) hg3 (owns_ne_cells HRP2.out L2h.out.1.hW (by decide))
            have P3 := push_after (i := 4) L2h.out.1.hW HRP2.out (by decide) (kb_alloc0 _ _) (by simp) ⟨rfl, rfl, rfl⟩ ho3 hg3 hloc3 (by simp)
            have L3 := L2h.out.1.pushP (x := x) (by rw [hpl, ← HN.out]; exact P3)
            obtain ⟨f30, f31, f32, f33, f34, f3z⟩ := W_cells hW3
            rw [hpl, ← HN.out] at f34
            have L3h : Hid _ := L3
            clear ho3 hg3 hloc3 P3 L3 hW3 f20 f21 f22 f23 f24 f2z
            go_wp2
            have HF : Growing F w (w3.setCell ⟨W, 4, none⟩ (.slice (some ⟨g3, 0, none⟩) (n + 1) cap3)) W s r ids known ids.length (k + 1) c5 c6 c7 c8 c9 c10 c11 := Growing.three hkp L1h.out L2h.out L3h.out hpl hpr hyr
            go_roundw
            case rel => exact ⟨k + 1, by have := HN.out; omega, HF⟩
            case measure =>
              have e := HF.lenAt
              rw [e, HMs.out]
              have := HN.out
              omega
    · have HD : Hid (k = ros.length - ids.length) := by have := HN.out; show _ = _; omega
      have hnn : ¬ (n : Int) < (ros.length : Int) := by omega
      have hnd : decide ((n : Int) < (ros.length : Int)) = false := decide_eq_false hnn
      clear hn
      go_wp2
      go_quiet (fail)
      go_wp2
      go_end0
      refine ⟨rfl, ?_⟩
      rw [← HD.out]
      exact Growing.drewN HGr.out nq
end
end Go.Proofs.YtogeefmegegnnaaGreat
