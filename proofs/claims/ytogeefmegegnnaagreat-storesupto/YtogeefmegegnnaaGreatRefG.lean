/-
  What is proved here: the document's own store: 'PutDir'.
-/
import Derived.Test.YtogeefmegegnnaaGreatRefF
namespace Go.Proofs.YtogeefmegegnnaaGreat
open Go.RowKit Go.Sort Go.Shelf
set_option linter.unusedVariables false

set_option maxRecDepth 100000 in
set_option maxHeartbeats 2000000 in
theorem sorted_zero (a : Option Addr) (c0 : Nat) (w : World) : Calls Tryz.prog 163 #[.slice a 0 c0] w fun e w' => e = .returned (.slice none 0 0) ∧ w' = w := by
  go_enter Tryz.func163, Tryz.ntmps163
  go_wp2
  go_loopw [3, 4] (fun v i wo => v = .slice none 0 0 ∧ i = .int .i64 0 ∧ wo = w) (fun _ _ _ => 0)
  case atStart => exact ⟨rfl, rfl, rfl⟩
  case round =>
    obtain ⟨rfl, rfl, rfl⟩ := hrel
    go_wp2
    go_ret
    exact ⟨rfl, rfl⟩

/-- A list that comes in: its cells, if it has some. -/
def Listed (w : World) (a : Option Addr) (m : Nat) (ls : List Ent) : Prop := ls.length = m ∧ (0 < m → ∃ b off, a = some ⟨b, off, none⟩ ∧ b < w.heap.size ∧ ∀ j u, (flat ls)[j]? = some u → w.cell? ⟨b, off + j, none⟩ = some u)

theorem sorted_gen (a : Option Addr) (m c0 : Nat) (ls : List Ent) (w : World) (hl : Listed w a m ls) (hm : m ≤ 16) (hsz : ∀ e ∈ ls, e.1.size ≤ maxLen) :
    Calls Tryz.prog 163 #[.slice a m c0] w fun e w' => ∃ v, e = .returned v ∧ w'.ownsRow w.heap.size 159 3 v m (flat (insAll ls)) ∧ Below w.heap.size w w' := by
  rcases Nat.eq_zero_or_pos m with rfl | hp
  · have : ls = [] := List.eq_nil_of_length_eq_zero hl.1
    subst this
    exact (sorted_zero a c0 w).mono fun e w' ⟨he, hw⟩ => ⟨_, he, by subst hw; exact World.ownsRow_nil _ _ _ _, by subst hw; exact Below.refl _ _⟩
  · obtain ⟨b, off, rfl, hbl, hc⟩ := hl.2 hp
    exact sorted_any b off m c0 ls w hl.1 hm hbl hc hsz

def rgood (ros : List Ob) (e : Ent) : Bool := decide (0 ≤ e.2.2) && decide (((ros[e.2.2.toNat]?).map (·.kind)).getD 0 = e.2.1)

def dirR (v : Option Addr × Nat) (m : Nat) (es : List Ent) : Ob := { kind := 2, data := ByteArray.empty, ea := v.1, el := m, ec := v.2, ents := es, high := 0 }

/-- What the document's PutDir answers. -/
def RDirPut (ros ros' : List Ob) (ls : List Ent) (x y : Int) : Prop :=
  ((∃ e ∈ ls, validB e.1 = false) ∧ ros' = ros ∧ x = -1 ∧ y = 1) ∨
  ((∀ e ∈ ls, validB e.1 = true) ∧
    ((¬ (ls.map (·.1)).Nodup ∧ ros' = ros ∧ x = -1 ∧ y = 6) ∨
     ((ls.map (·.1)).Nodup ∧ 16 < ls.length ∧ ros' = ros ∧ x = -1 ∧ y = 11) ∨
     ((ls.map (·.1)).Nodup ∧ ls.length ≤ 16 ∧ (∃ e ∈ ls, rgood ros e = false) ∧ ros' = ros ∧ x = -1 ∧ y = 13) ∨
     ((ls.map (·.1)).Nodup ∧ ls.length ≤ 16 ∧ (∀ e ∈ ls, rgood ros e = true) ∧ 5 < rhighs ros ls ∧ ros' = ros ∧ x = -1 ∧ y = 11) ∨
     ((ls.map (·.1)).Nodup ∧ ls.length ≤ 16 ∧ (∀ e ∈ ls, rgood ros e = true) ∧ rhighs ros ls ≤ 5 ∧ ∃ v z, RPutG ros ros' (dirR v ls.length (insAll ls)) z ∧ ((z < 0 ∧ x = -1 ∧ y = 11) ∨ (0 ≤ z ∧ x = z ∧ y = 0)))))

theorem owns_form {w : World} {base : Nat} {e : TypeId} {size n : Nat} {v : Value} {xs : List Value} (h : w.ownsRow base e size v n xs) : ∃ a c, v = .slice a n c := by
  rcases h.2 with ⟨rfl, rfl⟩ | ⟨g, cap, _, hv, _⟩
  · exact ⟨none, 0, rfl⟩
  · exact ⟨_, _, hv⟩
theorem Keeps.after {F : Nat → Prop} {w w1 w2 : World} (h : Keeps F w1 w2) (hb : Below w.heap.size w w1) : Keeps F w w2 :=
  ⟨h.os.trans hb.os, h.tape.trans hb.tape, h.output.trans hb.output, Nat.le_trans hb.size h.size, fun k hk hn => (h.block k (Nat.lt_of_lt_of_le hk hb.size) hn).trans (hb.block k hk)⟩

theorem rhighs_perm (ros : List Ob) {es fs : List Ent} (h : es.Perm fs) : rhighs ros es = rhighs ros fs := by
  unfold rhighs
  refine List.Perm.foldl_eq' h (fun x _ y _ z => ?_) 0
  omega

set_option maxRecDepth 100000 in
set_option maxHeartbeats 4000000 in
theorem rputDir_any {F : Nat → Prop} {w : World} {r : Nat} {ros : List Ob} (h : RefInv F w r ros) (a : Option Addr) (m c0 : Nat) (ls : List Ent) (hl : Listed w a m ls) (hbig : m * 32 ≤ 140737488355328) (hsz : ∀ e ∈ ls, e.1.size ≤ maxLen)
    (hat : ∀ e ∈ ls, -1 ≤ e.2.2 ∧ e.2.2 < (ros.length : Int)) :
    Calls Tryz.prog 143 #[.pointer (some ⟨r, 0, none⟩), .slice a m c0] w fun e w' => ∃ x y ros', e = .returned (.tuple #[.int .i64 x, .int .i64 y]) ∧ RDirPut ros ros' ls x y ∧ RefInv (NewF F w w') w' r ros' ∧ Keeps F w w' := by
  have HR : Hid (RefInv F w r ros) := h
  have HS : Hid (∀ e ∈ ls, e.1.size ≤ maxLen) := hsz
  have HA : Hid (∀ e ∈ ls, -1 ≤ e.2.2 ∧ e.2.2 < (ros.length : Int)) := hat
  have HL : Hid (ls.length = m) := hl.1
  have HC : Hid (Listed w a m ls) := hl
  have HK : ∀ q, Hid (RefInv (NewF F w (w.drewN q)) (w.drewN q) r ros ∧ Keeps F w (w.drewN q)) := fun q => ⟨HR.out.below (below_drewN (Below.refl _ _) q) (fun k hk => .inl hk), Keeps.of_below (below_drewN (Below.refl _ _) q)⟩
  clear h hsz hat hl
  go_enter Tryz.func143, Tryz.ntmps143
  go_wp2
  go_loopw [6] (fun i wr => ∃ k : Nat, k ≤ m ∧ i = .int .i64 k ∧ (∃ q, wr = w.drewN q) ∧ Hid (∀ j (hj : j < ls.length), j < k → validB ls[j].1 = true)) (fun i _ => m - (intOf i).toNat)
  case atStart => exact ⟨0, Nat.zero_le _, rfl, ⟨0, rfl⟩, fun j hj h => by omega⟩
  case round =>
    obtain ⟨k, hk, rfl, ⟨q, rfl⟩, HV⟩ := hrel
    by_cases hlt : k < m
    · have hk' : k < ls.length := by rw [HL.out]; exact hlt
      obtain ⟨b, off, rfl, hbl, hc⟩ := HC.out.2 (by omega)
      obtain ⟨d0, _, _⟩ := row_cells hc hk'
      have HCC : Hid (∀ j u, (flat ls)[j]? = some u → w.cell? ⟨b, off + j, none⟩ = some u) := hc
      clear hc
      have d0' : (w.drewN q).cell? ⟨b, off + k * 3, none⟩ = some (.string ls[k].1) := d0
      have hv := fun W => named_any ls[k].1 W (HS.out ls[k] (List.getElem_mem hk'))
      cases hvb : validB ls[k].1 with
      | false =>
        have HVB : Hid (validB ls[k].1 = false) := hvb
        rw [hvb] at hv
        clear hvb
        go_wp2_with (go_at_call 202; refine (hv _).mono ?_; rintro e w' ⟨rfl, q2, rfl⟩)
        go_ret2
        exact ⟨_, _, ros, rfl, .inl ⟨⟨ls[k], List.getElem_mem hk', HVB.out⟩, rfl, rfl, rfl⟩, (HK (q + q2)).out⟩
      | true =>
        have HVB : Hid (validB ls[k].1 = true) := hvb
        rw [hvb] at hv
        clear hvb
        go_wp2_with (go_at_call 202; refine (hv _).mono ?_; rintro e w' ⟨rfl, q2, rfl⟩)
        go_roundw
        case rel =>
          refine ⟨k + 1, by omega, by go_num, ⟨q + q2, rfl⟩, ?_⟩
          intro j hj hjk
          by_cases e : j = k
          · subst e; exact HVB.out
          · exact HV.out j hj (by omega)
        case measure => simp [intOf]; omega
    · have HVA : Hid (∀ x ∈ ls, validB x.1 = true) := by
        intro x hx
        obtain ⟨j, hj, rfl⟩ := List.getElem_of_mem hx
        exact HV.out j hj (by rw [HL.out] at hj; omega)
      clear HV
      go_wp2
      go_loopw [8] (fun i wr => ∃ k : Nat, k ≤ m ∧ i = .int .i64 k ∧ (∃ q, wr = w.drewN q) ∧ Hid (∀ i j (hi : i < ls.length) (hj : j < ls.length), i < k → j < i → ls[i].1 ≠ ls[j].1)) (fun i _ => m - (intOf i).toNat)
      case atStart => exact ⟨0, Nat.zero_le _, rfl, ⟨q, rfl⟩, fun i j hi hj h1 h2 => by omega⟩
      case round =>
        obtain ⟨k2, hk2, rfl, ⟨q3, rfl⟩, HD⟩ := hrel
        by_cases hlt2 : k2 < m
        · have hk2' : k2 < ls.length := by rw [HL.out]; exact hlt2
          obtain ⟨b, off, rfl, hbl, hc⟩ := HC.out.2 (by omega)
          obtain ⟨d0, _, _⟩ := row_cells hc hk2'
          have HCC : Hid (∀ j u, (flat ls)[j]? = some u → w.cell? ⟨b, off + j, none⟩ = some u) := hc
          clear hc
          have hkm2 : (k2 : Int) < (m : Int) := by omega
          go_wp2
          go_loopw [9] (fun i wr => ∃ k3 : Nat, k3 ≤ k2 ∧ i = .int .i64 k3 ∧ (∃ q, wr = w.drewN q) ∧ Hid (∀ j (hj : j < ls.length), j < k3 → ls[k2].1 ≠ ls[j].1)) (fun i _ => k2 - (intOf i).toNat)
          case atStart => exact ⟨0, Nat.zero_le _, rfl, ⟨q3, rfl⟩, fun j hj h => by omega⟩
          case round =>
            obtain ⟨k3, hk3, rfl, ⟨q4, rfl⟩, HE⟩ := hrel
            by_cases hlt3 : k3 < k2
            · have hk3' : k3 < ls.length := by omega
              obtain ⟨e0, _, _⟩ := row_cells HCC.out hk3'
              have d0' : (w.drewN q4).cell? ⟨b, off + k2 * 3, none⟩ = some (.string ls[k2].1) := d0
              have e0' : (w.drewN q4).cell? ⟨b, off + k3 * 3, none⟩ = some (.string ls[k3].1) := e0
              have hkm3 : (k3 : Int) < (m : Int) := by omega
              cases hnm : ls[k2].1.toList == ls[k3].1.toList with
              | true =>
                have HN : Hid ((ls[k2].1.toList == ls[k3].1.toList) = true) := hnm
                go_wp2
                go_quiet (fail)
                go_wp2
                go_ret2
                refine ⟨_, _, ros, rfl, .inr ⟨HVA.out, .inl ⟨?_, rfl, rfl, rfl⟩⟩, by rw [World.drewN_drewN]; exact (HK _).out⟩
                intro hnd
                have hne := List.pairwise_iff_getElem.1 hnd k3 k2 (by simpa using hk3') (by simpa using hk2') hlt3
                simp only [List.getElem_map] at hne
                exact hne (bytes_eq (by simpa using HN.out)).symm
              | false =>
                have HN : Hid ((ls[k2].1.toList == ls[k3].1.toList) = false) := hnm
                go_wp2
                go_quiet (fail)
                go_wp2
                go_roundw
                case rel =>
                  refine ⟨k3 + 1, by omega, by go_num, ⟨q4 + nq, rfl⟩, ?_⟩
                  intro j hj hjk
                  by_cases e : j = k3
                  · subst e; intro h; have := HN.out; rw [h] at this; simp at this
                  · exact HE.out j hj (by omega)
                case measure => simp [intOf]; omega
            · go_wp2
              go_roundw
              case rel =>
                refine ⟨k2 + 1, by omega, by go_num, ⟨q4, rfl⟩, ?_⟩
                intro i j hi hj h1 h2
                by_cases e : i = k2
                · subst e; exact HE.out j hj (by omega)
                · exact HD.out i j hi hj (by omega) h2
              case measure => simp [intOf]; omega
        · have HND : Hid ((ls.map (·.1)).Nodup) := by
            refine List.pairwise_iff_getElem.2 fun i j hi hj hij => ?_
            simp only [List.getElem_map]
            simp only [List.length_map] at hi hj
            exact (HD.out j i hj hi (by rw [HL.out] at hj; omega) hij).symm
          clear HD
          by_cases h16 : 16 < m
          · go_wp2
            go_ret2
            exact ⟨_, _, ros, rfl, .inr ⟨HVA.out, .inr (.inl ⟨HND.out, by rw [HL.out]; exact h16, rfl, rfl, rfl⟩)⟩, (HK q3).out⟩
          · have hm16 : m ≤ 16 := by omega
            go_wp2
            go_loopw [10, 11] (fun t i wr => ∃ k : Nat, ∃ dp : Bool, k ≤ m ∧ i = .int .i64 k ∧ t = .bool dp ∧ (∃ q, wr = w.drewN q) ∧ Hid (dp = decide (5 < rhighs ros (ls.take k))) ∧ Hid (∀ j (hj : j < ls.length), j < k → rgood ros ls[j] = true)) (fun _ i _ => m - (intOf i).toNat)
            case atStart => exact ⟨0, false, Nat.zero_le _, rfl, rfl, ⟨q3, rfl⟩, rfl, fun j hj h => by omega⟩
            case round =>
              obtain ⟨k4, dp, hk4, rfl, rfl, ⟨q5, rfl⟩, HDP, HG⟩ := hrel
              by_cases hlt4 : k4 < m
              · have hk4' : k4 < ls.length := by rw [HL.out]; exact hlt4
                obtain ⟨b, off, rfl, hbl, hc⟩ := HC.out.2 (by omega)
                obtain ⟨_, d1, d2⟩ := row_cells hc hk4'
                have d1' : (w.drewN q5).cell? ⟨b, off + k4 * 3 + 1, none⟩ = some (.int .i64 ls[k4].2.1) := d1
                have hkm4 : (k4 : Int) < (m : Int) := by omega
                clear hc
                obtain ⟨ha0, ha1⟩ := HA.out _ (List.getElem_mem hk4')
                by_cases hneg : ls[k4].2.2 < 0
                · have hm1 : ls[k4].2.2 = -1 := by omega
                  rw [hm1] at d2
                  have d2' : (w.drewN q5).cell? ⟨b, off + k4 * 3 + 2, none⟩ = some (.int .i64 (-1)) := d2
                  have HB : Hid (rgood ros ls[k4] = false) := by
                    show rgood ros ls[k4] = false
                    unfold rgood
                    rw [decide_eq_false (by omega)]; rfl
                  clear hm1 hneg ha0 ha1
                  go_wp2
                  go_quiet (fail)
                  go_wp2
                  go_ret2
                  exact ⟨_, _, ros, rfl, .inr ⟨HVA.out, .inr (.inr (.inl ⟨HND.out, by rw [HL.out]; exact hm16, ⟨ls[k4], List.getElem_mem hk4', HB.out⟩, rfl, rfl, rfl⟩))⟩, by rw [World.drewN_drewN]; exact (HK _).out⟩
                · obtain ⟨j, hj⟩ : ∃ j : Nat, ls[k4].2.2 = (j : Int) := ⟨ls[k4].2.2.toNat, by omega⟩
                  have hjl : j < ros.length := by omega
                  have hjl' : (j : Int) < (ros.length : Int) := by omega
                  rw [hj] at d2
                  have d2' : (w.drewN q5).cell? ⟨b, off + k4 * 3 + 2, none⟩ = some (.int .i64 (j : Int)) := d2
                  have hj0 : decide ((j : Int) < 0) = false := by simp
                  obtain ⟨aa, cap, hra⟩ := HR.out
                  obtain ⟨g, rfl, hgl, c0, _, _, c3⟩ := row_obs hra.row rfl hjl
                  have c0' := fun q => (show (w.drewN q).cell? ⟨g, j * 4, none⟩ = some (.int .i64 ros[j].kind) from c0)
                  have c3' := fun q => (show (w.drewN q).cell? ⟨g, j * 4 + 3, none⟩ = some (.int .i64 ros[j].high) from c3)
                  have r0' := fun q => (show (w.drewN q).cell? ⟨r, 0, none⟩ = some (.slice (some ⟨g, 0, none⟩) ros.length cap) from hra.c0)
                  have d2'' := fun q => (show (w.drewN q).cell? ⟨b, off + k4 * 3 + 2, none⟩ = some (.int .i64 (j : Int)) from d2)
                  obtain ⟨hh0, hh5⟩ : 0 ≤ ros[j].high ∧ ros[j].high ≤ 5 := ⟨(hra.obs _ (List.getElem_mem hjl)).high0, (hra.obs _ (List.getElem_mem hjl)).high5⟩
                  have d1'' := fun q => (show (w.drewN q).cell? ⟨b, off + k4 * 3 + 1, none⟩ = some (.int .i64 ls[k4].2.1) from d1)
                  have HJ : Hid (ls[k4].2.2 = (j : Int)) := hj
                  clear hj hneg ha0 ha1 hra d1' d2'
                  cases hkk : (ros[j].kind != ls[k4].2.1) with
                  | true =>
                    have HB : Hid (rgood ros ls[k4] = false) := by
                      show rgood ros ls[k4] = false
                      unfold rgood
                      rw [HJ.out, Int.toNat_natCast, List.getElem?_eq_getElem hjl]
                      have : ¬ ros[j].kind = ls[k4].2.1 := by simpa using hkk
                      simp [this]
                    go_wp2
                    go_quiet (fail)
                    go_wp2
                    go_ret2
                    exact ⟨_, _, ros, rfl, .inr ⟨HVA.out, .inr (.inr (.inl ⟨HND.out, by rw [HL.out]; exact hm16, ⟨ls[k4], List.getElem_mem hk4', HB.out⟩, rfl, rfl, rfl⟩))⟩, by rw [World.drewN_drewN]; exact (HK _).out⟩
                  | false =>
                    have HB : Hid (rgood ros ls[k4] = true) := by
                      show rgood ros ls[k4] = true
                      unfold rgood
                      rw [HJ.out, Int.toNat_natCast, List.getElem?_eq_getElem hjl]
                      have : ros[j].kind = ls[k4].2.1 := by simpa using hkk
                      simp [this]
                    have HST : Hid (rhighs ros (ls.take (k4 + 1)) = max (rhighs ros (ls.take k4)) (1 + ros[j].high)) := by
                      show _ = _
                      rw [List.take_succ_eq_append_getElem hk4', rhighs_snoc]
                      unfold rhigh
                      rw [HJ.out, Int.toNat_natCast, List.getElem?_eq_getElem hjl]; rfl
                    cases dp with
                    | true =>
                      go_wp2
                      go_quiet (fail)
                      go_wp2
                      go_quiet (fail)
                      go_wp2
                      go_roundw
                      case rel =>
                        refine ⟨k4 + 1, true, by omega, by go_num, rfl, ⟨_, rfl⟩, ?_, ?_⟩
                        · have := of_decide_eq_true HDP.out.symm
                          show true = _
                          rw [HST.out, decide_eq_true (by omega)]
                        · intro i hi hik
                          by_cases e : i = k4
                          · subst e; exact HB.out
                          · exact HG.out i hi (by omega)
                      case measure => simp [intOf]; omega
                    | false =>
                      by_cases h6 : 5 < 1 + ros[j].high
                      · go_wp2
                        go_quiet (fail)
                        go_wp2
                        go_quiet (fail)
                        go_wp2
                        go_roundw
                        case rel =>
                          refine ⟨k4 + 1, true, by omega, by go_num, by first | rfl | simp [h6], ⟨_, rfl⟩, ?_, ?_⟩
                          · show true = _
                            rw [HST.out, decide_eq_true (by omega)]
                          · intro i hi hik
                            by_cases e : i = k4
                            · subst e; exact HB.out
                            · exact HG.out i hi (by omega)
                        case measure => simp [intOf]; omega
                      · go_wp2
                        go_quiet (fail)
                        go_wp2
                        go_quiet (fail)
                        go_wp2
                        go_roundw
                        case rel =>
                          refine ⟨k4 + 1, false, by omega, by go_num, by first | rfl | simp [h6], ⟨_, rfl⟩, ?_, ?_⟩
                          · have := of_decide_eq_false HDP.out.symm
                            show false = _
                            rw [HST.out, decide_eq_false (by omega)]
                          · intro i hi hik
                            by_cases e : i = k4
                            · subst e; exact HB.out
                            · exact HG.out i hi (by omega)
                        case measure => simp [intOf]; omega
              · have HGA : Hid (∀ x ∈ ls, rgood ros x = true) := by
                  intro x hx
                  obtain ⟨j, hj, rfl⟩ := List.getElem_of_mem hx
                  exact HG.out j hj (by rw [HL.out] at hj; omega)
                have HT : Hid (ls.take k4 = ls) := List.take_of_length_le (by rw [HL.out]; omega)
                rw [HT.out] at HDP
                have hl16 : Hid (ls.length ≤ 16) := by rw [HL.out]; exact hm16
                clear HG
                cases dp with
                | true =>
                  go_wp2
                  go_ret2
                  exact ⟨_, _, ros, rfl, .inr ⟨HVA.out, .inr (.inr (.inr (.inl ⟨HND.out, hl16.out, HGA.out, of_decide_eq_true HDP.out.symm, rfl, rfl, rfl⟩)))⟩, (HK q5).out⟩
                | false =>
                  have H5 : Hid (rhighs ros ls ≤ 5) := by have := of_decide_eq_false HDP.out.symm; exact Int.not_lt.1 this
                  have hso := sorted_gen a m c0 ls (w.drewN q5) HC.out hm16 HS.out
                  go_wp2_with fail
                  refine hso.mono ?_
                  rintro e w1 ⟨v, rfl, hown1, hb1⟩
                  have hb1' : Below w.heap.size w w1 := (below_drewN (Below.refl _ _) q5).trans hb1
                  obtain ⟨va, vc, hv⟩ := owns_form hown1
                  subst hv
                  have ho : RObOk (fun k => w.heap.size ≤ k ∧ k < w1.heap.size) w1 (dirR (va, vc) m (insAll ls)) :=
                    ⟨.inr rfl, by show 0 ≤ 256; omega, by show (insAll ls).length = m; rw [(insAll_perm ls).length_eq, HL.out], hm16, Int.le_refl _, by show (0 : Int) ≤ 5; omega, owns_mono hown1 (Nat.zero_le _), fun g hg => hown1.lt g hg⟩
                  have hinv1 : RefInv F w1 r ros := HR.out.below hb1' (fun _ h => h)
                  have hput := rput_any hinv1 (dirR (va, vc) m (insAll ls)) ho rfl (by show rhighs ros (insAll ls) ≤ 5; rw [rhighs_perm ros (insAll_perm ls)]; exact H5.out) (fun e he => by
                    have he' : e ∈ ls := mem_insAll he
                    have h1 := HGA.out e he'
                    have h2 := HA.out e he'
                    unfold rgood at h1
                    simp only [Bool.and_eq_true, decide_eq_true_eq] at h1
                    exact ⟨h1.1, h2.2⟩)
                  have hput' : Calls Tryz.prog 139 #[.pointer (some ⟨r, 0, none⟩), .agg #[.int .i64 2, .string ByteArray.empty, .slice va m vc, .int .i64 0]] w1 fun e w' => ∃ x ros', e = .returned (.int .i64 x) ∧ RPutG ros ros' (dirR (va, vc) m (insAll ls)) x ∧ RefInv (Grow F (fun k => w.heap.size ≤ k ∧ k < w1.heap.size) w1 w') w' r ros' ∧ Keeps F w1 w' := hput
                  clear hso hput hown1 ho hinv1
                  go_wp2_with fail
                  refine hput'.mono ?_
                  rintro e w2 ⟨z, ros', rfl, hp, hi2, hk2⟩
                  have HI : Hid (RefInv (NewF F w w2) w2 r ros' ∧ Keeps F w w2) := ⟨hi2.keep (fun k hk => by
                    rcases hk with h | h | h
                    · exact .inl h
                    · exact .inr ⟨h.1, Nat.lt_of_lt_of_le h.2 hk2.size⟩
                    · exact .inr ⟨Nat.le_trans hb1'.size h.1, h.2⟩) (fun _ _ => rfl), hk2.after hb1'⟩
                  have HP : Hid (RPutG ros ros' (dirR (va, vc) ls.length (insAll ls)) z) := by rw [HL.out]; exact hp
                  clear hput' hi2 hk2 hp hb1
                  by_cases hz : z < 0
                  · go_wp2
                    go_ret2
                    exact ⟨_, _, ros', rfl, .inr ⟨HVA.out, .inr (.inr (.inr (.inr ⟨HND.out, hl16.out, HGA.out, H5.out, _, z, HP.out, .inl ⟨hz, rfl, rfl⟩⟩)))⟩, HI.out⟩
                  · go_wp2
                    go_ret2
                    exact ⟨_, _, ros', rfl, .inr ⟨HVA.out, .inr (.inr (.inr (.inr ⟨HND.out, hl16.out, HGA.out, H5.out, _, z, HP.out, .inr ⟨by omega, rfl, rfl⟩⟩)))⟩, HI.out⟩
end Go.Proofs.YtogeefmegegnnaaGreat
