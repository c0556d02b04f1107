/-
  What is proved here: 'arrange' over every list of entries that lies in memory: its first error, or a new list by rising names.
-/
import Derived.Test.YtogeefmegegnnaaGreatArr
namespace Go.Proofs.YtogeefmegegnnaaGreat
open Go.RowKit Go.Sort Go.Shelf
set_option linter.unusedVariables false

theorem bytes_eq {a b : ByteArray} (h : a.toList = b.toList) : a = b := by
  rw [ByteArray.toList_eq, ByteArray.toList_eq] at h
  cases a; cases b
  congr 1
  exact Array.toList_inj.1 h

theorem owns_cells {w : World} {base : Nat} {e : TypeId} {g n cap : Nat} {es : List Ent} (h : w.ownsRow base e 3 (.slice (some ⟨g, 0, none⟩) n cap) n (flat es)) : ∀ j u, (flat es)[j]? = some u → w.cell? ⟨g, 0 + j, none⟩ = some u := by
  intro j u hu
  rcases h.2 with ⟨h0, _⟩ | ⟨g', cap', cur, hv, _, hg, _, _, _, ht⟩
  · cases h0
  · cases hv
    rw [← ht] at hu
    have hj : j < n * 3 := by
      have := (List.getElem?_eq_some_iff.1 hu).1
      simp at this; omega
    rw [List.getElem?_take_of_lt hj, Array.getElem?_toList] at hu
    simp [World.cell?, hg, hu]

theorem owns_frozen {w : World} {base : Nat} {e : TypeId} {g n cap size : Nat} {xs : List Value} (h : w.ownsRow base e size (.slice (some ⟨g, 0, none⟩) n cap) n xs) (j : Nat) : w.frozen? ⟨g, j, none⟩ = false := by
  rcases h.2 with ⟨h0, _⟩ | ⟨g', cap', cur, hv, _, hg, _⟩
  · cases h0
  · cases hv
    simp [World.frozen?, hg]

set_option maxRecDepth 100000 in
set_option maxHeartbeats 2000000 in
theorem arrange_some (b off n cap : Nat) (es : List Ent) (w : World) (hl : es.length = n) (hbl : b < w.heap.size) (hbig : n * 32 ≤ 140737488355328) (hc : ∀ j u, (flat es)[j]? = some u → w.cell? ⟨b, off + j, none⟩ = some u)
    (hsz : ∀ e ∈ es, e.1.size ≤ maxLen) :
    Calls Tryz.prog 131 #[.slice (some ⟨b, off, none⟩) n cap] w fun e w' => Arranged w w' es n e := by
  have HC : Hid (∀ j u, (flat es)[j]? = some u → w.cell? ⟨b, off + j, none⟩ = some u) := hc
  have HS : Hid (∀ e ∈ es, e.1.size ≤ maxLen) := hsz
  have HL : Hid (es.length = n) := hl
  clear hc hsz hl
  go_enter Tryz.func131, Tryz.ntmps131
  go_wp2
  go_loopw [11] (fun i wr => ∃ k : Nat, k ≤ n ∧ i = .int .i64 k ∧ Below w.heap.size w wr ∧ Hid (∀ j (hj : j < es.length), j < k → validB es[j].1 = true)) (fun i _ => n - (intOf i).toNat)
  case atStart => exact ⟨0, Nat.zero_le _, rfl, Below.refl _ _, fun j hj h => by omega⟩
  case round =>
    obtain ⟨k, hk, rfl, hb, HV⟩ := hrel
    by_cases hlt : k < n
    · have hk' : k < es.length := by rw [HL.out]; exact hlt
      obtain ⟨c0, c1, c2⟩ := row_cells HC.out hk'
      have d0 := (hb.cell (p := ⟨b, off + k * 3, none⟩) hbl).trans c0
      have d1 := (hb.cell (p := ⟨b, off + k * 3 + 1, none⟩) hbl).trans c1
      have d2 := (hb.cell (p := ⟨b, off + k * 3 + 2, none⟩) hbl).trans c2
      have hv := fun W => valid_any es[k].1 W (HS.out es[k] (List.getElem_mem hk'))
      cases hvb : validB es[k].1 with
      | false =>
        have HVB : Hid (validB es[k].1 = false) := hvb
        rw [hvb] at hv
        clear hvb
        go_wp2_with (go_at_call 100; refine (hv _).mono ?_; rintro e w' ⟨rfl, rfl⟩)
        go_ret2
        exact ⟨hb.alloc hb.size _, .inl ⟨⟨es[k], List.getElem_mem hk', HVB.out⟩, rfl⟩⟩
      | true =>
        have HVB : Hid (validB es[k].1 = true) := hvb
        rw [hvb] at hv
        clear hvb
        go_wp2_with (go_at_call 100; refine (hv _).mono ?_; rintro e w' ⟨rfl, rfl⟩)
        go_roundw
        case rel =>
          refine ⟨k + 1, by omega, by go_num, hb.alloc hb.size _, ?_⟩
          intro j hj hjk
          by_cases e : j = k
          · subst e; exact HVB.out
          · exact HV.out j hj (by omega)
        case measure => simp [intOf]; omega
    · have hkn : k = n := by omega
      have HVA : Hid (∀ x ∈ es, validB x.1 = true) := by
        intro x hx
        obtain ⟨j, hj, rfl⟩ := List.getElem_of_mem hx
        exact HV.out j hj (by rw [hkn, ← HL.out]; exact hj)
      have hcl := cloneE_any b off n cap es wr HL.out hbig (fun j u h => (hb.cell (p := ⟨b, off + j, none⟩) hbl).trans (HC.out j u h))
      go_wp2_with fail
      refine hcl.mono ?_
      rintro e w1 ⟨v1, rfl, hown1, hnn, hb1⟩
      have hex : ∃ g cap' cur, v1 = .slice (some ⟨g, 0, none⟩) n cap' ∧ wr.heap.size ≤ g ∧ w1.heap[g]? = some (.cells cur 112 (0, 0)) ∧ n ≤ cap' ∧ cap' ≤ maxLen ∧ cur.size = cap' * 3 ∧ cur.toList.take (n * 3) = flat es := by
        rcases hown1.2 with ⟨h, _⟩ | ⟨g, cap', cur, h, h2, h3, h4, h5, h6, h7⟩
        · exact absurd h hnn
        · exact ⟨g, cap', cur, h, h2, h3, h4, h5, h6, h7⟩
      obtain ⟨g, cap', cur, hv1, hg1, hg2, hg3, hg4, hg5, hg6⟩ := hex
      rw [hv1]
      clear hcl hown1 hnn hv1
      have hH := holdsK_of_row (es := es) hg2 (by rw [HL.out]; exact hg6)
      have hso := sort_any g cap' es.toArray w1 hH (Array.getElem?_eq_some_iff.1 hg2).1 (by simp only [List.size_toArray]; rw [HL.out]; omega)
      rw [show es.toArray.size = n by simp only [List.size_toArray]; exact HL.out] at hso
      go_wp2_with fail
      refine hso.mono ?_
      rintro e w2 ⟨rfl, d', nn, os, hperm, hsort, hw2⟩
      have hds : d'.size = n := by have := hperm.1; simp only [List.size_toArray] at this; rw [this]; exact HL.out
      have hown2 : w2.ownsRow w.heap.size 112 3 (.slice (some ⟨g, 0, none⟩) n cap') n (flat d'.toList) := by
        rw [hw2]; exact ownsRow_sortedK hds (Nat.le_trans hb.size hg1) hg2 hg3 hg4 hg5
      have hb2 : Below w.heap.size w w2 := by
        rw [hw2]; exact ((hb.trans (hb1.mono hb.size)).grown (grownBy_sortedK d') (Nat.le_trans hb.size hb1.size) (fun k h => by cases h; exact Nat.le_trans hb.size hg1))
      obtain ⟨es', hes'⟩ : ∃ es', es' = d'.toList := ⟨_, rfl⟩
      have HP : Hid (es'.Perm es) := by
        rw [hes']; exact perm_of es d' (by simpa only [List.size_toArray, HL.out] using hperm)
      have HL' : Hid (es'.length = n) := by rw [hes', Array.length_toList]; exact hds
      have HR : Hid ((∀ j (hj : j < es'.length), 1 ≤ j → es'[j].1 ≠ (es'[j - 1]'(by omega)).1) → Rising es') := by
        subst hes'; exact rising_of d' (by rw [hds]; exact hsort)
      rw [← hes'] at hown2
      clear hso hperm hsort hw2 hH hg2 hg6 hb1 hg1 hg3 hg4 hg5 hds hes' hkn HV HC
      go_wp2
      go_loopw [7] (fun i wq => ∃ m : Nat, i = .int .i64 ((m : Int) + 1) ∧ m ≤ n ∧ Below w.heap.size w wq ∧ wq.ownsRow w.heap.size 112 3 (.slice (some ⟨g, 0, none⟩) n cap') n (flat es') ∧ Hid (∀ j (hj : j < es'.length), 1 ≤ j → j < m + 1 → es'[j].1 ≠ (es'[j - 1]'(by omega)).1)) (fun i _ => n - (intOf i).toNat)
      case atStart => exact ⟨0, by go_num, Nat.zero_le _, hb2, hown2, fun j hj h1 h2 => by omega⟩
      case round =>
        obtain ⟨m, rfl, hmn, hbq, hownq, HD⟩ := hrel
        by_cases hlt2 : m + 1 < n
        · have hm1 : m + 1 < es'.length := by rw [HL'.out]; exact hlt2
          have hm0 : m < es'.length := by omega
          obtain ⟨c0, _, _⟩ := row_cells (off := 0) (owns_cells hownq) hm1
          obtain ⟨e0, _, _⟩ := row_cells (off := 0) (owns_cells hownq) hm0
          rw [Nat.zero_add] at c0 e0
          have a1 : ((m : Int) + 1 - 1) = m := by omega
          have a2 : ((m : Int) + 1) < n := by omega
          cases hnm : es'[m + 1].1.toList == es'[m].1.toList with
          | true =>
            have HN : Hid ((es'[m + 1].1.toList == es'[m].1.toList) = true) := hnm
            go_wp2
            go_quiet (fail)
            go_wp2
            go_ret2
            refine ⟨below_drewN hbq _, .inr (.inl ⟨HVA.out, ?_, rfl⟩)⟩
            intro hnd
            have hnd' := (HP.out.map (·.1)).nodup_iff.2 hnd
            have hne := List.pairwise_iff_getElem.1 hnd' m (m + 1) (by simpa using hm0) (by simpa using hm1) (by omega)
            simp only [List.getElem_map] at hne
            exact hne (bytes_eq (by simpa using HN.out)).symm
          | false =>
            have HN : Hid ((es'[m + 1].1.toList == es'[m].1.toList) = false) := hnm
            go_wp2
            go_quiet (fail)
            go_wp2
            go_roundw
            case rel =>
              refine ⟨m + 1, by go_num, by omega, below_drewN hbq _, hownq, ?_⟩
              intro j hj h1 h2
              by_cases e : j = m + 1
              · subst e
                intro h
                have hn := HN.out
                rw [h] at hn
                simp at hn
              · exact HD.out j hj h1 (by omega)
            case measure => simp [intOf]; omega
        · have HRis : Hid (Rising es') := HR.out (fun j hj h1 => HD.out j hj h1 (by rw [HL'.out] at hj; omega))
          have HND : Hid ((es.map (·.1)).Nodup) := (List.Perm.nodup_iff (HP.out.map (fun x : Ent => x.1))).1 (nodup_of_rising HRis.out)
          clear HD HR
          by_cases h16 : 16 < n
          · have h16' : (16 : Int) < n := by omega
            go_wp2
            go_ret2
            exact ⟨hbq, .inr (.inr (.inl ⟨HVA.out, HND.out, by rw [HL.out]; exact h16, rfl⟩))⟩
          · have h16' : ¬ ((16 : Int) < n) := by omega
            go_wp2
            go_loopw [47] (fun i wq => ∃ m : Nat, i = .int .i64 (m : Int) ∧ m ≤ n ∧ Below w.heap.size w wq ∧ wq.ownsRow w.heap.size 112 3 (.slice (some ⟨g, 0, none⟩) n cap') n (flat es')) (fun i _ => n - (intOf i).toNat)
            case atStart => exact ⟨0, rfl, Nat.zero_le _, hbq, hownq⟩
            case round =>
              obtain ⟨q, rfl, hqn, hbz, hownz⟩ := hrel
              by_cases hlt3 : q < n
              · have hq0 : q < es'.length := by rw [HL'.out]; exact hlt3
                obtain ⟨c0, _, _⟩ := row_cells (off := 0) (owns_cells hownz) hq0
                rw [Nat.zero_add] at c0
                have hsq := (valid_size (HVA.out _ (HP.out.mem_iff.1 (List.getElem_mem hq0)))).2
                have hcq := clone_any es'[q].1 wr (by omega)
                have hgl : g < wr.heap.size := ownsRow_lt hownz rfl
                have hfz := owns_frozen hownz (q * 3)
                go_wp2_with (go_at_call 101; refine hcq.mono ?_; rintro e w3 ⟨rfl, hb3⟩; have c1 := (hb3.cell (p := ⟨g, q * 3, none⟩) hgl).trans c0; have f1 := (hb3.frozen (p := ⟨g, q * 3, none⟩) hgl).trans hfz)
                go_roundw
                case rel =>
                  refine ⟨q + 1, by go_num, by omega, ?_, ?_⟩
                  · rw [setCell_self c1]; exact hbz.trans (hb3.mono hbz.size)
                  · rw [setCell_self c1]; exact ownsRow_keep hownz (fun g' hg' => hb3.block g' (ownsRow_lt hownz hg'))
                case measure => simp [intOf]; omega
              · go_wp2
                go_ret2
                exact ⟨hbz, .inr (.inr (.inr ⟨HVA.out, HND.out, by rw [HL.out]; omega, es', _, cap', rfl, HP.out, HRis.out, hownz⟩))⟩
end Go.Proofs.YtogeefmegegnnaaGreat
