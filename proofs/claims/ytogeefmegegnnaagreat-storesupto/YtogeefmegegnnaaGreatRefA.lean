/-
  What is proved here: the document's own answer: Less is the order of names, Named tells the names.
-/
import Derived.Test.YtogeefmegegnnaaGreatPlain
import Derived.Test.YtogeefmegegnnaaGreatName
import Derived.Deep.QuietTactic
import Derived.BigQuiet
namespace Go.Proofs.YtogeefmegegnnaaGreat
open Go.RowKit Go.Sort Go.Shelf
set_option linter.unusedVariables false

def lessB (a b : ByteArray) : Bool := decide (Lib.compareBytes a.data.toList b.data.toList < 0)

theorem cmp_drop : ∀ (k : Nat) (a b : List UInt8), k ≤ a.length → k ≤ b.length → a.take k = b.take k → Lib.compareBytes a b = Lib.compareBytes (a.drop k) (b.drop k)
  | 0, _, _, _, _, _ => rfl
  | k + 1, [], _, h, _, _ => by simp at h
  | k + 1, _ :: _, [], _, h, _ => by simp at h
  | k + 1, x :: r, y :: s, h1, h2, h => by
    simp only [List.take_succ_cons, List.cons.injEq] at h
    obtain ⟨rfl, h⟩ := h
    simp only [Lib.compareBytes, u8_irrefl, if_false, List.drop_succ_cons]
    exact cmp_drop k r s (by simpa using h1) (by simpa using h2) h

theorem cmp_at {a b : List UInt8} {k : Nat} (h1 : k < a.length) (h2 : k < b.length) (h : a.take k = b.take k) (hne : a[k] ≠ b[k]) : decide (Lib.compareBytes a b < 0) = decide (a[k] < b[k]) := by
  rw [cmp_drop k a b (by omega) (by omega) h, List.drop_eq_getElem_cons h1, List.drop_eq_getElem_cons h2]
  rcases u8_tri a[k] b[k] with c | c | c
  · simp [Lib.compareBytes, c]
  · exact absurd c hne
  · simp [Lib.compareBytes, c, u8_asymm c]

theorem cmp_end {a b : List UInt8} {k : Nat} (h1 : k ≤ a.length) (h2 : k ≤ b.length) (h : a.take k = b.take k) (he : k = a.length ∨ k = b.length) : decide (Lib.compareBytes a b < 0) = decide (a.length < b.length) := by
  rw [cmp_drop k a b h1 h2 h]
  rcases he with he | he
  · subst he
    rw [List.drop_length]
    cases hb : b.drop a.length with
    | nil => have := congrArg List.length hb; simp at this; simp [Lib.compareBytes]; omega
    | cons x r => have := congrArg List.length hb; simp at this; simp [Lib.compareBytes]; omega
  · subst he
    rw [List.drop_length]
    cases ha : a.drop b.length with
    | nil => have := congrArg List.length ha; simp at this; simp [Lib.compareBytes]; omega
    | cons x r => have := congrArg List.length ha; simp at this; simp [Lib.compareBytes]; omega

set_option maxRecDepth 100000 in
set_option maxHeartbeats 800000 in
theorem less_any (a b : ByteArray) (w : World) (ha : a.size ≤ maxLen) (hb : b.size ≤ maxLen) :
    Calls Tryz.prog 216 #[.string a, .string b] w fun e w' => e = .returned (.bool (lessB a b)) ∧ ∃ q, w' = w.drewN q := by
  unfold maxLen at ha hb
  have la : a.data.toList.length = a.size := Array.length_toList
  have lb : b.data.toList.length = b.size := Array.length_toList
  have HLA : Hid (a.data.toList.length = a.size) := la
  have HLB : Hid (b.data.toList.length = b.size) := lb
  clear la lb
  go_enter Tryz.func216, Tryz.ntmps216
  go_wp2
  go_loopw [5] (fun i wr => ∃ k : Nat, k ≤ a.size ∧ k ≤ b.size ∧ i = .int .i64 k ∧ Hid (∃ q, wr = w.drewN q) ∧ Hid (a.data.toList.take k = b.data.toList.take k)) (fun i _ => a.size - (intOf i).toNat)
  case atStart => exact ⟨0, Nat.zero_le _, Nat.zero_le _, rfl, ⟨0, rfl⟩, rfl⟩
  case round =>
    obtain ⟨k, hk1, hk2, rfl, HW, HT⟩ := hrel
    by_cases h1 : k < a.size
    · by_cases h2 : k < b.size
      · by_cases hne : ((a[k].toNat : Int) == (b[k].toNat : Int)) = true
        · have HE : Hid (a[k] = b[k]) := UInt8.toNat_inj.1 (by have := eq_of_beq hne; omega)
          go_wp2
          go_quiet (fail)
          go_wp2
          go_roundw
          case rel =>
            refine ⟨k + 1, by omega, by omega, by go_num, ?_, ?_⟩
            · obtain ⟨q, hq⟩ := HW.out; exact ⟨q + nq, by rw [hq, World.drewN_drewN]⟩
            · show _ = _
              rw [List.take_succ_eq_append_getElem (by rw [HLA.out]; exact h1), List.take_succ_eq_append_getElem (by rw [HLB.out]; exact h2), HT.out]
              exact congrArg _ (congrArg (· :: []) HE.out)
          case measure => simp [intOf]; omega
        · have hne' : ((a[k].toNat : Int) == (b[k].toNat : Int)) = false := by simpa using hne
          have HE : Hid (a[k] ≠ b[k]) := fun h => hne (by rw [h]; exact beq_self_eq_true _)
          go_wp2
          go_quiet (fail)
          go_wp2
          go_quiet (fail)
          go_wp2
          go_ret
          obtain ⟨q, hq⟩ := HW.out
          refine ⟨?_, by subst hq; exact ⟨_, by rw [World.drewN_drewN, World.drewN_drewN]⟩⟩
          have := cmp_at (a := a.data.toList) (b := b.data.toList) (k := k) (by rw [HLA.out]; exact h1) (by rw [HLB.out]; exact h2) HT.out HE.out
          unfold lessB
          rw [this]
          congr 2
      · go_wp2
        go_ret
        obtain ⟨q, hq⟩ := HW.out
        refine ⟨?_, q, hq⟩
        have := cmp_end (k := k) (by rw [HLA.out]; exact hk1) (by rw [HLB.out]; exact hk2) HT.out (.inr (by rw [HLB.out]; omega))
        unfold lessB
        rw [this, HLA.out, HLB.out]
        congr 2
    · go_wp2
      go_ret
      obtain ⟨q, hq⟩ := HW.out
      refine ⟨?_, q, hq⟩
      have := cmp_end (k := k) (by rw [HLA.out]; exact hk1) (by rw [HLB.out]; exact hk2) HT.out (.inl (by rw [HLA.out]; omega))
      unfold lessB
      rw [this, HLA.out, HLB.out]
      congr 2

/-! ### Named -/
theorem idx_neg {l : List UInt8} {c : UInt8} (h : ∀ j (hj : j < l.length), l[j] ≠ c) : Lib.indexByte l c < 0 := by
  have hg := Lib.indexByte_ge l c
  by_cases hn : Lib.indexByte l c < 0
  · exact hn
  · obtain ⟨o, ho⟩ : ∃ o : Nat, Lib.indexByte l c = o := ⟨(Lib.indexByte l c).toNat, by omega⟩
    have := (Lib.indexByte_some ho).1
    obtain ⟨hlt, he⟩ := List.getElem?_eq_some_iff.1 this
    exact absurd he (h o hlt)

theorem idx_pos {l : List UInt8} {c : UInt8} {j : Nat} (hj : j < l.length) (h : l[j] = c) : ¬ Lib.indexByte l c < 0 := by
  intro hn
  have hg := Lib.indexByte_ge l c
  have : Lib.indexByte l c = -1 := by omega
  exact Lib.indexByte_none this j (by rw [List.getElem?_eq_getElem hj, h])

set_option maxRecDepth 100000 in
set_option maxHeartbeats 800000 in
theorem named_early (s : ByteArray) (w : World) (hm : s.size ≤ maxLen) (h : (s.toList == []) = true ∨ ((s.toList == []) = false ∧ (12 < s.size ∨ ¬ 12 < s.size ∧ ((s.toList == [46]) = true ∨ (s.toList == [46]) = false ∧ (s.toList == [46, 46]) = true)))) :
    Calls Tryz.prog 202 #[.string s] w fun e w' => e = .returned (.bool false) ∧ ∃ q, w' = w.drewN q := by
  unfold maxLen at hm
  rcases h with h | ⟨h0, h | ⟨h1, h | ⟨h2, h3⟩⟩⟩
  all_goals
    go_enter Tryz.func202, Tryz.ntmps202
    go_wp2
    go_ret
    exact ⟨rfl, 0, rfl⟩

set_option maxRecDepth 100000 in
set_option maxHeartbeats 800000 in
theorem named_late (s : ByteArray) (w : World) (h0 : (s.toList == []) = false) (h1 : ¬ 12 < s.size) (h2 : (s.toList == [46]) = false) (h3 : (s.toList == [46, 46]) = false) (r : Bool)
    (hr : Hid ((decide (Lib.indexByte s.data.toList 0 < 0) && decide (Lib.indexByte s.data.toList 47 < 0)) = r)) :
    Calls Tryz.prog 202 #[.string s] w fun e w' => e = .returned (.bool r) ∧ ∃ q, w' = w.drewN q := by
  have HLA : Hid (s.data.toList.length = s.size) := Array.length_toList
  go_enter Tryz.func202, Tryz.ntmps202
  go_wp2
  go_loopw [3] (fun i wr => ∃ k : Nat, k ≤ s.size ∧ i = .int .i64 k ∧ Hid (∃ q, wr = w.drewN q) ∧ Hid (∀ j (hj : j < s.data.toList.length), j < k → s.data.toList[j] ≠ 0 ∧ s.data.toList[j] ≠ 47)) (fun i _ => s.size - (intOf i).toNat)
  case atStart => exact ⟨0, Nat.zero_le _, rfl, ⟨0, rfl⟩, fun j hj h => by omega⟩
  case round =>
    obtain ⟨k, hk, rfl, HW, HV⟩ := hrel
    by_cases hlt : k < s.size
    · have hlt' : k < s.data.toList.length := by rw [HLA.out]; exact hlt
      cases h4 : ((s[k].toNat : Int) == 0) with
      | true =>
        go_wp2
        go_ret
        obtain ⟨q, hq⟩ := HW.out
        refine ⟨?_, q, hq⟩
        have : s.data.toList[k] = 0 := UInt8.toNat_inj.1 (by have := eq_of_beq h4; show s[k].toNat = 0; omega)
        rw [← hr.out, decide_eq_false (idx_pos hlt' this)]; rfl
      | false =>
        cases h5 : ((s[k].toNat : Int) == 47) with
        | true =>
          go_wp2
          go_ret
          obtain ⟨q, hq⟩ := HW.out
          refine ⟨?_, q, hq⟩
          have : s.data.toList[k] = 47 := UInt8.toNat_inj.1 (by have := eq_of_beq h5; show s[k].toNat = 47; omega)
          rw [← hr.out, decide_eq_false (idx_pos hlt' this), Bool.and_false]; rfl
        | false =>
          have HE : Hid (s.data.toList[k] ≠ 0 ∧ s.data.toList[k] ≠ 47) := by
            refine ⟨fun h => ?_, fun h => ?_⟩
            · have : s[k] = 0 := h
              rw [this] at h4; simp at h4
            · have : s[k] = 47 := h
              rw [this] at h5; simp at h5
          go_wp2
          go_roundw
          case rel =>
            refine ⟨k + 1, by omega, by go_num, ?_, ?_⟩
            · obtain ⟨q, hq⟩ := HW.out; exact ⟨q, hq⟩
            · intro j hj hjk
              by_cases e : j = k
              · subst e; exact HE.out
              · exact HV.out j hj (by omega)
          case measure => simp [intOf]; omega
    · go_wp2
      go_ret
      refine ⟨?_, HW.out⟩
      have ha : ∀ j (hj : j < s.data.toList.length), s.data.toList[j] ≠ 0 ∧ s.data.toList[j] ≠ 47 := fun j hj => HV.out j hj (by rw [HLA.out] at hj; omega)
      rw [← hr.out, decide_eq_true (idx_neg fun j hj => (ha j hj).1), decide_eq_true (idx_neg fun j hj => (ha j hj).2)]; rfl

theorem named_any (s : ByteArray) (w : World) (hm : s.size ≤ maxLen) : Calls Tryz.prog 202 #[.string s] w fun e w' => e = .returned (.bool (validB s)) ∧ ∃ q, w' = w.drewN q := by
  have hz : (s.toList == []) = decide (s.size < 1) := by
    rw [ByteArray.toList_eq]
    by_cases h : s.size < 1
    · have : s.data.toList = [] := List.eq_nil_of_length_eq_zero (by rw [Array.length_toList]; exact (show s.size = 0 by omega))
      simp [this, h]
    · rw [decide_eq_false h]
      cases hl : s.data.toList with
      | nil => exact absurd (by have := congrArg List.length hl; rw [Array.length_toList] at this; exact (show s.size < 1 by have h2 : s.size = 0 := this; omega)) h
      | cons x r => rfl
  unfold validB
  cases h0 : (s.toList == []) with
  | true =>
    have : ¬ 1 ≤ s.size := by have h := hz.symm.trans h0; have := of_decide_eq_true h; omega
    rw [decide_eq_false this]
    exact named_early s w hm (.inl h0)
  | false =>
    have : 1 ≤ s.size := by have h := hz.symm.trans h0; have := of_decide_eq_false h; omega
    rw [decide_eq_true this]
    by_cases h1 : 12 < s.size
    · rw [decide_eq_false (show ¬ s.size ≤ 12 by omega)]
      exact named_early s w hm (.inr ⟨h0, .inl h1⟩)
    · rw [decide_eq_true (show s.size ≤ 12 by omega)]
      cases h2 : (s.toList == [46]) with
      | true => exact named_early s w hm (.inr ⟨h0, .inr ⟨h1, .inl h2⟩⟩)
      | false =>
        cases h3 : (s.toList == [46, 46]) with
        | true => exact named_early s w hm (.inr ⟨h0, .inr ⟨h1, .inr ⟨h2, h3⟩⟩⟩)
        | false => exact named_late s w h0 h1 h2 h3 _ (show _ = _ by simp)
end Go.Proofs.YtogeefmegegnnaaGreat
