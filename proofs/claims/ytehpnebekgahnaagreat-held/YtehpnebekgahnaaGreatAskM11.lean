/-
  What is proved here: the table of what is open: the least free number, what is open under a number, putting and taking away. strings.Cut at '/': the first name of a path's text, and the rest.
-/
import Derived.Test.YtehpnebekgahnaaGreatAskM10
import Derived.Test.YtehpnebekgahnaaGreatAskM08
namespace Go.Proofs.YtehpnebekgahnaaGreat
open Go.RowKit
set_option linter.unusedVariables false

/-- The eight places of a table. -/
def TabAt (w : World) (b : Nat) (vs : Nat → Option Nat) : Prop := b < w.heap.size ∧ (∀ k, k < 8 → w.cell? ⟨b, 1 + k, none⟩ = some (.pointer ((vs k).map fun x => ⟨x, 0, none⟩))) ∧ ∀ o, w.frozen? ⟨b, o, none⟩ = false

theorem eq_opened (x : Nat) (W : World) : (binOp .eql 72 (.pointer none) (.pointer (some ⟨x, 0, none⟩))).run Tryz.prog W = .ok (.bool false) W := by kernel_rfl
theorem eq_opened' (x : Nat) (W : World) : (binOp .eql 72 (.pointer (some ⟨x, 0, none⟩)) (.pointer none)).run Tryz.prog W = .ok (.bool false) W := by kernel_rfl

set_option maxRecDepth 100000 in
set_option maxHeartbeats 400000 in
theorem index_free (b k : Nat) (vs : Nat → Option Nat) (w : World) (h : TabAt w b vs) (hk : k < 8) (h0 : vs k = none) (h1 : ∀ j, j < k → vs j ≠ none) :
    Calls Tryz.prog 54 #[.slice (some ⟨b, 1, none⟩) 8 8, .pointer none] w fun e w' => e = .returned (.int .i64 (k : Int)) ∧ w' = w := by
  obtain ⟨hb, hc, _⟩ := h
  have HC : Hid _ := hc
  have H1 : Hid _ := h1
  have H0 : Hid _ := h0
  clear hc h1 h0
  go_enter Tryz.func54, Tryz.ntmps54
  go_wp2
  go_loopw [8] (fun i wr => ∃ j : Nat, j ≤ k ∧ i = .int .i64 (j : Int) ∧ wr = w) (fun i _ => k - (intOf i).toNat)
  case atStart => exact ⟨0, Nat.zero_le _, rfl, rfl⟩
  case round =>
    obtain ⟨j, hj, rfl, rfl⟩ := hrel
    have hj8 : j < 8 := by omega
    have hcj := HC.out j hj8
    have hj8' : (j : Int) < 8 := by omega
    by_cases he : j = k
    · subst he
      rw [H0.out, Option.map_none] at hcj
      go_wp2
      go_ret
      exact ⟨rfl, rfl⟩
    · cases hv : vs j with
      | none => exact absurd hv (H1.out j (by omega))
      | some x =>
        rw [hv, Option.map_some] at hcj
        have hq : ∀ W, (binOp .eql 72 (.pointer none) (.pointer (some ⟨x, 0, none⟩))).run Tryz.prog W = .ok (.bool false) W := eq_opened x
        go_wp2
        go_roundw
        case rel => exact ⟨j + 1, by omega, by go_num, trivial⟩
        case measure => simp [intOf]; omega

set_option maxRecDepth 100000 in
set_option maxHeartbeats 400000 in
theorem free_walk (b k : Nat) (vs : Nat → Option Nat) (w : World) (h : TabAt w b vs) (hk : k < 8) (h0 : vs k = none) (h1 : ∀ j, j < k → vs j ≠ none) :
    Calls Tryz.prog 28 #[.pointer (some ⟨b, 1, none⟩)] w fun e w' => e = .returned (.tuple #[.int .i64 (k : Int), .int .i64 0]) ∧ w' = w := by
  have hi := index_free b k vs w h hk h0 h1
  have hk0 : ¬ (k : Int) < 0 := by omega
  clear h h0 h1
  go_enter Tryz.func28, Tryz.ntmps28
  go_wp2_with (go_at_call 54; refine hi.mono ?_; rintro e w1 ⟨rfl, rfl⟩)
  go_ret2
  exact ⟨rfl, rfl⟩

set_option maxRecDepth 100000 in
set_option maxHeartbeats 400000 in
theorem tput_walk (b k f : Nat) (fg : Int) (x : Value) (w : World) (hb : b < w.heap.size) (hc : w.cell? ⟨b, 1 + k, none⟩ = some x) (hfz : w.frozen? ⟨b, 1 + k, none⟩ = false) (hk : k < 8) :
    Calls Tryz.prog 30 #[.pointer (some ⟨b, 1, none⟩), .int .i64 (k : Int), .pointer (some ⟨f, 0, none⟩), .int .i64 fg] w fun e w' => e = .returned (.tuple #[]) ∧ w' = (w.setCell ⟨b, 1 + k, none⟩ (.pointer (some ⟨w.heap.size, 0, none⟩))).alloc (.cells #[.pointer (some ⟨f, 0, none⟩), .int .i64 fg, .int .i64 0] 112) := by
  have hk8 : (k : Int) < 8 := by omega
  go_enter Tryz.func30, Tryz.ntmps30
  go_wp2
  go_end0
  exact ⟨rfl, rfl⟩

set_option maxRecDepth 100000 in
set_option maxHeartbeats 400000 in
theorem tat_some (b k x : Nat) (w : World) (hc : w.cell? ⟨b, 1 + k, none⟩ = some (.pointer (some ⟨x, 0, none⟩))) (hk : k < 8) :
    Calls Tryz.prog 35 #[.pointer (some ⟨b, 1, none⟩), .int .i64 (k : Int)] w fun e w' => e = .returned (.tuple #[.pointer (some ⟨x, 0, none⟩), .int .i64 0]) ∧ w' = w := by
  have hk8 : (k : Int) < 8 := by omega
  have hk0 : ¬ (k : Int) < 0 := by omega
  have hq := eq_opened' x
  go_enter Tryz.func35, Tryz.ntmps35
  go_wp2
  go_ret2
  exact ⟨rfl, rfl⟩

set_option maxRecDepth 100000 in
set_option maxHeartbeats 400000 in
theorem tclose_some (b k x : Nat) (w : World) (hb : b < w.heap.size) (hc : w.cell? ⟨b, 1 + k, none⟩ = some (.pointer (some ⟨x, 0, none⟩))) (hfz : w.frozen? ⟨b, 1 + k, none⟩ = false) (hk : k < 8) :
    Calls Tryz.prog 73 #[.pointer (some ⟨b, 1, none⟩), .int .i64 (k : Int)] w fun e w' => e = .returned (.int .i64 0) ∧ w' = w.setCell ⟨b, 1 + k, none⟩ (.pointer none) := by
  have hk8 : (k : Int) < 8 := by omega
  have hk0 : ¬ (k : Int) < 0 := by omega
  have hat := tat_some b k x w hc hk
  go_enter Tryz.func73, Tryz.ntmps73
  go_wp2_with (go_at_call 35; refine hat.mono ?_; rintro e w1 ⟨rfl, rfl⟩)
  go_ret
  exact ⟨rfl, rfl⟩

set_option maxRecDepth 100000 in
set_option maxHeartbeats 400000 in
theorem needed_1 (w : World) : Calls Tryz.prog 53 #[.int .i64 1] w fun e w' => e = .returned (.int .i64 0) ∧ w' = w := by
  go_enter Tryz.func53, Tryz.ntmps53
  go_wp2
  go_ret
  exact ⟨rfl, rfl⟩
set_option maxRecDepth 100000 in
set_option maxHeartbeats 400000 in
theorem valid_1 (w : World) : Calls Tryz.prog 27 #[.int .i64 1] w fun e w' => e = .returned (.bool true) ∧ w' = w := by
  have hn := needed_1 w
  go_enter Tryz.func27, Tryz.ntmps27
  go_wp2_with (go_at_call 53; refine hn.mono ?_; rintro e w1 ⟨rfl, rfl⟩)
  go_ret
  exact ⟨rfl, rfl⟩

set_option maxRecDepth 100000 in
set_option maxHeartbeats 400000 in
theorem needed_22 (w : World) : Calls Tryz.prog 53 #[.int .i64 22] w fun e w' => e = .returned (.int .i64 2) ∧ w' = w := by
  go_enter Tryz.func53, Tryz.ntmps53
  go_wp2
  go_ret
  exact ⟨rfl, rfl⟩
set_option maxRecDepth 100000 in
set_option maxHeartbeats 400000 in
theorem valid_22 (w : World) : Calls Tryz.prog 27 #[.int .i64 22] w fun e w' => e = .returned (.bool true) ∧ w' = w := by
  have hn := needed_22 w
  go_enter Tryz.func27, Tryz.ntmps27
  go_wp2_with (go_at_call 53; refine hn.mono ?_; rintro e w1 ⟨rfl, rfl⟩)
  go_ret
  exact ⟨rfl, rfl⟩

set_option maxRecDepth 100000 in
set_option maxHeartbeats 400000 in
theorem needed_35 (w : World) : Calls Tryz.prog 53 #[.int .i64 35] w fun e w' => e = .returned (.int .i64 2) ∧ w' = w := by
  go_enter Tryz.func53, Tryz.ntmps53
  go_wp2
  go_ret
  exact ⟨rfl, rfl⟩
set_option maxRecDepth 100000 in
set_option maxHeartbeats 400000 in
theorem valid_35 (w : World) : Calls Tryz.prog 27 #[.int .i64 35] w fun e w' => e = .returned (.bool true) ∧ w' = w := by
  have hn := needed_35 w
  go_enter Tryz.func27, Tryz.ntmps27
  go_wp2_with (go_at_call 53; refine hn.mono ?_; rintro e w1 ⟨rfl, rfl⟩)
  go_ret
  exact ⟨rfl, rfl⟩

end Go.Proofs.YtehpnebekgahnaaGreat

namespace Go.Proofs.YtehpnebekgahnaaGreat
open Go.RowKit Go.Sort Go.Shelf
set_option linter.unusedVariables false

def joinB (l : List ByteArray) : ByteArray := ⟨(joinL (l.map toL)).toArray⟩

set_option maxRecDepth 100000 in
set_option maxHeartbeats 400000 in
theorem index_slash (s : ByteArray) (w : World) : Calls Tryz.prog 114 #[.string s, .string ⟨#[47]⟩] w fun e w' => e = .returned (.int .i64 (Lib.indexByte s.data.toList 47)) ∧ w' = w := by
  by_cases hs : s = ⟨#[47]⟩
  · subst hs
    go_enter Tryz.func114, Tryz.ntmps114
    go_wp2
    go_ret
    exact ⟨rfl, rfl⟩
  · have hq : ([47] == s.toList) = false := by
      cases h : ([47] == s.toList) with
      | false => rfl
      | true =>
        have h2 : [47] = s.toList := by simpa using h
        rw [ByteArray.toList_eq] at h2
        exact absurd (bytes_inj (a := ⟨#[47]⟩) h2).symm hs
    have hi := Tryz.stringslite_IndexByte s 47 w
    rw [show ((47 : Int).toNat.toUInt8) = 47 from rfl] at hi
    generalize Lib.indexByte s.data.toList 47 = k at hi ⊢
    go_enter Tryz.func114, Tryz.ntmps114
    go_wp2_with (go_at_call 115; refine hi.mono ?_; rintro e w1 ⟨rfl, rfl⟩)
    go_ret
    exact ⟨rfl, rfl⟩

set_option maxRecDepth 100000 in
set_option maxHeartbeats 400000 in
theorem lcut_none (s : ByteArray) (w : World) (h : Lib.indexByte s.data.toList 47 = -1) : Calls Tryz.prog 88 #[.string s, .string ⟨#[47]⟩] w fun e w' => e = .returned (.tuple #[.string s, .string ⟨#[]⟩, .bool false]) ∧ w' = w := by
  have hi := index_slash s w
  rw [h] at hi
  go_enter Tryz.func88, Tryz.ntmps88
  go_wp2_with (go_at_call 114; refine hi.mono ?_; rintro e w1 ⟨rfl, rfl⟩)
  exact bodyPost_ret (v := .tuple #[.string s, .string ⟨#[]⟩, .bool false]) (by simp [results, Tryz.results88, go_sem]) rfl ⟨rfl, rfl⟩

set_option maxRecDepth 100000 in
set_option maxHeartbeats 400000 in
theorem lcut_some (s : ByteArray) (k : Nat) (w : World) (h : Lib.indexByte s.data.toList 47 = (k : Int)) (hk : k < s.size) (hm : s.size ≤ 1000) : Calls Tryz.prog 88 #[.string s, .string ⟨#[47]⟩] w fun e w' => e = .returned (.tuple #[.string (s.extract 0 k), .string (s.extract (k + 1) s.size), .bool true]) ∧ Below w.heap.size w w' := by
  have hi := index_slash s w
  rw [h] at hi
  have hw : IntKind.i64.wrap ((k : Int) + 1) = (k : Int) + 1 := by rw [IntKind.wrap_i64] <;> omega
  have hk0 : (0 : Int) ≤ k := by omega
  go_enter Tryz.func88, Tryz.ntmps88
  go_wp2_with (go_at_call 114; refine hi.mono ?_; rintro e w1 ⟨rfl, rfl⟩)
  go_region
  all_goals
    go_wp2
    exact bodyPost_ret (v := .tuple #[.string (s.extract 0 k), .string (s.extract (k + 1) s.size), .bool true]) (by simp [results, Tryz.results88, go_sem]) rfl ⟨rfl, below_drew (Below.refl _ _)⟩

set_option maxRecDepth 100000 in
set_option maxHeartbeats 400000 in
theorem cut_walk (s a b : ByteArray) (c : Bool) (w : World) (h : Calls Tryz.prog 88 #[.string s, .string ⟨#[47]⟩] w fun e w' => e = .returned (.tuple #[.string a, .string b, .bool c]) ∧ Below w.heap.size w w') :
    Calls Tryz.prog 50 #[.string s, .string ⟨#[47]⟩] w fun e w' => e = .returned (.tuple #[.string a, .string b, .bool c]) ∧ Below w.heap.size w w' := by
  go_enter Tryz.func50, Tryz.ntmps50
  go_wp2_with (go_at_call 88; refine h.mono ?_; rintro e w1 ⟨rfl, hb⟩)
  exact bodyPost_ret (v := .tuple #[.string a, .string b, .bool c]) (by simp [results, Tryz.results50, go_sem]) rfl ⟨rfl, hb⟩

theorem index_first : ∀ (a b : List UInt8), (∀ c ∈ a, c ≠ 47) → Lib.indexByte (a ++ 47 :: b) 47 = (a.length : Int)
  | [], b, _ => by simp [Lib.indexByte]
  | c :: r, b, h => by
    have ih := index_first r b (fun d hd => h d (List.mem_cons_of_mem _ hd))
    have hc : c ≠ 47 := h c (List.mem_cons_self ..)
    rw [List.cons_append, Lib.indexByte, ih, if_neg (by simpa using hc), if_neg (by simp)]
    simp
theorem index_absent : ∀ (a : List UInt8), (∀ c ∈ a, c ≠ 47) → Lib.indexByte a 47 = -1
  | [], _ => rfl
  | c :: r, h => by
    have ih := index_absent r (fun d hd => h d (List.mem_cons_of_mem _ hd))
    have hc : c ≠ 47 := h c (List.mem_cons_self ..)
    rw [Lib.indexByte, ih, if_neg (by simpa using hc)]
    rfl
theorem name_no47 {x : ByteArray} (h : validB x = true) : ∀ c ∈ toL x, c ≠ 47 := by
  have h2 : Lib.indexByte (toL x) 47 < 0 := by
    unfold validB at h
    simp only [Bool.and_eq_true, decide_eq_true_eq] at h
    exact h.2
  have h3 := Lib.indexByte_ge (toL x) 47
  intro c hc e
  obtain ⟨k, hk, hke⟩ := List.getElem_of_mem hc
  exact Lib.indexByte_none (l := toL x) (c := 47) (by omega) k (by rw [List.getElem?_eq_getElem hk, hke, e])

theorem joinB_cons (x : ByteArray) {r : List ByteArray} (h : r ≠ []) : toL (joinB (x :: r)) = toL x ++ 47 :: toL (joinB r) := by
  show (joinL ((x :: r).map toL)).toArray.toList = _
  rw [List.map_cons, joinL_cons _ (by simpa using h)]
  rfl
theorem joinB_one (x : ByteArray) : joinB [x] = x := toL_inj rfl
theorem joinB_nil : joinB [] = ⟨#[]⟩ := rfl
theorem extract_toL (s : ByteArray) (a b : Nat) : toL (s.extract a b) = ((toL s).take b).drop a := by
  unfold toL
  simp [ByteArray.data_extract, List.drop_take]

/-- The first name of a path's text, the rest, and whether there is one. -/
theorem cut_any (x : ByteArray) (r : List ByteArray) (hx : validB x = true) (hm : (joinB (x :: r)).size ≤ 1000) (w : World) :
    Calls Tryz.prog 50 #[.string (joinB (x :: r)), .string ⟨#[47]⟩] w fun e w' => e = .returned (.tuple #[.string x, .string (joinB r), .bool (!r.isEmpty)]) ∧ Below w.heap.size w w' := by
  cases r with
  | nil =>
    rw [joinB_one, joinB_nil]
    exact cut_walk _ _ _ _ w ((lcut_none x w (index_absent _ (name_no47 hx))).mono fun e w' ⟨h1, h2⟩ => ⟨h1, by rw [h2]; exact Below.refl _ _⟩)
  | cons y t =>
    have h1 := joinB_cons x (r := y :: t) (by simp)
    have h2 : Lib.indexByte (toL (joinB (x :: y :: t))) 47 = ((toL x).length : Int) := by rw [h1]; exact index_first _ _ (name_no47 hx)
    have h3 : (joinB (x :: y :: t)).size = (toL x).length + 1 + (toL (joinB (y :: t))).length := by rw [← toL_len, h1, List.length_append, List.length_cons]; omega
    have h4 := lcut_some (joinB (x :: y :: t)) (toL x).length w h2 (by omega) hm
    have e1 : (joinB (x :: y :: t)).extract 0 (toL x).length = x := toL_inj (by rw [extract_toL, h1, List.take_left, List.drop_zero])
    have e2 : (joinB (x :: y :: t)).extract ((toL x).length + 1) (joinB (x :: y :: t)).size = joinB (y :: t) := toL_inj (by
      rw [extract_toL, List.take_of_length_le (by rw [toL_len]; exact Nat.le_refl _), h1, show toL x ++ 47 :: toL (joinB (y :: t)) = (toL x ++ [47]) ++ toL (joinB (y :: t)) by simp]
      exact List.drop_left' (by simp))
    rw [e1, e2] at h4
    exact cut_walk _ _ _ _ w h4
theorem join_size : ∀ {l : List ByteArray}, Valids l → (joinB l).size ≤ 13 * l.length
  | [], _ => by simp [joinB_nil, ByteArray.size]
  | [x], h => by
    rw [joinB_one]
    have := (valid_size (h x (by simp))).2
    simp; omega
  | x :: y :: t, h => by
    have h1 := joinB_cons x (r := y :: t) (by simp)
    have h2 := (valid_size (h x (by simp))).2
    have h3 := join_size (l := y :: t) (fun z hz => h z (by simp [hz]))
    have h4 : (joinB (x :: y :: t)).size = (toL x).length + 1 + (toL (joinB (y :: t))).length := by rw [← toL_len, h1, List.length_append, List.length_cons]; omega
    rw [h4, toL_len, toL_len]
    simp at h3 ⊢
    omega
end Go.Proofs.YtehpnebekgahnaaGreat
