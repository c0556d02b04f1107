/-
  What is proved here: Parse: the text of a path of valid names, at most five, tells that path. canopykeep's small functions: pick, short, path: a path of one to three names of four. a workspace's tree as its maps hold it: the root, the entries of each directory that is the tree's own, and the block of each file that is; how a way is gone in it.
-/
import Derived.Test.YtajopoddmfdejaaGreatBackM09
import Derived.Test.YtajopoddmfdejaaGreatBackM06
namespace Go.Proofs.YtajopoddmfdejaaGreat
open Go.RowKit Go.Sort Go.Shelf
set_option linter.unusedVariables false

/-- The five cells of a path in memory. -/
def PathAt (w : World) (b : Nat) (l : List ByteArray) : Prop := b < w.heap.size ∧ ∀ k, k < 5 → w.cell? ⟨b, k, none⟩ = some (.string (l.getD k ⟨#[]⟩)) ∧ w.frozen? ⟨b, k, none⟩ = false

theorem PathAt.keep {w w' : World} {b : Nat} {l : List ByteArray} (h : PathAt w b l) (hb : Below w.heap.size w w') : PathAt w' b l :=
  ⟨Nat.lt_of_lt_of_le h.1 hb.size, fun k hk => ⟨((bcell hb).1 b k h.1).trans (h.2 k hk).1, ((bcell hb).2 b k h.1).trans (h.2 k hk).2⟩⟩
theorem PathAt.five {w : World} {b : Nat} {l : List ByteArray} (h : PathAt w b l) : (w.cell? ⟨b, 0, none⟩ = some (.string (l.getD 0 ⟨#[]⟩)) ∧ w.cell? ⟨b, 1, none⟩ = some (.string (l.getD 1 ⟨#[]⟩)) ∧ w.cell? ⟨b, 2, none⟩ = some (.string (l.getD 2 ⟨#[]⟩)) ∧ w.cell? ⟨b, 3, none⟩ = some (.string (l.getD 3 ⟨#[]⟩)) ∧ w.cell? ⟨b, 4, none⟩ = some (.string (l.getD 4 ⟨#[]⟩))) ∧ ∀ k, k < 5 → w.frozen? ⟨b, k, none⟩ = false :=
  ⟨⟨(h.2 0 (by omega)).1, (h.2 1 (by omega)).1, (h.2 2 (by omega)).1, (h.2 3 (by omega)).1, (h.2 4 (by omega)).1⟩, fun k hk => (h.2 k hk).2⟩
theorem addr_ne {b c j k : Nat} (h : b ≠ c ∨ j ≠ k) : (⟨b, j, none⟩ : Addr) ≠ ⟨c, k, none⟩ := fun e => by
  simp only [Addr.mk.injEq, and_true] at e
  rcases h with h | h
  · exact h e.1
  · exact h e.2
theorem PathAt.put {w : World} {b j : Nat} {l m : List ByteArray} (h : PathAt w b l) (hm : ∀ k, k < 5 → k ≠ j → m.getD k ⟨#[]⟩ = l.getD k ⟨#[]⟩) (h5 : j < 5) : PathAt (w.setCell ⟨b, j, none⟩ (.string (m.getD j ⟨#[]⟩))) b m := by
  refine ⟨by simpa using h.1, fun k hk => ⟨?_, by rw [World.frozen?_setCell]; exact (h.2 k hk).2⟩⟩
  by_cases e : k = j
  · subst e
    exact World.cell?_setCell_same _ _ _ (h.2 k hk).1
  · rw [World.cell?_setCell_other _ _ _ _ (addr_ne (.inr (fun e' => e e'.symm))), hm k hk e]
    exact (h.2 k hk).1
theorem PathAt.set {w : World} {b j : Nat} {l : List ByteArray} (h : PathAt w b (l.take j)) (h5 : j < 5) : PathAt (w.setCell ⟨b, j, none⟩ (.string (l.getD j ⟨#[]⟩))) b (l.take (j + 1)) := by
  have := h.put (m := l.take (j + 1)) (j := j) (fun k hk hne => ?_) h5
  · rwa [show (l.take (j + 1)).getD j ⟨#[]⟩ = l.getD j ⟨#[]⟩ by rw [List.getD_eq_getElem?_getD, List.getD_eq_getElem?_getD, List.getElem?_take, if_pos (Nat.lt_succ_self _)]] at this
  · rw [List.getD_eq_getElem?_getD, List.getD_eq_getElem?_getD, List.getElem?_take, List.getElem?_take]
    by_cases hk2 : k < j
    · rw [if_pos hk2, if_pos (by omega)]
    · rw [if_neg hk2, if_neg (by omega)]
theorem PathAt.over {w : World} {b j : Nat} {l : List ByteArray} (h : PathAt w b l) (h5 : j < 5) : PathAt (w.setCell ⟨b, j, none⟩ (.string (l.getD j ⟨#[]⟩))) b l := h.put (fun _ _ _ => rfl) h5
theorem PathAt.other {w : World} {b c j : Nat} {l : List ByteArray} {v : Value} (h : PathAt w b l) (hc : c ≠ b) : PathAt (w.setCell ⟨c, j, none⟩ v) b l :=
  ⟨by simpa using h.1, fun k hk => ⟨by rw [World.cell?_setCell_other _ _ _ _ (addr_ne (.inl hc))]; exact (h.2 k hk).1, by rw [World.frozen?_setCell]; exact (h.2 k hk).2⟩⟩

theorem five_cases {k : Nat} (h : k < 5) : k = 0 ∨ k = 1 ∨ k = 2 ∨ k = 3 ∨ k = 4 := by omega
theorem PathAt.of_block {w : World} {b : Nat} (h : w.heap[b]? = some (.cells #[.string ⟨#[]⟩, .string ⟨#[]⟩, .string ⟨#[]⟩, .string ⟨#[]⟩, .string ⟨#[]⟩] 104 (0, 0))) : PathAt w b [] := by
  refine ⟨(Array.getElem?_eq_some_iff.1 h).1, fun k hk => ?_⟩
  rcases five_cases hk with rfl | rfl | rfl | rfl | rfl <;> simp [World.cell?, World.frozen?, h]
theorem path_new0 (w : World) : PathAt ((w.alloc (.cells #[.string ⟨#[]⟩, .string ⟨#[]⟩, .string ⟨#[]⟩, .string ⟨#[]⟩, .string ⟨#[]⟩] 104)).alloc (.cells #[.string ⟨#[]⟩, .string ⟨#[]⟩, .string ⟨#[]⟩, .string ⟨#[]⟩, .string ⟨#[]⟩] 104)) w.heap.size [] := .of_block (heap_alloc2_old w _ _)
theorem path_new1 (w : World) : PathAt ((w.alloc (.cells #[.string ⟨#[]⟩, .string ⟨#[]⟩, .string ⟨#[]⟩, .string ⟨#[]⟩, .string ⟨#[]⟩] 104)).alloc (.cells #[.string ⟨#[]⟩, .string ⟨#[]⟩, .string ⟨#[]⟩, .string ⟨#[]⟩, .string ⟨#[]⟩] 104)) (w.heap.size + 1) [] := .of_block (heap_alloc2_new w _ _)

set_option maxRecDepth 100000 in
set_option maxHeartbeats 1000000 in
theorem parse_any (l : List ByteArray) (hl : Good l) (w : World) : Calls Tryz.prog 46 #[.string (joinB l)] w fun e w' => e = .returned (.tuple #[pathV l, .int .i64 0]) ∧ Below w.heap.size w w' := by
  have hsz := join_size hl.val
  have h5 := hl.len
  have hcut : ∀ j (hj : j < l.length) W, Calls Tryz.prog 72 #[.string (joinB (l.drop j)), .string ⟨#[47]⟩] W fun e w' => e = .returned (.tuple #[.string (l.getD j ⟨#[]⟩), .string (joinB (l.drop (j + 1))), .bool (decide (j + 1 < l.length))]) ∧ Below W.heap.size W w' := by
    intro j hj W
    have e1 : l.drop j = l[j] :: l.drop (j + 1) := List.drop_eq_getElem_cons hj
    have hv : validB l[j] = true := hl.val _ (List.getElem_mem hj)
    have hm : (joinB (l.drop j)).size ≤ 1000 := by
      have := join_size (l := l.drop j) (fun x hx => hl.val x (List.mem_of_mem_drop hx))
      have h2 : (l.drop j).length ≤ 5 := by rw [List.length_drop]; omega
      omega
    rw [e1] at hm
    have := cut_any l[j] (l.drop (j + 1)) hv hm W
    rw [← e1] at this
    have e2 : (!(l.drop (j + 1)).isEmpty) = decide (j + 1 < l.length) := by
      by_cases h : j + 1 < l.length
      · rw [decide_eq_true h, List.drop_eq_getElem_cons h]; rfl
      · rw [decide_eq_false h, List.drop_eq_nil_of_le (by omega)]; rfl
    rw [e2] at this
    rw [List.getD_eq_getElem?_getD, List.getElem?_eq_getElem hj, Option.getD_some]
    exact this
  have hval : ∀ j (hj : j < l.length) W, Calls Tryz.prog 73 #[.string (l.getD j ⟨#[]⟩)] W fun e w' => e = .returned (.bool true) ∧ w' = W := by
    intro j hj W
    have hv : validB l[j] = true := hl.val _ (List.getElem_mem hj)
    rw [List.getD_eq_getElem?_getD, List.getElem?_eq_getElem hj, Option.getD_some]
    have := valid_any l[j] W (by have := (valid_size hv).2; unfold maxLen; omega)
    rwa [hv] at this
  have hclo : ∀ j W, Calls Tryz.prog 74 #[.string (l.getD j ⟨#[]⟩)] W fun e w' => e = .returned (.string (l.getD j ⟨#[]⟩)) ∧ Below W.heap.size W w' := fun j W => clone_any _ W (by
    rw [List.getD_eq_getElem?_getD]
    cases hj : l[j]? with
    | none => simp [ByteArray.size]
    | some x =>
      have := (valid_size (hl.val x (List.mem_of_getElem? hj))).2
      rw [Option.getD_some]; omega)
  have hne : (!(joinB l).toList.isEmpty) = decide (0 < l.length) := by
    rw [toL_eq]
    match l, hl with
    | [], _ => rfl
    | [x], hl =>
      have := valid_ne (hl.val x (by simp))
      rw [toL_eq] at this
      rw [joinB_one]
      cases h : toL x with
      | nil => rw [h] at this; cases this
      | cons c r => rfl
    | x :: y :: r, _ =>
      rw [joinB_cons x (by simp)]
      simp
  have HCUT : Hid _ := hcut
  have HVAL : Hid _ := hval
  have HCLO : Hid _ := hclo
  clear hcut hval hclo hsz
  go_enter Tryz.func46, Tryz.ntmps46
  go_wp2
  have HA0 : Hid (PathAt ((w.alloc (.cells #[.string ⟨#[]⟩, .string ⟨#[]⟩, .string ⟨#[]⟩, .string ⟨#[]⟩, .string ⟨#[]⟩] 104)).alloc (.cells #[.string ⟨#[]⟩, .string ⟨#[]⟩, .string ⟨#[]⟩, .string ⟨#[]⟩, .string ⟨#[]⟩] 104)) w.heap.size []) := path_new0 w
  have HA1 : Hid (PathAt ((w.alloc (.cells #[.string ⟨#[]⟩, .string ⟨#[]⟩, .string ⟨#[]⟩, .string ⟨#[]⟩, .string ⟨#[]⟩] 104)).alloc (.cells #[.string ⟨#[]⟩, .string ⟨#[]⟩, .string ⟨#[]⟩, .string ⟨#[]⟩, .string ⟨#[]⟩] 104)) (w.heap.size + 1) []) := path_new1 w
  go_loopw [5, 6, 7] (fun r m i wr => ∃ j : Nat, j ≤ l.length ∧ i = .int .i64 (j : Int) ∧ m = .bool (decide (j < l.length)) ∧ r = .string (joinB (l.drop j)) ∧ Below w.heap.size w wr ∧ Hid (PathAt wr w.heap.size []) ∧ Hid (PathAt wr (w.heap.size + 1) (l.take j))) (fun _ _ i _ => l.length - (intOf i).toNat)
  case atStart => exact ⟨0, Nat.zero_le _, rfl, rfl, rfl, ((Below.refl _ _).alloc (Nat.le_refl _) _).alloc (by simp) _, HA0.out, HA1.out⟩
  case round =>
    obtain ⟨j, hj, rfl, rfl, rfl, hb, HP0, HP1⟩ := hrel
    by_cases hlt : j < l.length
    · rw [decide_eq_true hlt]
      have hj5 : j < 5 := by omega
      have hj5' : ((j : Int) == 5) = false := by simp; omega
      have hji : (j : Int) < 5 := by omega
      have hcj := HCUT.out j hlt
      have hvj := HVAL.out j hlt
      have hzz : w.heap.size + 1 < wr.heap.size := HP1.out.1
      generalize hm : decide (j + 1 < l.length) = more at hcj
      have HM : Hid _ := hm
      generalize hx : l.getD j ⟨#[]⟩ = x at hcj hvj
      have HX : Hid _ := hx
      clear hm hx
      go_wp2_with fail
      refine Calls.mono (hcj wr) ?_
      rintro e w1 ⟨rfl, hb1⟩
      have hz1 : w.heap.size + 1 < w1.heap.size := Nat.lt_of_lt_of_le hzz hb1.size
      have k1 := ((HP1.out.keep hb1).2 j hj5)
      obtain ⟨k1c, k1f⟩ := k1
      generalize (l.take j).getD j ⟨#[]⟩ = x0 at k1c
      go_wp2_with (go_at_call 73; refine Calls.mono (hvj _) ?_; rintro e w2 ⟨rfl, rfl⟩)
      go_roundw
      case rel =>
        refine ⟨j + 1, by omega, by go_num, by rw [HM.out], rfl, ?_, ?_, ?_⟩
        · refine Below.setCell ?_ (by simp) _
          exact below_via hb hb1
        · exact (HP0.out.keep hb1).other (by omega)
        · rw [← HX.out]; exact (HP1.out.keep hb1).set hj5
      case measure => simp [intOf]; omega
    · rw [decide_eq_false hlt]
      have hje : j = l.length := by omega
      subst hje
      rw [List.take_length] at HP1
      rw [List.drop_length]
      go_wp2
      go_loopw [32] (fun i wr => ∃ k : Nat, k ≤ 5 ∧ i = .int .i64 (k : Int) ∧ Below w.heap.size w wr ∧ Hid (PathAt wr w.heap.size []) ∧ Hid (PathAt wr (w.heap.size + 1) l)) (fun i _ => 5 - (intOf i).toNat)
      case atStart => exact ⟨0, by omega, rfl, hb, HP0, HP1⟩
      case round =>
        obtain ⟨k, hk, rfl, hb2, HQ0, HQ1⟩ := hrel
        have hz0 : w.heap.size < wr.heap.size := HQ0.out.1
        have hz1 : w.heap.size + 1 < wr.heap.size := HQ1.out.1
        by_cases hk5 : k < 5
        · have hki : (k : Int) < 5 := by omega
          obtain ⟨kc, kf⟩ := HQ1.out.2 k hk5
          have hck := HCLO.out k
          generalize hx : l.getD k ⟨#[]⟩ = x at hck kc
          have HX : Hid _ := hx
          clear hx
          go_wp2_with fail
          refine Calls.mono (hck wr) ?_
          rintro e w1 ⟨rfl, hb1⟩
          obtain ⟨kc1, kf1⟩ := (HQ1.out.keep hb1).2 k hk5
          rw [HX.out] at kc1
          have hz2 : w.heap.size + 1 < w1.heap.size := Nat.lt_of_lt_of_le hz1 hb1.size
          go_wp2
          go_roundw
          case rel =>
            refine ⟨k + 1, by omega, by go_num, ?_, ?_, ?_⟩
            · refine Below.setCell ?_ (by simp) _
              exact below_via hb2 hb1
            · exact (HQ0.out.keep hb1).other (by omega)
            · rw [← HX.out]; exact (HQ1.out.keep hb1).over hk5
          case measure => simp [intOf]; omega
        · have hki : ¬ (k : Int) < 5 := by omega
          obtain ⟨⟨p0, p1, p2, p3, p4⟩, pf⟩ := HQ1.out.five
          obtain ⟨⟨q0, q1, q2, q3, q4⟩, qf⟩ := HQ0.out.five
          have qf0 := qf 0 (by omega)
          have qf1 := qf 1 (by omega)
          have qf2 := qf 2 (by omega)
          have qf3 := qf 3 (by omega)
          have qf4 := qf 4 (by omega)
          clear pf qf
          obtain ⟨s0, s1, s2, s3, s4, hP⟩ : ∃ s0 s1 s2 s3 s4, pathA l = #[.string s0, .string s1, .string s2, .string s3, .string s4] := ⟨_, _, _, _, _, rfl⟩
          simp only [pathA, Array.mk.injEq, List.cons.injEq, Value.string.injEq, and_true] at hP
          obtain ⟨e0, e1, e2, e3, e4⟩ := hP
          rw [e0] at p0
          rw [e1] at p1
          rw [e2] at p2
          rw [e3] at p3
          rw [e4] at p4
          have HE : Hid _ := And.intro e0 (And.intro e1 (And.intro e2 (And.intro e3 e4)))
          clear e0 e1 e2 e3 e4
          simp only [List.getD_nil] at q0 q1 q2 q3 q4
          have hv : pathV l = .agg #[.string s0, .string s1, .string s2, .string s3, .string s4] := by
            unfold pathV pathA
            rw [HE.out.1, HE.out.2.1, HE.out.2.2.1, HE.out.2.2.2.1, HE.out.2.2.2.2]
          go_wp2
          exact bodyPost_ret (v := .tuple #[.agg #[.string s0, .string s1, .string s2, .string s3, .string s4], .int .i64 0]) (by simp [results, Tryz.results46, go_sem, q0, q1, q2, q3, q4]) rfl ⟨rfl, by
            repeat (refine Below.setCell ?_ (by simp) _)
            exact hb2⟩
end Go.Proofs.YtajopoddmfdejaaGreat

namespace Go.Proofs.YtajopoddmfdejaaGreat
open Go.RowKit Go.Sort Go.Shelf
set_option linter.unusedVariables false

/-- The names of which paths are made, and that of the file that is always there. -/
def letters : List ByteArray := [⟨#[97]⟩, ⟨#[98]⟩, ⟨#[99]⟩, ⟨#[100]⟩]
def nameE : ByteArray := ⟨#[101]⟩
def nameF : ByteArray := ⟨#[102]⟩
theorem letter_valid {x : ByteArray} (h : x ∈ letters) : validB x = true ∧ x ≠ nameE ∧ x ≠ nameF := by
  simp only [letters, List.mem_cons, List.not_mem_nil, or_false] at h
  rcases h with rfl | rfl | rfl | rfl <;> exact ⟨by unfold validB; simp only [ByteArray.toList_eq]; decide, by decide, by decide⟩
structure Letters (l : List ByteArray) : Prop where
  all : ∀ x ∈ l, x ∈ letters
  pos : 1 ≤ l.length
  len : l.length ≤ 3
theorem Letters.good {l : List ByteArray} (h : Letters l) : Good l := ⟨fun x hx => (letter_valid (h.all x hx)).1, by have := h.len; omega⟩

def pickN (c n : Int) : Int := if c < 0 then (-(c + 1)) % n else c % n
theorem pickN_range {c n : Int} (h : 0 < n) : 0 ≤ pickN c n ∧ pickN c n < n := by
  unfold pickN
  split
  · exact ⟨Int.emod_nonneg _ (by omega), Int.emod_lt_of_pos _ h⟩
  · exact ⟨Int.emod_nonneg _ (by omega), Int.emod_lt_of_pos _ h⟩

set_option maxRecDepth 100000 in
set_option maxHeartbeats 400000 in
theorem kpick_any (c n : Int) (w : World) (hc : -9223372036854775808 ≤ c ∧ c ≤ 9223372036854775807) (hn : 0 < n) (hn2 : n ≤ 1000000000) :
    Calls Tryz.prog 18 #[.int .i64 c, .int .i64 n] w fun e w' => e = .returned (.int .i64 (pickN c n)) ∧ w' = w := by
  have hn0 : (n == 0) = false := by simp; omega
  have hnz : n ≠ 0 := by omega
  unfold pickN
  by_cases hneg : c < 0
  · rw [if_pos hneg]
    have h1 : IntKind.i64.wrap (c + 1) = c + 1 := by rw [IntKind.wrap_i64] <;> omega
    have h2 : IntKind.i64.wrap (-(c + 1)) = -(c + 1) := by rw [IntKind.wrap_i64] <;> omega
    have h3 : Int.tmod (-(c + 1)) n = (-(c + 1)) % n := Int.tmod_eq_emod_of_nonneg (by omega)
    have h4 : IntKind.i64.wrap ((-(c + 1)) % n) = (-(c + 1)) % n := by
      have := Int.emod_nonneg (-(c + 1)) hnz
      have := Int.emod_lt_of_pos (-(c + 1)) hn
      rw [IntKind.wrap_i64] <;> omega
    go_enter Tryz.func18, Tryz.ntmps18
    go_wp2
    go_ret
    exact ⟨rfl, rfl⟩
  · rw [if_neg hneg]
    have h3 : Int.tmod c n = c % n := Int.tmod_eq_emod_of_nonneg (by omega)
    have h4 : IntKind.i64.wrap (c % n) = c % n := by
      have := Int.emod_nonneg c hnz
      have := Int.emod_lt_of_pos c hn
      rw [IntKind.wrap_i64] <;> omega
    go_enter Tryz.func18, Tryz.ntmps18
    go_wp2
    go_ret
    exact ⟨rfl, rfl⟩

/-- Bytes that a file can have. -/
def shortB (s : ByteArray) : ByteArray := if 256 < s.size then s.extract 0 256 else s
theorem short_size (s : ByteArray) : (shortB s).size ≤ 256 := by
  unfold shortB
  split
  · rw [ByteArray.size_extract]; omega
  · omega
set_option maxRecDepth 100000 in
set_option maxHeartbeats 400000 in
theorem short_any (s : ByteArray) (w : World) (hs : s.size ≤ maxLen) : Calls Tryz.prog 19 #[.string s] w fun e w' => e = .returned (.string (shortB s)) ∧ w' = w := by
  unfold shortB
  by_cases h : 256 < s.size
  · rw [if_pos h]
    have h' : (256 : Int) < (s.size : Int) := by omega
    go_enter Tryz.func19, Tryz.ntmps19
    go_wp2
    go_ret
    exact ⟨rfl, rfl⟩
  · rw [if_neg h]
    have h' : ¬ (256 : Int) < (s.size : Int) := by omega
    go_enter Tryz.func19, Tryz.ntmps19
    go_wp2
    go_ret
    exact ⟨rfl, rfl⟩

theorem joinB_snoc {l : List ByteArray} (h : l ≠ []) (x : ByteArray) : joinB l ++ ⟨#[47]⟩ ++ x = joinB (l ++ [x]) := by
  apply toL_inj
  rw [toL_append, toL_append]
  show (joinL (l.map toL)).toArray.toList ++ [47] ++ toL x = (joinL ((l ++ [x]).map toL)).toArray.toList
  rw [List.map_append, List.map_cons, List.map_nil, joinL_snoc _ _ (by simpa using h)]
  simp
theorem nil_snoc (x : ByteArray) : (⟨#[]⟩ : ByteArray) ++ x = joinB [x] := by
  apply toL_inj
  rw [toL_append, joinB_one]
  rfl
theorem letter_at {i : Int} (h0 : 0 ≤ i) (h1 : i < 4) : (⟨#[97, 98, 99, 100]⟩ : ByteArray).extract i.toNat (i + 1).toNat ∈ letters := by
  have : i = 0 ∨ i = 1 ∨ i = 2 ∨ i = 3 := by omega
  have e0 : (⟨#[97, 98, 99, 100]⟩ : ByteArray).extract 0 1 = ⟨#[97]⟩ := by decide
  have e1 : (⟨#[97, 98, 99, 100]⟩ : ByteArray).extract 1 2 = ⟨#[98]⟩ := by decide
  have e2 : (⟨#[97, 98, 99, 100]⟩ : ByteArray).extract 2 3 = ⟨#[99]⟩ := by decide
  have e3 : (⟨#[97, 98, 99, 100]⟩ : ByteArray).extract 3 4 = ⟨#[100]⟩ := by decide
  rcases this with rfl | rfl | rfl | rfl
  · show (⟨#[97, 98, 99, 100]⟩ : ByteArray).extract 0 1 ∈ letters; rw [e0]; simp [letters]
  · show (⟨#[97, 98, 99, 100]⟩ : ByteArray).extract 1 2 ∈ letters; rw [e1]; simp [letters]
  · show (⟨#[97, 98, 99, 100]⟩ : ByteArray).extract 2 3 ∈ letters; rw [e2]; simp [letters]
  · show (⟨#[97, 98, 99, 100]⟩ : ByteArray).extract 3 4 ∈ letters; rw [e3]; simp [letters]
theorem join_ne {l : List ByteArray} (h : l ≠ []) (hl : ∀ x ∈ l, x ∈ letters) : (joinB l).toList ≠ [] := by
  rw [toL_eq]
  match l, h with
  | [x], _ =>
    rw [joinB_one]
    have := valid_ne (letter_valid (hl x (by simp))).1
    rw [toL_eq] at this
    intro e
    rw [e] at this; cases this
  | x :: y :: r, _ => rw [joinB_cons x (by simp)]; simp

set_option maxRecDepth 100000 in
set_option maxHeartbeats 1000000 in
theorem path_any (c : Int) (w : World) (hc : -9223372036854775808 ≤ c ∧ c ≤ 9223372036854775807) :
    Calls Tryz.prog 16 #[.int .i64 c] w fun e w' => ∃ l, Letters l ∧ e = .returned (.string (joinB l)) ∧ w' = w := by
  have hpk := kpick_any c 84 w hc (by decide) (by decide)
  obtain ⟨hp0, hp1⟩ := pickN_range (c := c) (n := 84) (by decide)
  generalize pickN c 84 = c0 at hpk hp0 hp1
  go_enter Tryz.func16, Tryz.ntmps16
  go_wp2_with (go_at_call 18; refine hpk.mono ?_; rintro e w1 ⟨rfl, rfl⟩)
  go_loopw [0, 3] (fun cv sv wr => ∃ (x : Int) (l : List ByteArray), cv = .int .i64 x ∧ sv = .string (joinB l) ∧ wr = w1 ∧ (∀ y ∈ l, y ∈ letters) ∧ 0 ≤ x ∧ ((l = [] ∧ x < 84) ∨ (l.length = 1 ∧ x < 20) ∨ (l.length = 2 ∧ x < 4))) (fun cv _ _ => (intOf cv).toNat)
  case atStart => exact ⟨c0, [], rfl, rfl, rfl, by simp, hp0, .inl ⟨rfl, hp1⟩⟩
  case round =>
    obtain ⟨x, l, rfl, rfl, rfl, hl, hx0, hxx⟩ := hrel
    have h84 : x < 84 := by rcases hxx with h | h | h <;> omega
    have t1 : Int.tmod x 4 = x % 4 := Int.tmod_eq_emod_of_nonneg hx0
    have t2 : Int.tdiv x 4 = x / 4 := Int.tdiv_eq_ediv_of_nonneg hx0
    obtain ⟨i, hi⟩ : ∃ i, i = x % 4 := ⟨_, rfl⟩
    have hi0 : 0 ≤ i := by omega
    have hi1 : i < 4 := by omega
    rw [← hi] at t1
    have HI : Hid _ := hi
    have hw1 : IntKind.i64.wrap i = i := by rw [IntKind.wrap_i64] <;> omega
    have hw2 : IntKind.i64.wrap (i + 1) = i + 1 := by rw [IntKind.wrap_i64] <;> omega
    have hw3 : IntKind.i64.wrap (x / 4) = x / 4 := by rw [IntKind.wrap_i64] <;> omega
    have hw4 : IntKind.i64.wrap (x / 4 - 1) = x / 4 - 1 := by rw [IntKind.wrap_i64] <;> omega
    have hlt := letter_at hi0 hi1
    clear hi
    generalize hxl : (⟨#[97, 98, 99, 100]⟩ : ByteArray).extract i.toNat (i + 1).toNat = xl at hlt
    have HX : Hid _ := hxl
    have hxs : xl.size = 1 := by
      simp only [letters, List.mem_cons, List.not_mem_nil, or_false] at hlt
      rcases hlt with rfl | rfl | rfl | rfl <;> rfl
    by_cases hl0 : l = []
    · subst hl0
      rw [joinB_nil]
      by_cases hend : x / 4 - 1 < 0
      · go_wp2
        go_ret
        refine ⟨[xl], ⟨by simpa using hlt, by simp, by simp⟩, ?_, rfl⟩
        rw [← nil_snoc]
        rfl
      · go_wp2
        go_roundw
        case rel => exact ⟨x / 4 - 1, [xl], rfl, by rw [← nil_snoc], trivial, by simpa using hlt, by omega, .inr (.inl ⟨rfl, by omega⟩)⟩
        case measure => simp [intOf]; omega
    · have hne := join_ne hl0 hl
      have hne1 : ((joinB l).toList == []) = false := by simpa using hne
      have hne2 : (!(joinB l).toList.isEmpty) = true := by
        cases h : (joinB l).toList with
        | nil => exact absurd h hne
        | cons a b => rfl
      have hjs : (joinB l).size ≤ 26 := by
        have h1 := join_size (l := l) (fun x hx => (letter_valid (hl x hx)).1)
        rcases hxx with h | h | h
        · exact absurd h.1 hl0
        · omega
        · omega
      generalize hjl : joinB l = jl at hne hne1 hne2 hjs ⊢
      have HJ : Hid _ := hjl
      clear hjl
      by_cases hend : x / 4 - 1 < 0
      · go_wp2
        go_ret
        refine ⟨l ++ [xl], ⟨fun y hy => ?_, by simp, ?_⟩, ?_, rfl⟩
        · rcases List.mem_append.1 hy with h | h
          · exact hl y h
          · simp at h; rw [h]; exact hlt
        · rcases hxx with h | h | h
          · exact absurd h.1 hl0
          · simp; omega
          · simp; omega
        · rw [← joinB_snoc hl0, HJ.out]; rfl
      · go_wp2
        go_roundw
        case rel =>
          rcases hxx with h | h | h
          · exact absurd h.1 hl0
          · refine ⟨x / 4 - 1, l ++ [xl], rfl, by rw [← joinB_snoc hl0, HJ.out], trivial, fun y hy => ?_, by omega, .inr (.inr ⟨by simp; omega, by omega⟩)⟩
            rcases List.mem_append.1 hy with h | h
            · exact hl y h
            · simp at h; rw [h]; exact hlt
          · omega
        case measure => simp [intOf]; omega
end Go.Proofs.YtajopoddmfdejaaGreat

namespace Go.Proofs.YtajopoddmfdejaaGreat
open Go.RowKit Go.Sort Go.Shelf
set_option linter.unusedVariables false

def zE : Ent := (⟨#[]⟩, 0, 0)

/-- The root's object (0: the tree's own), the directories and the files that are the tree's own, by their paths. -/
structure FT where
  root : Int
  od : List ByteArray → Option (List Ent)
  of : List ByteArray → Option Nat

def upd {β : Type} (f : List ByteArray → β) (p : List ByteArray) (v : β) : List ByteArray → β := fun q => if q = p then v else f q
theorem upd_same {β : Type} (f : List ByteArray → β) (p : List ByteArray) (v : β) : upd f p v p = v := by unfold upd; rw [if_pos rfl]
theorem upd_other {β : Type} {f : List ByteArray → β} {p q : List ByteArray} (h : q ≠ p) (v : β) : upd f p v q = f q := by unfold upd; rw [if_neg h]

/-- What is in the directory that stands at p. -/
def entsF (objs : List Ob) (ft : FT) (fs : FS) (p : List ByteArray) (e : Ent) : FS × Int × List Ent :=
  if e.2.1 ≠ 2 then (fs, 5, []) else
  if e.2.2 = 0 then (fs, 0, (ft.od p).getD []) else
  if (fs.dirG e.2.2).2 then ((fs.dirG e.2.2).1, 0, entsOf objs e.2.2) else ((fs.dirG e.2.2).1, 14, [])

/-- The way to a path (its names backwards), and what stands there. -/
def findF (objs : List Ob) (ft : FT) (fs : FS) : List ByteArray → FS × Int × Ent
  | [] => (fs, 0, (⟨#[]⟩, 2, ft.root))
  | n :: r =>
    let a := findF objs ft fs r
    if a.2.1 ≠ 0 then (a.1, a.2.1, zE) else
    let b := entsF objs ft a.1 r.reverse a.2.2
    if b.2.1 ≠ 0 then (b.1, b.2.1, zE) else
    match getK b.2.2 n with
    | none => (b.1, 4, zE)
    | some c => (b.1, 0, (n, c))
def lookF (objs : List Ob) (ft : FT) (fs : FS) (r : List ByteArray) : FS × Int × List Ent :=
  let a := findF objs ft fs r
  if a.2.1 ≠ 0 then (a.1, a.2.1, []) else entsF objs ft a.1 r.reverse a.2.2

theorem findF_cons (objs : List Ob) (ft : FT) (fs : FS) (n : ByteArray) (r : List ByteArray) : findF objs ft fs (n :: r) =
    if (lookF objs ft fs r).2.1 ≠ 0 then ((lookF objs ft fs r).1, (lookF objs ft fs r).2.1, zE) else
    match getK (lookF objs ft fs r).2.2 n with
    | none => ((lookF objs ft fs r).1, 4, zE)
    | some c => ((lookF objs ft fs r).1, 0, (n, c)) := by
  unfold lookF
  rw [findF]
  by_cases h : (findF objs ft fs r).2.1 ≠ 0
  · simp only [if_pos h]
  · simp only [if_neg h]

def odOf : Option LT → Option (List Ent)
  | some (.own es) => some (es.map entOf)
  | _ => none
def ofOf : Option LT → Option Nat
  | some (.held f) => some f
  | _ => none
/-- What a workspace's tree is, in its maps. -/
structure Flat (objs : List Ob) (t : LT) (ft : FT) : Prop where
  kind : t.kind = 2
  root : ft.root = t.id
  od : ∀ p, ft.od p = odOf (t.at objs p)
  of : ∀ p, ft.of p = ofOf (t.at objs p)

end Go.Proofs.YtajopoddmfdejaaGreat
