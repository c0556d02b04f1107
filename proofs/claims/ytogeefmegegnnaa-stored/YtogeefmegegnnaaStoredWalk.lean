/-
  What is proved here: the function Stored returns true on every two texts, and writes nothing that was there before the call.
-/
import Derived.Test.YtogeefmegegnnaaTwo
namespace Go.Proofs.Ytogeefmegegnnaa
open Go.RowKit Go.Sort Go.Shelf
set_option linter.unusedVariables false
variable {ft : PTail}

set_option maxRecDepth 100000 in
set_option maxHeartbeats 400000 in
theorem short_any (s : ByteArray) (w : World) (hs : s.size ≤ maxLen) :
    Calls Try.prog 5 #[.string s] w fun e w' => e = .returned (.string (if s.size ≤ 256 then s else s.extract 0 256)) ∧ w' = w := by
  unfold maxLen at hs
  by_cases h : s.size ≤ 256
  · rw [if_pos h]
    go_enter Try.func5, Try.ntmps5
    go_wp2
    go_ret
    exact ⟨rfl, rfl⟩
  · rw [if_neg h]
    go_enter Try.func5, Try.ntmps5
    go_wp2
    go_ret
    exact ⟨rfl, rfl⟩

def cut256 (s : ByteArray) : ByteArray := if s.size ≤ 256 then s else s.extract 0 256
theorem cut_size (s : ByteArray) : (cut256 s).size ≤ 256 := by
  unfold cut256
  split
  · assumption
  · simp; omega

/-- PutFile where the store's blocks are those from B on. -/
theorem putFileB {B : Nat} {w : World} {s : Nat} {objs : List Ob} (h : Inv ft (fun k => B ≤ k) w s objs) (hB : B ≤ w.heap.size) (d : ByteArray) (hd : d.size ≤ 256) :
    Calls Try.prog 6 #[.pointer (some ⟨s, 0, none⟩), .string d] w fun e w' => ∃ objs', FilePut objs objs' d e ∧ Inv ft (fun k => B ≤ k) w' s objs' ∧ Below B w w' :=
  (storePutFile h d (by unfold maxLen; omega)).mono fun e w' ⟨objs', h1, h2, h3⟩ => ⟨objs', h1, inv_from h2 hB, keeps_below h3 hB⟩

theorem getFileB {B : Nat} {w : World} {s : Nat} {objs : List Ob} (h : Inv ft (fun k => B ≤ k) w s objs) (hB : B ≤ w.heap.size) (j : Nat) (d : ByteArray) (hj : objs[j]? = some (fileOb d)) :
    Calls Try.prog 8 #[.pointer (some ⟨s, 0, none⟩), .int .i64 ((j : Int) + 1)] w fun e w' => e = .returned (.tuple #[.string d, .int .i64 0]) ∧ Inv ft (fun k => B ≤ k) w' s objs ∧ Below B w w' := by
  refine (storeGetFile h ((j : Int) + 1)).mono fun e w' ⟨hg, hb⟩ => ⟨?_, inv_below h hb, hb.mono hB⟩
  obtain ⟨hlt, hel⟩ := List.getElem?_eq_some_iff.1 hj
  rcases hg with ⟨h1, _⟩ | ⟨i, hi, h1, _, h3⟩
  · rw [kindOf_in hlt, hel] at h1; exact absurd rfl h1
  · have : i = j := by omega
    subst this
    rw [hel] at h3
    exact h3

theorem objectsB {B : Nat} {w : World} {s : Nat} {objs : List Ob} (h : Inv ft (fun k => B ≤ k) w s objs) (n : Int) (hn : (objs.length : Int) = n) :
    Calls Try.prog 7 #[.pointer (some ⟨s, 0, none⟩)] w fun e w' => e = .returned (.int .i64 n) ∧ w' = w := by
  rw [← hn]; exact storeObjects h

/-- The cells of two entries that have just been laid. -/
theorem two_cells (w : World) (n1 n2 : ByteArray) (x y : Int) : ∀ j u, (flat [(n1, 1, x), (n2, 1, y)])[j]? = some u → (w.alloc (.cells #[.string n1, .int .i64 1, .int .i64 x, .string n2, .int .i64 1, .int .i64 y] 34)).cell? ⟨w.heap.size, 0 + j, none⟩ = some u := by
  intro j u h
  have hg := heap_alloc_new w (.cells #[.string n1, .int .i64 1, .int .i64 x, .string n2, .int .i64 1, .int .i64 y] 34)
  simp only [World.cell?, hg, Nat.zero_add]
  simpa [flat, encE] using h

theorem putDirB {B : Nat} {w : World} {s : Nat} {objs : List Ob} (h : Inv ft (fun k => B ≤ k) w s objs) (hB : B ≤ w.heap.size) (n1 n2 : ByteArray) (x y : Int) (h1 : n1.size ≤ 12) (h2 : n2.size ≤ 12) :
    Calls Try.prog 9 #[.pointer (some ⟨s, 0, none⟩), .slice (some ⟨w.heap.size, 0, none⟩) 2 2] (w.alloc (.cells #[.string n1, .int .i64 1, .int .i64 x, .string n2, .int .i64 1, .int .i64 y] 34)) fun e w' =>
      ∃ objs', DirPutG objs objs' [(n1, 1, x), (n2, 1, y)] e ∧ Inv ft (fun k => B ≤ k) w' s objs' ∧ Below B w w' := by
  have hb : Below w.heap.size w (w.alloc (.cells #[.string n1, .int .i64 1, .int .i64 x, .string n2, .int .i64 1, .int .i64 y] 34)) := (Below.refl _ _).alloc (Nat.le_refl _) _
  have hi := inv_below h hb
  refine (storePutDir hi w.heap.size 0 2 2 [(n1, 1, x), (n2, 1, y)] rfl (by simp) (by omega) (two_cells w n1 n2 x y) ?_).mono fun e w' ⟨objs', k1, k2, k3⟩ => ⟨objs', k1, inv_from k2 (by simp; omega), (hb.mono hB).trans (keeps_below k3 (by simp; omega))⟩
  intro e he
  simp at he
  rcases he with rfl | rfl
  · show n1.size ≤ maxLen; unfold maxLen; omega
  · show n2.size ≤ maxLen; unfold maxLen; omega

/-- GetDir of the directory that has just been put. -/
theorem getDirB {B : Nat} {w : World} {s : Nat} {objs : List Ob} {o : Ob} (h : Inv ft (fun k => B ≤ k) w s (objs ++ [o])) (hB : B ≤ w.heap.size) (hk : o.kind = 2) (n1 n2 : ByteArray) (x y : Int) (ho : o.ents = [(n1, 1, x), (n2, 1, y)]) (id : Int) (hid : (objs.length : Int) + 1 = id) :
    Calls Try.prog 10 #[.pointer (some ⟨s, 0, none⟩), .int .i64 id] w fun e w' => ∃ g, e = .returned (.tuple #[.slice (some ⟨g, 0, none⟩) 2 2, .int .i64 0]) ∧
      (w'.cell? ⟨g, 0, none⟩ = some (.string n1) ∧ w'.cell? ⟨g, 1, none⟩ = some (.int .i64 1) ∧ w'.cell? ⟨g, 2, none⟩ = some (.int .i64 x) ∧ w'.cell? ⟨g, 3, none⟩ = some (.string n2) ∧ w'.cell? ⟨g, 4, none⟩ = some (.int .i64 1) ∧ w'.cell? ⟨g, 5, none⟩ = some (.int .i64 y)) ∧
      Inv ft (fun k => B ≤ k) w' s (objs ++ [o]) ∧ Below B w w' := by
  subst hid
  have hlt : objs.length < (objs ++ [o]).length := by simp
  have hel : (objs ++ [o])[objs.length] = o := by simp
  refine (storeGetDir h ((objs.length : Int) + 1)).mono fun e w' ⟨hg, hb⟩ => ?_
  rcases hg with ⟨h1, _⟩ | ⟨i, hi, h1, _, g, h3, h4⟩
  · rw [kindOf_in hlt, hel] at h1; exact absurd hk h1
  · have : i = objs.length := by omega
    subst this
    rw [hel, ho] at h3 h4
    have hc := owns_cells h4
    refine ⟨g, h3, ⟨?_, ?_, ?_, ?_, ?_, ?_⟩, inv_below h hb, hb.mono hB⟩
    · simpa using hc 0 _ rfl
    · simpa using hc 1 _ rfl
    · simpa using hc 2 _ rfl
    · simpa using hc 3 _ rfl
    · simpa using hc 4 _ rfl
    · simpa using hc 5 _ rfl

set_option maxRecDepth 100000 in
set_option maxHeartbeats 4000000 in
theorem walk_same (a0 a1 a : ByteArray) (w : World) (za : a.size ≤ 256) (sa : ∀ W, Calls Try.prog 5 #[.string a0] W fun e w' => e = .returned (.string a) ∧ w' = W) (sb : ∀ W, Calls Try.prog 5 #[.string a1] W fun e w' => e = .returned (.string a) ∧ w' = W) :
    Calls Try.prog 3 #[.string a0, .string a1] w fun e w' => e = .returned (.bool true) ∧ Below w.heap.size w w' := by
  have hnew := newStore_inv w
  go_enter Try.func3, Try.ntmps3
  go_wp2_with fail
  refine hnew.mono ?_
  rintro e w1 ⟨s, rfl, hI0, hb1⟩
  have hI1 : Inv pt0 (fun k => w.heap.size ≤ k) w1 s [] := hI0.below (Below.refl _ _) (fun k _ hk => by rcases hk with h | h; exact h.elim; exact h.1)
  clear hI0 hnew
  go_wp2_with fail
  refine (sa _).mono ?_
  rintro e w' ⟨rfl, rfl⟩
  go_wp2_with fail
  refine (sb _).mono ?_
  rintro e w' ⟨rfl, rfl⟩
  clear sa sb
  go_wp2_with fail
  refine (putFileB hI1 hb1.size a za).mono ?_
  rintro e w3 ⟨o3, h3, hI3, hb3⟩
  obtain ⟨rfl, rfl⟩ := file_first h3 za
  have b3 := hb1.trans hb3
  go_wp2_with fail
  refine (putFileB hI3 b3.size a za).mono ?_
  rintro e w4 ⟨o4, h4, hI4, hb4⟩
  obtain ⟨rfl, rfl⟩ := file_again h4 za
  have b4 := b3.trans hb4
  clear h3 h4 hI1 hI3 hb1 hb3 hb4 b3
  go_wp2_with fail
  refine (objectsB hI4 1 rfl).mono ?_
  rintro e w' ⟨rfl, rfl⟩
  go_wp2_with fail
  refine (getFileB hI4 b4.size 0 a rfl).mono ?_
  rintro e w5 ⟨rfl, hI5, hb5⟩
  have b5 := b4.trans hb5
  go_wp2_with fail
  refine (getFileB hI5 b5.size 0 a rfl).mono ?_
  rintro e w6 ⟨rfl, hI6, hb6⟩
  have b6 := b5.trans hb6
  clear hI4 hI5 hb5 hb6 b4 b5
  have HT : Hid (TwoFiles [fileOb a] 1 1) := Or.inl ⟨a, rfl, rfl, rfl⟩
  go_wp2_with fail
  refine (putDirB hI6 b6.size ⟨#[107]⟩ ⟨#[98]⟩ 1 1 (by decide) (by decide)).mono ?_
  rintro e w7 ⟨o7, h7, hI7, hb7⟩
  obtain ⟨rfl, o, ho1, ho2, ho3, rfl⟩ := dir_new h7 HT.out (.inl rfl)
  have b7 := b6.trans hb7
  have HK : Hid (o.kind = 2) := ho1
  have HE : Hid (o.ents = [(⟨#[98]⟩, 1, 1), (⟨#[107]⟩, 1, 1)]) := ho2
  clear h7 hb7 hI6 b6 ho1 ho2 ho3
  go_wp2_with fail
  refine (putDirB hI7 b7.size ⟨#[98]⟩ ⟨#[107]⟩ 1 1 (by decide) (by decide)).mono ?_
  rintro e w8 ⟨o8, h8, hI8, hb8⟩
  obtain ⟨rfl, rfl⟩ := dir_again HK.out HE.out h8 HT.out (.inr rfl)
  have b8 := b7.trans hb8
  clear h8 hb8 hI7 b7
  go_wp2_with fail
  refine (getDirB hI8 b8.size HK.out ⟨#[98]⟩ ⟨#[107]⟩ 1 1 HE.out _ rfl).mono ?_
  rintro e w9 ⟨g, rfl, ⟨c0, c1, c2, c3, c4, c5⟩, hI9, hb9⟩
  have b9 := b8.trans hb9
  clear hI8 b8 hb9
  go_wp2_with fail
  refine (objectsB hI9 2 rfl).mono ?_
  rintro e w' ⟨rfl, rfl⟩
  clear hI9
  go_wp2
  go_ret
  exact ⟨rfl, b9⟩

set_option maxRecDepth 100000 in
set_option maxHeartbeats 4000000 in
theorem walk_other (a0 a1 a b : ByteArray) (w : World) (za : a.size ≤ 256) (zb : b.size ≤ 256) (hne : (a.toList == b.toList) = false) (HN : Hid (a ≠ b)) (sa : ∀ W, Calls Try.prog 5 #[.string a0] W fun e w' => e = .returned (.string a) ∧ w' = W) (sb : ∀ W, Calls Try.prog 5 #[.string a1] W fun e w' => e = .returned (.string b) ∧ w' = W) :
    Calls Try.prog 3 #[.string a0, .string a1] w fun e w' => e = .returned (.bool true) ∧ Below w.heap.size w w' := by
  have hnew := newStore_inv w
  go_enter Try.func3, Try.ntmps3
  go_wp2_with fail
  refine hnew.mono ?_
  rintro e w1 ⟨s, rfl, hI0, hb1⟩
  have hI1 : Inv pt0 (fun k => w.heap.size ≤ k) w1 s [] := hI0.below (Below.refl _ _) (fun k _ hk => by rcases hk with h | h; exact h.elim; exact h.1)
  clear hI0 hnew
  go_wp2_with fail
  refine (sa _).mono ?_
  rintro e w' ⟨rfl, rfl⟩
  go_wp2_with fail
  refine (sb _).mono ?_
  rintro e w' ⟨rfl, rfl⟩
  clear sa sb
  go_wp2_with fail
  refine (putFileB hI1 hb1.size a za).mono ?_
  rintro e w3 ⟨o3, h3, hI3, hb3⟩
  obtain ⟨rfl, rfl⟩ := file_first h3 za
  have b3 := hb1.trans hb3
  go_wp2_with fail
  refine (putFileB hI3 b3.size b zb).mono ?_
  rintro e w4 ⟨o4, h4, hI4, hb4⟩
  obtain ⟨rfl, rfl⟩ := file_other h4 zb HN.out
  have b4 := b3.trans hb4
  clear h3 h4 hI1 hI3 hb1 hb3 hb4 b3
  go_wp2_with fail
  refine (objectsB hI4 2 rfl).mono ?_
  rintro e w' ⟨rfl, rfl⟩
  go_wp2_with fail
  refine (getFileB hI4 b4.size 0 a rfl).mono ?_
  rintro e w5 ⟨rfl, hI5, hb5⟩
  have b5 := b4.trans hb5
  go_wp2_with fail
  refine (getFileB hI5 b5.size 1 b rfl).mono ?_
  rintro e w6 ⟨rfl, hI6, hb6⟩
  have b6 := b5.trans hb6
  clear hI4 hI5 hb5 hb6 b4 b5
  have HT : Hid (TwoFiles [fileOb a, fileOb b] 1 2) := Or.inr ⟨a, b, rfl, rfl, rfl⟩
  go_wp2_with fail
  refine (putDirB hI6 b6.size ⟨#[107]⟩ ⟨#[98]⟩ 1 2 (by decide) (by decide)).mono ?_
  rintro e w7 ⟨o7, h7, hI7, hb7⟩
  obtain ⟨rfl, o, ho1, ho2, ho3, rfl⟩ := dir_new h7 HT.out (.inl rfl)
  have b7 := b6.trans hb7
  have HK : Hid (o.kind = 2) := ho1
  have HE : Hid (o.ents = [(⟨#[98]⟩, 1, 2), (⟨#[107]⟩, 1, 1)]) := ho2
  clear h7 hb7 hI6 b6 ho1 ho2 ho3
  go_wp2_with fail
  refine (putDirB hI7 b7.size ⟨#[98]⟩ ⟨#[107]⟩ 2 1 (by decide) (by decide)).mono ?_
  rintro e w8 ⟨o8, h8, hI8, hb8⟩
  obtain ⟨rfl, rfl⟩ := dir_again HK.out HE.out h8 HT.out (.inr rfl)
  have b8 := b7.trans hb8
  clear h8 hb8 hI7 b7
  go_wp2_with fail
  refine (getDirB hI8 b8.size HK.out ⟨#[98]⟩ ⟨#[107]⟩ 2 1 HE.out _ rfl).mono ?_
  rintro e w9 ⟨g, rfl, ⟨c0, c1, c2, c3, c4, c5⟩, hI9, hb9⟩
  have b9 := b8.trans hb9
  clear hI8 b8 hb9
  go_wp2_with fail
  refine (objectsB hI9 3 rfl).mono ?_
  rintro e w' ⟨rfl, rfl⟩
  clear hI9
  go_wp2
  go_ret
  exact ⟨rfl, b9⟩

theorem walk (a0 : ByteArray) (a1 : ByteArray) (w0 : a0.size ≤ maxLen) (w1 : a1.size ≤ maxLen) (w : World) :
    Calls Try.prog 3 #[.string a0, .string a1] w fun e w' => e = .returned (.bool true) ∧ Below w.heap.size w w' := by
  have sa : ∀ W, Calls Try.prog 5 #[.string a0] W fun e w' => e = .returned (.string (cut256 a0)) ∧ w' = W := fun W => short_any a0 W w0
  have sb : ∀ W, Calls Try.prog 5 #[.string a1] W fun e w' => e = .returned (.string (cut256 a1)) ∧ w' = W := fun W => short_any a1 W w1
  by_cases hab : cut256 a0 = cut256 a1
  · rw [← hab] at sb
    exact walk_same a0 a1 (cut256 a0) w (cut_size a0) sa sb
  · refine walk_other a0 a1 (cut256 a0) (cut256 a1) w (cut_size a0) (cut_size a1) ?_ hab sa sb
    rw [beq_eq_false_iff_ne]
    exact fun h => hab (bytes_eq h)

end Go.Proofs.Ytogeefmegegnnaa
