/-
  What is proved here: what canopykeep's steps leave of the root: the file e stands there as it was stored, beside at most four other names; no file has been fetched. Mkdir, Remove and Rename of a workspace, walked over whatever the tree answers.
-/
import Derived.Test.YtajopoddmfdejaaGreatBackM10
import Derived.Test.YtajopoddmfdejaaGreatBackM37
import Derived.Test.YtajopoddmfdejaaGreatBackM35
import Derived.Test.YtajopoddmfdejaaGreatBackM36
namespace Go.Proofs.YtajopoddmfdejaaGreat
open Go.RowKit Go.Sort Go.Shelf
set_option linter.unusedVariables false

/-! ### no file is fetched -/
def FS.Q (s s' : FS) : Prop := s'.kF = s.kF ∧ (s.brk = false → s'.brk = false)
theorem FS.Q.refl (s : FS) : s.Q s := ⟨rfl, id⟩
theorem FS.Q.trans {s s' s'' : FS} (h : s.Q s') (k : s'.Q s'') : s.Q s'' := ⟨k.1.trans h.1, fun hb => k.2 (h.2 hb)⟩
theorem q_dir (s : FS) (id : Int) : s.Q (s.dirG id).1 := by
  unfold FS.dirG
  split
  · exact FS.Q.refl _
  · split
    · exact ⟨rfl, fun _ => rfl⟩
    · exact ⟨rfl, fun h => h⟩
theorem q_kids (objs : List Ob) (s : FS) (c : LT) : s.Q (kidsG objs s c).1 := by
  cases c with
  | dir id =>
    have := q_dir s id
    show s.Q (if (s.dirG id).2 = true then ((s.dirG id).1, (0 : Int), (entsOf objs id).map kidOf) else ((s.dirG id).1, 14, [])).1
    split <;> exact this
  | file id => exact FS.Q.refl _
  | held f => exact FS.Q.refl _
  | own es => exact FS.Q.refl _
theorem q_find (objs : List Ob) (t : LT) (s : FS) : ∀ r, s.Q (findR objs t s r).1
  | [] => FS.Q.refl _
  | n :: r => by
    have ih := q_find objs t s r
    have hk := q_kids objs (findR objs t s r).1 (findR objs t s r).2.2
    rw [findR]
    simp only
    split
    · exact ih
    · split
      · exact ih.trans hk
      · split <;> exact ih.trans hk
theorem q_look (objs : List Ob) (t : LT) (s : FS) (r : List ByteArray) : s.Q (lookR objs t s r).1 := by
  have ih := q_find objs t s r
  have hk := q_kids objs (findR objs t s r).1 (findR objs t s r).2.2
  unfold lookR
  simp only
  split
  · exact ih
  · exact ih.trans hk
theorem q_vacant (objs : List Ob) (s : FS) (c : LT) : s.Q (vacantG objs s c).1 := by
  have hk := q_kids objs s c
  unfold vacantG
  split
  · exact FS.Q.refl _
  · simp only
    split <;> exact hk
theorem q_room (objs : List Ob) (s : FS) (b : Bool) (ks : Kids) (n : ByteArray) (c : LT) : s.Q (roomG objs s b ks n c).1 := by
  unfold roomG
  split
  · rename_i e _
    unfold yieldsG
    split
    · exact FS.Q.refl _
    · split
      · exact FS.Q.refl _
      · exact q_vacant objs s e
  · split <;> exact FS.Q.refl _
theorem q_mkdir (objs : List Ob) (t : LT) (s : FS) (n : ByteArray) (r : List ByteArray) : s.Q (mkdirR objs t s (n :: r)).1 := by
  have h := q_look objs t s r
  unfold mkdirR
  simp only
  split
  · exact h
  · split
    · exact h
    · split <;> exact h
theorem q_remove (objs : List Ob) (t : LT) (s : FS) (n : ByteArray) (r : List ByteArray) : s.Q (removeR objs t s (n :: r)).1 := by
  have h := q_find objs t s (n :: r)
  have hv := q_vacant objs (findR objs t s (n :: r)).1 (findR objs t s (n :: r)).2.2
  unfold removeR
  simp only
  split
  · exact h
  · split <;> exact h.trans hv
theorem q_rename (objs : List Ob) (t : LT) (s : FS) (n m : ByteArray) (r q : List ByteArray) : s.Q (renameR objs t s (n :: r) (m :: q)).1 := by
  have h := q_find objs t s (n :: r)
  have hl := q_look objs t (findR objs t s (n :: r)).1 q
  have hr := q_room objs (lookR objs t (findR objs t s (n :: r)).1 q).1 (decide (r = q)) (lookR objs t (findR objs t s (n :: r)).1 q).2.2 m (findR objs t s (n :: r)).2.2
  unfold renameR
  simp only
  split
  · exact h
  · split
    · exact h
    · split
      · exact h.trans hl
      · split
        · exact (h.trans hl).trans hr
        · split <;> exact (h.trans hl).trans hr

/-! ### the root -/
/-- e stands at the root as it was stored; beside it are only names of paths. -/
def RootOk (objs : List Ob) (t : LT) : Prop := ∃ ks, kids objs t = some ks ∧ pickK ks nameE = some (.file 1) ∧ ∀ x ∈ ks, x.1 ∈ letters ∨ x.1 = nameE

theorem root_mod {objs : List Ob} {t : LT} (h : RootOk objs t) (f : Kids → Kids) (q : List ByteArray) (hf : q = [] → ∀ ks, kids objs t = some ks → pickK ks nameE = some (.file 1) → (∀ x ∈ ks, x.1 ∈ letters ∨ x.1 = nameE) → pickK (f ks) nameE = some (.file 1) ∧ ∀ x ∈ f ks, x.1 ∈ letters ∨ x.1 = nameE) (hq : ∀ m r, q = m :: r → m ≠ nameE) : RootOk objs (modG objs f q t) := by
  obtain ⟨ks, h1, h2, h3⟩ := h
  cases q with
  | nil =>
    obtain ⟨a, b⟩ := hf rfl ks h1 h2 h3
    exact ⟨f ks, by rw [modG_kids, h1]; rfl, a, b⟩
  | cons m r =>
    refine ⟨_, modG_cons objs f m r t, ?_, fun x hx => ?_⟩
    · rw [h1, Option.getD_some, pick_map, if_neg (fun e => hq m r rfl e.symm)]
      exact h2
    · rw [h1, Option.getD_some] at hx
      obtain ⟨y, hy, rfl⟩ := List.mem_map.1 hx
      by_cases e : y.1 = m
      · rw [if_pos e]; exact h3 y hy
      · rw [if_neg e]; exact h3 y hy

theorem root_put {objs : List Ob} (hS : Sound objs) {k : Nat} {t : LT} (hok : LTok objs k t) (h : RootOk objs t) {q : List ByteArray} {n : ByteArray} (hl : ∀ x ∈ q ++ [n], x ∈ letters) (c : LT) : RootOk objs (modG objs (fun ks => putK ks n c) q t) := by
  have hn := letter_valid (hl n (by simp))
  refine root_mod h _ q (fun _ ks hk he hx => ?_) (fun m r e => (letter_valid (hl m (by rw [e]; simp))).2.1)
  have hr := (ok_kids hS hok hk).1
  refine ⟨by rw [pick_put hr, if_neg (fun e => hn.2.1 e.symm)]; exact he, fun x hx' => ?_⟩
  rcases mapK_mem hx' with rfl | hx'
  · exact .inl (hl n (by simp))
  · exact hx x hx'
theorem root_drop {objs : List Ob} (hS : Sound objs) {k : Nat} {t : LT} (hok : LTok objs k t) (h : RootOk objs t) {q : List ByteArray} {n : ByteArray} (hl : ∀ x ∈ q ++ [n], x ∈ letters) (hth : q = [] → ∀ ks, kids objs t = some ks → thereK ks n = true) : RootOk objs (modG objs (fun ks => dropK ks n) q t) := by
  have hn := letter_valid (hl n (by simp))
  refine root_mod h _ q (fun hq ks hk he hx => ?_) (fun m r e => (letter_valid (hl m (by rw [e]; simp))).2.1)
  have hr := (ok_kids hS hok hk).1
  exact ⟨by rw [pick_drop hr (hth hq ks hk), if_neg (fun e => hn.2.1 e.symm)]; exact he, fun x hx' => hx x (dropK_mem hx')⟩

theorem root_mkdir {objs : List Ob} (hS : Sound objs) {t : LT} (hok : LTok objs 5 t) (h : RootOk objs t) (fs : FS) {n : ByteArray} {r : List ByteArray} (hl : ∀ x ∈ r.reverse ++ [n], x ∈ letters) : RootOk objs (mkdirR objs t fs (n :: r)).2.2 := by
  unfold mkdirR
  simp only
  split
  · exact h
  · split
    · exact h
    · split
      · exact h
      · exact root_put hS hok h hl _
theorem root_remove {objs : List Ob} (hS : Sound objs) {t : LT} (hok : LTok objs 5 t) (h : RootOk objs t) (fs : FS) {n : ByteArray} {r : List ByteArray} (hl : ∀ x ∈ r.reverse ++ [n], x ∈ letters) : RootOk objs (removeR objs t fs (n :: r)).2.2 := by
  unfold removeR
  simp only
  split
  · exact h
  · rename_i hf
    split
    · exact h
    · obtain ⟨a, _, _, d, ks, h1, h2, h3⟩ := find_way (objs := objs) (t := t) (fs := fs) (n := n) (r := r) (fs' := (findR objs t fs (n :: r)).1) (c := (findR objs t fs (n :: r)).2.2) (by rw [← Decidable.not_not.1 hf])
      refine root_drop hS hok h hl (fun hq ks' hk' => ?_)
      rw [hq, at_nil] at h1
      cases h1
      rw [hk'] at h2
      cases h2
      rw [← pick_there (ok_kids hS hok hk').1, h3]; rfl
theorem root_rename {objs : List Ob} (hS : Sound objs) {t : LT} (hok : LTok objs 5 t) (h : RootOk objs t) (fs : FS) {n m : ByteArray} {r q : List ByteArray} (hl : ∀ x ∈ r.reverse ++ [n], x ∈ letters) (hm : ∀ x ∈ q.reverse ++ [m], x ∈ letters) : RootOk objs (renameR objs t fs (n :: r) (m :: q)).2.2 := by
  unfold renameR
  simp only
  split
  · exact h
  · rename_i hf
    split
    · exact h
    · split
      · exact h
      · split
        · exact h
        · split
          · exact h
          · obtain ⟨a, _, _, d, ks, h1, h2, h3⟩ := find_way (objs := objs) (t := t) (fs := fs) (n := n) (r := r) (fs' := (findR objs t fs (n :: r)).1) (c := (findR objs t fs (n :: r)).2.2) (by rw [← Decidable.not_not.1 hf])
            refine root_put hS (drop_ok hS hok h1 h2 n) (root_drop hS hok h hl (fun hq ks' hk' => ?_)) hm _
            rw [hq, at_nil] at h1
            cases h1
            rw [hk'] at h2
            cases h2
            rw [← pick_there (ok_kids hS hok hk').1, h3]; rfl
theorem Letters.split {l : List ByteArray} (h : Letters l) : ∃ (n : ByteArray) (r : List ByteArray), l = r.reverse ++ [n] := by
  have hne : l ≠ [] := fun e => by have := h.pos; rw [e] at this; simp at this
  exact ⟨l.getLast hne, l.dropLast.reverse, by rw [List.reverse_reverse, List.dropLast_concat_getLast]⟩
end Go.Proofs.YtajopoddmfdejaaGreat

namespace Go.Proofs.YtajopoddmfdejaaGreat
open Go.RowKit Go.Sort Go.Shelf
set_option linter.unusedVariables false

theorem TabAt.below {w w' : World} {b : Nat} {vs : Nat → Option Nat} (h : TabAt w b vs) (hb : Below w.heap.size w w') : TabAt w' b vs :=
  ⟨Nat.lt_of_lt_of_le h.1 hb.size, fun k hk => ((bcell hb).1 b _ h.1).trans (h.2.1 k hk), fun o => ((bcell hb).2 b o h.1).trans (h.2.2 o)⟩

set_option maxRecDepth 100000 in
set_option maxHeartbeats 1000000 in
theorem mkdir_ws (wb bt : Nat) (l : List ByteArray) (hl : Good l) (er : Int) (R : World → Prop) (w : World) (hwb : wb < w.heap.size) (c0 : w.cell? ⟨wb, 0, none⟩ = some (.pointer (some ⟨bt, 0, none⟩)))
    (hc : ∀ W, Below w.heap.size w W → Calls Tryz.prog 47 #[.pointer (some ⟨bt, 0, none⟩), .agg (pathA l)] W fun e w' => e = .returned (.int .i64 er) ∧ R w') :
    Calls Tryz.prog 23 #[.pointer (some ⟨wb, 0, none⟩), .string (joinB l)] w fun e w' => e = .returned (.int .i64 er) ∧ R w' := by
  have hpa := fun W => parse_any l hl W
  obtain ⟨s0, s1, s2, s3, s4, hP⟩ : ∃ s0 s1 s2 s3 s4, pathA l = #[.string s0, .string s1, .string s2, .string s3, .string s4] := ⟨_, _, _, _, _, rfl⟩
  unfold pathV at hpa
  simp only [hP] at hpa hc
  have HC : Hid _ := hc
  clear hc hP hl
  generalize joinB l = tx at hpa ⊢
  go_enter Tryz.func23, Tryz.ntmps23
  go_wp2_with (go_at_call 46; refine Calls.mono (hpa _) ?_; rintro e w1 ⟨rfl, hb1⟩; have d0 := ((bcell hb1).1 wb 0 hwb).trans c0; have hw1 := Nat.lt_of_lt_of_le hwb hb1.size)
  have hcc := HC.out (w1.alloc (.cells #[.string s0, .string s1, .string s2, .string s3, .string s4] 104)).drew (below_drew (hb1.alloc hb1.size _))
  have HCC : Hid _ := hcc
  clear hcc HC
  go_region_with (go_at_call 47; refine Calls.mono HCC.out ?_; rintro e w2 ⟨rfl, hR⟩)
  all_goals
    go_wp2
    go_ret
    exact ⟨rfl, hR⟩
set_option maxRecDepth 100000 in
set_option maxHeartbeats 1000000 in
theorem remove_ws (wb bt : Nat) (l : List ByteArray) (hl : Good l) (er : Int) (R : World → Prop) (w : World) (hwb : wb < w.heap.size) (c0 : w.cell? ⟨wb, 0, none⟩ = some (.pointer (some ⟨bt, 0, none⟩)))
    (hc : ∀ W, Below w.heap.size w W → Calls Tryz.prog 49 #[.pointer (some ⟨bt, 0, none⟩), .agg (pathA l)] W fun e w' => e = .returned (.int .i64 er) ∧ R w') :
    Calls Tryz.prog 25 #[.pointer (some ⟨wb, 0, none⟩), .string (joinB l)] w fun e w' => e = .returned (.int .i64 er) ∧ R w' := by
  have hpa := fun W => parse_any l hl W
  obtain ⟨s0, s1, s2, s3, s4, hP⟩ : ∃ s0 s1 s2 s3 s4, pathA l = #[.string s0, .string s1, .string s2, .string s3, .string s4] := ⟨_, _, _, _, _, rfl⟩
  unfold pathV at hpa
  simp only [hP] at hpa hc
  have HC : Hid _ := hc
  clear hc hP hl
  generalize joinB l = tx at hpa ⊢
  go_enter Tryz.func25, Tryz.ntmps25
  go_wp2_with (go_at_call 46; refine Calls.mono (hpa _) ?_; rintro e w1 ⟨rfl, hb1⟩; have d0 := ((bcell hb1).1 wb 0 hwb).trans c0; have hw1 := Nat.lt_of_lt_of_le hwb hb1.size)
  have hcc := HC.out (w1.alloc (.cells #[.string s0, .string s1, .string s2, .string s3, .string s4] 104)).drew (below_drew (hb1.alloc hb1.size _))
  have HCC : Hid _ := hcc
  clear hcc HC
  go_region_with (go_at_call 49; refine Calls.mono HCC.out ?_; rintro e w2 ⟨rfl, hR⟩)
  all_goals
    go_wp2
    go_ret
    exact ⟨rfl, hR⟩
set_option maxRecDepth 100000 in
set_option maxHeartbeats 1000000 in
theorem rename_ws (wb bt : Nat) (l m : List ByteArray) (hl : Good l) (hm : Good m) (er : Int) (R : World → Prop) (w : World) (hwb : wb < w.heap.size) (c0 : w.cell? ⟨wb, 0, none⟩ = some (.pointer (some ⟨bt, 0, none⟩)))
    (hc : ∀ W, Below w.heap.size w W → Calls Tryz.prog 48 #[.pointer (some ⟨bt, 0, none⟩), .agg (pathA l), .agg (pathA m)] W fun e w' => e = .returned (.int .i64 er) ∧ R w') :
    Calls Tryz.prog 24 #[.pointer (some ⟨wb, 0, none⟩), .string (joinB l), .string (joinB m)] w fun e w' => e = .returned (.int .i64 er) ∧ R w' := by
  have hpa := fun W => parse_any l hl W
  have hpb := fun W => parse_any m hm W
  obtain ⟨s0, s1, s2, s3, s4, hP⟩ : ∃ s0 s1 s2 s3 s4, pathA l = #[.string s0, .string s1, .string s2, .string s3, .string s4] := ⟨_, _, _, _, _, rfl⟩
  obtain ⟨d0, d1, d2, d3, d4, hQ⟩ : ∃ s0 s1 s2 s3 s4, pathA m = #[.string s0, .string s1, .string s2, .string s3, .string s4] := ⟨_, _, _, _, _, rfl⟩
  unfold pathV at hpa hpb
  simp only [hP] at hpa hc
  simp only [hQ] at hpb hc
  have HC : Hid _ := hc
  clear hc hP hQ hl hm
  generalize joinB l = tx at hpa ⊢
  generalize joinB m = ty at hpb ⊢
  go_enter Tryz.func24, Tryz.ntmps24
  go_wp2_with fail
  refine Calls.mono (hpa w) ?_
  rintro e w1 ⟨rfl, hb1⟩
  have e0 := ((bcell hb1).1 wb 0 hwb).trans c0
  have hw1 := Nat.lt_of_lt_of_le hwb hb1.size
  have b1 : Below w.heap.size w (w1.alloc (.cells #[.string s0, .string s1, .string s2, .string s3, .string s4] 104)) := hb1.alloc hb1.size _
  have z1 : w1.heap.size < (w1.alloc (.cells #[.string s0, .string s1, .string s2, .string s3, .string s4] 104)).heap.size := by simp
  have zb : wb < (w1.alloc (.cells #[.string s0, .string s1, .string s2, .string s3, .string s4] 104)).heap.size := by simp; omega
  go_wp2_with fail
  refine Calls.mono (hpb _) ?_
  rintro e w2 ⟨rfl, hb2⟩
  have f0 := ((bcell (below_via b1 hb2)).1 wb 0 hwb).trans c0
  have k1 := fun o => (bcell hb2).1 w1.heap.size o z1
  have hw2 := Nat.lt_of_lt_of_le zb hb2.size
  have hw21 := Nat.lt_of_lt_of_le z1 hb2.size
  have b2 := below_via b1 hb2
  have hcc := HC.out (w2.alloc (.cells #[.string d0, .string d1, .string d2, .string d3, .string d4] 104)).drew (below_drew (b2.alloc b2.size _))
  have HCC : Hid _ := hcc
  clear hcc HC hpa hpb hb1 hb2 b1 b2 e0
  go_wp2
  go_region_with (go_at_call 48; refine Calls.mono HCC.out ?_; rintro e w3 ⟨rfl, hR⟩)
  all_goals
    go_wp2
    go_ret
    exact ⟨rfl, hR⟩

set_option maxRecDepth 100000 in
set_option maxHeartbeats 1000000 in
theorem open_ws_err (wb bt k : Nat) (vs : Nat → Option Nat) (fg : Int) (l : List ByteArray) (hl : Good l) (er : Int) (her : er ≠ 0) (R : World → Prop) (w : World) (ht : TabAt w wb vs) (c0 : w.cell? ⟨wb, 0, none⟩ = some (.pointer (some ⟨bt, 0, none⟩))) (hk : k < 8) (h0 : vs k = none) (h1 : ∀ j, j < k → vs j ≠ none)
    (hv : ∀ W, Calls Tryz.prog 90 #[.int .i64 fg] W fun e w' => e = .returned (.bool true) ∧ w' = W)
    (hc : ∀ W, Below w.heap.size w W → Calls Tryz.prog 92 #[.pointer (some ⟨bt, 0, none⟩), .agg (pathA l), .int .i64 fg] W fun e w' => e = .returned (.tuple #[.pointer none, .int .i64 er]) ∧ R w') :
    Calls Tryz.prog 50 #[.pointer (some ⟨wb, 0, none⟩), .string (joinB l), .int .i64 fg] w fun e w' => e = .returned (.tuple #[.int .i64 0, .int .i64 er]) ∧ R w' := by
  have hpa := fun W => parse_any l hl W
  have hwb := ht.1
  have her' : (er == 0) = false := by simpa using her
  obtain ⟨s0, s1, s2, s3, s4, hP⟩ : ∃ s0 s1 s2 s3 s4, pathA l = #[.string s0, .string s1, .string s2, .string s3, .string s4] := ⟨_, _, _, _, _, rfl⟩
  unfold pathV at hpa
  simp only [hP] at hpa hc
  have hfr := fun W (hb : Below w.heap.size w W) => free_walk wb k vs W (ht.below hb) hk h0 h1
  have HFR : Hid _ := hfr
  have HC : Hid _ := hc
  clear hc hP hl hfr ht h0 h1
  generalize joinB l = tx at hpa ⊢
  go_enter Tryz.func50, Tryz.ntmps50
  go_wp2_with (first
    | (go_at_call 46; refine Calls.mono (hpa _) ?_; rintro e w1 ⟨rfl, hb1⟩; have e0 := ((bcell hb1).1 wb 0 hwb).trans c0; have hw1 := Nat.lt_of_lt_of_le hwb hb1.size)
    | (go_at_call 90; refine Calls.mono (hv _) ?_; rintro e w2 ⟨rfl, rfl⟩)
    | (go_at_call 91; go_loud (refine Calls.mono (HFR.out _ (hb1.alloc hb1.size _)) ?_; rintro e w3 ⟨rfl, rfl⟩)))
  have hcc := HC.out (w1.alloc (.cells #[.string s0, .string s1, .string s2, .string s3, .string s4] 104)).drew (below_drew (hb1.alloc hb1.size _))
  have HCC : Hid _ := hcc
  clear hcc HC
  go_region_with (go_at_call 92; refine Calls.mono HCC.out ?_; rintro e w4 ⟨rfl, hR⟩)
  all_goals
    go_wp2
    go_ret2
    exact ⟨rfl, hR⟩

set_option maxRecDepth 100000 in
set_option maxHeartbeats 1000000 in
theorem open_ws_ok (wb bt k : Nat) (vs : Nat → Option Nat) (fg : Int) (l : List ByteArray) (hl : Good l) (S : Nat → World → Prop) (w : World) (ht : TabAt w wb vs) (c0 : w.cell? ⟨wb, 0, none⟩ = some (.pointer (some ⟨bt, 0, none⟩))) (hk : k < 8) (h0 : vs k = none) (h1 : ∀ j, j < k → vs j ≠ none)
    (hv : ∀ W, Calls Tryz.prog 90 #[.int .i64 fg] W fun e w' => e = .returned (.bool true) ∧ w' = W)
    (hc : ∀ W, Below w.heap.size w W → Calls Tryz.prog 92 #[.pointer (some ⟨bt, 0, none⟩), .agg (pathA l), .int .i64 fg] W fun e w' => ∃ f, e = .returned (.tuple #[.pointer (some ⟨f, 0, none⟩), .int .i64 0]) ∧ S f w')
    (hS : ∀ f w', S f w' → TabAt w' wb vs) :
    Calls Tryz.prog 50 #[.pointer (some ⟨wb, 0, none⟩), .string (joinB l), .int .i64 fg] w fun e w' => e = .returned (.tuple #[.int .i64 (k : Int), .int .i64 0]) ∧ ∃ f w1, S f w1 ∧ w' = (w1.setCell ⟨wb, 1 + k, none⟩ (.pointer (some ⟨w1.heap.size, 0, none⟩))).alloc (.cells #[.pointer (some ⟨f, 0, none⟩), .int .i64 fg, .int .i64 0] 208) := by
  have hpa := fun W => parse_any l hl W
  have hwb := ht.1
  obtain ⟨s0, s1, s2, s3, s4, hP⟩ : ∃ s0 s1 s2 s3 s4, pathA l = #[.string s0, .string s1, .string s2, .string s3, .string s4] := ⟨_, _, _, _, _, rfl⟩
  unfold pathV at hpa
  simp only [hP] at hpa hc
  have hfr := fun W (hb : Below w.heap.size w W) => free_walk wb k vs W (ht.below hb) hk h0 h1
  have hpt := fun f w1 (h : S f w1) => tput_walk wb k f fg _ w1 (hS f w1 h).1 ((hS f w1 h).2.1 k hk) ((hS f w1 h).2.2 _) hk
  have HFR : Hid _ := hfr
  have HC : Hid _ := hc
  have HPT : Hid _ := hpt
  clear hc hP hl hfr ht h0 h1 hpt hS
  generalize joinB l = tx at hpa ⊢
  go_enter Tryz.func50, Tryz.ntmps50
  go_wp2_with (first
    | (go_at_call 46; refine Calls.mono (hpa _) ?_; rintro e w1 ⟨rfl, hb1⟩; have e0 := ((bcell hb1).1 wb 0 hwb).trans c0; have hw1 := Nat.lt_of_lt_of_le hwb hb1.size)
    | (go_at_call 90; refine Calls.mono (hv _) ?_; rintro e w2 ⟨rfl, rfl⟩)
    | (go_at_call 91; go_loud (refine Calls.mono (HFR.out _ (hb1.alloc hb1.size _)) ?_; rintro e w3 ⟨rfl, rfl⟩)))
  have hcc := HC.out (w1.alloc (.cells #[.string s0, .string s1, .string s2, .string s3, .string s4] 104)).drew (below_drew (hb1.alloc hb1.size _))
  have HCC : Hid _ := hcc
  clear hcc HC
  go_region_with (go_at_call 92; refine Calls.mono HCC.out ?_; rintro e w4 ⟨f, rfl, hS4⟩; have HS4 : Hid _ := hS4; clear hS4)
  all_goals
    go_wp2_with (go_at_call 93; go_loud (refine Calls.mono (HPT.out _ _ HS4.out) ?_; rintro e w5 ⟨rfl, rfl⟩))
    go_ret2
    exact ⟨rfl, f, w4, HS4.out, rfl⟩

set_option maxRecDepth 100000 in
set_option maxHeartbeats 400000 in
theorem read_ws (wb k o : Nat) (n : Int) (d : ByteArray) (er : Int) (R : World → Prop) (w : World) (hc : w.cell? ⟨wb, 1 + k, none⟩ = some (.pointer (some ⟨o, 0, none⟩))) (hk : k < 8)
    (hr : Calls Tryz.prog 107 #[.pointer (some ⟨o, 0, none⟩), .int .i64 n] w fun e w' => e = .returned (.tuple #[.string d, .int .i64 er]) ∧ R w') :
    Calls Tryz.prog 63 #[.pointer (some ⟨wb, 0, none⟩), .int .i64 (k : Int), .int .i64 n] w fun e w' => e = .returned (.tuple #[.string d, .int .i64 er]) ∧ R w' := by
  have hat := tat_some wb k o w hc hk
  go_enter Tryz.func63, Tryz.ntmps63
  go_wp2_with (first
    | (go_at_call 94; refine hat.mono ?_; rintro e w1 ⟨rfl, rfl⟩)
    | (go_at_call 107; refine hr.mono ?_; rintro e w1 ⟨rfl, hR⟩))
  go_ret2
  exact ⟨rfl, hR⟩
set_option maxRecDepth 100000 in
set_option maxHeartbeats 400000 in
theorem write_ws (wb k o : Nat) (d : ByteArray) (er : Int) (R : World → Prop) (w : World) (hc : w.cell? ⟨wb, 1 + k, none⟩ = some (.pointer (some ⟨o, 0, none⟩))) (hk : k < 8)
    (hr : Calls Tryz.prog 95 #[.pointer (some ⟨o, 0, none⟩), .string d] w fun e w' => e = .returned (.int .i64 er) ∧ R w') :
    Calls Tryz.prog 51 #[.pointer (some ⟨wb, 0, none⟩), .int .i64 (k : Int), .string d] w fun e w' => e = .returned (.int .i64 er) ∧ R w' := by
  have hat := tat_some wb k o w hc hk
  go_enter Tryz.func51, Tryz.ntmps51
  go_wp2_with (first
    | (go_at_call 94; refine hat.mono ?_; rintro e w1 ⟨rfl, rfl⟩)
    | (go_at_call 95; refine hr.mono ?_; rintro e w1 ⟨rfl, hR⟩))
  go_ret
  exact ⟨rfl, hR⟩
set_option maxRecDepth 100000 in
set_option maxHeartbeats 400000 in
theorem close_ws (wb k o : Nat) (w : World) (hwb : wb < w.heap.size) (hc : w.cell? ⟨wb, 1 + k, none⟩ = some (.pointer (some ⟨o, 0, none⟩))) (hf : w.frozen? ⟨wb, 1 + k, none⟩ = false) (hk : k < 8) :
    Calls Tryz.prog 52 #[.pointer (some ⟨wb, 0, none⟩), .int .i64 (k : Int)] w fun e w' => e = .returned (.int .i64 0) ∧ w' = w.setCell ⟨wb, 1 + k, none⟩ (.pointer none) := by
  have hcl := tclose_some wb k o w hwb hc hf hk
  go_enter Tryz.func52, Tryz.ntmps52
  go_wp2_with (go_at_call 96; refine hcl.mono ?_; rintro e w1 ⟨rfl, rfl⟩)
  go_ret
  exact ⟨rfl, rfl⟩
end Go.Proofs.YtajopoddmfdejaaGreat
