/-
  What is proved here: Mkdir, Remove and Rename of a workspace, walked over whatever the tree answers.
-/
import Derived.Test.YtehpnebekgahnaaGreatAskM12
import Derived.Test.YtehpnebekgahnaaGreatAskM40
import Derived.Test.YtehpnebekgahnaaGreatAskM41
namespace Go.Proofs.YtehpnebekgahnaaGreat
open Go.RowKit Go.Sort Go.Shelf
set_option linter.unusedVariables false

theorem TabAt.below {w w' : World} {b : Nat} {vs : Nat → Option Nat} (h : TabAt w b vs) (hb : Below w.heap.size w w') : TabAt w' b vs :=
  ⟨Nat.lt_of_lt_of_le h.1 hb.size, fun k hk => ((bcell hb).1 b _ h.1).trans (h.2.1 k hk), fun o => ((bcell hb).2 b o h.1).trans (h.2.2 o)⟩

set_option maxRecDepth 100000 in
set_option maxHeartbeats 1000000 in
theorem mkdir_ws (wb bt : Nat) (l : List ByteArray) (hl : Good l) (er : Int) (R : World → Prop) (w : World) (hwb : wb < w.heap.size) (c0 : w.cell? ⟨wb, 0, none⟩ = some (.pointer (some ⟨bt, 0, none⟩)))
    (hc : ∀ W, Below w.heap.size w W → Calls Tryz.prog 48 #[.pointer (some ⟨bt, 0, none⟩), .agg (pathA l)] W fun e w' => e = .returned (.int .i64 er) ∧ R w') :
    Calls Tryz.prog 25 #[.pointer (some ⟨wb, 0, none⟩), .string (joinB l)] w fun e w' => e = .returned (.int .i64 er) ∧ R w' := by
  have hpa := fun W => parse_any l hl W
  obtain ⟨s0, s1, s2, s3, s4, hP⟩ : ∃ s0 s1 s2 s3 s4, pathA l = #[.string s0, .string s1, .string s2, .string s3, .string s4] := ⟨_, _, _, _, _, rfl⟩
  unfold pathV at hpa
  simp only [hP] at hpa hc
  have HC : Hid _ := hc
  clear hc hP hl
  generalize joinB l = tx at hpa ⊢
  go_enter Tryz.func25, Tryz.ntmps25
  go_wp2_with (go_at_call 26; refine Calls.mono (hpa _) ?_; rintro e w1 ⟨rfl, hb1⟩; have d0 := ((bcell hb1).1 wb 0 hwb).trans c0; have hw1 := Nat.lt_of_lt_of_le hwb hb1.size)
  have hcc := HC.out (w1.alloc (.cells #[.string s0, .string s1, .string s2, .string s3, .string s4] 67)).drew (below_drew (hb1.alloc hb1.size _))
  have HCC : Hid _ := hcc
  clear hcc HC
  go_region_with (go_at_call 48; refine Calls.mono HCC.out ?_; rintro e w2 ⟨rfl, hR⟩)
  all_goals
    go_wp2
    go_ret
    exact ⟨rfl, hR⟩
set_option maxRecDepth 100000 in
set_option maxHeartbeats 1000000 in
theorem remove_ws (wb bt : Nat) (l : List ByteArray) (hl : Good l) (er : Int) (R : World → Prop) (w : World) (hwb : wb < w.heap.size) (c0 : w.cell? ⟨wb, 0, none⟩ = some (.pointer (some ⟨bt, 0, none⟩)))
    (hc : ∀ W, Below w.heap.size w W → Calls Tryz.prog 31 #[.pointer (some ⟨bt, 0, none⟩), .agg (pathA l)] W fun e w' => e = .returned (.int .i64 er) ∧ R w') :
    Calls Tryz.prog 9 #[.pointer (some ⟨wb, 0, none⟩), .string (joinB l)] w fun e w' => e = .returned (.int .i64 er) ∧ R w' := by
  have hpa := fun W => parse_any l hl W
  obtain ⟨s0, s1, s2, s3, s4, hP⟩ : ∃ s0 s1 s2 s3 s4, pathA l = #[.string s0, .string s1, .string s2, .string s3, .string s4] := ⟨_, _, _, _, _, rfl⟩
  unfold pathV at hpa
  simp only [hP] at hpa hc
  have HC : Hid _ := hc
  clear hc hP hl
  generalize joinB l = tx at hpa ⊢
  go_enter Tryz.func9, Tryz.ntmps9
  go_wp2_with (go_at_call 26; refine Calls.mono (hpa _) ?_; rintro e w1 ⟨rfl, hb1⟩; have d0 := ((bcell hb1).1 wb 0 hwb).trans c0; have hw1 := Nat.lt_of_lt_of_le hwb hb1.size)
  have hcc := HC.out (w1.alloc (.cells #[.string s0, .string s1, .string s2, .string s3, .string s4] 67)).drew (below_drew (hb1.alloc hb1.size _))
  have HCC : Hid _ := hcc
  clear hcc HC
  go_region_with (go_at_call 31; refine Calls.mono HCC.out ?_; rintro e w2 ⟨rfl, hR⟩)
  all_goals
    go_wp2
    go_ret
    exact ⟨rfl, hR⟩
set_option maxRecDepth 100000 in
set_option maxHeartbeats 1000000 in
theorem rename_ws (wb bt : Nat) (l m : List ByteArray) (hl : Good l) (hm : Good m) (er : Int) (R : World → Prop) (w : World) (hwb : wb < w.heap.size) (c0 : w.cell? ⟨wb, 0, none⟩ = some (.pointer (some ⟨bt, 0, none⟩)))
    (hc : ∀ W, Below w.heap.size w W → Calls Tryz.prog 32 #[.pointer (some ⟨bt, 0, none⟩), .agg (pathA l), .agg (pathA m)] W fun e w' => e = .returned (.int .i64 er) ∧ R w') :
    Calls Tryz.prog 10 #[.pointer (some ⟨wb, 0, none⟩), .string (joinB l), .string (joinB m)] w fun e w' => e = .returned (.int .i64 er) ∧ R w' := by
  have hpa := fun W => parse_any l hl W
  have hpb := fun W => parse_any m hm W
  obtain ⟨s0, s1, s2, s3, s4, hP⟩ : ∃ s0 s1 s2 s3 s4, pathA l = #[.string s0, .string s1, .string s2, .string s3, .string s4] := ⟨_, _, _, _, _, rfl⟩
  obtain ⟨d0, d1, d2, d3, d4, hQ⟩ : ∃ s0 s1 s2 s3 s4, pathA m = #[.string s0, .string s1, .string s2, .string s3, .string s4] := ⟨_, _, _, _, _, rfl⟩
  unfold pathV at hpa hpb
  simp only [hP] at hpa hc
  simp only [hQ] at hpb hc
  have HC : Hid _ := hc
  clear hc hP hQ hl hm
  generalize joinB l = tx at hpa ⊢
  generalize joinB m = ty at hpb ⊢
  go_enter Tryz.func10, Tryz.ntmps10
  go_wp2_with fail
  refine Calls.mono (hpa w) ?_
  rintro e w1 ⟨rfl, hb1⟩
  have e0 := ((bcell hb1).1 wb 0 hwb).trans c0
  have hw1 := Nat.lt_of_lt_of_le hwb hb1.size
  have b1 : Below w.heap.size w (w1.alloc (.cells #[.string s0, .string s1, .string s2, .string s3, .string s4] 67)) := hb1.alloc hb1.size _
  have z1 : w1.heap.size < (w1.alloc (.cells #[.string s0, .string s1, .string s2, .string s3, .string s4] 67)).heap.size := by simp
  have zb : wb < (w1.alloc (.cells #[.string s0, .string s1, .string s2, .string s3, .string s4] 67)).heap.size := by simp; omega
  go_wp2_with fail
  refine Calls.mono (hpb _) ?_
  rintro e w2 ⟨rfl, hb2⟩
  have f0 := ((bcell (below_via b1 hb2)).1 wb 0 hwb).trans c0
  have k1 := fun o => (bcell hb2).1 w1.heap.size o z1
  have hw2 := Nat.lt_of_lt_of_le zb hb2.size
  have hw21 := Nat.lt_of_lt_of_le z1 hb2.size
  have b2 := below_via b1 hb2
  have hcc := HC.out (w2.alloc (.cells #[.string d0, .string d1, .string d2, .string d3, .string d4] 67)).drew (below_drew (b2.alloc b2.size _))
  have HCC : Hid _ := hcc
  clear hcc HC hpa hpb hb1 hb2 b1 b2 e0
  go_wp2
  go_region_with (go_at_call 32; refine Calls.mono HCC.out ?_; rintro e w3 ⟨rfl, hR⟩)
  all_goals
    go_wp2
    go_ret
    exact ⟨rfl, hR⟩

set_option maxRecDepth 100000 in
set_option maxHeartbeats 1000000 in
theorem open_ws_err (wb bt k : Nat) (vs : Nat → Option Nat) (fg : Int) (l : List ByteArray) (hl : Good l) (er : Int) (her : er ≠ 0) (R : World → Prop) (w : World) (ht : TabAt w wb vs) (c0 : w.cell? ⟨wb, 0, none⟩ = some (.pointer (some ⟨bt, 0, none⟩))) (hk : k < 8) (h0 : vs k = none) (h1 : ∀ j, j < k → vs j ≠ none)
    (hv : ∀ W, Calls Tryz.prog 27 #[.int .i64 fg] W fun e w' => e = .returned (.bool true) ∧ w' = W)
    (hc : ∀ W, Below w.heap.size w W → Calls Tryz.prog 29 #[.pointer (some ⟨bt, 0, none⟩), .agg (pathA l), .int .i64 fg] W fun e w' => e = .returned (.tuple #[.pointer none, .int .i64 er]) ∧ R w') :
    Calls Tryz.prog 7 #[.pointer (some ⟨wb, 0, none⟩), .string (joinB l), .int .i64 fg] w fun e w' => e = .returned (.tuple #[.int .i64 0, .int .i64 er]) ∧ R w' := by
  have hpa := fun W => parse_any l hl W
  have hwb := ht.1
  have her' : (er == 0) = false := by simpa using her
  obtain ⟨s0, s1, s2, s3, s4, hP⟩ : ∃ s0 s1 s2 s3 s4, pathA l = #[.string s0, .string s1, .string s2, .string s3, .string s4] := ⟨_, _, _, _, _, rfl⟩
  unfold pathV at hpa
  simp only [hP] at hpa hc
  have hfr := fun W (hb : Below w.heap.size w W) => free_walk wb k vs W (ht.below hb) hk h0 h1
  have HFR : Hid _ := hfr
  have HC : Hid _ := hc
  clear hc hP hl hfr ht h0 h1
  generalize joinB l = tx at hpa ⊢
  go_enter Tryz.func7, Tryz.ntmps7
  go_wp2_with (first
    | (go_at_call 26; refine Calls.mono (hpa _) ?_; rintro e w1 ⟨rfl, hb1⟩; have e0 := ((bcell hb1).1 wb 0 hwb).trans c0; have hw1 := Nat.lt_of_lt_of_le hwb hb1.size)
    | (go_at_call 27; refine Calls.mono (hv _) ?_; rintro e w2 ⟨rfl, rfl⟩)
    | (go_at_call 28; go_loud (refine Calls.mono (HFR.out _ (hb1.alloc hb1.size _)) ?_; rintro e w3 ⟨rfl, rfl⟩)))
  have hcc := HC.out (w1.alloc (.cells #[.string s0, .string s1, .string s2, .string s3, .string s4] 67)).drew (below_drew (hb1.alloc hb1.size _))
  have HCC : Hid _ := hcc
  clear hcc HC
  go_region_with (go_at_call 29; refine Calls.mono HCC.out ?_; rintro e w4 ⟨rfl, hR⟩)
  all_goals
    go_wp2
    go_ret2
    exact ⟨rfl, hR⟩

set_option maxRecDepth 100000 in
set_option maxHeartbeats 1000000 in
theorem open_ws_ok (wb bt k : Nat) (vs : Nat → Option Nat) (fg : Int) (l : List ByteArray) (hl : Good l) (S : Nat → World → Prop) (w : World) (ht : TabAt w wb vs) (c0 : w.cell? ⟨wb, 0, none⟩ = some (.pointer (some ⟨bt, 0, none⟩))) (hk : k < 8) (h0 : vs k = none) (h1 : ∀ j, j < k → vs j ≠ none)
    (hv : ∀ W, Calls Tryz.prog 27 #[.int .i64 fg] W fun e w' => e = .returned (.bool true) ∧ w' = W)
    (hc : ∀ W, Below w.heap.size w W → Calls Tryz.prog 29 #[.pointer (some ⟨bt, 0, none⟩), .agg (pathA l), .int .i64 fg] W fun e w' => ∃ f, e = .returned (.tuple #[.pointer (some ⟨f, 0, none⟩), .int .i64 0]) ∧ S f w')
    (hS : ∀ f w', S f w' → TabAt w' wb vs) :
    Calls Tryz.prog 7 #[.pointer (some ⟨wb, 0, none⟩), .string (joinB l), .int .i64 fg] w fun e w' => e = .returned (.tuple #[.int .i64 (k : Int), .int .i64 0]) ∧ ∃ f w1, S f w1 ∧ w' = (w1.setCell ⟨wb, 1 + k, none⟩ (.pointer (some ⟨w1.heap.size, 0, none⟩))).alloc (.cells #[.pointer (some ⟨f, 0, none⟩), .int .i64 fg, .int .i64 0] 112) := by
  have hpa := fun W => parse_any l hl W
  have hwb := ht.1
  obtain ⟨s0, s1, s2, s3, s4, hP⟩ : ∃ s0 s1 s2 s3 s4, pathA l = #[.string s0, .string s1, .string s2, .string s3, .string s4] := ⟨_, _, _, _, _, rfl⟩
  unfold pathV at hpa
  simp only [hP] at hpa hc
  have hfr := fun W (hb : Below w.heap.size w W) => free_walk wb k vs W (ht.below hb) hk h0 h1
  have hpt := fun f w1 (h : S f w1) => tput_walk wb k f fg _ w1 (hS f w1 h).1 ((hS f w1 h).2.1 k hk) ((hS f w1 h).2.2 _) hk
  have HFR : Hid _ := hfr
  have HC : Hid _ := hc
  have HPT : Hid _ := hpt
  clear hc hP hl hfr ht h0 h1 hpt hS
  generalize joinB l = tx at hpa ⊢
  go_enter Tryz.func7, Tryz.ntmps7
  go_wp2_with (first
    | (go_at_call 26; refine Calls.mono (hpa _) ?_; rintro e w1 ⟨rfl, hb1⟩; have e0 := ((bcell hb1).1 wb 0 hwb).trans c0; have hw1 := Nat.lt_of_lt_of_le hwb hb1.size)
    | (go_at_call 27; refine Calls.mono (hv _) ?_; rintro e w2 ⟨rfl, rfl⟩)
    | (go_at_call 28; go_loud (refine Calls.mono (HFR.out _ (hb1.alloc hb1.size _)) ?_; rintro e w3 ⟨rfl, rfl⟩)))
  have hcc := HC.out (w1.alloc (.cells #[.string s0, .string s1, .string s2, .string s3, .string s4] 67)).drew (below_drew (hb1.alloc hb1.size _))
  have HCC : Hid _ := hcc
  clear hcc HC
  go_region_with (go_at_call 29; refine Calls.mono HCC.out ?_; rintro e w4 ⟨f, rfl, hS4⟩; have HS4 : Hid _ := hS4; clear hS4)
  all_goals
    go_wp2_with (go_at_call 30; go_loud (refine Calls.mono (HPT.out _ _ HS4.out) ?_; rintro e w5 ⟨rfl, rfl⟩))
    go_ret2
    exact ⟨rfl, f, w4, HS4.out, rfl⟩

set_option maxRecDepth 100000 in
set_option maxHeartbeats 400000 in
theorem read_ws (wb k o : Nat) (n : Int) (d : ByteArray) (er : Int) (R : World → Prop) (w : World) (hc : w.cell? ⟨wb, 1 + k, none⟩ = some (.pointer (some ⟨o, 0, none⟩))) (hk : k < 8)
    (hr : Calls Tryz.prog 37 #[.pointer (some ⟨o, 0, none⟩), .int .i64 n] w fun e w' => e = .returned (.tuple #[.string d, .int .i64 er]) ∧ R w') :
    Calls Tryz.prog 13 #[.pointer (some ⟨wb, 0, none⟩), .int .i64 (k : Int), .int .i64 n] w fun e w' => e = .returned (.tuple #[.string d, .int .i64 er]) ∧ R w' := by
  have hat := tat_some wb k o w hc hk
  go_enter Tryz.func13, Tryz.ntmps13
  go_wp2_with (first
    | (go_at_call 35; refine hat.mono ?_; rintro e w1 ⟨rfl, rfl⟩)
    | (go_at_call 37; refine hr.mono ?_; rintro e w1 ⟨rfl, hR⟩))
  go_ret2
  exact ⟨rfl, hR⟩
set_option maxRecDepth 100000 in
set_option maxHeartbeats 400000 in
theorem write_ws (wb k o : Nat) (d : ByteArray) (er : Int) (R : World → Prop) (w : World) (hc : w.cell? ⟨wb, 1 + k, none⟩ = some (.pointer (some ⟨o, 0, none⟩))) (hk : k < 8)
    (hr : Calls Tryz.prog 36 #[.pointer (some ⟨o, 0, none⟩), .string d] w fun e w' => e = .returned (.int .i64 er) ∧ R w') :
    Calls Tryz.prog 12 #[.pointer (some ⟨wb, 0, none⟩), .int .i64 (k : Int), .string d] w fun e w' => e = .returned (.int .i64 er) ∧ R w' := by
  have hat := tat_some wb k o w hc hk
  go_enter Tryz.func12, Tryz.ntmps12
  go_wp2_with (first
    | (go_at_call 35; refine hat.mono ?_; rintro e w1 ⟨rfl, rfl⟩)
    | (go_at_call 36; refine hr.mono ?_; rintro e w1 ⟨rfl, hR⟩))
  go_ret
  exact ⟨rfl, hR⟩
set_option maxRecDepth 100000 in
set_option maxHeartbeats 400000 in
theorem seek_ws (wb k o : Nat) (a er : Int) (R : World → Prop) (w : World) (hc : w.cell? ⟨wb, 1 + k, none⟩ = some (.pointer (some ⟨o, 0, none⟩))) (hk : k < 8)
    (hr : Calls Tryz.prog 38 #[.pointer (some ⟨o, 0, none⟩), .int .i64 a] w fun e w' => e = .returned (.int .i64 er) ∧ R w') :
    Calls Tryz.prog 14 #[.pointer (some ⟨wb, 0, none⟩), .int .i64 (k : Int), .int .i64 a] w fun e w' => e = .returned (.int .i64 er) ∧ R w' := by
  have hat := tat_some wb k o w hc hk
  go_enter Tryz.func14, Tryz.ntmps14
  go_wp2_with (first
    | (go_at_call 35; refine hat.mono ?_; rintro e w1 ⟨rfl, rfl⟩)
    | (go_at_call 38; refine hr.mono ?_; rintro e w1 ⟨rfl, hR⟩))
  go_ret
  exact ⟨rfl, hR⟩
set_option maxRecDepth 100000 in
set_option maxHeartbeats 400000 in
theorem close_ws (wb k o : Nat) (w : World) (hwb : wb < w.heap.size) (hc : w.cell? ⟨wb, 1 + k, none⟩ = some (.pointer (some ⟨o, 0, none⟩))) (hf : w.frozen? ⟨wb, 1 + k, none⟩ = false) (hk : k < 8) :
    Calls Tryz.prog 34 #[.pointer (some ⟨wb, 0, none⟩), .int .i64 (k : Int)] w fun e w' => e = .returned (.int .i64 0) ∧ w' = w.setCell ⟨wb, 1 + k, none⟩ (.pointer none) := by
  have hcl := tclose_some wb k o w hwb hc hf hk
  go_enter Tryz.func34, Tryz.ntmps34
  go_wp2_with (go_at_call 73; refine hcl.mono ?_; rintro e w1 ⟨rfl, rfl⟩)
  go_ret
  exact ⟨rfl, rfl⟩
end Go.Proofs.YtehpnebekgahnaaGreat
