/-
  What is proved here: Open, Remove and Rename of a workspace at paths of one name, whatever files are open. Stat of a file that the workspace holds, at a path of one name; and where nothing stands. Stat of a tree at a path of one name: a held file's size, or that nothing stands there. Stat of a workspace at a path of one name: a held file's size, or that nothing stands there.
-/
import Derived.Test.YtajopoddmfdejaaGreatBackM46
import Derived.Test.YtajopoddmfdejaaGreatBackM40
namespace Go.Proofs.YtajopoddmfdejaaGreat
open Go.RowKit Go.Sort Go.Shelf
set_option linter.unusedVariables false

theorem good_one {n : ByteArray} (h : validB n = true) : Good [n] := ⟨fun x hx => by rw [List.mem_singleton.1 hx]; exact h, by simp⟩

/-- The table as the open files have it. -/
def opT (g : WG) : Nat → Option Nat := fun k => (g.op k).map (·.1)

section
variable {s i p : Nat} {B : WB} {objs : List Ob}

theorem ws_tab {tg : Tags} {w : World} {g : WG} {lim : Nat} (h : WInv tg w s i p B objs g lim) : TabAt w B.wb (opT g) ∧ w.cell? ⟨B.wb, 0, none⟩ = some (.pointer (some ⟨B.bt, 0, none⟩)) := h.wp.opens.tab

theorem openTo_mono {sz sz' : Nat} {fl fl' : Nat → Option (Int × ByteArray)} {ks : Kids} {t t' : LT} {q : List ByteArray} {n : ByteArray} {tr : Bool} {f : Nat} (h : OpenTo objs sz fl ks t q n tr f fl' t') (hs : sz' ≤ sz) : OpenTo objs sz' fl ks t q n tr f fl' t' := by
  rcases h with ⟨a, b, c⟩ | h | ⟨id, a, b, c⟩
  · exact .inl ⟨a, Nat.le_trans hs b, c⟩
  · exact .inr (.inl h)
  · exact .inr (.inr ⟨id, a, Nat.le_trans hs b, c⟩)

theorem openTo_file {sz : Nat} {fl fl' : Nat → Option (Int × ByteArray)} {ks : Kids} {t t' : LT} {q : List ByteArray} {n : ByteArray} {tr : Bool} {f : Nat} (h : OpenTo objs sz fl ks t q n tr f fl' t') (hh : ∀ f, pickK ks n = some (.held f) → ∃ x, fl f = some x) : ∃ x, fl' f = some x := by
  rcases h with ⟨_, _, _, rfl⟩ | ⟨a, _, rfl⟩ | ⟨id, _, _, _, rfl⟩
  · exact ⟨_, updN_same _ _ _⟩
  · split
    · exact ⟨_, updN_same _ _ _⟩
    · exact hh f a
  · split <;> exact ⟨_, updN_same _ _ _⟩

theorem hopen {tg : Tags} {w : World} {g : WG} {lim : Nat} {t : LT} (h : WInv tg w s i p B objs g lim) (hl : lim + 1000 < 1099511627776) (hF : Flat objs t g.ft) (hok : LTok objs 5 t) {n : ByteArray} (hn : validB n = true) (fg : Int) (h0 : 0 ≤ fg) (h64 : fg < 64) (ex cr tr : Bool) (hex : (bits BinOp.and IntKind.i64 fg 8 != 0) = ex) (hcr : (bits BinOp.and IntKind.i64 fg 4 != 0) = cr) (htr : (bits BinOp.and IntKind.i64 fg 16 != 0) = tr)
    (hv : ∀ W, Calls Tryz.prog 90 #[.int .i64 fg] W fun e w' => e = .returned (.bool true) ∧ w' = W) {k : Nat} (hk : k < 8) (hk0 : g.op k = none) (hk1 : ∀ j, j < k → g.op j ≠ none)
    {fs' : FS} {ks : Kids} (hlk : lookR objs t g.fs [] = (fs', 0, ks)) (hoe : openE ks n ex cr = 0) (hhd : ∀ f, pickK ks n = some (.held f) → ∃ x, g.fl f = some x) :
    Calls Tryz.prog 50 #[.pointer (some ⟨B.wb, 0, none⟩), .string n, .int .i64 fg] w fun e w' => e = .returned (.tuple #[.int .i64 (k : Int), .int .i64 0]) ∧ ∃ tg' g' t' b f, Moves (Mine i) tg tg' w w' ∧ WInv tg' w' s i p B objs g' (lim + 300) ∧ Flat objs t' g'.ft ∧ LTok objs 5 t' ∧ g'.fs = fs' ∧ g'.op = updN g.op k (some (b, f, fg, 0)) ∧ OpenTo objs w.heap.size g.fl ks t [] n tr f g'.fl t' := by
  obtain ⟨htab, c0⟩ := ws_tab h
  have hopn := fun W (hb : Below w.heap.size w W) => open_walk (n := n) (r := []) (h.below hb) (by omega) hF hok (good_one hn) fg ex cr tr hex hcr htr
  simp only [hlk] at hopn
  have hw := open_ws_ok B.wb B.bt k (opT g) fg [n] (good_one hn) (fun f w' => ∃ tg' g' t', Moves (Mine i) tg tg' w w' ∧ WInv tg' w' s i p B objs g' (lim + 300) ∧ Flat objs t' g'.ft ∧ LTok objs 5 t' ∧ g'.fs = fs' ∧ g'.op = g.op ∧ OpenTo objs w.heap.size g.fl ks t [] n tr f g'.fl t') w htab c0 hk (by unfold opT; rw [hk0]; rfl) (fun j hj e => hk1 j hj (by unfold opT at e; cases ho : g.op j with | none => rfl | some x => rw [ho] at e; cases e)) hv (fun W hb => (hopn W hb).mono ?_) ?_
  · rw [joinB_one] at hw
    refine hw.mono ?_
    rintro e w' ⟨he, f, w1, ⟨tg1, g1, t1, m1, hW1, hF1, hO1, hs1, ho1, hT1⟩, rfl⟩
    obtain ⟨x, hx⟩ := openTo_file hT1 hhd
    obtain ⟨m2, hW2⟩ := hW1.open_at (k := k) (f := f) (fg := fg) hk hx h0 h64
    refine ⟨he, _, _, t1, w1.heap.size, f, m1.trans (m2.mono (fun x hx => .inr (by rw [hx]))), hW2, hF1, hO1, hs1, ?_, hT1⟩
    show updN g1.op k _ = _
    rw [ho1]
  · rintro e w' (⟨hx, _⟩ | ⟨_, hx, _⟩ | ⟨_, _, f, tg', ft', fl', t', he, m, hW, hF', hO', hT⟩)
    · exact absurd rfl hx
    · exact absurd hoe hx
    · exact ⟨f, he, tg', _, t', call_moves hb m, hW, hF', hO', rfl, rfl, openTo_mono hT hb.size⟩
  · rintro f w' ⟨tg', g', t', m, hW, _, _, _, ho, _⟩
    have := (ws_tab hW).1
    unfold opT at this ⊢
    rw [ho] at this
    exact this

theorem hremove {tg : Tags} {w : World} {g : WG} {lim : Nat} {t t' : LT} (h : WInv tg w s i p B objs g lim) (hl : lim + 1000 < 1099511627776) (hF : Flat objs t g.ft) (hok : LTok objs 5 t) {n : ByteArray} (hn : validB n = true) {fs' : FS} (hr : removeR objs t g.fs [n] = (fs', 0, t')) :
    Calls Tryz.prog 25 #[.pointer (some ⟨B.wb, 0, none⟩), .string n] w fun e w' => e = .returned (.int .i64 0) ∧ Left s i p B objs tg w w' g fs' t' (lim + 300) := by
  obtain ⟨htab, c0⟩ := ws_tab h
  have hw := remove_ws B.wb B.bt [n] (good_one hn) 0 (fun w' => Left s i p B objs tg w w' g fs' t' (lim + 300)) w htab.1 c0 (fun W hb => ?_)
  · rw [joinB_one] at hw; exact hw
  · have := remove_walk (n := n) (r := []) (h.below hb) (by omega) hF hok (good_one hn)
    simp only [hr] at this
    exact this.mono (fun e w' ⟨h1, h2⟩ => ⟨h1, left_via hb h2⟩)

theorem hrename {tg : Tags} {w : World} {g : WG} {lim : Nat} {t t' : LT} (h : WInv tg w s i p B objs g lim) (hl : lim + 1000 < 1099511627776) (hF : Flat objs t g.ft) (hok : LTok objs 5 t) {n m : ByteArray} (hn : validB n = true) (hm : validB m = true) {fs' : FS} (hr : renameR objs t g.fs [n] [m] = (fs', 0, t')) :
    Calls Tryz.prog 24 #[.pointer (some ⟨B.wb, 0, none⟩), .string n, .string m] w fun e w' => e = .returned (.int .i64 0) ∧ Left s i p B objs tg w w' g fs' t' (lim + 400) := by
  obtain ⟨htab, c0⟩ := ws_tab h
  have hw := rename_ws B.wb B.bt [n] [m] (good_one hn) (good_one hm) 0 (fun w' => Left s i p B objs tg w w' g fs' t' (lim + 400)) w htab.1 c0 (fun W hb => ?_)
  · rw [joinB_one, joinB_one] at hw; exact hw
  · have := rename_walk (nf := n) (rf := []) (nt := m) (rt := []) (h.below hb) (by omega) hF hok (good_one hn) (good_one hm)
    simp only [hr] at this
    exact this.mono (fun e w' ⟨h1, h2⟩ => ⟨h1, left_via hb h2⟩)
end
end Go.Proofs.YtajopoddmfdejaaGreat

namespace Go.Proofs.YtajopoddmfdejaaGreat
open Go.RowKit Go.Sort Go.Shelf
set_option linter.unusedVariables false

section
variable {s i p : Nat} {B : WB} {objs : List Ob}

theorem OwnF.look1 {tg : Tags} {w : World} {of : List ByteArray → Option Nat} {lim : Nat} (h : OwnF tg w i B of lim) {q : List ByteArray} (hq : Good q) {W : World} (hb : Below w.heap.size w W) :
    (Instr.lookup 127 (.map (some B.oF)) (.agg (pathA q)) false).run Tryz.prog W = .ok (((of q).map ptr).getD (.pointer none)) W := by
  obtain ⟨_, ⟨n, _, M, hV, hM, _⟩, _⟩ := h
  have := (hV.keep (w' := W) (hb.block _ hV.lt)).look lawP Tryz.underlying127 (zeroFp W) (keyVP hq)
  have hMq : M (keyP Tryz.prog q) = (of q).map ptr := hM q hq
  rw [hMq] at this
  exact this
theorem bytes_held {fl : Nat → Option (Int × ByteArray)} {fs : FS} {f : Nat} {d : ByteArray} (hf : fl f = some (0, d)) : bytesG objs fl fs f = (fs, 0, d) := by
  simp [bytesG, hf]

set_option maxRecDepth 100000 in
set_option maxHeartbeats 1000000 in
theorem tbytes_own {tg : Tags} {w : World} {g : WG} {lim f : Nat} {d nm : ByteArray} (h : WInv tg w s i p B objs g lim) (hl : lim < 1099511627776) (hfl : FlOk objs g.fl) {q : List ByteArray} (hq : Good q) (hf : g.ft.of q = some f) {x : Int × ByteArray} (hx : g.fl f = some x) (hbz : bytesG objs g.fl g.fs f = (g.fs, 0, d)) :
    Calls Tryz.prog 142 #[.pointer (some ⟨B.bt, 0, none⟩), .agg (pathA q), .agg #[.string nm, .int .i64 1, .int .i64 0]] w fun en w' => en = .returned (.tuple #[.string d, .int .i64 0]) ∧ DidF s i p B objs tg w w' g (lim + 1) := by
  have hb0 : Below w.heap.size w ((w.alloc (.cells (pathA q) 104)).alloc (.cells #[.string nm, .int .i64 1, .int .i64 0] 76)).drew := below_drew (((Below.refl _ _).alloc (Nat.le_refl _) _).alloc (by simp) _)
  have hlk := h.wp.ownF.look1 hq hb0
  rw [hf] at hlk
  have hby := bytes_any (h.below hb0) hl hfl hx
  rw [hbz] at hby
  obtain ⟨tb, t7, t8⟩ := h.treeAt
  obtain ⟨s0, s1, s2, s3, s4, hP⟩ : ∃ s0 s1 s2 s3 s4, pathA q = #[.string s0, .string s1, .string s2, .string s3, .string s4] := ⟨_, _, _, _, _, rfl⟩
  rw [hP] at hlk hb0 hby ⊢
  simp only [Option.map_some, Option.getD_some, ptr] at hlk
  have HB : Hid _ := hb0
  have HBY : Hid _ := hby
  clear h hb0 hby
  go_enter Tryz.func142, Tryz.ntmps142
  go_wp2
  go_region_with (go_at_call 135; refine Calls.mono HBY.out ?_; rintro e w2 ⟨rfl, hD⟩)
  all_goals
    go_wp2
    go_ret2
    exact ⟨rfl, hD.via HB.out⟩

set_option maxRecDepth 100000 in
set_option maxHeartbeats 1000000 in
theorem tsize_walk (t : Nat) (s0 s1 s2 s3 s4 nm d : ByteArray) (R : World → Prop) (w : World)
    (hby : Calls Tryz.prog 142 #[.pointer (some ⟨t, 0, none⟩), .agg #[.string s0, .string s1, .string s2, .string s3, .string s4], .agg #[.string nm, .int .i64 1, .int .i64 0]] ((w.alloc (.cells #[.string s0, .string s1, .string s2, .string s3, .string s4] 104)).alloc (.cells #[.string nm, .int .i64 1, .int .i64 0] 76)) fun en w' => en = .returned (.tuple #[.string d, .int .i64 0]) ∧ R w') :
    Calls Tryz.prog 100 #[.pointer (some ⟨t, 0, none⟩), .agg #[.string s0, .string s1, .string s2, .string s3, .string s4], .agg #[.string nm, .int .i64 1, .int .i64 0]] w fun en w' => en = .returned (.tuple #[.int .i64 (d.size : Int), .int .i64 0]) ∧ R w' := by
  have HBY : Hid _ := hby
  clear hby
  go_enter Tryz.func100, Tryz.ntmps100
  go_wp2_with fail
  refine Calls.mono HBY.out ?_
  rintro e w2 ⟨rfl, hR⟩
  go_wp2
  go_ret2
  exact ⟨rfl, hR⟩

theorem tsize_own {tg : Tags} {w : World} {g : WG} {lim f : Nat} {d nm : ByteArray} (h : WInv tg w s i p B objs g lim) (hl : lim < 1099511627776) (hfl : FlOk objs g.fl) {q : List ByteArray} (hq : Good q) (hf : g.ft.of q = some f) {x : Int × ByteArray} (hx : g.fl f = some x) (hbz : bytesG objs g.fl g.fs f = (g.fs, 0, d)) :
    Calls Tryz.prog 100 #[.pointer (some ⟨B.bt, 0, none⟩), .agg (pathA q), .agg #[.string nm, .int .i64 1, .int .i64 0]] w fun en w' => en = .returned (.tuple #[.int .i64 (d.size : Int), .int .i64 0]) ∧ DidF s i p B objs tg w w' g (lim + 1) := by
  have hb0 : Below w.heap.size w ((w.alloc (.cells (pathA q) 104)).alloc (.cells #[.string nm, .int .i64 1, .int .i64 0] 76)) := ((Below.refl _ _).alloc (Nat.le_refl _) _).alloc (by simp) _
  exact tsize_walk B.bt _ _ _ _ _ nm d _ w ((tbytes_own (h.below hb0) hl hfl hq hf hx hbz).mono (fun e w' ⟨h1, h2⟩ => ⟨h1, h2.via hb0⟩))
end
end Go.Proofs.YtajopoddmfdejaaGreat

namespace Go.Proofs.YtajopoddmfdejaaGreat
open Go.RowKit Go.Sort Go.Shelf
set_option linter.unusedVariables false

section
variable {s i p : Nat} {B : WB} {objs : List Ob}

theorem fresh_block {P : Nat × Nat → Prop} {tg tg' : Tags} {W w' : World} {b : Nat} {o : Obj} (hP : ¬ P (0, 0)) (ht : tg b = (0, 0)) (m : Moves P tg tg' W w') (hb : W.heap[b]? = some o) : w'.heap[b]? = some o ∧ tg' b = (0, 0) := by
  have hlt := (Array.getElem?_eq_some_iff.1 hb).1
  exact ⟨(m.block b hlt (by rw [ht]; exact hP)).trans hb, (m.tags b hlt).trans ht⟩
theorem not_fetch0 (hi : 2 ≤ i) : ¬ Fetches i (0, 0) := by
  rintro (h | h | h)
  · cases h
  · injection h with h1 h2; omega
  · injection h with h1 h2; omega

theorem grown_alloc {w w' : World} {b : Nat} {o : Obj} (h : w.grownBy w' (some b)) : w.grownBy (w'.alloc o) (some b) := by
  obtain ⟨h1, h2, h3, h4, h5⟩ := h
  refine ⟨h1, h2, h3, by simp; omega, fun k hk hb => ?_⟩
  rw [Below.heap_alloc _ _ _ (Nat.lt_of_lt_of_le hk h4)]
  exact h5 k hk hb

/-- The cells of the answer that is being made. -/
def InfoAt (w : World) (b : Nat) : Prop := w.heap[b]? = some (.cells #[.int .i64 0, .int .i64 0] 60 (0, 0))
theorem InfoAt.cells {w : World} {b : Nat} (h : InfoAt w b) : b < w.heap.size ∧ w.cell? ⟨b, 0, none⟩ = some (.int .i64 0) ∧ w.cell? ⟨b, 1, none⟩ = some (.int .i64 0) ∧ ∀ o, w.frozen? ⟨b, o, none⟩ = false := by
  unfold InfoAt at h
  exact ⟨(Array.getElem?_eq_some_iff.1 h).1, by simp only [World.cell?, h]; rfl, by simp only [World.cell?, h]; rfl, fun o => by simp only [World.frozen?, h]; simp⟩

set_option maxRecDepth 100000 in
set_option maxHeartbeats 1000000 in
theorem tstat_err (t : Nat) (s0 s1 s2 s3 s4 a : ByteArray) (k id er : Int) (R : World → Prop) (w : World) (her : (er == 0) = false)
    (hfind : Calls Tryz.prog 80 #[.pointer (some ⟨t, 0, none⟩), .agg #[.string s0, .string s1, .string s2, .string s3, .string s4]] ((w.alloc (.cells #[.string s0, .string s1, .string s2, .string s3, .string s4] 104)).alloc (.cells #[.int .i64 0, .int .i64 0] 60)) fun e w' => e = .returned (.tuple #[.agg #[.string a, .int .i64 k, .int .i64 id], .int .i64 er]) ∧ InfoAt w' (w.heap.size + 1) ∧ R w') :
    Calls Tryz.prog 54 #[.pointer (some ⟨t, 0, none⟩), .agg #[.string s0, .string s1, .string s2, .string s3, .string s4]] w fun e w' => e = .returned (.tuple #[.agg #[.int .i64 0, .int .i64 0], .int .i64 er]) ∧ ∃ w3, R w3 ∧ w3.grownBy w' (some (w.heap.size + 1)) := by
  have HF : Hid _ := hfind
  clear hfind
  go_enter Tryz.func54, Tryz.ntmps54
  go_wp2_with fail
  refine Calls.mono HF.out ?_
  rintro e w3 ⟨rfl, hblk, hR⟩
  obtain ⟨hlt, c0, c1, f0⟩ := hblk.cells
  have HRR : Hid _ := hR
  clear hblk hR HF
  go_wp2
  refine bodyPost_ret (v := .tuple #[.agg #[.int .i64 0, .int .i64 0], .int .i64 er]) (by simp [results, Tryz.results54, go_sem, c0, c1, hlt]) rfl ?_
  exact ⟨rfl, w3, HRR.out, grown_alloc (grown_set (grown_set (grown_refl _ _)))⟩

set_option maxRecDepth 100000 in
set_option maxHeartbeats 1000000 in
theorem tstat_ok (t : Nat) (s0 s1 s2 s3 s4 a : ByteArray) (sz : Int) (R : World → Prop) (R2 : World → Prop) (w : World)
    (hfind : Calls Tryz.prog 80 #[.pointer (some ⟨t, 0, none⟩), .agg #[.string s0, .string s1, .string s2, .string s3, .string s4]] ((w.alloc (.cells #[.string s0, .string s1, .string s2, .string s3, .string s4] 104)).alloc (.cells #[.int .i64 0, .int .i64 0] 60)) fun e w' => e = .returned (.tuple #[.agg #[.string a, .int .i64 1, .int .i64 0], .int .i64 0]) ∧ InfoAt w' (w.heap.size + 1) ∧ (∀ o, w'.cell? ⟨w.heap.size, o, none⟩ = ((w.alloc (.cells #[.string s0, .string s1, .string s2, .string s3, .string s4] 104)).alloc (.cells #[.int .i64 0, .int .i64 0] 60)).cell? ⟨w.heap.size, o, none⟩) ∧ R w')
    (hsize : ∀ w', R w' → InfoAt w' (w.heap.size + 1) → Calls Tryz.prog 100 #[.pointer (some ⟨t, 0, none⟩), .agg #[.string s0, .string s1, .string s2, .string s3, .string s4], .agg #[.string a, .int .i64 1, .int .i64 0]] (w'.alloc (.cells #[.string a, .int .i64 1, .int .i64 0] 76)) fun e w4 => e = .returned (.tuple #[.int .i64 sz, .int .i64 0]) ∧ InfoAt w4 (w.heap.size + 1) ∧ (∀ o, w4.cell? ⟨w'.heap.size, o, none⟩ = (w'.alloc (.cells #[.string a, .int .i64 1, .int .i64 0] 76)).cell? ⟨w'.heap.size, o, none⟩) ∧ w'.heap.size < w4.heap.size ∧ R2 w4) :
    Calls Tryz.prog 54 #[.pointer (some ⟨t, 0, none⟩), .agg #[.string s0, .string s1, .string s2, .string s3, .string s4]] w fun e w' => e = .returned (.tuple #[.agg #[.int .i64 1, .int .i64 sz], .int .i64 0]) ∧ ∃ w4, R2 w4 ∧ w4.grownBy w' (some (w.heap.size + 1)) := by
  have HF : Hid _ := hfind
  have HSZ : Hid _ := hsize
  clear hfind hsize
  go_enter Tryz.func54, Tryz.ntmps54
  go_wp2_with fail
  refine Calls.mono HF.out ?_
  rintro e w3 ⟨rfl, hblk, hkp, hR⟩
  obtain ⟨hlt, c0, c1, f0⟩ := hblk.cells
  have hz3 : w.heap.size < w3.heap.size := by omega
  have hs := HSZ.out w3 hR hblk
  have HS : Hid _ := hs
  clear hblk hR HF HSZ hs
  go_wp2_with fail
  refine Calls.mono HS.out ?_
  rintro e w4 ⟨rfl, hblk4, hkp4, hlt4, hR4⟩
  obtain ⟨hl4, d0, d1, g0⟩ := hblk4.cells
  have HR4 : Hid _ := hR4
  clear hblk4 hR4 HS
  go_wp2
  refine bodyPost_ret (v := .tuple #[.agg #[.int .i64 1, .int .i64 sz], .int .i64 0]) (by simp [results, Tryz.results54, go_sem, d0, d1]) rfl ?_
  exact ⟨rfl, w4, HR4.out, grown_set (grown_set (grown_refl _ _))⟩
end
end Go.Proofs.YtajopoddmfdejaaGreat

namespace Go.Proofs.YtajopoddmfdejaaGreat
open Go.RowKit Go.Sort Go.Shelf
set_option linter.unusedVariables false

section
variable {s i p : Nat} {B : WB} {objs : List Ob}

theorem own_of {ks : Kids} {ft : FT} (hF : Flat objs (.own ks) ft) {n : ByteArray} {f : Nat} (h : pickK ks n = some (.held f)) : ft.of [n] = some f := by
  rw [hF.of, at_cons]
  show ofOf ((pickK ks n).bind _) = _
  rw [h, Option.bind_some, at_nil]; rfl

theorem own_findF {ks : Kids} {ft : FT} {fs : FS} (hS : Sound objs) (hF : Flat objs (.own ks) ft) (hok : LTok objs 5 (.own ks)) {n : ByteArray} {f : Nat} (h : pickK ks n = some (.held f)) : findF objs ft fs [n] = (fs, 0, n, 1, 0) := by
  obtain ⟨f1, f2, f3⟩ := flat_find hS hF hok fs [n]
  rw [own_find_some h] at f1 f2 f3
  obtain ⟨f4, _⟩ := f3 rfl
  generalize findF objs ft fs [n] = a at f1 f2 f4
  obtain ⟨a1, a2, a3⟩ := a
  simp only at f1 f2 f4
  subst f1; subst f2; subst f4
  rfl
theorem own_findF0 {ks : Kids} {ft : FT} {fs : FS} (hS : Sound objs) (hF : Flat objs (.own ks) ft) (hok : LTok objs 5 (.own ks)) {n : ByteArray} (h : pickK ks n = none) : (findF objs ft fs [n]).1 = fs ∧ (findF objs ft fs [n]).2.1 = 4 := by
  obtain ⟨f1, f2, _⟩ := flat_find hS hF hok fs [n]
  rw [own_find_none h] at f1 f2
  exact ⟨f1, f2⟩

theorem stat0_below (w : World) (q : List ByteArray) : Below w.heap.size w ((w.alloc (.cells (pathA q) 104)).alloc (.cells #[.int .i64 0, .int .i64 0] 60)) := ((Below.refl _ _).alloc (Nat.le_refl _) _).alloc (by simp) _
theorem stat0_info (w : World) (q : List ByteArray) : InfoAt ((w.alloc (.cells (pathA q) 104)).alloc (.cells #[.int .i64 0, .int .i64 0] 60)) (w.heap.size + 1) := by
  have := heap_alloc_new (w.alloc (.cells (pathA q) 104)) (.cells #[.int .i64 0, .int .i64 0] 60)
  simpa [InfoAt] using this

theorem tstat_none {tg : Tags} {w : World} {g : WG} {lim : Nat} {ks : Kids} (h : WInv tg w s i p B objs g lim) (hl : lim + 100 < 1099511627776) (hF : Flat objs (.own ks) g.ft) (hok : LTok objs 5 (.own ks)) {n : ByteArray} (hn : validB n = true) (hpk : pickK ks n = none) :
    Calls Tryz.prog 54 #[.pointer (some ⟨B.bt, 0, none⟩), .agg (pathA [n])] w fun e w' => e = .returned (.tuple #[.agg #[.int .i64 0, .int .i64 0], .int .i64 4]) ∧ DidF s i p B objs tg w w' g (lim + 10) := by
  have hi := h.two
  have hb0 := stat0_below w [n]
  have hI0 := stat0_info w [n]
  have hfr : tg (w.heap.size + 1) = (0, 0) := h.st.fresh _ (by omega)
  obtain ⟨f1, f2⟩ := own_findF0 (fs := g.fs) h.st.sound hF hok hpk
  have hfind := find_all (s := s) (i := i) (p := p) (B := B) (objs := objs) [n] tg _ g lim (h.below hb0) (by omega) (good_one hn)
  rw [f1, f2] at hfind
  have hw := tstat_err B.bt _ _ _ _ _ _ _ _ 4 (fun w3 => DidF s i p B objs tg ((w.alloc (.cells (pathA [n]) 104)).alloc (.cells #[.int .i64 0, .int .i64 0] 60)) w3 g (lim + 10)) w (by decide) (hfind.mono (fun e w' ⟨he, tg', m, hW⟩ => ⟨he, (fresh_block (not_fetch0 hi) hfr m hI0).1, tg', m, hW.mono (by simp)⟩))
  refine hw.mono ?_
  rintro e w' ⟨he, w3, hd, hg⟩
  exact ⟨he, didF_end h hb0 (by simp) hd hg⟩

theorem tstat_held {tg : Tags} {w : World} {g : WG} {lim f : Nat} {ks : Kids} {d : ByteArray} (h : WInv tg w s i p B objs g lim) (hl : lim + 100 < 1099511627776) (hF : Flat objs (.own ks) g.ft) (hok : LTok objs 5 (.own ks)) (hfl : FlOk objs g.fl) {n : ByteArray} (hn : validB n = true) (hpk : pickK ks n = some (.held f)) {x : Int × ByteArray} (hx : g.fl f = some x) (hbz : bytesG objs g.fl g.fs f = (g.fs, 0, d)) :
    Calls Tryz.prog 54 #[.pointer (some ⟨B.bt, 0, none⟩), .agg (pathA [n])] w fun e w' => e = .returned (.tuple #[.agg #[.int .i64 1, .int .i64 (d.size : Int)], .int .i64 0]) ∧ DidF s i p B objs tg w w' g (lim + 10) := by
  have hi := h.two
  have hb0 := stat0_below w [n]
  have hI0 := stat0_info w [n]
  have hfr : tg (w.heap.size + 1) = (0, 0) := h.st.fresh _ (by omega)
  have hfr0 : tg w.heap.size = (0, 0) := h.st.fresh _ (by omega)
  have hfind := find_all (s := s) (i := i) (p := p) (B := B) (objs := objs) [n] tg _ g lim (h.below hb0) (by omega) (good_one hn)
  rw [own_findF h.st.sound hF hok hpk] at hfind
  have hof := own_of hF hpk
  have hw := tstat_ok B.bt _ _ _ _ _ n (d.size : Int) (fun w3 => ∃ tg3, Moves (Fetches i) tg tg3 ((w.alloc (.cells (pathA [n]) 104)).alloc (.cells #[.int .i64 0, .int .i64 0] 60)) w3 ∧ WInv tg3 w3 s i p B objs g (lim + 5) ∧ tg3 (w.heap.size + 1) = (0, 0)) (fun w3 => DidF s i p B objs tg ((w.alloc (.cells (pathA [n]) 104)).alloc (.cells #[.int .i64 0, .int .i64 0] 60)) w3 g (lim + 10)) w (hfind.mono ?_) ?_
  · refine hw.mono ?_
    rintro e w' ⟨he, w3, hd, hg⟩
    exact ⟨he, didF_end h hb0 (by simp) hd hg⟩
  · rintro e w' ⟨he, tg', m, hW⟩
    obtain ⟨hb1, ht1⟩ := fresh_block (not_fetch0 hi) hfr m hI0
    exact ⟨he, hb1, fun o => World.cell?_of_block (a := ⟨w.heap.size, o, none⟩) (m.block w.heap.size (by simp; omega) (by rw [hfr0]; exact not_fetch0 hi)), tg', m, hW.mono (by simp), ht1⟩
  · rintro w3 ⟨tg3, m3, hW3, ht3⟩ hI3
    have hb3 : Below w3.heap.size w3 (w3.alloc (.cells #[.string n, .int .i64 1, .int .i64 0] 76)) := (Below.refl _ _).alloc (Nat.le_refl _) _
    refine (tsize_own (nm := n) (hW3.below hb3) (by omega) hfl (good_one hn) hof hx hbz).mono ?_
    rintro e w4 ⟨he, tg4, m4, hW4⟩
    have hI3' : InfoAt (w3.alloc (.cells #[.string n, .int .i64 1, .int .i64 0] 76)) (w.heap.size + 1) := by
      unfold InfoAt at hI3 ⊢
      rw [Below.heap_alloc _ _ _ (Array.getElem?_eq_some_iff.1 hI3).1]; exact hI3
    refine ⟨he, (fresh_block (not_fetch0 hi) ht3 m4 hI3').1, fun o => World.cell?_of_block (a := ⟨w3.heap.size, o, none⟩) (m4.block w3.heap.size (by simp) (by rw [hW3.st.fresh _ (Nat.le_refl _)]; exact not_fetch0 hi)), Nat.lt_of_lt_of_le (by simp) m4.size, tg4, m3.trans (call_moves hb3 m4), hW4.mono (by omega)⟩
end
end Go.Proofs.YtajopoddmfdejaaGreat
