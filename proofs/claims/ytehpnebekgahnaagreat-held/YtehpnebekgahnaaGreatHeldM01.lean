/-
  What is proved here: what Remove, Rename and Open make of a root that is the workspace's own, at paths of one name; how many names a root can have. Open, Remove and Rename of a workspace at paths of one name, whatever files are open. Stat of a file that the workspace holds, at a path of one name; and where nothing stands. Stat of a tree at a path of one name: a held file's size, or that nothing stands there. Stat of a workspace at a path of one name: a held file's size, or that nothing stands there. Stat of a workspace, walked over whatever the tree answers. Stat of a workspace at a path of one name, and told.
-/
import Derived.Test.YtehpnebekgahnaaGreatAskM44
import Derived.Test.YtehpnebekgahnaaGreatAskM46
namespace Go.Proofs.YtehpnebekgahnaaGreat
open Go.RowKit Go.Sort Go.Shelf
set_option linter.unusedVariables false

theorem own_find_some {objs : List Ob} {ks : Kids} {fs : FS} {n : ByteArray} {c : LT} (h : pickK ks n = some c) : findR objs (.own ks) fs [n] = (fs, 0, c) := by
  simp [findR, kidsG, h]
theorem own_find_none {objs : List Ob} {ks : Kids} {fs : FS} {n : ByteArray} (h : pickK ks n = none) : findR objs (.own ks) fs [n] = (fs, 4, .dir 0) := by
  simp [findR, kidsG, h]
theorem own_look (objs : List Ob) (ks : Kids) (fs : FS) : lookR objs (.own ks) fs [] = (fs, 0, ks) := rfl
theorem own_mod (objs : List Ob) (f : Kids → Kids) (ks : Kids) : modG objs f [] (.own ks) = .own (f ks) := rfl

theorem own_remove {objs : List Ob} {ks : Kids} {fs : FS} {n : ByteArray} {f : Nat} (h : pickK ks n = some (.held f)) : removeR objs (.own ks) fs [n] = (fs, 0, .own (dropK ks n)) := by
  unfold removeR
  simp only [own_find_some h]
  simp [vacantG, LT.kind, own_mod]

theorem own_rename {objs : List Ob} {ks : Kids} {fs : FS} {n m : ByteArray} {f : Nat} (h : pickK ks n = some (.held f)) (hnm : n ≠ m) (hm : pickK ks m = none ∨ ∃ f2, pickK ks m = some (.held f2)) : renameR objs (.own ks) fs [n] [m] = (fs, 0, .own (putK (dropK ks n) m (.held f))) := by
  have hroom : roomG objs fs (decide (([] : List ByteArray) = [])) ks m (.held f) = (fs, 0) := by
    rcases hm with hm | ⟨f2, hm⟩
    · unfold roomG; rw [hm]; simp
    · unfold roomG; rw [hm]; simp [yieldsG, LT.kind, vacantG]
  have hh : hgt objs 5 (.held f) = 0 := by unfold hgt; rfl
  simp only [decide_true] at hroom
  simp [renameR, own_find_some h, own_look, hnm, hroom, hh, own_mod]

theorem rising_nodup {ks : Kids} (hr : RisingK ks) : (ks.map (·.1)).Nodup := by
  unfold List.Nodup
  rw [List.pairwise_map]
  exact hr.imp (fun {x y} h e => by rw [e] at h; exact absurd h (by rw [cmpN_self]; omega))

theorem nodup_len {α : Type} [DecidableEq α] : ∀ (l m : List α), l.Nodup → (∀ x ∈ l, x ∈ m) → l.length ≤ m.length
  | [], m, _, _ => Nat.zero_le _
  | x :: r, m, hn, hs => by
    have h1 := List.nodup_cons.1 hn
    have hx := hs x (by simp)
    have := nodup_len r (m.erase x) h1.2 (fun y hy => by
      have hne : y ≠ x := fun e => h1.1 (e ▸ hy)
      exact (List.mem_erase_of_ne hne).2 (hs y (by simp [hy])))
    rw [List.length_erase_of_mem hx] at this
    have hpos := List.length_pos_of_mem hx
    simp only [List.length_cons]
    omega

theorem root_few {ks : Kids} (hr : RisingK ks) (h : ∀ x ∈ ks, x.1 ∈ letters ∨ x.1 = nameE) : ks.length ≤ 5 := by
  have hn : (ks.map (·.1)).Nodup := rising_nodup hr
  have := nodup_len (ks.map (·.1)) (nameE :: letters) hn (fun x hx => by
    obtain ⟨y, hy, rfl⟩ := List.mem_map.1 hx
    rcases h y hy with h | h
    · exact List.mem_cons_of_mem _ h
    · rw [h]; exact List.mem_cons_self)
  simpa [letters] using this
end Go.Proofs.YtehpnebekgahnaaGreat

namespace Go.Proofs.YtehpnebekgahnaaGreat
open Go.RowKit Go.Sort Go.Shelf
set_option linter.unusedVariables false

theorem good_one {n : ByteArray} (h : validB n = true) : Good [n] := ⟨fun x hx => by rw [List.mem_singleton.1 hx]; exact h, by simp⟩

/-- The table as the open files have it. -/
def opT (g : WG) : Nat → Option Nat := fun k => (g.op k).map (·.1)

section
variable {s i p : Nat} {B : WB} {objs : List Ob}

theorem ws_tab {tg : Tags} {w : World} {g : WG} {lim : Nat} (h : WInv tg w s i p B objs g lim) : TabAt w B.wb (opT g) ∧ w.cell? ⟨B.wb, 0, none⟩ = some (.pointer (some ⟨B.bt, 0, none⟩)) := h.wp.opens.tab

theorem openTo_mono {sz sz' : Nat} {fl fl' : Nat → Option (Int × ByteArray)} {ks : Kids} {t t' : LT} {q : List ByteArray} {n : ByteArray} {tr : Bool} {f : Nat} (h : OpenTo objs sz fl ks t q n tr f fl' t') (hs : sz' ≤ sz) : OpenTo objs sz' fl ks t q n tr f fl' t' := by
  rcases h with ⟨a, b, c⟩ | h | ⟨id, a, b, c⟩
  · exact .inl ⟨a, Nat.le_trans hs b, c⟩
  · exact .inr (.inl h)
  · exact .inr (.inr ⟨id, a, Nat.le_trans hs b, c⟩)

theorem openTo_file {sz : Nat} {fl fl' : Nat → Option (Int × ByteArray)} {ks : Kids} {t t' : LT} {q : List ByteArray} {n : ByteArray} {tr : Bool} {f : Nat} (h : OpenTo objs sz fl ks t q n tr f fl' t') (hh : ∀ f, pickK ks n = some (.held f) → ∃ x, fl f = some x) : ∃ x, fl' f = some x := by
  rcases h with ⟨_, _, _, rfl⟩ | ⟨a, _, rfl⟩ | ⟨id, _, _, _, rfl⟩
  · exact ⟨_, updN_same _ _ _⟩
  · split
    · exact ⟨_, updN_same _ _ _⟩
    · exact hh f a
  · split <;> exact ⟨_, updN_same _ _ _⟩

theorem hopen {tg : Tags} {w : World} {g : WG} {lim : Nat} {t : LT} (h : WInv tg w s i p B objs g lim) (hl : lim + 1000 < 1099511627776) (hF : Flat objs t g.ft) (hok : LTok objs 5 t) {n : ByteArray} (hn : validB n = true) (fg : Int) (h0 : 0 ≤ fg) (h64 : fg < 64) (ex cr tr : Bool) (hex : (bits BinOp.and IntKind.i64 fg 8 != 0) = ex) (hcr : (bits BinOp.and IntKind.i64 fg 4 != 0) = cr) (htr : (bits BinOp.and IntKind.i64 fg 16 != 0) = tr)
    (hv : ∀ W, Calls Tryz.prog 27 #[.int .i64 fg] W fun e w' => e = .returned (.bool true) ∧ w' = W) {k : Nat} (hk : k < 8) (hk0 : g.op k = none) (hk1 : ∀ j, j < k → g.op j ≠ none)
    {fs' : FS} {ks : Kids} (hlk : lookR objs t g.fs [] = (fs', 0, ks)) (hoe : openE ks n ex cr = 0) (hhd : ∀ f, pickK ks n = some (.held f) → ∃ x, g.fl f = some x) :
    Calls Tryz.prog 7 #[.pointer (some ⟨B.wb, 0, none⟩), .string n, .int .i64 fg] w fun e w' => e = .returned (.tuple #[.int .i64 (k : Int), .int .i64 0]) ∧ ∃ tg' g' t' b f, Moves (Mine i) tg tg' w w' ∧ WInv tg' w' s i p B objs g' (lim + 300) ∧ Flat objs t' g'.ft ∧ LTok objs 5 t' ∧ g'.fs = fs' ∧ g'.op = updN g.op k (some (b, f, fg, 0)) ∧ OpenTo objs w.heap.size g.fl ks t [] n tr f g'.fl t' := by
  obtain ⟨htab, c0⟩ := ws_tab h
  have hopn := fun W (hb : Below w.heap.size w W) => open_walk (n := n) (r := []) (h.below hb) (by omega) hF hok (good_one hn) fg ex cr tr hex hcr htr
  simp only [hlk] at hopn
  have hw := open_ws_ok B.wb B.bt k (opT g) fg [n] (good_one hn) (fun f w' => ∃ tg' g' t', Moves (Mine i) tg tg' w w' ∧ WInv tg' w' s i p B objs g' (lim + 300) ∧ Flat objs t' g'.ft ∧ LTok objs 5 t' ∧ g'.fs = fs' ∧ g'.op = g.op ∧ OpenTo objs w.heap.size g.fl ks t [] n tr f g'.fl t') w htab c0 hk (by unfold opT; rw [hk0]; rfl) (fun j hj e => hk1 j hj (by unfold opT at e; cases ho : g.op j with | none => rfl | some x => rw [ho] at e; cases e)) hv (fun W hb => (hopn W hb).mono ?_) ?_
  · rw [joinB_one] at hw
    refine hw.mono ?_
    rintro e w' ⟨he, f, w1, ⟨tg1, g1, t1, m1, hW1, hF1, hO1, hs1, ho1, hT1⟩, rfl⟩
    obtain ⟨x, hx⟩ := openTo_file hT1 hhd
    obtain ⟨m2, hW2⟩ := hW1.open_at (k := k) (f := f) (fg := fg) hk hx h0 h64
    refine ⟨he, _, _, t1, w1.heap.size, f, m1.trans (m2.mono (fun x hx => .inr (by rw [hx]))), hW2, hF1, hO1, hs1, ?_, hT1⟩
    show updN g1.op k _ = _
    rw [ho1]
  · rintro e w' (⟨hx, _⟩ | ⟨_, hx, _⟩ | ⟨_, _, f, tg', ft', fl', t', he, m, hW, hF', hO', hT⟩)
    · exact absurd rfl hx
    · exact absurd hoe hx
    · exact ⟨f, he, tg', _, t', call_moves hb m, hW, hF', hO', rfl, rfl, openTo_mono hT hb.size⟩
  · rintro f w' ⟨tg', g', t', m, hW, _, _, _, ho, _⟩
    have := (ws_tab hW).1
    unfold opT at this ⊢
    rw [ho] at this
    exact this

theorem hremove {tg : Tags} {w : World} {g : WG} {lim : Nat} {t t' : LT} (h : WInv tg w s i p B objs g lim) (hl : lim + 1000 < 1099511627776) (hF : Flat objs t g.ft) (hok : LTok objs 5 t) {n : ByteArray} (hn : validB n = true) {fs' : FS} (hr : removeR objs t g.fs [n] = (fs', 0, t')) :
    Calls Tryz.prog 9 #[.pointer (some ⟨B.wb, 0, none⟩), .string n] w fun e w' => e = .returned (.int .i64 0) ∧ Left s i p B objs tg w w' g fs' t' (lim + 300) := by
  obtain ⟨htab, c0⟩ := ws_tab h
  have hw := remove_ws B.wb B.bt [n] (good_one hn) 0 (fun w' => Left s i p B objs tg w w' g fs' t' (lim + 300)) w htab.1 c0 (fun W hb => ?_)
  · rw [joinB_one] at hw; exact hw
  · have := remove_walk (n := n) (r := []) (h.below hb) (by omega) hF hok (good_one hn)
    simp only [hr] at this
    exact this.mono (fun e w' ⟨h1, h2⟩ => ⟨h1, left_via hb h2⟩)

theorem hrename {tg : Tags} {w : World} {g : WG} {lim : Nat} {t t' : LT} (h : WInv tg w s i p B objs g lim) (hl : lim + 1000 < 1099511627776) (hF : Flat objs t g.ft) (hok : LTok objs 5 t) {n m : ByteArray} (hn : validB n = true) (hm : validB m = true) {fs' : FS} (hr : renameR objs t g.fs [n] [m] = (fs', 0, t')) :
    Calls Tryz.prog 10 #[.pointer (some ⟨B.wb, 0, none⟩), .string n, .string m] w fun e w' => e = .returned (.int .i64 0) ∧ Left s i p B objs tg w w' g fs' t' (lim + 400) := by
  obtain ⟨htab, c0⟩ := ws_tab h
  have hw := rename_ws B.wb B.bt [n] [m] (good_one hn) (good_one hm) 0 (fun w' => Left s i p B objs tg w w' g fs' t' (lim + 400)) w htab.1 c0 (fun W hb => ?_)
  · rw [joinB_one, joinB_one] at hw; exact hw
  · have := rename_walk (nf := n) (rf := []) (nt := m) (rt := []) (h.below hb) (by omega) hF hok (good_one hn) (good_one hm)
    simp only [hr] at this
    exact this.mono (fun e w' ⟨h1, h2⟩ => ⟨h1, left_via hb h2⟩)
end
end Go.Proofs.YtehpnebekgahnaaGreat

namespace Go.Proofs.YtehpnebekgahnaaGreat
open Go.RowKit Go.Sort Go.Shelf
set_option linter.unusedVariables false

section
variable {s i p : Nat} {B : WB} {objs : List Ob}

theorem OwnF.look1 {tg : Tags} {w : World} {of : List ByteArray → Option Nat} {lim : Nat} (h : OwnF tg w i B of lim) {q : List ByteArray} (hq : Good q) {W : World} (hb : Below w.heap.size w W) :
    (Instr.lookup 125 (.map (some B.oF)) (.agg (pathA q)) false).run Tryz.prog W = .ok (((of q).map ptr).getD (.pointer none)) W := by
  obtain ⟨_, ⟨n, _, M, hV, hM, _⟩, _⟩ := h
  have := (hV.keep (w' := W) (hb.block _ hV.lt)).look lawP Tryz.underlying125 (zeroFp W) (keyVP hq)
  have hMq : M (keyP Tryz.prog q) = (of q).map ptr := hM q hq
  rw [hMq] at this
  exact this
theorem bytes_held {fl : Nat → Option (Int × ByteArray)} {fs : FS} {f : Nat} {d : ByteArray} (hf : fl f = some (0, d)) : bytesG objs fl fs f = (fs, 0, d) := by
  simp [bytesG, hf]

set_option maxRecDepth 100000 in
set_option maxHeartbeats 1000000 in
theorem tbytes_own {tg : Tags} {w : World} {g : WG} {lim f : Nat} {d nm : ByteArray} (h : WInv tg w s i p B objs g lim) (hl : lim < 1099511627776) (hfl : FlOk objs g.fl) {q : List ByteArray} (hq : Good q) (hf : g.ft.of q = some f) {x : Int × ByteArray} (hx : g.fl f = some x) (hbz : bytesG objs g.fl g.fs f = (g.fs, 0, d)) :
    Calls Tryz.prog 107 #[.pointer (some ⟨B.bt, 0, none⟩), .agg (pathA q), .agg #[.string nm, .int .i64 1, .int .i64 0]] w fun en w' => en = .returned (.tuple #[.string d, .int .i64 0]) ∧ DidF s i p B objs tg w w' g (lim + 1) := by
  have hb0 : Below w.heap.size w ((w.alloc (.cells (pathA q) 67)).alloc (.cells #[.string nm, .int .i64 1, .int .i64 0] 61)).drew := below_drew (((Below.refl _ _).alloc (Nat.le_refl _) _).alloc (by simp) _)
  have hlk := h.wp.ownF.look1 hq hb0
  rw [hf] at hlk
  have hby := bytes_any (h.below hb0) hl hfl hx
  rw [hbz] at hby
  obtain ⟨tb, t7, t8⟩ := h.treeAt
  obtain ⟨s0, s1, s2, s3, s4, hP⟩ : ∃ s0 s1 s2 s3 s4, pathA q = #[.string s0, .string s1, .string s2, .string s3, .string s4] := ⟨_, _, _, _, _, rfl⟩
  rw [hP] at hlk hb0 hby ⊢
  simp only [Option.map_some, Option.getD_some, ptr] at hlk
  have HB : Hid _ := hb0
  have HBY : Hid _ := hby
  clear h hb0 hby
  go_enter Tryz.func107, Tryz.ntmps107
  go_wp2
  go_region_with (go_at_call 75; refine Calls.mono HBY.out ?_; rintro e w2 ⟨rfl, hD⟩)
  all_goals
    go_wp2
    go_ret2
    exact ⟨rfl, hD.via HB.out⟩

set_option maxRecDepth 100000 in
set_option maxHeartbeats 1000000 in
theorem tsize_walk (t : Nat) (s0 s1 s2 s3 s4 nm d : ByteArray) (R : World → Prop) (w : World)
    (hby : Calls Tryz.prog 107 #[.pointer (some ⟨t, 0, none⟩), .agg #[.string s0, .string s1, .string s2, .string s3, .string s4], .agg #[.string nm, .int .i64 1, .int .i64 0]] ((w.alloc (.cells #[.string s0, .string s1, .string s2, .string s3, .string s4] 67)).alloc (.cells #[.string nm, .int .i64 1, .int .i64 0] 61)) fun en w' => en = .returned (.tuple #[.string d, .int .i64 0]) ∧ R w') :
    Calls Tryz.prog 77 #[.pointer (some ⟨t, 0, none⟩), .agg #[.string s0, .string s1, .string s2, .string s3, .string s4], .agg #[.string nm, .int .i64 1, .int .i64 0]] w fun en w' => en = .returned (.tuple #[.int .i64 (d.size : Int), .int .i64 0]) ∧ R w' := by
  have HBY : Hid _ := hby
  clear hby
  go_enter Tryz.func77, Tryz.ntmps77
  go_wp2_with fail
  refine Calls.mono HBY.out ?_
  rintro e w2 ⟨rfl, hR⟩
  go_wp2
  go_ret2
  exact ⟨rfl, hR⟩

theorem tsize_own {tg : Tags} {w : World} {g : WG} {lim f : Nat} {d nm : ByteArray} (h : WInv tg w s i p B objs g lim) (hl : lim < 1099511627776) (hfl : FlOk objs g.fl) {q : List ByteArray} (hq : Good q) (hf : g.ft.of q = some f) {x : Int × ByteArray} (hx : g.fl f = some x) (hbz : bytesG objs g.fl g.fs f = (g.fs, 0, d)) :
    Calls Tryz.prog 77 #[.pointer (some ⟨B.bt, 0, none⟩), .agg (pathA q), .agg #[.string nm, .int .i64 1, .int .i64 0]] w fun en w' => en = .returned (.tuple #[.int .i64 (d.size : Int), .int .i64 0]) ∧ DidF s i p B objs tg w w' g (lim + 1) := by
  have hb0 : Below w.heap.size w ((w.alloc (.cells (pathA q) 67)).alloc (.cells #[.string nm, .int .i64 1, .int .i64 0] 61)) := ((Below.refl _ _).alloc (Nat.le_refl _) _).alloc (by simp) _
  exact tsize_walk B.bt _ _ _ _ _ nm d _ w ((tbytes_own (h.below hb0) hl hfl hq hf hx hbz).mono (fun e w' ⟨h1, h2⟩ => ⟨h1, h2.via hb0⟩))
end
end Go.Proofs.YtehpnebekgahnaaGreat

namespace Go.Proofs.YtehpnebekgahnaaGreat
open Go.RowKit Go.Sort Go.Shelf
set_option linter.unusedVariables false

section
variable {s i p : Nat} {B : WB} {objs : List Ob}

theorem fresh_block {P : Nat × Nat → Prop} {tg tg' : Tags} {W w' : World} {b : Nat} {o : Obj} (hP : ¬ P (0, 0)) (ht : tg b = (0, 0)) (m : Moves P tg tg' W w') (hb : W.heap[b]? = some o) : w'.heap[b]? = some o ∧ tg' b = (0, 0) := by
  have hlt := (Array.getElem?_eq_some_iff.1 hb).1
  exact ⟨(m.block b hlt (by rw [ht]; exact hP)).trans hb, (m.tags b hlt).trans ht⟩
theorem not_fetch0 (hi : 2 ≤ i) : ¬ Fetches i (0, 0) := by
  rintro (h | h | h)
  · cases h
  · injection h with h1 h2; omega
  · injection h with h1 h2; omega

theorem grown_alloc {w w' : World} {b : Nat} {o : Obj} (h : w.grownBy w' (some b)) : w.grownBy (w'.alloc o) (some b) := by
  obtain ⟨h1, h2, h3, h4, h5⟩ := h
  refine ⟨h1, h2, h3, by simp; omega, fun k hk hb => ?_⟩
  rw [Below.heap_alloc _ _ _ (Nat.lt_of_lt_of_le hk h4)]
  exact h5 k hk hb

/-- The cells of the answer that is being made. -/
def InfoAt (w : World) (b : Nat) : Prop := w.heap[b]? = some (.cells #[.int .i64 0, .int .i64 0] 42 (0, 0))
theorem InfoAt.cells {w : World} {b : Nat} (h : InfoAt w b) : b < w.heap.size ∧ w.cell? ⟨b, 0, none⟩ = some (.int .i64 0) ∧ w.cell? ⟨b, 1, none⟩ = some (.int .i64 0) ∧ ∀ o, w.frozen? ⟨b, o, none⟩ = false := by
  unfold InfoAt at h
  exact ⟨(Array.getElem?_eq_some_iff.1 h).1, by simp only [World.cell?, h]; rfl, by simp only [World.cell?, h]; rfl, fun o => by simp only [World.frozen?, h]; simp⟩

set_option maxRecDepth 100000 in
set_option maxHeartbeats 1000000 in
theorem tstat_err (t : Nat) (s0 s1 s2 s3 s4 a : ByteArray) (k id er : Int) (R : World → Prop) (w : World) (her : (er == 0) = false)
    (hfind : Calls Tryz.prog 62 #[.pointer (some ⟨t, 0, none⟩), .agg #[.string s0, .string s1, .string s2, .string s3, .string s4]] ((w.alloc (.cells #[.string s0, .string s1, .string s2, .string s3, .string s4] 67)).alloc (.cells #[.int .i64 0, .int .i64 0] 42)) fun e w' => e = .returned (.tuple #[.agg #[.string a, .int .i64 k, .int .i64 id], .int .i64 er]) ∧ InfoAt w' (w.heap.size + 1) ∧ R w') :
    Calls Tryz.prog 39 #[.pointer (some ⟨t, 0, none⟩), .agg #[.string s0, .string s1, .string s2, .string s3, .string s4]] w fun e w' => e = .returned (.tuple #[.agg #[.int .i64 0, .int .i64 0], .int .i64 er]) ∧ ∃ w3, R w3 ∧ w3.grownBy w' (some (w.heap.size + 1)) := by
  have HF : Hid _ := hfind
  clear hfind
  go_enter Tryz.func39, Tryz.ntmps39
  go_wp2_with fail
  refine Calls.mono HF.out ?_
  rintro e w3 ⟨rfl, hblk, hR⟩
  obtain ⟨hlt, c0, c1, f0⟩ := hblk.cells
  have HRR : Hid _ := hR
  clear hblk hR HF
  go_wp2
  refine bodyPost_ret (v := .tuple #[.agg #[.int .i64 0, .int .i64 0], .int .i64 er]) (by simp [results, Tryz.results39, go_sem, c0, c1, hlt]) rfl ?_
  exact ⟨rfl, w3, HRR.out, grown_alloc (grown_set (grown_set (grown_refl _ _)))⟩

set_option maxRecDepth 100000 in
set_option maxHeartbeats 1000000 in
theorem tstat_ok (t : Nat) (s0 s1 s2 s3 s4 a : ByteArray) (sz : Int) (R : World → Prop) (R2 : World → Prop) (w : World)
    (hfind : Calls Tryz.prog 62 #[.pointer (some ⟨t, 0, none⟩), .agg #[.string s0, .string s1, .string s2, .string s3, .string s4]] ((w.alloc (.cells #[.string s0, .string s1, .string s2, .string s3, .string s4] 67)).alloc (.cells #[.int .i64 0, .int .i64 0] 42)) fun e w' => e = .returned (.tuple #[.agg #[.string a, .int .i64 1, .int .i64 0], .int .i64 0]) ∧ InfoAt w' (w.heap.size + 1) ∧ (∀ o, w'.cell? ⟨w.heap.size, o, none⟩ = ((w.alloc (.cells #[.string s0, .string s1, .string s2, .string s3, .string s4] 67)).alloc (.cells #[.int .i64 0, .int .i64 0] 42)).cell? ⟨w.heap.size, o, none⟩) ∧ R w')
    (hsize : ∀ w', R w' → InfoAt w' (w.heap.size + 1) → Calls Tryz.prog 77 #[.pointer (some ⟨t, 0, none⟩), .agg #[.string s0, .string s1, .string s2, .string s3, .string s4], .agg #[.string a, .int .i64 1, .int .i64 0]] (w'.alloc (.cells #[.string a, .int .i64 1, .int .i64 0] 61)) fun e w4 => e = .returned (.tuple #[.int .i64 sz, .int .i64 0]) ∧ InfoAt w4 (w.heap.size + 1) ∧ (∀ o, w4.cell? ⟨w'.heap.size, o, none⟩ = (w'.alloc (.cells #[.string a, .int .i64 1, .int .i64 0] 61)).cell? ⟨w'.heap.size, o, none⟩) ∧ w'.heap.size < w4.heap.size ∧ R2 w4) :
    Calls Tryz.prog 39 #[.pointer (some ⟨t, 0, none⟩), .agg #[.string s0, .string s1, .string s2, .string s3, .string s4]] w fun e w' => e = .returned (.tuple #[.agg #[.int .i64 1, .int .i64 sz], .int .i64 0]) ∧ ∃ w4, R2 w4 ∧ w4.grownBy w' (some (w.heap.size + 1)) := by
  have HF : Hid _ := hfind
  have HSZ : Hid _ := hsize
  clear hfind hsize
  go_enter Tryz.func39, Tryz.ntmps39
  go_wp2_with fail
  refine Calls.mono HF.out ?_
  rintro e w3 ⟨rfl, hblk, hkp, hR⟩
  obtain ⟨hlt, c0, c1, f0⟩ := hblk.cells
  have hz3 : w.heap.size < w3.heap.size := by omega
  have hs := HSZ.out w3 hR hblk
  have HS : Hid _ := hs
  clear hblk hR HF HSZ hs
  go_wp2_with fail
  refine Calls.mono HS.out ?_
  rintro e w4 ⟨rfl, hblk4, hkp4, hlt4, hR4⟩
  obtain ⟨hl4, d0, d1, g0⟩ := hblk4.cells
  have HR4 : Hid _ := hR4
  clear hblk4 hR4 HS
  go_wp2
  refine bodyPost_ret (v := .tuple #[.agg #[.int .i64 1, .int .i64 sz], .int .i64 0]) (by simp [results, Tryz.results39, go_sem, d0, d1]) rfl ?_
  exact ⟨rfl, w4, HR4.out, grown_set (grown_set (grown_refl _ _))⟩
end
end Go.Proofs.YtehpnebekgahnaaGreat

namespace Go.Proofs.YtehpnebekgahnaaGreat
open Go.RowKit Go.Sort Go.Shelf
set_option linter.unusedVariables false

section
variable {s i p : Nat} {B : WB} {objs : List Ob}

theorem own_of {ks : Kids} {ft : FT} (hF : Flat objs (.own ks) ft) {n : ByteArray} {f : Nat} (h : pickK ks n = some (.held f)) : ft.of [n] = some f := by
  rw [hF.of, at_cons]
  show ofOf ((pickK ks n).bind _) = _
  rw [h, Option.bind_some, at_nil]; rfl

theorem own_findF {ks : Kids} {ft : FT} {fs : FS} (hS : Sound objs) (hF : Flat objs (.own ks) ft) (hok : LTok objs 5 (.own ks)) {n : ByteArray} {f : Nat} (h : pickK ks n = some (.held f)) : findF objs ft fs [n] = (fs, 0, n, 1, 0) := by
  obtain ⟨f1, f2, f3⟩ := flat_find hS hF hok fs [n]
  rw [own_find_some h] at f1 f2 f3
  obtain ⟨f4, _⟩ := f3 rfl
  generalize findF objs ft fs [n] = a at f1 f2 f4
  obtain ⟨a1, a2, a3⟩ := a
  simp only at f1 f2 f4
  subst f1; subst f2; subst f4
  rfl
theorem own_findF0 {ks : Kids} {ft : FT} {fs : FS} (hS : Sound objs) (hF : Flat objs (.own ks) ft) (hok : LTok objs 5 (.own ks)) {n : ByteArray} (h : pickK ks n = none) : (findF objs ft fs [n]).1 = fs ∧ (findF objs ft fs [n]).2.1 = 4 := by
  obtain ⟨f1, f2, _⟩ := flat_find hS hF hok fs [n]
  rw [own_find_none h] at f1 f2
  exact ⟨f1, f2⟩

theorem stat0_below (w : World) (q : List ByteArray) : Below w.heap.size w ((w.alloc (.cells (pathA q) 67)).alloc (.cells #[.int .i64 0, .int .i64 0] 42)) := ((Below.refl _ _).alloc (Nat.le_refl _) _).alloc (by simp) _
theorem stat0_info (w : World) (q : List ByteArray) : InfoAt ((w.alloc (.cells (pathA q) 67)).alloc (.cells #[.int .i64 0, .int .i64 0] 42)) (w.heap.size + 1) := by
  have := heap_alloc_new (w.alloc (.cells (pathA q) 67)) (.cells #[.int .i64 0, .int .i64 0] 42)
  simpa [InfoAt] using this

theorem tstat_none {tg : Tags} {w : World} {g : WG} {lim : Nat} {ks : Kids} (h : WInv tg w s i p B objs g lim) (hl : lim + 100 < 1099511627776) (hF : Flat objs (.own ks) g.ft) (hok : LTok objs 5 (.own ks)) {n : ByteArray} (hn : validB n = true) (hpk : pickK ks n = none) :
    Calls Tryz.prog 39 #[.pointer (some ⟨B.bt, 0, none⟩), .agg (pathA [n])] w fun e w' => e = .returned (.tuple #[.agg #[.int .i64 0, .int .i64 0], .int .i64 4]) ∧ DidF s i p B objs tg w w' g (lim + 10) := by
  have hi := h.two
  have hb0 := stat0_below w [n]
  have hI0 := stat0_info w [n]
  have hfr : tg (w.heap.size + 1) = (0, 0) := h.st.fresh _ (by omega)
  obtain ⟨f1, f2⟩ := own_findF0 (fs := g.fs) h.st.sound hF hok hpk
  have hfind := find_all (s := s) (i := i) (p := p) (B := B) (objs := objs) [n] tg _ g lim (h.below hb0) (by omega) (good_one hn)
  rw [f1, f2] at hfind
  have hw := tstat_err B.bt _ _ _ _ _ _ _ _ 4 (fun w3 => DidF s i p B objs tg ((w.alloc (.cells (pathA [n]) 67)).alloc (.cells #[.int .i64 0, .int .i64 0] 42)) w3 g (lim + 10)) w (by decide) (hfind.mono (fun e w' ⟨he, tg', m, hW⟩ => ⟨he, (fresh_block (not_fetch0 hi) hfr m hI0).1, tg', m, hW.mono (by simp)⟩))
  refine hw.mono ?_
  rintro e w' ⟨he, w3, hd, hg⟩
  exact ⟨he, didF_end h hb0 (by simp) hd hg⟩

theorem tstat_held {tg : Tags} {w : World} {g : WG} {lim f : Nat} {ks : Kids} {d : ByteArray} (h : WInv tg w s i p B objs g lim) (hl : lim + 100 < 1099511627776) (hF : Flat objs (.own ks) g.ft) (hok : LTok objs 5 (.own ks)) (hfl : FlOk objs g.fl) {n : ByteArray} (hn : validB n = true) (hpk : pickK ks n = some (.held f)) {x : Int × ByteArray} (hx : g.fl f = some x) (hbz : bytesG objs g.fl g.fs f = (g.fs, 0, d)) :
    Calls Tryz.prog 39 #[.pointer (some ⟨B.bt, 0, none⟩), .agg (pathA [n])] w fun e w' => e = .returned (.tuple #[.agg #[.int .i64 1, .int .i64 (d.size : Int)], .int .i64 0]) ∧ DidF s i p B objs tg w w' g (lim + 10) := by
  have hi := h.two
  have hb0 := stat0_below w [n]
  have hI0 := stat0_info w [n]
  have hfr : tg (w.heap.size + 1) = (0, 0) := h.st.fresh _ (by omega)
  have hfr0 : tg w.heap.size = (0, 0) := h.st.fresh _ (by omega)
  have hfind := find_all (s := s) (i := i) (p := p) (B := B) (objs := objs) [n] tg _ g lim (h.below hb0) (by omega) (good_one hn)
  rw [own_findF h.st.sound hF hok hpk] at hfind
  have hof := own_of hF hpk
  have hw := tstat_ok B.bt _ _ _ _ _ n (d.size : Int) (fun w3 => ∃ tg3, Moves (Fetches i) tg tg3 ((w.alloc (.cells (pathA [n]) 67)).alloc (.cells #[.int .i64 0, .int .i64 0] 42)) w3 ∧ WInv tg3 w3 s i p B objs g (lim + 5) ∧ tg3 (w.heap.size + 1) = (0, 0)) (fun w3 => DidF s i p B objs tg ((w.alloc (.cells (pathA [n]) 67)).alloc (.cells #[.int .i64 0, .int .i64 0] 42)) w3 g (lim + 10)) w (hfind.mono ?_) ?_
  · refine hw.mono ?_
    rintro e w' ⟨he, w3, hd, hg⟩
    exact ⟨he, didF_end h hb0 (by simp) hd hg⟩
  · rintro e w' ⟨he, tg', m, hW⟩
    obtain ⟨hb1, ht1⟩ := fresh_block (not_fetch0 hi) hfr m hI0
    exact ⟨he, hb1, fun o => World.cell?_of_block (a := ⟨w.heap.size, o, none⟩) (m.block w.heap.size (by simp; omega) (by rw [hfr0]; exact not_fetch0 hi)), tg', m, hW.mono (by simp), ht1⟩
  · rintro w3 ⟨tg3, m3, hW3, ht3⟩ hI3
    have hb3 : Below w3.heap.size w3 (w3.alloc (.cells #[.string n, .int .i64 1, .int .i64 0] 61)) := (Below.refl _ _).alloc (Nat.le_refl _) _
    refine (tsize_own (nm := n) (hW3.below hb3) (by omega) hfl (good_one hn) hof hx hbz).mono ?_
    rintro e w4 ⟨he, tg4, m4, hW4⟩
    have hI3' : InfoAt (w3.alloc (.cells #[.string n, .int .i64 1, .int .i64 0] 61)) (w.heap.size + 1) := by
      unfold InfoAt at hI3 ⊢
      rw [Below.heap_alloc _ _ _ (Array.getElem?_eq_some_iff.1 hI3).1]; exact hI3
    refine ⟨he, (fresh_block (not_fetch0 hi) ht3 m4 hI3').1, fun o => World.cell?_of_block (a := ⟨w3.heap.size, o, none⟩) (m4.block w3.heap.size (by simp) (by rw [hW3.st.fresh _ (Nat.le_refl _)]; exact not_fetch0 hi)), Nat.lt_of_lt_of_le (by simp) m4.size, tg4, m3.trans (call_moves hb3 m4), hW4.mono (by omega)⟩
end
end Go.Proofs.YtehpnebekgahnaaGreat

namespace Go.Proofs.YtehpnebekgahnaaGreat
open Go.RowKit Go.Sort Go.Shelf
set_option linter.unusedVariables false

set_option maxRecDepth 100000 in
set_option maxHeartbeats 1000000 in
theorem stat_ws (wb bt : Nat) (l : List ByteArray) (hl : Good l) (k sz er : Int) (R : World → Prop) (w : World) (hwb : wb < w.heap.size) (c0 : w.cell? ⟨wb, 0, none⟩ = some (.pointer (some ⟨bt, 0, none⟩)))
    (hc : ∀ W, Below w.heap.size w W → InfoAt W w.heap.size → Calls Tryz.prog 39 #[.pointer (some ⟨bt, 0, none⟩), .agg (pathA l)] W fun e w' => e = .returned (.tuple #[.agg #[.int .i64 k, .int .i64 sz], .int .i64 er]) ∧ InfoAt w' w.heap.size ∧ R w') :
    Calls Tryz.prog 15 #[.pointer (some ⟨wb, 0, none⟩), .string (joinB l)] w fun e w' => e = .returned (.tuple #[.agg #[.int .i64 k, .int .i64 sz], .int .i64 er]) ∧ ∃ w2, R w2 ∧ w2.grownBy w' (some w.heap.size) := by
  have hpa := fun W => parse_any l hl W
  obtain ⟨s0, s1, s2, s3, s4, hP⟩ : ∃ s0 s1 s2 s3 s4, pathA l = #[.string s0, .string s1, .string s2, .string s3, .string s4] := ⟨_, _, _, _, _, rfl⟩
  unfold pathV at hpa
  simp only [hP] at hpa hc
  have hb0 : Below w.heap.size w (w.alloc (.cells #[.int .i64 0, .int .i64 0] 42)) := (Below.refl _ _).alloc (Nat.le_refl _) _
  have hI0 : InfoAt (w.alloc (.cells #[.int .i64 0, .int .i64 0] 42)) w.heap.size := heap_alloc_new _ _
  have hwb0 : wb < (w.alloc (.cells #[.int .i64 0, .int .i64 0] 42)).heap.size := by simp; omega
  have c00 := ((bcell hb0).1 wb 0 hwb).trans c0
  have HC : Hid _ := hc
  have HB0 : Hid _ := hb0
  have HI0 : Hid _ := hI0
  clear hc hP hl hb0 hI0
  generalize joinB l = tx at hpa ⊢
  go_enter Tryz.func15, Tryz.ntmps15
  go_wp2_with (go_at_call 26; refine Calls.mono (hpa _) ?_; rintro e w1 ⟨rfl, hb1⟩; have d0 := ((bcell hb1).1 wb 0 hwb0).trans c00; have hw1 := Nat.lt_of_lt_of_le hwb0 hb1.size)
  have hI1 : InfoAt (w1.alloc (.cells #[.string s0, .string s1, .string s2, .string s3, .string s4] 67)).drew w.heap.size := by
    have h1 : w1.heap[w.heap.size]? = _ := (hb1.block w.heap.size (by simp)).trans HI0.out
    show (w1.alloc _).heap[w.heap.size]? = _
    rw [Below.heap_alloc _ _ _ (Array.getElem?_eq_some_iff.1 h1).1]; exact h1
  have hcc := HC.out (w1.alloc (.cells #[.string s0, .string s1, .string s2, .string s3, .string s4] 67)).drew (below_via HB0.out (below_drew (hb1.alloc hb1.size _))) hI1
  have HCC : Hid _ := hcc
  clear hcc HC hI1
  go_region_with (go_at_call 39; refine Calls.mono HCC.out ?_; rintro e w2 ⟨rfl, hI2, hR⟩; obtain ⟨hl2, e0, e1, f2⟩ := hI2.cells; clear hI2)
  all_goals
    go_wp2
    refine bodyPost_ret (v := .tuple #[.agg #[.int .i64 k, .int .i64 sz], .int .i64 er]) (by simp [results, Tryz.results15, go_sem, e0, e1]) rfl ?_
    exact ⟨rfl, w2, hR, grown_set (grown_set (grown_refl _ _))⟩
end Go.Proofs.YtehpnebekgahnaaGreat

namespace Go.Proofs.YtehpnebekgahnaaGreat
open Go.RowKit Go.Sort Go.Shelf
set_option linter.unusedVariables false

section
variable {s i p : Nat} {B : WB} {objs : List Ob}

theorem did_grown {tg tg' : Tags} {w w2 w' : World} {g : WG} {lim : Nat} (hi : 2 ≤ i) (m : Moves (Fetches i) tg tg' w w2) (hW : WInv tg' w2 s i p B objs g lim) (ht : tg' w.heap.size = (0, 0)) (hg : w2.grownBy w' (some w.heap.size)) : DidF s i p B objs tg w w' g lim := by
  have hW' := hW.own hg ht
  obtain ⟨g1, g2, g3, g4, g5⟩ := hg
  exact ⟨tg', ⟨g1.trans m.os, g2.trans m.tape, g3.trans m.output, Nat.le_trans m.size g4, m.tags, fun k hk hn => (g5 k (Nat.lt_of_lt_of_le hk m.size) (fun e => by injection e with e; omega)).trans (m.block k hk hn), fun hf => hW'.st.fresh⟩, hW'⟩

theorem hstat {tg : Tags} {w : World} {g : WG} {lim : Nat} {n : ByteArray} (h : WInv tg w s i p B objs g lim) (hn : validB n = true) {k sz er : Int}
    (hc : ∀ W, Below w.heap.size w W → Calls Tryz.prog 39 #[.pointer (some ⟨B.bt, 0, none⟩), .agg (pathA [n])] W fun e w' => e = .returned (.tuple #[.agg #[.int .i64 k, .int .i64 sz], .int .i64 er]) ∧ DidF s i p B objs tg W w' g (lim + 10)) :
    Calls Tryz.prog 15 #[.pointer (some ⟨B.wb, 0, none⟩), .string n] w fun e w' => e = .returned (.tuple #[.agg #[.int .i64 k, .int .i64 sz], .int .i64 er]) ∧ DidF s i p B objs tg w w' g (lim + 10) := by
  obtain ⟨htab, c0⟩ := ws_tab h
  have hi := h.two
  have hfr : tg w.heap.size = (0, 0) := h.st.fresh _ (Nat.le_refl _)
  have hw := stat_ws B.wb B.bt [n] (good_one hn) k sz er (fun w2 => ∃ tg', Moves (Fetches i) tg tg' w w2 ∧ WInv tg' w2 s i p B objs g (lim + 10) ∧ tg' w.heap.size = (0, 0)) w htab.1 c0 (fun W hb hI => (hc W hb).mono ?_)
  · rw [joinB_one] at hw
    refine hw.mono ?_
    rintro e w' ⟨he, w2, ⟨tg', m, hW, ht⟩, hg⟩
    exact ⟨he, did_grown hi m hW ht hg⟩
  · rintro e w' ⟨he, tg', m, hW⟩
    obtain ⟨h1, h2⟩ := fresh_block (not_fetch0 hi) hfr m hI
    exact ⟨he, h1, tg', call_moves hb m, hW, h2⟩

theorem hstat_none {tg : Tags} {w : World} {g : WG} {lim : Nat} {ks : Kids} (h : WInv tg w s i p B objs g lim) (hl : lim + 100 < 1099511627776) (hF : Flat objs (.own ks) g.ft) (hok : LTok objs 5 (.own ks)) {n : ByteArray} (hn : validB n = true) (hpk : pickK ks n = none) :
    Calls Tryz.prog 15 #[.pointer (some ⟨B.wb, 0, none⟩), .string n] w fun e w' => e = .returned (.tuple #[.agg #[.int .i64 0, .int .i64 0], .int .i64 4]) ∧ DidF s i p B objs tg w w' g (lim + 10) :=
  hstat h hn (fun W hb => tstat_none (h.below hb) hl hF hok hn hpk)
theorem hstat_held {tg : Tags} {w : World} {g : WG} {lim f : Nat} {ks : Kids} {d : ByteArray} (h : WInv tg w s i p B objs g lim) (hl : lim + 100 < 1099511627776) (hF : Flat objs (.own ks) g.ft) (hok : LTok objs 5 (.own ks)) (hfl : FlOk objs g.fl) {n : ByteArray} (hn : validB n = true) (hpk : pickK ks n = some (.held f)) {x : Int × ByteArray} (hx : g.fl f = some x) (hbz : bytesG objs g.fl g.fs f = (g.fs, 0, d)) :
    Calls Tryz.prog 15 #[.pointer (some ⟨B.wb, 0, none⟩), .string n] w fun e w' => e = .returned (.tuple #[.agg #[.int .i64 1, .int .i64 (d.size : Int)], .int .i64 0]) ∧ DidF s i p B objs tg w w' g (lim + 10) :=
  hstat h hn (fun W hb => tstat_held (h.below hb) hl hF hok hfl hn hpk hx hbz)
end

set_option maxRecDepth 100000 in
set_option maxHeartbeats 2000000 in
/-- told, over whatever its calls answer where all goes well. -/
theorem told_walk (wb k : Nat) (n d : ByteArray) (R1 R2 R3 : World → Prop) (R : World → Prop) (w : World)
    (ho : Calls Tryz.prog 7 #[.pointer (some ⟨wb, 0, none⟩), .string n, .int .i64 1] w fun e w' => e = .returned (.tuple #[.int .i64 (k : Int), .int .i64 0]) ∧ R1 w')
    (hr : ∀ w1, R1 w1 → Calls Tryz.prog 13 #[.pointer (some ⟨wb, 0, none⟩), .int .i64 (k : Int), .int .i64 1000] w1 fun e w' => e = .returned (.tuple #[.string d, .int .i64 0]) ∧ R2 w')
    (hc : ∀ w2, R2 w2 → Calls Tryz.prog 34 #[.pointer (some ⟨wb, 0, none⟩), .int .i64 (k : Int)] w2 fun e w' => e = .returned (.int .i64 0) ∧ R3 w')
    (hs : ∀ w3, R3 w3 → Calls Tryz.prog 15 #[.pointer (some ⟨wb, 0, none⟩), .string n] w3 fun e w' => e = .returned (.tuple #[.agg #[.int .i64 1, .int .i64 (d.size : Int)], .int .i64 0]) ∧ R w') :
    Calls Tryz.prog 16 #[.pointer (some ⟨wb, 0, none⟩), .string n] w fun e w' => e = .returned (.tuple #[.string d, .bool true]) ∧ ∃ w4, R w4 ∧ Below w4.heap.size w4 w' := by
  have HO : Hid _ := ho
  have HR : Hid _ := hr
  have HC : Hid _ := hc
  have HS : Hid _ := hs
  clear ho hr hc hs
  go_enter Tryz.func16, Tryz.ntmps16
  go_wp2_with fail
  refine Calls.mono HO.out ?_
  rintro e w1 ⟨rfl, h1⟩
  have H1 : Hid _ := HR.out w1 h1
  clear HO HR h1
  go_wp2_with fail
  refine Calls.mono H1.out ?_
  rintro e w2 ⟨rfl, h2⟩
  have H2 : Hid _ := HC.out w2 h2
  clear H1 HC h2
  go_wp2_with fail
  refine Calls.mono H2.out ?_
  rintro e w3 ⟨rfl, h3⟩
  have H3 : Hid _ := HS.out w3 h3
  clear H2 HS h3
  go_wp2_with fail
  refine Calls.mono H3.out ?_
  rintro e w4 ⟨rfl, h4⟩
  have H4 : Hid _ := h4
  clear H3 h4
  go_wp2
  go_region
  all_goals
    go_wp2
    go_ret2
    exact ⟨rfl, w4, H4.out, below_drew ((Below.refl _ _).alloc (Nat.le_refl _) _)⟩
end Go.Proofs.YtehpnebekgahnaaGreat
