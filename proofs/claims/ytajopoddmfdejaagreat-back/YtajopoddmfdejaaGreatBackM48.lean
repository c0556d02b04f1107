/-
  What is proved here: Stat of a workspace, walked over whatever the tree answers. Stat of a workspace at a path of one name, and told. what stands still while a law runs; the steps that came in. the calls of canopykeep's made, one by one: a new store, its first object, a workspace of it, e, the steps, what is told of e, the commit. objects of one store that are each there once; what reads the same is the same object. the calls of canopykeep's made, one by one: e, the steps, what is told of e, the commit.
-/
import Derived.Test.YtajopoddmfdejaaGreatBackM47
import Derived.Test.YtajopoddmfdejaaGreatBackM40
import Derived.Test.YtajopoddmfdejaaGreatBackM41
import Derived.Test.YtajopoddmfdejaaGreatBackM46
import Derived.Test.YtajopoddmfdejaaGreatBackM20
namespace Go.Proofs.YtajopoddmfdejaaGreat
open Go.RowKit Go.Sort Go.Shelf
set_option linter.unusedVariables false

set_option maxRecDepth 100000 in
set_option maxHeartbeats 1000000 in
theorem stat_ws (wb bt : Nat) (l : List ByteArray) (hl : Good l) (k sz er : Int) (R : World → Prop) (w : World) (hwb : wb < w.heap.size) (c0 : w.cell? ⟨wb, 0, none⟩ = some (.pointer (some ⟨bt, 0, none⟩)))
    (hc : ∀ W, Below w.heap.size w W → InfoAt W w.heap.size → Calls Tryz.prog 54 #[.pointer (some ⟨bt, 0, none⟩), .agg (pathA l)] W fun e w' => e = .returned (.tuple #[.agg #[.int .i64 k, .int .i64 sz], .int .i64 er]) ∧ InfoAt w' w.heap.size ∧ R w') :
    Calls Tryz.prog 28 #[.pointer (some ⟨wb, 0, none⟩), .string (joinB l)] w fun e w' => e = .returned (.tuple #[.agg #[.int .i64 k, .int .i64 sz], .int .i64 er]) ∧ ∃ w2, R w2 ∧ w2.grownBy w' (some w.heap.size) := by
  have hpa := fun W => parse_any l hl W
  obtain ⟨s0, s1, s2, s3, s4, hP⟩ : ∃ s0 s1 s2 s3 s4, pathA l = #[.string s0, .string s1, .string s2, .string s3, .string s4] := ⟨_, _, _, _, _, rfl⟩
  unfold pathV at hpa
  simp only [hP] at hpa hc
  have hb0 : Below w.heap.size w (w.alloc (.cells #[.int .i64 0, .int .i64 0] 60)) := (Below.refl _ _).alloc (Nat.le_refl _) _
  have hI0 : InfoAt (w.alloc (.cells #[.int .i64 0, .int .i64 0] 60)) w.heap.size := heap_alloc_new _ _
  have hwb0 : wb < (w.alloc (.cells #[.int .i64 0, .int .i64 0] 60)).heap.size := by simp; omega
  have c00 := ((bcell hb0).1 wb 0 hwb).trans c0
  have HC : Hid _ := hc
  have HB0 : Hid _ := hb0
  have HI0 : Hid _ := hI0
  clear hc hP hl hb0 hI0
  generalize joinB l = tx at hpa ⊢
  go_enter Tryz.func28, Tryz.ntmps28
  go_wp2_with (go_at_call 46; refine Calls.mono (hpa _) ?_; rintro e w1 ⟨rfl, hb1⟩; have d0 := ((bcell hb1).1 wb 0 hwb0).trans c00; have hw1 := Nat.lt_of_lt_of_le hwb0 hb1.size)
  have hI1 : InfoAt (w1.alloc (.cells #[.string s0, .string s1, .string s2, .string s3, .string s4] 104)).drew w.heap.size := by
    have h1 : w1.heap[w.heap.size]? = _ := (hb1.block w.heap.size (by simp)).trans HI0.out
    show (w1.alloc _).heap[w.heap.size]? = _
    rw [Below.heap_alloc _ _ _ (Array.getElem?_eq_some_iff.1 h1).1]; exact h1
  have hcc := HC.out (w1.alloc (.cells #[.string s0, .string s1, .string s2, .string s3, .string s4] 104)).drew (below_via HB0.out (below_drew (hb1.alloc hb1.size _))) hI1
  have HCC : Hid _ := hcc
  clear hcc HC hI1
  go_region_with (go_at_call 54; refine Calls.mono HCC.out ?_; rintro e w2 ⟨rfl, hI2, hR⟩; obtain ⟨hl2, e0, e1, f2⟩ := hI2.cells; clear hI2)
  all_goals
    go_wp2
    refine bodyPost_ret (v := .tuple #[.agg #[.int .i64 k, .int .i64 sz], .int .i64 er]) (by simp [results, Tryz.results28, go_sem, e0, e1]) rfl ?_
    exact ⟨rfl, w2, hR, grown_set (grown_set (grown_refl _ _))⟩
end Go.Proofs.YtajopoddmfdejaaGreat

namespace Go.Proofs.YtajopoddmfdejaaGreat
open Go.RowKit Go.Sort Go.Shelf
set_option linter.unusedVariables false

section
variable {s i p : Nat} {B : WB} {objs : List Ob}

theorem did_grown {tg tg' : Tags} {w w2 w' : World} {g : WG} {lim : Nat} (hi : 2 ≤ i) (m : Moves (Fetches i) tg tg' w w2) (hW : WInv tg' w2 s i p B objs g lim) (ht : tg' w.heap.size = (0, 0)) (hg : w2.grownBy w' (some w.heap.size)) : DidF s i p B objs tg w w' g lim := by
  have hW' := hW.own hg ht
  obtain ⟨g1, g2, g3, g4, g5⟩ := hg
  exact ⟨tg', ⟨g1.trans m.os, g2.trans m.tape, g3.trans m.output, Nat.le_trans m.size g4, m.tags, fun k hk hn => (g5 k (Nat.lt_of_lt_of_le hk m.size) (fun e => by injection e with e; omega)).trans (m.block k hk hn), fun hf => hW'.st.fresh⟩, hW'⟩

theorem hstat {tg : Tags} {w : World} {g : WG} {lim : Nat} {n : ByteArray} (h : WInv tg w s i p B objs g lim) (hn : validB n = true) {k sz er : Int}
    (hc : ∀ W, Below w.heap.size w W → Calls Tryz.prog 54 #[.pointer (some ⟨B.bt, 0, none⟩), .agg (pathA [n])] W fun e w' => e = .returned (.tuple #[.agg #[.int .i64 k, .int .i64 sz], .int .i64 er]) ∧ DidF s i p B objs tg W w' g (lim + 10)) :
    Calls Tryz.prog 28 #[.pointer (some ⟨B.wb, 0, none⟩), .string n] w fun e w' => e = .returned (.tuple #[.agg #[.int .i64 k, .int .i64 sz], .int .i64 er]) ∧ DidF s i p B objs tg w w' g (lim + 10) := by
  obtain ⟨htab, c0⟩ := ws_tab h
  have hi := h.two
  have hfr : tg w.heap.size = (0, 0) := h.st.fresh _ (Nat.le_refl _)
  have hw := stat_ws B.wb B.bt [n] (good_one hn) k sz er (fun w2 => ∃ tg', Moves (Fetches i) tg tg' w w2 ∧ WInv tg' w2 s i p B objs g (lim + 10) ∧ tg' w.heap.size = (0, 0)) w htab.1 c0 (fun W hb hI => (hc W hb).mono ?_)
  · rw [joinB_one] at hw
    refine hw.mono ?_
    rintro e w' ⟨he, w2, ⟨tg', m, hW, ht⟩, hg⟩
    exact ⟨he, did_grown hi m hW ht hg⟩
  · rintro e w' ⟨he, tg', m, hW⟩
    obtain ⟨h1, h2⟩ := fresh_block (not_fetch0 hi) hfr m hI
    exact ⟨he, h1, tg', call_moves hb m, hW, h2⟩

theorem hstat_none {tg : Tags} {w : World} {g : WG} {lim : Nat} {ks : Kids} (h : WInv tg w s i p B objs g lim) (hl : lim + 100 < 1099511627776) (hF : Flat objs (.own ks) g.ft) (hok : LTok objs 5 (.own ks)) {n : ByteArray} (hn : validB n = true) (hpk : pickK ks n = none) :
    Calls Tryz.prog 28 #[.pointer (some ⟨B.wb, 0, none⟩), .string n] w fun e w' => e = .returned (.tuple #[.agg #[.int .i64 0, .int .i64 0], .int .i64 4]) ∧ DidF s i p B objs tg w w' g (lim + 10) :=
  hstat h hn (fun W hb => tstat_none (h.below hb) hl hF hok hn hpk)
theorem hstat_held {tg : Tags} {w : World} {g : WG} {lim f : Nat} {ks : Kids} {d : ByteArray} (h : WInv tg w s i p B objs g lim) (hl : lim + 100 < 1099511627776) (hF : Flat objs (.own ks) g.ft) (hok : LTok objs 5 (.own ks)) (hfl : FlOk objs g.fl) {n : ByteArray} (hn : validB n = true) (hpk : pickK ks n = some (.held f)) {x : Int × ByteArray} (hx : g.fl f = some x) (hbz : bytesG objs g.fl g.fs f = (g.fs, 0, d)) :
    Calls Tryz.prog 28 #[.pointer (some ⟨B.wb, 0, none⟩), .string n] w fun e w' => e = .returned (.tuple #[.agg #[.int .i64 1, .int .i64 (d.size : Int)], .int .i64 0]) ∧ DidF s i p B objs tg w w' g (lim + 10) :=
  hstat h hn (fun W hb => tstat_held (h.below hb) hl hF hok hfl hn hpk hx hbz)
end

set_option maxRecDepth 100000 in
set_option maxHeartbeats 2000000 in
/-- told, over whatever its calls answer where all goes well. -/
theorem told_walk (wb k : Nat) (n d : ByteArray) (R1 R2 R3 : World → Prop) (R : World → Prop) (w : World)
    (ho : Calls Tryz.prog 50 #[.pointer (some ⟨wb, 0, none⟩), .string n, .int .i64 1] w fun e w' => e = .returned (.tuple #[.int .i64 (k : Int), .int .i64 0]) ∧ R1 w')
    (hr : ∀ w1, R1 w1 → Calls Tryz.prog 63 #[.pointer (some ⟨wb, 0, none⟩), .int .i64 (k : Int), .int .i64 1000] w1 fun e w' => e = .returned (.tuple #[.string d, .int .i64 0]) ∧ R2 w')
    (hc : ∀ w2, R2 w2 → Calls Tryz.prog 52 #[.pointer (some ⟨wb, 0, none⟩), .int .i64 (k : Int)] w2 fun e w' => e = .returned (.int .i64 0) ∧ R3 w')
    (hs : ∀ w3, R3 w3 → Calls Tryz.prog 28 #[.pointer (some ⟨wb, 0, none⟩), .string n] w3 fun e w' => e = .returned (.tuple #[.agg #[.int .i64 1, .int .i64 (d.size : Int)], .int .i64 0]) ∧ R w') :
    Calls Tryz.prog 41 #[.pointer (some ⟨wb, 0, none⟩), .string n] w fun e w' => e = .returned (.tuple #[.string d, .bool true]) ∧ ∃ w4, R w4 ∧ Below w4.heap.size w4 w' := by
  have HO : Hid _ := ho
  have HR : Hid _ := hr
  have HC : Hid _ := hc
  have HS : Hid _ := hs
  clear ho hr hc hs
  go_enter Tryz.func41, Tryz.ntmps41
  go_wp2_with fail
  refine Calls.mono HO.out ?_
  rintro e w1 ⟨rfl, h1⟩
  have H1 : Hid _ := HR.out w1 h1
  clear HO HR h1
  go_wp2_with fail
  refine Calls.mono H1.out ?_
  rintro e w2 ⟨rfl, h2⟩
  have H2 : Hid _ := HC.out w2 h2
  clear H1 HC h2
  go_wp2_with fail
  refine Calls.mono H2.out ?_
  rintro e w3 ⟨rfl, h3⟩
  have H3 : Hid _ := HS.out w3 h3
  clear H2 HS h3
  go_wp2_with fail
  refine Calls.mono H3.out ?_
  rintro e w4 ⟨rfl, h4⟩
  have H4 : Hid _ := h4
  clear H3 h4
  go_wp2
  go_region
  all_goals
    go_wp2
    go_ret2
    exact ⟨rfl, w4, H4.out, below_drew ((Below.refl _ _).alloc (Nat.le_refl _) _)⟩
end Go.Proofs.YtajopoddmfdejaaGreat

namespace Go.Proofs.YtajopoddmfdejaaGreat
open Go.RowKit Go.Sort Go.Shelf
set_option linter.unusedVariables false

/-- What was there when the law began stands as it stood. -/
def Old (W wr : World) (tg : Tags) : Prop := Below W.heap.size W wr ∧ ∀ j, j < W.heap.size → tg j = (0, 0)
theorem Old.moves {W wr wr' : World} {tg tg' : Tags} (h : Old W wr tg) (m : Moves (Mine 2) tg tg' wr wr') : Old W wr' tg' :=
  ⟨⟨m.os.trans h.1.os, m.tape.trans h.1.tape, m.output.trans h.1.output, Nat.le_trans h.1.size m.size, fun k hk => (m.block k (Nat.lt_of_lt_of_le hk h.1.size) (by rw [h.2 k hk]; rintro (h | h) <;> cases h)).trans (h.1.block k hk)⟩, fun j hj => (m.tags j (Nat.lt_of_lt_of_le hj h.1.size)).trans (h.2 j hj)⟩
theorem Old.below {W wr wr' : World} {tg : Tags} (h : Old W wr tg) (hb : Below wr.heap.size wr wr') : Old W wr' tg := h.moves (Moves.of_below hb)

/-- The steps that came in. -/
structure StepsAt (W : World) (a : Option Addr) (len : Nat) : Prop where
  at_ : 0 < len → ∃ b o, a = some ⟨b, o, none⟩ ∧ b < W.heap.size ∧ ∀ j, j < len → ∃ kd x y d, i64 kd ∧ i64 x ∧ i64 y ∧ d.size ≤ maxLen ∧ W.cell? ⟨b, o + j * 4, none⟩ = some (.int .i64 kd) ∧ W.cell? ⟨b, o + j * 4 + 1, none⟩ = some (.int .i64 x) ∧ W.cell? ⟨b, o + j * 4 + 2, none⟩ = some (.int .i64 y) ∧ W.cell? ⟨b, o + j * 4 + 3, none⟩ = some (.string d)

end Go.Proofs.YtajopoddmfdejaaGreat

namespace Go.Proofs.YtajopoddmfdejaaGreat
open Go.RowKit Go.Sort Go.Shelf
set_option linter.unusedVariables false

theorem Old.any {P : Nat × Nat → Prop} {W wr wr' : World} {tg tg' : Tags} (h : Old W wr tg) (hP : ¬ P (0, 0)) (m : Moves P tg tg' wr wr') : Old W wr' tg' :=
  ⟨⟨m.os.trans h.1.os, m.tape.trans h.1.tape, m.output.trans h.1.output, Nat.le_trans h.1.size m.size, fun k hk => (m.block k (Nat.lt_of_lt_of_le hk h.1.size) (by rw [h.2 k hk]; exact hP)).trans (h.1.block k hk)⟩, fun j hj => (m.tags j (Nat.lt_of_lt_of_le hj h.1.size)).trans (h.2 j hj)⟩
theorem mine0 {i : Nat} (hi : 2 ≤ i) : ¬ Mine i (0, 0) := by
  rintro (h | h)
  · cases h
  · simp only at h; omega

/-- The store's only object: the empty directory. -/
def OneOb (objs : List Ob) : Prop := ∃ o : Ob, o.kind = 2 ∧ o.ents = [] ∧ o.high = 0 ∧ objs = [o]
theorem one_kind {objs : List Ob} (h : OneOb objs) (id : Int) : kindOf objs id = if id = 1 then 2 else 0 := by
  obtain ⟨o, h1, h2, h3, rfl⟩ := h
  by_cases e1 : id = 1
  · subst e1; rw [if_pos rfl]; exact h1
  · rw [if_neg e1]; exact kindOf_out (by simp; omega)
theorem one_high {objs : List Ob} (h : OneOb objs) (id : Int) : highOf objs id = 0 := by
  obtain ⟨o, h1, h2, h3, rfl⟩ := h
  unfold highOf
  have hc : (id - 1).toNat = 0 ∨ 1 ≤ (id - 1).toNat := by omega
  rcases hc with hc | hc
  · rw [hc]; exact h3
  · rw [List.getElem?_eq_none (by simpa using hc)]; rfl
theorem one_ents {objs : List Ob} (h : OneOb objs) (id : Int) : entsOf objs id = [] := by
  obtain ⟨o, h1, h2, h3, rfl⟩ := h
  unfold entsOf
  have hc : (id - 1).toNat = 0 ∨ 1 ≤ (id - 1).toNat := by omega
  rcases hc with hc | hc
  · rw [hc]; exact h2
  · rw [List.getElem?_eq_none (by simpa using hc)]; rfl
theorem one_exact {objs : List Ob} (h : OneOb objs) : Exact objs := by
  refine ⟨⟨fun id => by rw [one_high h]; exact Int.le_refl _, fun id hk => ?_⟩, ?_, fun id _ => one_high h id, fun id _ => by rw [one_high h, one_ents h]; rfl⟩
  · rw [one_ents h]
    exact ⟨List.Pairwise.nil, by simp, fun e he => by cases he⟩
  · obtain ⟨o, h1, h2, h3, rfl⟩ := h
    intro x hx
    rw [List.mem_singleton.1 hx]; exact .inr h1

/-- Between two calls of made. -/
def MSt (W wr : World) (s p : Nat) (B : WB) (objs : List Ob) (N lim : Nat) : Prop :=
  ∃ tg g t fE, Old W wr tg ∧ QInv tg wr s 2 p B objs g lim t ∧ MadeT objs N fE t g.fl ∧ g.fs.brk = false ∧ ∃ ks, t = .own ks

/-- The store with its first object. -/
def FirstSt (W wr : World) (s p : Nat) (objs : List Ob) : Prop := Below W.heap.size W wr ∧ InvP pt0 (fun k => W.heap.size ≤ k) wr s p objs

theorem first_store (W : World) : Calls Tryz.prog 39 #[] W fun e w' => ∃ s p, e = .returned (.pointer (some ⟨s, 0, none⟩)) ∧ FirstSt W w' s p [] := by
  refine (newStore_inv W).mono ?_
  rintro e w' ⟨s, he, ⟨p, hI⟩, hb⟩
  exact ⟨s, p, he, hb, InvP.keep hI (fun _ _ _ => rfl) (fun k _ hk => by rcases hk with h | h; exact h.elim; exact h.1)⟩

theorem first_dir {W wr : World} {s p : Nat} (h : FirstSt W wr s p []) : Calls Tryz.prog 22 #[.pointer (some ⟨s, 0, none⟩), .slice none 0 0] wr fun e w' => e = .returned (.tuple #[.int .i64 1, .int .i64 0]) ∧ ∃ objs, OneOb objs ∧ FirstSt W w' s p objs := by
  obtain ⟨hb, hI⟩ := h
  refine (storePutDirNil hI).mono ?_
  rintro e w' ⟨objs', hf, hI', hk⟩
  have hB : Below W.heap.size W w' := hb.trans ⟨hk.os, hk.tape, hk.output, hk.size, fun k hk' => hk.block k (Nat.lt_of_lt_of_le hk' hb.size) (by omega)⟩
  have hI2 : InvP pt0 (fun k => W.heap.size ≤ k) w' s p objs' := hI'.keep (fun _ _ _ => rfl) (fun k _ hk => by
    rcases hk with h | h
    · exact h
    · exact Nat.le_trans hb.size h.1)
  rcases hf with ⟨⟨x, hx, h1⟩, _⟩ | ⟨_, ⟨h1, _⟩ | ⟨_, h1, _⟩ | ⟨_, _, ⟨x, hx, h1⟩, _⟩ | ⟨_, _, _, es', hP, _, _, ⟨h1, _⟩ | ⟨_, _, i, h1, _⟩ | ⟨_, _, h1, _⟩ | ⟨_, _, _, ⟨o, h1, h2, h3, h4⟩, h5⟩⟩⟩
  · cases hx
  · exact absurd (by simp) h1
  · exact absurd h1 (by simp)
  · cases hx
  · have := List.perm_nil.1 hP; subst this; exact absurd h1 (by decide)
  · cases h1
  · exact absurd h1 (by simp)
  · have := List.perm_nil.1 hP; subst this
    subst h5
    refine ⟨rfl, objs', ⟨o, h1, h2, ?_, h4⟩, hB, hI2⟩
    rw [h3]; rfl

theorem first_tags {W wr : World} {s p : Nat} {objs : List Ob} (h : FirstSt W wr s p objs) (hS : Sound objs) : ∃ tg : Tags, Old W wr tg ∧ SInv tg wr s p objs [] false 0 := by
  classical
  obtain ⟨hb, hI⟩ := h
  refine ⟨fun k => if W.heap.size ≤ k ∧ k < wr.heap.size then (1, 0) else (0, 0), ⟨hb, fun j hj => if_neg (by omega)⟩, fun k hk => if_neg (by omega), pt0, rfl, hI.keep (fun _ _ _ => rfl) (fun k hk hf => if_pos ⟨hf, hk⟩), ⟨World.ownsRow_nil _ _ _ _, rfl, fun g hg => by cases hg⟩, hS, Nat.le_refl _⟩

/-- A workspace of an object. -/
theorem qcheckout {tg : Tags} {w : World} {s p i : Nat} {objs : List Ob} {got : List Int} {lim : Nat} (h : SInv tg w s p objs got false lim) (hi : 2 ≤ i) {id : Int} (hok : LTok objs 5 (.dir id)) :
    Calls Tryz.prog 40 #[.pointer (some ⟨s, 0, none⟩), .int .i64 id] w fun e w' => ∃ B : WB, e = .returned (.tuple #[.pointer (some ⟨B.wb, 0, none⟩), .int .i64 0]) ∧ ∃ tg', Moves (fun _ => False) tg tg' w w' ∧ QInv tg' w' s i p B objs (wg0 id got) lim (.dir id) := by
  have hk : kindOf objs id = 2 := by rw [LTok] at hok; exact hok.1
  have h0 := h
  obtain ⟨hfr, ft, hbk, hI, hrest⟩ := h
  obtain ⟨a, cap, bf, bd, Df, Dd, hI⟩ := hI
  have hs : s < w.heap.size := (Array.getElem?_eq_some_iff.1 hI.hs).1
  have hkk := kind_any p a objs.length cap bf bd objs id w hI.pool
  rw [hk] at hkk
  refine (checkout_walk s p id w hs hI.c0 hkk).mono ?_
  rintro e w' ⟨w1, hb, rfl, rfl⟩
  have hS1 : SInv tg w1 s p objs got false lim := h0.moves (P := fun _ => False) (Moves.of_below hb) (fun h => h) (fun h => h)
  obtain ⟨m, hW⟩ := new_ws hS1 (i := i) hi hk
  exact ⟨wsB w1.heap.size, rfl, _, (Moves.of_below hb).trans m, ⟨hW, new_flat id got, hok, (fun f id d hx => by cases hx), fun _ => rfl⟩⟩

end Go.Proofs.YtajopoddmfdejaaGreat

namespace Go.Proofs.YtajopoddmfdejaaGreat
open Go.RowKit Go.Sort Go.Shelf
set_option linter.unusedVariables false

/-- Each object is there once. -/
structure Once (a : List Ob) : Prop where
  file : ∀ i (h : i < a.length), a[i].kind = 1 → fileAt a a[i].data = some i
  dir : ∀ i (h : i < a.length), a[i].kind = 2 → dirAt a a[i].ents = some i

theorem Once.snoc {a : List Ob} (h : Once a) {o : Ob} (ho : PutOk a o) : Once (a ++ [o]) := by
  refine ⟨fun i hi hk => ?_, fun i hi hk => ?_⟩
  · rw [fileAt_snoc]
    by_cases h1 : i < a.length
    · rw [List.getElem_append_left h1] at hk ⊢
      rw [h.file i h1 hk]; rfl
    · have h2 : i = a.length := by simp at hi; omega
      subst h2
      simp only [List.getElem_concat_length] at hk ⊢
      rcases ho.or with ⟨_, _, _, hf⟩ | ⟨hk2, _⟩
      · rw [hf, if_pos ⟨hk, trivial⟩]; rfl
      · rw [hk] at hk2; cases hk2
  · rw [dirAt_snoc]
    by_cases h1 : i < a.length
    · rw [List.getElem_append_left h1] at hk ⊢
      rw [h.dir i h1 hk]; rfl
    · have h2 : i = a.length := by simp at hi; omega
      subst h2
      simp only [List.getElem_concat_length] at hk ⊢
      rcases ho.or with ⟨hk2, _⟩ | ⟨_, _, _, _, _, _, hf⟩
      · rw [hk] at hk2; cases hk2
      · rw [hf, if_pos ⟨hk, trivial⟩]; rfl
theorem Drafted.once {a b : List Ob} (h : Drafted a b) (ho : Once a) : Once b := by
  induction h with
  | nil => exact ho
  | snoc _ hp ih => exact ih.snoc hp

theorem Once.fileAt_id {a : List Ob} (h : Once a) {id : Int} (hk : kindOf a id = 1) : fileAt a (bytesOf a id) = some (id - 1).toNat ∧ (((id - 1).toNat : Nat) : Int) + 1 = id := by
  obtain ⟨h1, h2⟩ := kindOf_pos (by rw [hk]; decide)
  unfold kindOf at hk
  rw [if_pos h1, List.getElem?_eq_getElem h2] at hk
  refine ⟨?_, by omega⟩
  unfold bytesOf
  rw [List.getElem?_eq_getElem h2]
  exact h.file _ h2 hk
theorem Once.dirAt_id {a : List Ob} (h : Once a) {id : Int} (hk : kindOf a id = 2) : dirAt a (entsOf a id) = some (id - 1).toNat ∧ (((id - 1).toNat : Nat) : Int) + 1 = id := by
  obtain ⟨h1, h2⟩ := kindOf_pos (by rw [hk]; decide)
  unfold kindOf at hk
  rw [if_pos h1, List.getElem?_eq_getElem h2] at hk
  refine ⟨?_, by omega⟩
  unfold entsOf
  rw [List.getElem?_eq_getElem h2]
  exact h.dir _ h2 hk
theorem Once.fileD_id {a : List Ob} (h : Once a) {id : Int} (hk : kindOf a id = 1) : fileD a (bytesOf a id) = (id, a) := by
  obtain ⟨h1, h2⟩ := h.fileAt_id hk
  unfold fileD
  rw [h1]
  simp only [h2]
theorem Once.dirD_id {a : List Ob} (h : Once a) {id : Int} (hk : kindOf a id = 2) : dirD a (entsOf a id) = (id, a) := by
  obtain ⟨h1, h2⟩ := h.dirAt_id hk
  unfold dirD
  rw [h1]
  simp only [h2]
theorem Once.file_inj {a : List Ob} (h : Once a) {i j : Int} (hi : kindOf a i = 1) (hj : kindOf a j = 1) (he : bytesOf a i = bytesOf a j) : i = j := by
  have h1 := h.fileD_id hi
  have h2 := h.fileD_id hj
  rw [he, h2] at h1
  exact (congrArg Prod.fst h1).symm
theorem Once.dir_inj {a : List Ob} (h : Once a) {i j : Int} (hi : kindOf a i = 2) (hj : kindOf a j = 2) (he : entsOf a i = entsOf a j) : i = j := by
  have h1 := h.dirD_id hi
  have h2 := h.dirD_id hj
  rw [he, h2] at h1
  exact (congrArg Prod.fst h1).symm

/-- Lists by rising names with the same names. -/
theorem names_eq : ∀ {xs ys : Kids}, RisingK xs → RisingK ys → (∀ n, (pickK xs n).isSome = (pickK ys n).isSome) → xs.map (·.1) = ys.map (·.1) := by
  have mem : ∀ (l : Kids) (n : ByteArray), (pickK l n).isSome = true ↔ n ∈ l.map (·.1) := by
    intro l n
    unfold pickK
    rw [Option.isSome_map, List.find?_isSome, List.mem_map]
    constructor
    · rintro ⟨x, hx, hn⟩; exact ⟨x, hx, of_decide_eq_true hn⟩
    · rintro ⟨x, hx, hn⟩; exact ⟨x, hx, decide_eq_true hn⟩
  have key : ∀ (xs ys : List ByteArray), xs.Pairwise (fun x y => cmpN x y < 0) → ys.Pairwise (fun x y => cmpN x y < 0) → (∀ n, n ∈ xs ↔ n ∈ ys) → xs = ys := by
    intro xs
    induction xs with
    | nil =>
      intro ys _ _ h
      cases ys with
      | nil => rfl
      | cons y r => exact absurd ((h y).2 (by simp)) (by simp)
    | cons x xs ih =>
      intro ys hx hy h
      cases ys with
      | nil => exact absurd ((h x).1 (by simp)) (by simp)
      | cons y ys =>
        obtain ⟨x1, x2⟩ := List.pairwise_cons.1 hx
        obtain ⟨y1, y2⟩ := List.pairwise_cons.1 hy
        have hxy : x = y := by
          rcases List.mem_cons.1 ((h x).1 (by simp)) with e | e
          · exact e
          · rcases List.mem_cons.1 ((h y).2 (by simp)) with e' | e'
            · exact e'.symm
            · have := cmpN_trans (y1 x e) (x1 y e')
              rw [cmpN_self] at this; omega
        subst hxy
        rw [ih ys x2 y2 (fun n => ?_)]
        have hn := h n
        constructor
        · intro hm
          rcases List.mem_cons.1 (hn.1 (by simp [hm])) with e | e
          · subst e; have := x1 n hm; rw [cmpN_self] at this; omega
          · exact e
        · intro hm
          rcases List.mem_cons.1 (hn.2 (by simp [hm])) with e | e
          · subst e; have := y1 n hm; rw [cmpN_self] at this; omega
          · exact e
  intro xs ys hx hy h
  refine key _ _ (by rw [List.pairwise_map]; exact hx) (by rw [List.pairwise_map]; exact hy) (fun n => ?_)
  rw [← mem, ← mem, h n]

theorem pick_getK {ks : Kids} (hr : RisingK ks) {k : Nat} (hk : k < ks.length) : pickK ks (ks[k]).1 = some (ks[k]).2 := by
  cases h : pickK ks (ks[k]).1 with
  | none =>
    exfalso
    unfold pickK at h
    rw [Option.map_eq_none_iff, List.find?_eq_none] at h
    exact h _ (List.getElem_mem hk) (by simp)
  | some c => rw [pick_unique hr h (List.getElem_mem hk) rfl]

theorem sem_some_dir {objs : List Ob} {fc : FileC} {c : LT} : nd objs fc c = .dir ↔ c.kind = 2 := by cases c <;> simp [nd, LT.kind]

end Go.Proofs.YtajopoddmfdejaaGreat

namespace Go.Proofs.YtajopoddmfdejaaGreat
open Go.RowKit Go.Sort Go.Shelf
set_option linter.unusedVariables false

theorem modG_own (objs : List Ob) (f : Kids → Kids) (q : List ByteArray) (t : LT) : ∃ ks, modG objs f q t = .own ks := by
  cases q with
  | nil => exact ⟨_, by rw [modG]⟩
  | cons n r => exact ⟨_, by rw [modG]⟩

theorem nameE_ok : validB nameE = true := by unfold nameE validB; simp only [ByteArray.toList_eq]; decide
theorem goodE1 : Good ([].reverse ++ [nameE]) := ⟨fun x hx => by simp at hx; rw [hx]; exact nameE_ok, by simp⟩

/-- e is put into a workspace of the empty directory. -/
theorem m_e {W wr : World} {s p : Nat} {B : WB} {objs : List Ob} {tg : Tags} (h1 : OneOb objs) (hO : Old W wr tg) (h : QInv tg wr s 2 p B objs (wg0 1 []) 0 (.dir 1)) :
    Calls Tryz.prog 26 #[.pointer (some ⟨B.wb, 0, none⟩), .string ⟨#[101]⟩, .string ⟨#[49]⟩] wr fun e w' => e = .returned (.int .i64 0) ∧ MSt W w' s p B objs 2 500 := by
  have hp := qput h (by omega) goodE1 oneB (by unfold maxLen; decide)
  have hj : joinB (([] : List ByteArray).reverse ++ [nameE]) = ⟨#[101]⟩ := joinB_one nameE
  rw [hj] at hp
  refine hp.mono ?_
  rintro e w' ⟨er, he, tg', g', t', m, hQ, hfs, hba, hP⟩
  have hl : lookR objs (.dir 1) (wg0 1 []).fs [] = (⟨[] ++ [1], false, fun _ => false, fun x => decide (x = 1) || false⟩, 0, (entsOf objs 1).map kidOf) := rfl
  rw [hl] at hP hfs
  rw [one_ents h1] at hP
  have hsb : shortB oneB = oneB := by unfold shortB; rw [if_neg (by decide)]
  rw [hsb] at hP
  rcases hP with ⟨h0, _⟩ | ⟨_, h0, _⟩ | ⟨_, _, rfl, f, hf, hx, hh⟩
  · exact absurd rfl h0
  · exact absurd rfl h0
  · refine ⟨he, tg', g', t', f, hO.any (mine0 (Nat.le_refl _)) m, hQ.mono (by omega), ?_, by rw [hfs], ?_⟩
    · rcases hh with ⟨hq, _⟩ | ⟨_, _, rfl⟩
      · cases hq
      · have ht : modG objs (fun ks => putK ks nameE (.held f)) [].reverse (.dir 1) = .own [(nameE, .held f)] := by
          show LT.own (putK ((entsOf objs 1).map kidOf) nameE (.held f)) = _
          rw [one_ents h1]; rfl
        rw [ht]
        refine ⟨⟨_, rfl, rfl, fun x hx => ?_⟩, hf, fun x y b hx hy => ?_, ?_⟩
        · rw [List.mem_singleton.1 hx]; exact .inr rfl
        · have key : ∀ x, (LT.own [(nameE, .held f)]).at objs x = some (.held b) → x = [nameE] := by
            intro x hx
            cases x with
            | nil => rw [at_nil] at hx; cases hx
            | cons n r =>
              rw [at_cons] at hx
              simp only [kids, Option.bind_some] at hx
              by_cases e : nameE = n
              · subst e
                have : pickK [(nameE, LT.held f)] nameE = some (.held f) := by simp [pickK]
                rw [this, Option.bind_some] at hx
                cases r with
                | nil => rfl
                | cons m r => rw [at_cons] at hx; simp [kids] at hx
              · have : pickK [(nameE, LT.held f)] n = none := by simp [pickK, e]
                rw [this] at hx; cases hx
          rw [key x hx, key y hy]
        · show big objs 5 (.own [(nameE, .held f)]) ≤ 2
          rw [big_succ]
          have hb1 : ∀ k, big objs k (.held f) = 1 := by intro k; cases k <;> (rw [big]; try rfl)
          simp [bigs, kids, hb1]
    · rcases hh with ⟨hq, _⟩ | ⟨_, _, rfl⟩
      · cases hq
      · exact modG_own _ _ _ _

theorem step_own {objs : List Ob} {g g' : WG} {t t' : LT} {k : Int} {na nb : ByteArray} {ra rb : List ByteArray} {d : ByteArray} {er : Int} (h : ∃ ks, t = .own ks) (hs : StepTo objs g t k na nb ra rb d er g' t') : ∃ ks, t' = .own ks := by
  have hm : ∀ (x : LT), (x = t ∨ ∃ f q y, x = modG objs f q y) → ∃ ks, x = .own ks := by
    rintro x (rfl | ⟨f, q, y, rfl⟩)
    · exact h
    · exact modG_own _ _ _ _
  rcases hs with ⟨_, _, _, ⟨_, _, h2, _⟩ | ⟨_, _, _, h2, _⟩ | ⟨_, _, _, f, _, _, ⟨_, h2⟩ | ⟨_, _, h2⟩⟩⟩ | ⟨_, _, h1, _⟩ | ⟨_, _, h1, _⟩ | ⟨_, _, h1, _⟩
  · rw [h2]; exact h
  · rw [h2]; exact h
  · rw [h2]; exact h
  · rw [h2]; exact modG_own _ _ _ _
  · rw [h1]
    apply hm
    unfold mkdirR
    simp only
    split
    · exact .inl rfl
    · split
      · exact .inl rfl
      · split
        · exact .inl rfl
        · exact .inr ⟨_, _, _, rfl⟩
  · rw [h1]
    apply hm
    unfold removeR
    simp only
    split
    · exact .inl rfl
    · split
      · exact .inl rfl
      · exact .inr ⟨_, _, _, rfl⟩
  · rw [h1]
    apply hm
    unfold renameR
    simp only
    repeat' split
    all_goals first | exact .inl rfl | exact .inr ⟨_, _, _, rfl⟩

theorem step_brk {objs : List Ob} {g g' : WG} {t t' : LT} {k : Int} {na nb : ByteArray} {ra rb : List ByteArray} {d : ByteArray} {er : Int} (h : g.fs.brk = false) (hs : StepTo objs g t k na nb ra rb d er g' t') : g'.fs.brk = false := by
  rcases hs with ⟨_, h1, _⟩ | ⟨_, _, _, h1, _⟩ | ⟨_, _, _, h1, _⟩ | ⟨_, _, _, h1, _⟩ <;> rw [h1]
  · exact (q_look objs t g.fs ra).2 h
  · exact (q_mkdir objs t g.fs na ra).2 h
  · exact (q_remove objs t g.fs na ra).2 h
  · exact (q_rename objs t g.fs na nb ra rb).2 h

theorem QInv.held {tg : Tags} {w : World} {s i p : Nat} {B : WB} {objs : List Ob} {g : WG} {lim : Nat} {t : LT} (h : QInv tg w s i p B objs g lim t) : ∀ x f, t.at objs x = some (.held f) → ∃ y, g.fl f = some y := fun x f ha => h.inv.wp.held x f (by rw [h.flat.of, ha]; rfl)

theorem m_step {W wr : World} {s p : Nat} {B : WB} {objs : List Ob} {N lim : Nat} (h : MSt W wr s p B objs N lim) (hl : lim + 1000 < 1099511627776) {kd a b : Int} {d : ByteArray} (hk : i64 kd) (ha : i64 a) (hb : i64 b) (hd : d.size ≤ maxLen) :
    Calls Tryz.prog 14 #[.pointer (some ⟨B.wb, 0, none⟩), .agg #[.int .i64 kd, .int .i64 a, .int .i64 b, .string d]] wr fun e w' => ∃ er, e = .returned (.int .i64 er) ∧ MSt W w' s p B objs (N + 1) (lim + 500) := by
  obtain ⟨tg, g, t, fE, hO, hQ, hM, hbr, hown⟩ := h
  obtain ⟨na, ra, hpa⟩ := (pathL_letters a).split
  obtain ⟨nb, rb, hpb⟩ := (pathL_letters b).split
  have hla := pathL_letters a
  have hlb := pathL_letters b
  rw [hpa] at hla
  rw [hpb] at hlb
  refine (do_exact hQ hl kd a b d hk ha hb hd hpa hpb).mono ?_
  rintro e w' ⟨er, he, tg', g', t', m, hQ', hs⟩
  exact ⟨er, he, tg', g', t', fE, hO.any (mine0 (Nat.le_refl _)) m, hQ', made_step hQ.inv.st.sound hQ.ok hQ.held hM hla hlb hs, step_brk hbr hs, step_own hown hs⟩

/-- While e is told. -/
def TSt (W wr : World) (s p : Nat) (B : WB) (objs : List Ob) (N lim : Nat) (ks : Kids) (fE : Nat) (op : Nat → Option (Nat × Nat × Int × Int)) : Prop :=
  ∃ tg g, Old W wr tg ∧ WInv tg wr s 2 p B objs g lim ∧ Flat objs (.own ks) g.ft ∧ LTok objs 5 (.own ks) ∧ FlOk objs g.fl ∧ MadeT objs N fE (.own ks) g.fl ∧ g.fs.brk = false ∧ g.op = op

theorem made_pick {objs : List Ob} {N fE : Nat} {ks : Kids} {fl : Nat → Option (Int × ByteArray)} (h : MadeT objs N fE (.own ks) fl) : pickK ks nameE = some (.held fE) := by
  obtain ⟨ks', h1, h2, _⟩ := h.root
  simp only [kids, Option.some.injEq] at h1
  rw [h1]; exact h2

theorem t_open {W wr : World} {s p : Nat} {B : WB} {objs : List Ob} {N lim : Nat} {ks : Kids} {fE : Nat} (hl : lim ≤ 90000) (h : TSt W wr s p B objs N lim ks fE (fun _ => none)) :
    Calls Tryz.prog 50 #[.pointer (some ⟨B.wb, 0, none⟩), .string nameE, .int .i64 1] wr fun e w' => e = .returned (.tuple #[.int .i64 ((0 : Nat) : Int), .int .i64 0]) ∧ ∃ b, TSt W w' s p B objs N (lim + 300) ks fE (updN (fun _ => none) 0 (some (b, fE, 1, 0))) := by
  obtain ⟨tg, g, hO, hW, hF, hok, hfl, hM, hbr, hop⟩ := h
  have hpk := made_pick hM
  refine (hopen (k := 0) hW (by omega) hF hok nameE_ok 1 (by decide) (by decide) false false false (by decide) (by decide) (by decide) valid_1 (by decide) (by rw [hop]) (fun j hj => by omega) (own_look objs ks g.fs) (openE_file hpk rfl) (fun f' hf' => by rw [hpk] at hf'; cases hf'; exact ⟨_, hM.data⟩)).mono ?_
  rintro e w' ⟨he, tg', g', t', b, f2, m, hW', hF', hok', hfs, hop', hT⟩
  refine ⟨he, b, ?_⟩
  rcases hT with ⟨hq, _⟩ | ⟨hq, ht', hfl'⟩ | ⟨id, hq, _⟩
  · rw [hpk] at hq; cases hq
  · rw [hpk] at hq
    cases hq
    rw [if_neg (by decide)] at hfl'
    subst ht'
    exact ⟨tg', g', hO.any (mine0 (Nat.le_refl _)) m, hW', hF', hok', by rw [hfl']; exact hfl, by rw [hfl']; exact hM, by rw [hfs]; exact hbr, by rw [hop', hop]⟩
  · rw [hpk] at hq; cases hq

theorem t_read {W wr : World} {s p : Nat} {B : WB} {objs : List Ob} {N lim : Nat} {ks : Kids} {fE b : Nat} (hl : lim ≤ 100000) (h : TSt W wr s p B objs N lim ks fE (updN (fun _ => none) 0 (some (b, fE, 1, 0)))) :
    Calls Tryz.prog 63 #[.pointer (some ⟨B.wb, 0, none⟩), .int .i64 ((0 : Nat) : Int), .int .i64 1000] wr fun e w' => e = .returned (.tuple #[.string oneB, .int .i64 0]) ∧ ∃ pl, TSt W w' s p B objs N (lim + 1) ks fE (updN (fun _ => none) 0 (some (b, fE, 1, pl))) := by
  obtain ⟨tg, g, hO, hW, hF, hok, hfl, hM, hbr, hop⟩ := h
  have ho : g.op 0 = some (b, fE, 1, 0) := by rw [hop]; exact updN_same _ _ _
  obtain ⟨_, c1, _⟩ := opens_cell hW (by decide) ho
  have hby : bytesG objs g.fl g.fs fE = (g.fs, 0, oneB) := by unfold bytesG; rw [hM.data]; rfl
  have hrd := read_gen hW (by omega) hfl ho (n := 1000) (by decide) (by decide) (by decide) hby
  have hex : oneB.extract (min (0 : Int).toNat oneB.size) (min (min (0 : Int).toNat oneB.size + (min 1000 (256 - 0) : Int).toNat) oneB.size) = oneB := by decide
  rw [hex] at hrd
  refine (read_ws B.wb 0 b 1000 oneB 0 _ wr c1 (by decide) hrd).mono ?_
  rintro e w' ⟨he, tg', m, hW'⟩
  refine ⟨he, 0 + oneB.size, tg', _, hO.any (mine0 (Nat.le_refl _)) m, hW', hF, hok, hfl, hM, hbr, ?_⟩
  show updN g.op 0 _ = _
  rw [hop]
  funext x
  by_cases e : x = 0
  · subst e; rw [updN_same, updN_same]
  · rw [updN_other e, updN_other e, updN_other e]

theorem t_close {W wr : World} {s p : Nat} {B : WB} {objs : List Ob} {N lim : Nat} {ks : Kids} {fE b : Nat} {pl : Int} (h : TSt W wr s p B objs N lim ks fE (updN (fun _ => none) 0 (some (b, fE, 1, pl)))) :
    Calls Tryz.prog 52 #[.pointer (some ⟨B.wb, 0, none⟩), .int .i64 ((0 : Nat) : Int)] wr fun e w' => e = .returned (.int .i64 0) ∧ TSt W w' s p B objs N lim ks fE (fun _ => none) := by
  obtain ⟨tg, g, hO, hW, hF, hok, hfl, hM, hbr, hop⟩ := h
  have ho : g.op 0 = some (b, fE, 1, pl) := by rw [hop]; exact updN_same _ _ _
  obtain ⟨c0, c1, c2⟩ := opens_cell hW (by decide) ho
  refine (close_ws B.wb 0 b wr c0 c1 c2 (by decide)).mono ?_
  rintro e w' ⟨he, rfl⟩
  obtain ⟨m2, hW2⟩ := hW.close (k := 0) (by decide)
  refine ⟨he, tg, _, hO.any (P := fun t => t = (2, 0)) (by simp) (m2.mono (fun x hx => hx)), hW2, hF, hok, hfl, hM, hbr, ?_⟩
  show updN g.op 0 none = _
  rw [hop]
  funext x
  by_cases e : x = 0
  · subst e; rw [updN_same]
  · rw [updN_other e, updN_other e]

theorem t_stat {W wr : World} {s p : Nat} {B : WB} {objs : List Ob} {N lim : Nat} {ks : Kids} {fE : Nat} (hl : lim ≤ 200000) (h : TSt W wr s p B objs N lim ks fE (fun _ => none)) :
    Calls Tryz.prog 28 #[.pointer (some ⟨B.wb, 0, none⟩), .string nameE] wr fun e w' => e = .returned (.tuple #[.agg #[.int .i64 1, .int .i64 (oneB.size : Int)], .int .i64 0]) ∧ TSt W w' s p B objs N (lim + 10) ks fE (fun _ => none) := by
  obtain ⟨tg, g, hO, hW, hF, hok, hfl, hM, hbr, hop⟩ := h
  have hby : bytesG objs g.fl g.fs fE = (g.fs, 0, oneB) := by unfold bytesG; rw [hM.data]; rfl
  refine (hstat_held hW (by omega) hF hok hfl nameE_ok (made_pick hM) hM.data hby).mono ?_
  rintro e w' ⟨he, tg', m, hW'⟩
  exact ⟨he, tg', g, hO.any (mine0 (Nat.le_refl _)) (m.mono (fun t ht => Fetches.mine ht)), hW', hF, hok, hfl, hM, hbr, hop⟩

theorem m_told {W wr : World} {s p : Nat} {B : WB} {objs : List Ob} {N lim : Nat} (hl : lim ≤ 80000) (h : MSt W wr s p B objs N lim) :
    Calls Tryz.prog 41 #[.pointer (some ⟨B.wb, 0, none⟩), .string ⟨#[101]⟩] wr fun e w' => e = .returned (.tuple #[.string ⟨#[49]⟩, .bool true]) ∧ MSt W w' s p B objs N (lim + 311) := by
  obtain ⟨tg, g, t, fE, hO, hQ, hM, hbr, ks, rfl⟩ := h
  have h0 : TSt W wr s p B objs N lim ks fE (fun _ => none) := ⟨tg, g, hO, hQ.inv, hQ.flat, hQ.ok, hQ.fl, hM, hbr, funext hQ.op⟩
  refine (told_walk B.wb 0 nameE oneB _ (fun w2 => ∃ b pl, TSt W w2 s p B objs N (lim + 301) ks fE (updN (fun _ => none) 0 (some (b, fE, 1, pl)))) (fun w3 => TSt W w3 s p B objs N (lim + 301) ks fE (fun _ => none)) (fun w4 => TSt W w4 s p B objs N (lim + 301 + 10) ks fE (fun _ => none)) wr (t_open (by omega) h0)
    (fun w1 ⟨b, h1⟩ => (t_read (by omega) h1).mono (fun e w' ⟨h2, pl, h3⟩ => ⟨h2, b, pl, h3⟩)) (fun w2 ⟨b, pl, h1⟩ => t_close h1) (fun w3 h3 => t_stat (by omega) h3)).mono ?_
  rintro e w' ⟨he, w4, ⟨tg', g', hO', hW', hF', hok', hfl', hM', hbr', hop'⟩, hb⟩
  exact ⟨he, tg', g', .own ks, fE, hO'.any (P := fun _ => False) (fun h => h) (Moves.of_below hb), ⟨hW'.below hb, hF', hok', hfl', fun k => by rw [hop']⟩, hM', hbr', ks, rfl⟩

theorem Same.once {x y : List Ob} (h : Same x y) (hy : Once y) : Once x := by
  have key : ∀ i (hx : i < x.length) (hy' : i < y.length), (x[i]).core = (y[i]).core := by
    intro i h1 h2
    have hg := h.get i
    rw [List.getElem?_eq_getElem h1, List.getElem?_eq_getElem h2] at hg
    exact Option.some.inj hg
  refine ⟨fun i hi hk => ?_, fun i hi hk => ?_⟩
  · have hi' : i < y.length := by rw [← h.len]; exact hi
    have hc := key i hi hi'
    simp only [Ob.core, Prod.mk.injEq] at hc
    have hk' : (y[i]).kind = 1 := by rw [← hc.1]; exact hk
    have hd : (x[i]).data = (y[i]).data := by have := hc.2.1; rw [if_pos hk, if_pos hk'] at this; exact this
    rw [h.file, hd]
    exact hy.file i hi' hk'
  · have hi' : i < y.length := by rw [← h.len]; exact hi
    have hc := key i hi hi'
    simp only [Ob.core, Prod.mk.injEq] at hc
    have hk' : (y[i]).kind = 2 := by rw [← hc.1]; exact hk
    have hd : (x[i]).ents = (y[i]).ents := by have := hc.2.2.1; rw [if_pos hk, if_pos hk'] at this; exact this
    rw [h.dir, hd]
    exact hy.dir i hi' hk'
theorem one_once {objs : List Ob} (h : OneOb objs) : Once objs := by
  obtain ⟨o, h1, h2, h3, rfl⟩ := h
  refine ⟨fun i hi hk => ?_, fun i hi hk => ?_⟩
  · have : i = 0 := by simp at hi; exact hi
    subst this
    simp only [List.getElem_cons_zero] at hk
    rw [h1] at hk; cases hk
  · have : i = 0 := by simp at hi; exact hi
    subst this
    simp [dirAt, List.findIdx?_cons, h1]

/-- What made leaves: a store with the object of a tree. -/
def Made (W w' : World) (s p : Nat) (id : Int) : Prop := ∃ tg objs got, Old W w' tg ∧ SInv tg w' s p objs got false 60000 ∧ Exact objs ∧ Once objs ∧ LTok objs 5 (.dir id) ∧ objs.length ≤ 100 ∧ 1 ≤ id

theorem m_commit {W wr : World} {s p : Nat} {B : WB} {objs : List Ob} {N lim : Nat} (h1 : OneOb objs) (hN : N ≤ 95) (hl : lim ≤ 60000) (h : MSt W wr s p B objs N lim) :
    Calls Tryz.prog 20 #[.pointer (some ⟨B.wb, 0, none⟩)] wr fun e w' => ∃ id, e = .returned (.tuple #[.int .i64 id, .int .i64 0]) ∧ 1 ≤ id ∧ Made W w' s p id := by
  obtain ⟨tg, g, t, fE, hO, hQ, hM, hbr, ks, rfl⟩ := h
  obtain ⟨hwb, c0, _⟩ := hQ.ws
  have hX := one_exact h1
  have hB : Base8 tg wr s 2 p B objs g lim (.own ks) := ⟨hQ.inv, hQ.flat, hX, hQ.fl⟩
  have hcb := cnt_big objs 5 (.own ks)
  have hfw := hM.few
  have hlen : objs.length = 1 := by obtain ⟨o, _, _, _, rfl⟩ := h1; rfl
  have hob := objR_ok g.fl 5 (Nat.le_refl _) (.own ks) objs hX hQ.ok hB.flSz
  have hol := hob.len
  refine (commit_ws B.wb B.bt _ _ wr hwb c0 (commit_any hB hQ.ok (by omega) (by omega))).mono ?_
  rintro e w' ⟨he, x', tg', hl', hsame, m, hS⟩
  have hk : kindOf x' (objR g.fl 5 (.own ks) objs).1 = 2 := by rw [hsame.kind]; exact hob.kind
  have hid := (kindOf_pos (by rw [hk]; decide)).1
  refine ⟨_, he, hid, tg', x', g.fs.got, hO.any (by simp) m, by rw [hbr] at hS; exact hS.mono hl, hsame.exact (hob.dr.exact hX), hsame.once (hob.dr.once (one_once h1)), ?_, by rw [hsame.len]; omega, hid⟩
  rw [LTok]
  exact ⟨hk, by rw [hsame.high]; exact hob.high⟩

end Go.Proofs.YtajopoddmfdejaaGreat
