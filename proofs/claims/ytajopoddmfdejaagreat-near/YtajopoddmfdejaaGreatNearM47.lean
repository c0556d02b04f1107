/-
  What is proved here: List of a workspace, at any path: as the model says. what stands still while a law runs; the steps that came in. the calls of canopykeep's made, one by one: a new store, its first object, a workspace of it, e, the steps, what is told of e, the commit. the calls of canopykeep's made, one by one: e, the steps, what is told of e, the commit.
-/
import Derived.Test.YtajopoddmfdejaaGreatNearM46
import Derived.Test.YtajopoddmfdejaaGreatNearM35
import Derived.Test.YtajopoddmfdejaaGreatNearM36
import Derived.Test.YtajopoddmfdejaaGreatNearM45
import Derived.Test.YtajopoddmfdejaaGreatNearM40
namespace Go.Proofs.YtajopoddmfdejaaGreat
open Go.RowKit Go.Sort Go.Shelf
set_option linter.unusedVariables false

set_option maxRecDepth 100000 in
set_option maxHeartbeats 1000000 in
theorem tlist_err (t : Nat) (s0 s1 s2 s3 s4 : ByteArray) (er : Int) (her : er ≠ 0) (R : World → Prop) (w : World)
    (hlook : ∀ W, Below w.heap.size w W → Calls Tryz.prog 75 #[.pointer (some ⟨t, 0, none⟩), .agg #[.string s0, .string s1, .string s2, .string s3, .string s4]] W fun e w' => ∃ v, e = .returned (.tuple #[v, .int .i64 er]) ∧ R w') :
    Calls Tryz.prog 56 #[.pointer (some ⟨t, 0, none⟩), .agg #[.string s0, .string s1, .string s2, .string s3, .string s4]] w fun e w' => R w' ∧ e = .returned (.tuple #[.slice none 0 0, .int .i64 er]) := by
  have hl := hlook _ ((Below.refl w.heap.size w).alloc (Nat.le_refl _) (.cells #[.string s0, .string s1, .string s2, .string s3, .string s4] 104))
  have HL : Hid _ := hl
  have he : (er == 0) = false := by simpa using her
  clear hlook hl her
  go_enter Tryz.func56, Tryz.ntmps56
  go_wp2_with fail
  refine Calls.mono HL.out ?_
  rintro e w3 ⟨v, rfl, hR⟩
  have HR : Hid _ := hR
  clear HL hR
  go_wp2
  go_ret2
  exact ⟨HR.out, rfl⟩

set_option maxRecDepth 100000 in
set_option maxHeartbeats 1000000 in
theorem tlist_nil (t : Nat) (s0 s1 s2 s3 s4 : ByteArray) (R : World → Prop) (w : World)
    (hlook : ∀ W, Below w.heap.size w W → Calls Tryz.prog 75 #[.pointer (some ⟨t, 0, none⟩), .agg #[.string s0, .string s1, .string s2, .string s3, .string s4]] W fun e w' => ∃ a c, e = .returned (.tuple #[.slice a 0 c, .int .i64 0]) ∧ R w') :
    Calls Tryz.prog 56 #[.pointer (some ⟨t, 0, none⟩), .agg #[.string s0, .string s1, .string s2, .string s3, .string s4]] w fun e w' => ∃ w3, R w3 ∧ e = .returned (.tuple #[.slice (some ⟨w3.heap.size, 0, none⟩) 0 0, .int .i64 0]) ∧ Below w3.heap.size w3 w' ∧ NmsAt w' w3.heap.size [] 0 := by
  have hl := hlook _ ((Below.refl w.heap.size w).alloc (Nat.le_refl _) (.cells #[.string s0, .string s1, .string s2, .string s3, .string s4] 104))
  have HL : Hid _ := hl
  clear hlook hl
  go_enter Tryz.func56, Tryz.ntmps56
  go_wp2_with fail
  refine Calls.mono HL.out ?_
  rintro e w3 ⟨a, c, rfl, hR⟩
  obtain ⟨cs, hmk, hcs, hx⟩ := make_str 0 (by decide) w3
  have hmk' : (Instr.makeSlice 69 (.int .i64 0) (.int .i64 0)).run Tryz.prog w3 = .ok (.slice (some ⟨w3.heap.size, 0, none⟩) 0 0) (w3.alloc (.cells cs 9)) := hmk
  have HN0 : Hid _ := nms_new (w := w3) (es := []) hcs (fun j hj => absurd hj (Nat.not_lt_zero _))
  have HR : Hid _ := hR
  clear HL hR hx hcs hmk
  go_wp2
  go_loopw [25] (fun i wr => i = .int .i64 0 ∧ Below w3.heap.size w3 wr ∧ Hid (NmsAt wr w3.heap.size [] 0)) (fun _ _ => 0)
  case atStart => exact ⟨rfl, (Below.refl _ _).alloc (Nat.le_refl _) _, HN0.out⟩
  case round =>
    obtain ⟨rfl, hb, HN⟩ := hrel
    go_wp2
    go_ret2
    exact ⟨w3, HR.out, rfl, hb, HN.out⟩

set_option maxRecDepth 100000 in
set_option maxHeartbeats 1000000 in
theorem list_wsG (wb bt : Nat) (l : List ByteArray) (hl : Good l) (R : Value → Int → World → Prop) (w : World) (hwb : wb < w.heap.size) (c0 : w.cell? ⟨wb, 0, none⟩ = some (.pointer (some ⟨bt, 0, none⟩)))
    (hc : ∀ W, Below w.heap.size w W → Calls Tryz.prog 56 #[.pointer (some ⟨bt, 0, none⟩), .agg (pathA l)] W fun e w' => ∃ v er, e = .returned (.tuple #[v, .int .i64 er]) ∧ R v er w') :
    Calls Tryz.prog 32 #[.pointer (some ⟨wb, 0, none⟩), .string (joinB l)] w fun e w' => ∃ v er, e = .returned (.tuple #[v, .int .i64 er]) ∧ R v er w' := by
  have hpa := fun W => parse_any l hl W
  obtain ⟨s0, s1, s2, s3, s4, hP⟩ : ∃ s0 s1 s2 s3 s4, pathA l = #[.string s0, .string s1, .string s2, .string s3, .string s4] := ⟨_, _, _, _, _, rfl⟩
  unfold pathV at hpa
  simp only [hP] at hpa hc
  have HC : Hid _ := hc
  clear hc hP hl
  generalize joinB l = tx at hpa ⊢
  go_enter Tryz.func32, Tryz.ntmps32
  go_wp2_with (go_at_call 46; refine Calls.mono (hpa _) ?_; rintro e w1 ⟨rfl, hb1⟩; have d0 := ((bcell hb1).1 wb 0 hwb).trans c0; have hw1 := Nat.lt_of_lt_of_le hwb hb1.size)
  have hcc := HC.out (w1.alloc (.cells #[.string s0, .string s1, .string s2, .string s3, .string s4] 104)).drew (below_drew (hb1.alloc hb1.size _))
  have HCC : Hid _ := hcc
  clear hcc HC
  go_region_with (go_at_call 56; refine Calls.mono HCC.out ?_; rintro e w2 ⟨v, er, rfl, hR⟩)
  all_goals
    go_wp2
    go_ret2
    exact ⟨v, er, rfl, hR⟩

/-- What List answers. -/
def Listed (tg : Tags) (w : World) (er : Int) (ks : Kids) (v : Value) : Prop := (er ≠ 0 ∧ v = .slice none 0 0) ∨ (er = 0 ∧ ∃ b, v = .slice (some ⟨b, 0, none⟩) ks.length ks.length ∧ NmsAt w b (ks.map entOf) ks.length ∧ tg b = (0, 0))

section
variable {s i p : Nat} {B : WB} {objs : List Ob}
theorem qlist {tg : Tags} {w : World} {g : WG} {lim : Nat} {t : LT} (h : QInv tg w s i p B objs g lim t) (hl : lim + 1000 < 1099511627776) {r : List ByteArray} (hL : Good r.reverse) :
    Calls Tryz.prog 32 #[.pointer (some ⟨B.wb, 0, none⟩), .string (joinB r.reverse)] w fun e w' => ∃ v, e = .returned (.tuple #[v, .int .i64 (lookR objs t g.fs r).2.1]) ∧ ∃ tg', Moves (Mine i) tg tg' w w' ∧ QInv tg' w' s i p B objs { g with fs := (lookR objs t g.fs r).1 } (lim + 400) t ∧ Listed tg' w' (lookR objs t g.fs r).2.1 (lookR objs t g.fs r).2.2 v := by
  obtain ⟨hwb, c0, _⟩ := h.ws
  have hr5 : r.length ≤ 5 := by have := hL.len; simpa using this
  have hlook := fun W (hb : Below w.heap.size w W) => look_all (s := s) (i := i) (p := p) (B := B) (objs := objs) r tg W g lim (h.inv.below hb) (by omega) hL
  have he16 : ((lookR objs t g.fs r).2.2.map entOf).length ≤ 16 := by
    have := (h.inv.ents g.fs r).len
    rw [flat_look h.inv.st.sound h.flat h.ok g.fs r] at this
    exact this
  simp only [flat_look h.inv.st.sound h.flat h.ok g.fs r] at hlook
  obtain ⟨fs', er, ks, hlk⟩ : ∃ fs' er ks, lookR objs t g.fs r = (fs', er, ks) := ⟨_, _, _, rfl⟩
  rw [hlk] at he16 hlook ⊢
  simp only at he16 hlook ⊢
  refine (list_wsG B.wb B.bt r.reverse hL (fun v e w' => e = er ∧ ∃ tg', Moves (Mine i) tg tg' w w' ∧ QInv tg' w' s i p B objs { g with fs := fs' } (lim + 400) t ∧ Listed tg' w' er ks v) w hwb c0 (fun W hb => ?_)).mono ?_
  · have hmk : ∀ {w3 w' : World} {tg' : Tags}, Moves (Fetches i) tg tg' w w3 → WInv tg' w3 s i p B objs { g with fs := fs' } (lim + r.length + 1) → Below w3.heap.size w3 w' → Moves (Mine i) tg tg' w w' ∧ QInv tg' w' s i p B objs { g with fs := fs' } (lim + 400) t := by
      intro w3 w' tg' m hW hb3
      exact ⟨(m.mono (fun t ht => Fetches.mine ht)).trans (Moves.of_below hb3), (hW.below hb3).mono (by omega), h.flat, h.ok, h.fl, h.op⟩
    by_cases her : er = 0
    · subst her
      by_cases hne : 0 < ks.length
      · have htl := tlist_walk B.bt _ _ _ _ _ (ks.map entOf) (fun w3 => ∃ tg', Moves (Fetches i) tg tg' w w3 ∧ WInv tg' w3 s i p B objs { g with fs := fs' } (lim + r.length + 1)) W he16 (fun W' hb' => (hlook W' (below_via hb hb')).mono ?_)
        · refine htl.mono ?_
          rintro e w' ⟨w3, ⟨tg', m, hW⟩, rfl, hb3, hN⟩
          rw [List.length_map] at hN ⊢
          obtain ⟨m', hQ⟩ := hmk m hW hb3
          exact ⟨_, _, rfl, rfl, tg', m', hQ, .inr ⟨rfl, _, rfl, hN, hW.st.fresh _ (Nat.le_refl _)⟩⟩
        · rintro e w' ⟨v, rfl, tg', m, hW, hsl⟩
          obtain ⟨gb, cp, rfl, hgb, _⟩ := hsl.at_ (k := 0) (by simpa using hne)
          refine ⟨gb, cp, rfl, ⟨tg', (call_moves (below_via hb hb') m), hW⟩, hgb, fun j u hu => ?_⟩
          have := owns_cells hsl.1 j u hu
          rwa [Nat.zero_add] at this
      · obtain rfl : ks = [] := List.length_eq_zero_iff.1 (by omega)
        have htl := tlist_nil B.bt _ _ _ _ _ (fun w3 => ∃ tg', Moves (Fetches i) tg tg' w w3 ∧ WInv tg' w3 s i p B objs { g with fs := fs' } (lim + r.length + 1)) W (fun W' hb' => (hlook W' (below_via hb hb')).mono ?_)
        · refine htl.mono ?_
          rintro e w' ⟨w3, ⟨tg', m, hW⟩, rfl, hb3, hN⟩
          obtain ⟨m', hQ⟩ := hmk m hW hb3
          exact ⟨_, _, rfl, rfl, tg', m', hQ, .inr ⟨rfl, _, rfl, hN, hW.st.fresh _ (Nat.le_refl _)⟩⟩
        · rintro e w' ⟨v, rfl, tg', m, hW, hsl⟩
          obtain ⟨la, c, rfl⟩ := hsl.len
          exact ⟨la, c, rfl, tg', (call_moves (below_via hb hb') m), hW⟩
    · have htl := tlist_err B.bt _ _ _ _ _ er her (fun w3 => ∃ tg', Moves (Fetches i) tg tg' w w3 ∧ WInv tg' w3 s i p B objs { g with fs := fs' } (lim + r.length + 1)) W (fun W' hb' => (hlook W' (below_via hb hb')).mono ?_)
      · refine htl.mono ?_
        rintro e w' ⟨⟨tg', m, hW⟩, rfl⟩
        obtain ⟨m', hQ⟩ := hmk m hW (Below.refl _ _)
        exact ⟨_, _, rfl, rfl, tg', m', hQ, .inl ⟨her, rfl⟩⟩
      · rintro e w' ⟨v, rfl, tg', m, hW, hsl⟩
        exact ⟨v, rfl, tg', (call_moves (below_via hb hb') m), hW⟩
  · rintro e w' ⟨v, er', he, rfl, hR⟩
    exact ⟨v, he, hR⟩
end
end Go.Proofs.YtajopoddmfdejaaGreat

namespace Go.Proofs.YtajopoddmfdejaaGreat
open Go.RowKit Go.Sort Go.Shelf
set_option linter.unusedVariables false

/-- What was there when the law began stands as it stood. -/
def Old (W wr : World) (tg : Tags) : Prop := Below W.heap.size W wr ∧ ∀ j, j < W.heap.size → tg j = (0, 0)
theorem Old.moves {W wr wr' : World} {tg tg' : Tags} (h : Old W wr tg) (m : Moves (Mine 2) tg tg' wr wr') : Old W wr' tg' :=
  ⟨⟨m.os.trans h.1.os, m.tape.trans h.1.tape, m.output.trans h.1.output, Nat.le_trans h.1.size m.size, fun k hk => (m.block k (Nat.lt_of_lt_of_le hk h.1.size) (by rw [h.2 k hk]; rintro (h | h) <;> cases h)).trans (h.1.block k hk)⟩, fun j hj => (m.tags j (Nat.lt_of_lt_of_le hj h.1.size)).trans (h.2 j hj)⟩
theorem Old.below {W wr wr' : World} {tg : Tags} (h : Old W wr tg) (hb : Below wr.heap.size wr wr') : Old W wr' tg := h.moves (Moves.of_below hb)

/-- The steps that came in. -/
structure StepsAt (W : World) (a : Option Addr) (len : Nat) : Prop where
  at_ : 0 < len → ∃ b o, a = some ⟨b, o, none⟩ ∧ b < W.heap.size ∧ ∀ j, j < len → ∃ kd x y d, i64 kd ∧ i64 x ∧ i64 y ∧ d.size ≤ maxLen ∧ W.cell? ⟨b, o + j * 4, none⟩ = some (.int .i64 kd) ∧ W.cell? ⟨b, o + j * 4 + 1, none⟩ = some (.int .i64 x) ∧ W.cell? ⟨b, o + j * 4 + 2, none⟩ = some (.int .i64 y) ∧ W.cell? ⟨b, o + j * 4 + 3, none⟩ = some (.string d)

end Go.Proofs.YtajopoddmfdejaaGreat

namespace Go.Proofs.YtajopoddmfdejaaGreat
open Go.RowKit Go.Sort Go.Shelf
set_option linter.unusedVariables false

theorem Old.any {P : Nat × Nat → Prop} {W wr wr' : World} {tg tg' : Tags} (h : Old W wr tg) (hP : ¬ P (0, 0)) (m : Moves P tg tg' wr wr') : Old W wr' tg' :=
  ⟨⟨m.os.trans h.1.os, m.tape.trans h.1.tape, m.output.trans h.1.output, Nat.le_trans h.1.size m.size, fun k hk => (m.block k (Nat.lt_of_lt_of_le hk h.1.size) (by rw [h.2 k hk]; exact hP)).trans (h.1.block k hk)⟩, fun j hj => (m.tags j (Nat.lt_of_lt_of_le hj h.1.size)).trans (h.2 j hj)⟩
theorem mine0 {i : Nat} (hi : 2 ≤ i) : ¬ Mine i (0, 0) := by
  rintro (h | h)
  · cases h
  · simp only at h; omega

/-- The store's only object: the empty directory. -/
def OneOb (objs : List Ob) : Prop := ∃ o : Ob, o.kind = 2 ∧ o.ents = [] ∧ o.high = 0 ∧ objs = [o]
theorem one_kind {objs : List Ob} (h : OneOb objs) (id : Int) : kindOf objs id = if id = 1 then 2 else 0 := by
  obtain ⟨o, h1, h2, h3, rfl⟩ := h
  by_cases e1 : id = 1
  · subst e1; rw [if_pos rfl]; exact h1
  · rw [if_neg e1]; exact kindOf_out (by simp; omega)
theorem one_high {objs : List Ob} (h : OneOb objs) (id : Int) : highOf objs id = 0 := by
  obtain ⟨o, h1, h2, h3, rfl⟩ := h
  unfold highOf
  have hc : (id - 1).toNat = 0 ∨ 1 ≤ (id - 1).toNat := by omega
  rcases hc with hc | hc
  · rw [hc]; exact h3
  · rw [List.getElem?_eq_none (by simpa using hc)]; rfl
theorem one_ents {objs : List Ob} (h : OneOb objs) (id : Int) : entsOf objs id = [] := by
  obtain ⟨o, h1, h2, h3, rfl⟩ := h
  unfold entsOf
  have hc : (id - 1).toNat = 0 ∨ 1 ≤ (id - 1).toNat := by omega
  rcases hc with hc | hc
  · rw [hc]; exact h2
  · rw [List.getElem?_eq_none (by simpa using hc)]; rfl
theorem one_exact {objs : List Ob} (h : OneOb objs) : Exact objs := by
  refine ⟨⟨fun id => by rw [one_high h]; exact Int.le_refl _, fun id hk => ?_⟩, ?_, fun id _ => one_high h id, fun id _ => by rw [one_high h, one_ents h]; rfl⟩
  · rw [one_ents h]
    exact ⟨List.Pairwise.nil, by simp, fun e he => by cases he⟩
  · obtain ⟨o, h1, h2, h3, rfl⟩ := h
    intro x hx
    rw [List.mem_singleton.1 hx]; exact .inr h1

/-- Between two calls of made. -/
def MSt (W wr : World) (s p : Nat) (B : WB) (objs : List Ob) (N lim : Nat) : Prop :=
  ∃ tg g t fE, Old W wr tg ∧ QInv tg wr s 2 p B objs g lim t ∧ MadeT objs N fE t g.fl ∧ g.fs.brk = false ∧ ∃ ks, t = .own ks

/-- The store with its first object. -/
def FirstSt (W wr : World) (s p : Nat) (objs : List Ob) : Prop := Below W.heap.size W wr ∧ InvP pt0 (fun k => W.heap.size ≤ k) wr s p objs

theorem first_store (W : World) : Calls Tryz.prog 39 #[] W fun e w' => ∃ s p, e = .returned (.pointer (some ⟨s, 0, none⟩)) ∧ FirstSt W w' s p [] := by
  refine (newStore_inv W).mono ?_
  rintro e w' ⟨s, he, ⟨p, hI⟩, hb⟩
  exact ⟨s, p, he, hb, InvP.keep hI (fun _ _ _ => rfl) (fun k _ hk => by rcases hk with h | h; exact h.elim; exact h.1)⟩

theorem first_dir {W wr : World} {s p : Nat} (h : FirstSt W wr s p []) : Calls Tryz.prog 22 #[.pointer (some ⟨s, 0, none⟩), .slice none 0 0] wr fun e w' => e = .returned (.tuple #[.int .i64 1, .int .i64 0]) ∧ ∃ objs, OneOb objs ∧ FirstSt W w' s p objs := by
  obtain ⟨hb, hI⟩ := h
  refine (storePutDirNil hI).mono ?_
  rintro e w' ⟨objs', hf, hI', hk⟩
  have hB : Below W.heap.size W w' := hb.trans ⟨hk.os, hk.tape, hk.output, hk.size, fun k hk' => hk.block k (Nat.lt_of_lt_of_le hk' hb.size) (by omega)⟩
  have hI2 : InvP pt0 (fun k => W.heap.size ≤ k) w' s p objs' := hI'.keep (fun _ _ _ => rfl) (fun k _ hk => by
    rcases hk with h | h
    · exact h
    · exact Nat.le_trans hb.size h.1)
  rcases hf with ⟨⟨x, hx, h1⟩, _⟩ | ⟨_, ⟨h1, _⟩ | ⟨_, h1, _⟩ | ⟨_, _, ⟨x, hx, h1⟩, _⟩ | ⟨_, _, _, es', hP, _, _, ⟨h1, _⟩ | ⟨_, _, i, h1, _⟩ | ⟨_, _, h1, _⟩ | ⟨_, _, _, ⟨o, h1, h2, h3, h4⟩, h5⟩⟩⟩
  · cases hx
  · exact absurd (by simp) h1
  · exact absurd h1 (by simp)
  · cases hx
  · have := List.perm_nil.1 hP; subst this; exact absurd h1 (by decide)
  · cases h1
  · exact absurd h1 (by simp)
  · have := List.perm_nil.1 hP; subst this
    subst h5
    refine ⟨rfl, objs', ⟨o, h1, h2, ?_, h4⟩, hB, hI2⟩
    rw [h3]; rfl

theorem first_tags {W wr : World} {s p : Nat} {objs : List Ob} (h : FirstSt W wr s p objs) (hS : Sound objs) : ∃ tg : Tags, Old W wr tg ∧ SInv tg wr s p objs [] false 0 := by
  classical
  obtain ⟨hb, hI⟩ := h
  refine ⟨fun k => if W.heap.size ≤ k ∧ k < wr.heap.size then (1, 0) else (0, 0), ⟨hb, fun j hj => if_neg (by omega)⟩, fun k hk => if_neg (by omega), pt0, rfl, hI.keep (fun _ _ _ => rfl) (fun k hk hf => if_pos ⟨hf, hk⟩), ⟨World.ownsRow_nil _ _ _ _, rfl, fun g hg => by cases hg⟩, hS, Nat.le_refl _⟩

/-- A workspace of an object. -/
theorem qcheckout {tg : Tags} {w : World} {s p i : Nat} {objs : List Ob} {got : List Int} {lim : Nat} (h : SInv tg w s p objs got false lim) (hi : 2 ≤ i) {id : Int} (hok : LTok objs 5 (.dir id)) :
    Calls Tryz.prog 40 #[.pointer (some ⟨s, 0, none⟩), .int .i64 id] w fun e w' => ∃ B : WB, e = .returned (.tuple #[.pointer (some ⟨B.wb, 0, none⟩), .int .i64 0]) ∧ ∃ tg', Moves (fun _ => False) tg tg' w w' ∧ QInv tg' w' s i p B objs (wg0 id got) lim (.dir id) := by
  have hk : kindOf objs id = 2 := by rw [LTok] at hok; exact hok.1
  have h0 := h
  obtain ⟨hfr, ft, hbk, hI, hrest⟩ := h
  obtain ⟨a, cap, bf, bd, Df, Dd, hI⟩ := hI
  have hs : s < w.heap.size := (Array.getElem?_eq_some_iff.1 hI.hs).1
  have hkk := kind_any p a objs.length cap bf bd objs id w hI.pool
  rw [hk] at hkk
  refine (checkout_walk s p id w hs hI.c0 hkk).mono ?_
  rintro e w' ⟨w1, hb, rfl, rfl⟩
  have hS1 : SInv tg w1 s p objs got false lim := h0.moves (P := fun _ => False) (Moves.of_below hb) (fun h => h) (fun h => h)
  obtain ⟨m, hW⟩ := new_ws hS1 (i := i) hi hk
  exact ⟨wsB w1.heap.size, rfl, _, (Moves.of_below hb).trans m, ⟨hW, new_flat id got, hok, (fun f id d hx => by cases hx), fun _ => rfl⟩⟩

end Go.Proofs.YtajopoddmfdejaaGreat

namespace Go.Proofs.YtajopoddmfdejaaGreat
open Go.RowKit Go.Sort Go.Shelf
set_option linter.unusedVariables false

theorem modG_own (objs : List Ob) (f : Kids → Kids) (q : List ByteArray) (t : LT) : ∃ ks, modG objs f q t = .own ks := by
  cases q with
  | nil => exact ⟨_, by rw [modG]⟩
  | cons n r => exact ⟨_, by rw [modG]⟩

theorem nameE_ok : validB nameE = true := by unfold nameE validB; simp only [ByteArray.toList_eq]; decide
theorem goodE1 : Good ([].reverse ++ [nameE]) := ⟨fun x hx => by simp at hx; rw [hx]; exact nameE_ok, by simp⟩

/-- e is put into a workspace of the empty directory. -/
theorem m_e {W wr : World} {s p : Nat} {B : WB} {objs : List Ob} {tg : Tags} (h1 : OneOb objs) (hO : Old W wr tg) (h : QInv tg wr s 2 p B objs (wg0 1 []) 0 (.dir 1)) :
    Calls Tryz.prog 26 #[.pointer (some ⟨B.wb, 0, none⟩), .string ⟨#[101]⟩, .string ⟨#[49]⟩] wr fun e w' => e = .returned (.int .i64 0) ∧ MSt W w' s p B objs 2 500 := by
  have hp := qput h (by omega) goodE1 oneB (by unfold maxLen; decide)
  have hj : joinB (([] : List ByteArray).reverse ++ [nameE]) = ⟨#[101]⟩ := joinB_one nameE
  rw [hj] at hp
  refine hp.mono ?_
  rintro e w' ⟨er, he, tg', g', t', m, hQ, hfs, hba, hP⟩
  have hl : lookR objs (.dir 1) (wg0 1 []).fs [] = (⟨[] ++ [1], false, fun _ => false, fun x => decide (x = 1) || false⟩, 0, (entsOf objs 1).map kidOf) := rfl
  rw [hl] at hP hfs
  rw [one_ents h1] at hP
  have hsb : shortB oneB = oneB := by unfold shortB; rw [if_neg (by decide)]
  rw [hsb] at hP
  rcases hP with ⟨h0, _⟩ | ⟨_, h0, _⟩ | ⟨_, _, rfl, f, hf, hx, hh⟩
  · exact absurd rfl h0
  · exact absurd rfl h0
  · refine ⟨he, tg', g', t', f, hO.any (mine0 (Nat.le_refl _)) m, hQ.mono (by omega), ?_, by rw [hfs], ?_⟩
    · rcases hh with ⟨hq, _⟩ | ⟨_, _, rfl⟩
      · cases hq
      · have ht : modG objs (fun ks => putK ks nameE (.held f)) [].reverse (.dir 1) = .own [(nameE, .held f)] := by
          show LT.own (putK ((entsOf objs 1).map kidOf) nameE (.held f)) = _
          rw [one_ents h1]; rfl
        rw [ht]
        refine ⟨⟨_, rfl, rfl, fun x hx => ?_⟩, hf, fun x y b hx hy => ?_, ?_⟩
        · rw [List.mem_singleton.1 hx]; exact .inr rfl
        · have key : ∀ x, (LT.own [(nameE, .held f)]).at objs x = some (.held b) → x = [nameE] := by
            intro x hx
            cases x with
            | nil => rw [at_nil] at hx; cases hx
            | cons n r =>
              rw [at_cons] at hx
              simp only [kids, Option.bind_some] at hx
              by_cases e : nameE = n
              · subst e
                have : pickK [(nameE, LT.held f)] nameE = some (.held f) := by simp [pickK]
                rw [this, Option.bind_some] at hx
                cases r with
                | nil => rfl
                | cons m r => rw [at_cons] at hx; simp [kids] at hx
              · have : pickK [(nameE, LT.held f)] n = none := by simp [pickK, e]
                rw [this] at hx; cases hx
          rw [key x hx, key y hy]
        · show big objs 5 (.own [(nameE, .held f)]) ≤ 2
          rw [big_succ]
          have hb1 : ∀ k, big objs k (.held f) = 1 := by intro k; cases k <;> (rw [big]; try rfl)
          simp [bigs, kids, hb1]
    · rcases hh with ⟨hq, _⟩ | ⟨_, _, rfl⟩
      · cases hq
      · exact modG_own _ _ _ _

theorem step_own {objs : List Ob} {g g' : WG} {t t' : LT} {k : Int} {na nb : ByteArray} {ra rb : List ByteArray} {d : ByteArray} {er : Int} (h : ∃ ks, t = .own ks) (hs : StepTo objs g t k na nb ra rb d er g' t') : ∃ ks, t' = .own ks := by
  have hm : ∀ (x : LT), (x = t ∨ ∃ f q y, x = modG objs f q y) → ∃ ks, x = .own ks := by
    rintro x (rfl | ⟨f, q, y, rfl⟩)
    · exact h
    · exact modG_own _ _ _ _
  rcases hs with ⟨_, _, _, ⟨_, _, h2, _⟩ | ⟨_, _, _, h2, _⟩ | ⟨_, _, _, f, _, _, ⟨_, h2⟩ | ⟨_, _, h2⟩⟩⟩ | ⟨_, _, h1, _⟩ | ⟨_, _, h1, _⟩ | ⟨_, _, h1, _⟩
  · rw [h2]; exact h
  · rw [h2]; exact h
  · rw [h2]; exact h
  · rw [h2]; exact modG_own _ _ _ _
  · rw [h1]
    apply hm
    unfold mkdirR
    simp only
    split
    · exact .inl rfl
    · split
      · exact .inl rfl
      · split
        · exact .inl rfl
        · exact .inr ⟨_, _, _, rfl⟩
  · rw [h1]
    apply hm
    unfold removeR
    simp only
    split
    · exact .inl rfl
    · split
      · exact .inl rfl
      · exact .inr ⟨_, _, _, rfl⟩
  · rw [h1]
    apply hm
    unfold renameR
    simp only
    repeat' split
    all_goals first | exact .inl rfl | exact .inr ⟨_, _, _, rfl⟩

theorem step_brk {objs : List Ob} {g g' : WG} {t t' : LT} {k : Int} {na nb : ByteArray} {ra rb : List ByteArray} {d : ByteArray} {er : Int} (h : g.fs.brk = false) (hs : StepTo objs g t k na nb ra rb d er g' t') : g'.fs.brk = false := by
  rcases hs with ⟨_, h1, _⟩ | ⟨_, _, _, h1, _⟩ | ⟨_, _, _, h1, _⟩ | ⟨_, _, _, h1, _⟩ <;> rw [h1]
  · exact (q_look objs t g.fs ra).2 h
  · exact (q_mkdir objs t g.fs na ra).2 h
  · exact (q_remove objs t g.fs na ra).2 h
  · exact (q_rename objs t g.fs na nb ra rb).2 h

theorem QInv.held {tg : Tags} {w : World} {s i p : Nat} {B : WB} {objs : List Ob} {g : WG} {lim : Nat} {t : LT} (h : QInv tg w s i p B objs g lim t) : ∀ x f, t.at objs x = some (.held f) → ∃ y, g.fl f = some y := fun x f ha => h.inv.wp.held x f (by rw [h.flat.of, ha]; rfl)

theorem m_step {W wr : World} {s p : Nat} {B : WB} {objs : List Ob} {N lim : Nat} (h : MSt W wr s p B objs N lim) (hl : lim + 1000 < 1099511627776) {kd a b : Int} {d : ByteArray} (hk : i64 kd) (ha : i64 a) (hb : i64 b) (hd : d.size ≤ maxLen) :
    Calls Tryz.prog 14 #[.pointer (some ⟨B.wb, 0, none⟩), .agg #[.int .i64 kd, .int .i64 a, .int .i64 b, .string d]] wr fun e w' => ∃ er, e = .returned (.int .i64 er) ∧ MSt W w' s p B objs (N + 1) (lim + 500) := by
  obtain ⟨tg, g, t, fE, hO, hQ, hM, hbr, hown⟩ := h
  obtain ⟨na, ra, hpa⟩ := (pathL_letters a).split
  obtain ⟨nb, rb, hpb⟩ := (pathL_letters b).split
  have hla := pathL_letters a
  have hlb := pathL_letters b
  rw [hpa] at hla
  rw [hpb] at hlb
  refine (do_exact hQ hl kd a b d hk ha hb hd hpa hpb).mono ?_
  rintro e w' ⟨er, he, tg', g', t', m, hQ', hs⟩
  exact ⟨er, he, tg', g', t', fE, hO.any (mine0 (Nat.le_refl _)) m, hQ', made_step hQ.inv.st.sound hQ.ok hQ.held hM hla hlb hs, step_brk hbr hs, step_own hown hs⟩

/-- While e is told. -/
def TSt (W wr : World) (s p : Nat) (B : WB) (objs : List Ob) (N lim : Nat) (ks : Kids) (fE : Nat) (op : Nat → Option (Nat × Nat × Int × Int)) : Prop :=
  ∃ tg g, Old W wr tg ∧ WInv tg wr s 2 p B objs g lim ∧ Flat objs (.own ks) g.ft ∧ LTok objs 5 (.own ks) ∧ FlOk objs g.fl ∧ MadeT objs N fE (.own ks) g.fl ∧ g.fs.brk = false ∧ g.op = op

theorem made_pick {objs : List Ob} {N fE : Nat} {ks : Kids} {fl : Nat → Option (Int × ByteArray)} (h : MadeT objs N fE (.own ks) fl) : pickK ks nameE = some (.held fE) := by
  obtain ⟨ks', h1, h2, _⟩ := h.root
  simp only [kids, Option.some.injEq] at h1
  rw [h1]; exact h2

theorem t_open {W wr : World} {s p : Nat} {B : WB} {objs : List Ob} {N lim : Nat} {ks : Kids} {fE : Nat} (hl : lim ≤ 90000) (h : TSt W wr s p B objs N lim ks fE (fun _ => none)) :
    Calls Tryz.prog 50 #[.pointer (some ⟨B.wb, 0, none⟩), .string nameE, .int .i64 1] wr fun e w' => e = .returned (.tuple #[.int .i64 ((0 : Nat) : Int), .int .i64 0]) ∧ ∃ b, TSt W w' s p B objs N (lim + 300) ks fE (updN (fun _ => none) 0 (some (b, fE, 1, 0))) := by
  obtain ⟨tg, g, hO, hW, hF, hok, hfl, hM, hbr, hop⟩ := h
  have hpk := made_pick hM
  refine (hopen (k := 0) hW (by omega) hF hok nameE_ok 1 (by decide) (by decide) false false false (by decide) (by decide) (by decide) valid_1 (by decide) (by rw [hop]) (fun j hj => by omega) (own_look objs ks g.fs) (openE_file hpk rfl) (fun f' hf' => by rw [hpk] at hf'; cases hf'; exact ⟨_, hM.data⟩)).mono ?_
  rintro e w' ⟨he, tg', g', t', b, f2, m, hW', hF', hok', hfs, hop', hT⟩
  refine ⟨he, b, ?_⟩
  rcases hT with ⟨hq, _⟩ | ⟨hq, ht', hfl'⟩ | ⟨id, hq, _⟩
  · rw [hpk] at hq; cases hq
  · rw [hpk] at hq
    cases hq
    rw [if_neg (by decide)] at hfl'
    subst ht'
    exact ⟨tg', g', hO.any (mine0 (Nat.le_refl _)) m, hW', hF', hok', by rw [hfl']; exact hfl, by rw [hfl']; exact hM, by rw [hfs]; exact hbr, by rw [hop', hop]⟩
  · rw [hpk] at hq; cases hq

theorem t_read {W wr : World} {s p : Nat} {B : WB} {objs : List Ob} {N lim : Nat} {ks : Kids} {fE b : Nat} (hl : lim ≤ 100000) (h : TSt W wr s p B objs N lim ks fE (updN (fun _ => none) 0 (some (b, fE, 1, 0)))) :
    Calls Tryz.prog 63 #[.pointer (some ⟨B.wb, 0, none⟩), .int .i64 ((0 : Nat) : Int), .int .i64 1000] wr fun e w' => e = .returned (.tuple #[.string oneB, .int .i64 0]) ∧ ∃ pl, TSt W w' s p B objs N (lim + 1) ks fE (updN (fun _ => none) 0 (some (b, fE, 1, pl))) := by
  obtain ⟨tg, g, hO, hW, hF, hok, hfl, hM, hbr, hop⟩ := h
  have ho : g.op 0 = some (b, fE, 1, 0) := by rw [hop]; exact updN_same _ _ _
  obtain ⟨_, c1, _⟩ := opens_cell hW (by decide) ho
  have hby : bytesG objs g.fl g.fs fE = (g.fs, 0, oneB) := by unfold bytesG; rw [hM.data]; rfl
  have hrd := read_gen hW (by omega) hfl ho (n := 1000) (by decide) (by decide) (by decide) hby
  have hex : oneB.extract (min (0 : Int).toNat oneB.size) (min (min (0 : Int).toNat oneB.size + (min 1000 (256 - 0) : Int).toNat) oneB.size) = oneB := by decide
  rw [hex] at hrd
  refine (read_ws B.wb 0 b 1000 oneB 0 _ wr c1 (by decide) hrd).mono ?_
  rintro e w' ⟨he, tg', m, hW'⟩
  refine ⟨he, 0 + oneB.size, tg', _, hO.any (mine0 (Nat.le_refl _)) m, hW', hF, hok, hfl, hM, hbr, ?_⟩
  show updN g.op 0 _ = _
  rw [hop]
  funext x
  by_cases e : x = 0
  · subst e; rw [updN_same, updN_same]
  · rw [updN_other e, updN_other e, updN_other e]

theorem t_close {W wr : World} {s p : Nat} {B : WB} {objs : List Ob} {N lim : Nat} {ks : Kids} {fE b : Nat} {pl : Int} (h : TSt W wr s p B objs N lim ks fE (updN (fun _ => none) 0 (some (b, fE, 1, pl)))) :
    Calls Tryz.prog 52 #[.pointer (some ⟨B.wb, 0, none⟩), .int .i64 ((0 : Nat) : Int)] wr fun e w' => e = .returned (.int .i64 0) ∧ TSt W w' s p B objs N lim ks fE (fun _ => none) := by
  obtain ⟨tg, g, hO, hW, hF, hok, hfl, hM, hbr, hop⟩ := h
  have ho : g.op 0 = some (b, fE, 1, pl) := by rw [hop]; exact updN_same _ _ _
  obtain ⟨c0, c1, c2⟩ := opens_cell hW (by decide) ho
  refine (close_ws B.wb 0 b wr c0 c1 c2 (by decide)).mono ?_
  rintro e w' ⟨he, rfl⟩
  obtain ⟨m2, hW2⟩ := hW.close (k := 0) (by decide)
  refine ⟨he, tg, _, hO.any (P := fun t => t = (2, 0)) (by simp) (m2.mono (fun x hx => hx)), hW2, hF, hok, hfl, hM, hbr, ?_⟩
  show updN g.op 0 none = _
  rw [hop]
  funext x
  by_cases e : x = 0
  · subst e; rw [updN_same]
  · rw [updN_other e, updN_other e]

theorem t_stat {W wr : World} {s p : Nat} {B : WB} {objs : List Ob} {N lim : Nat} {ks : Kids} {fE : Nat} (hl : lim ≤ 200000) (h : TSt W wr s p B objs N lim ks fE (fun _ => none)) :
    Calls Tryz.prog 28 #[.pointer (some ⟨B.wb, 0, none⟩), .string nameE] wr fun e w' => e = .returned (.tuple #[.agg #[.int .i64 1, .int .i64 (oneB.size : Int)], .int .i64 0]) ∧ TSt W w' s p B objs N (lim + 10) ks fE (fun _ => none) := by
  obtain ⟨tg, g, hO, hW, hF, hok, hfl, hM, hbr, hop⟩ := h
  have hby : bytesG objs g.fl g.fs fE = (g.fs, 0, oneB) := by unfold bytesG; rw [hM.data]; rfl
  refine (hstat_held hW (by omega) hF hok hfl nameE_ok (made_pick hM) hM.data hby).mono ?_
  rintro e w' ⟨he, tg', m, hW'⟩
  exact ⟨he, tg', g, hO.any (mine0 (Nat.le_refl _)) (m.mono (fun t ht => Fetches.mine ht)), hW', hF, hok, hfl, hM, hbr, hop⟩

theorem m_told {W wr : World} {s p : Nat} {B : WB} {objs : List Ob} {N lim : Nat} (hl : lim ≤ 80000) (h : MSt W wr s p B objs N lim) :
    Calls Tryz.prog 41 #[.pointer (some ⟨B.wb, 0, none⟩), .string ⟨#[101]⟩] wr fun e w' => e = .returned (.tuple #[.string ⟨#[49]⟩, .bool true]) ∧ MSt W w' s p B objs N (lim + 311) := by
  obtain ⟨tg, g, t, fE, hO, hQ, hM, hbr, ks, rfl⟩ := h
  have h0 : TSt W wr s p B objs N lim ks fE (fun _ => none) := ⟨tg, g, hO, hQ.inv, hQ.flat, hQ.ok, hQ.fl, hM, hbr, funext hQ.op⟩
  refine (told_walk B.wb 0 nameE oneB _ (fun w2 => ∃ b pl, TSt W w2 s p B objs N (lim + 301) ks fE (updN (fun _ => none) 0 (some (b, fE, 1, pl)))) (fun w3 => TSt W w3 s p B objs N (lim + 301) ks fE (fun _ => none)) (fun w4 => TSt W w4 s p B objs N (lim + 301 + 10) ks fE (fun _ => none)) wr (t_open (by omega) h0)
    (fun w1 ⟨b, h1⟩ => (t_read (by omega) h1).mono (fun e w' ⟨h2, pl, h3⟩ => ⟨h2, b, pl, h3⟩)) (fun w2 ⟨b, pl, h1⟩ => t_close h1) (fun w3 h3 => t_stat (by omega) h3)).mono ?_
  rintro e w' ⟨he, w4, ⟨tg', g', hO', hW', hF', hok', hfl', hM', hbr', hop'⟩, hb⟩
  exact ⟨he, tg', g', .own ks, fE, hO'.any (P := fun _ => False) (fun h => h) (Moves.of_below hb), ⟨hW'.below hb, hF', hok', hfl', fun k => by rw [hop']⟩, hM', hbr', ks, rfl⟩

theorem Same.once {x y : List Ob} (h : Same x y) (hy : Once y) : Once x := by
  have key : ∀ i (hx : i < x.length) (hy' : i < y.length), (x[i]).core = (y[i]).core := by
    intro i h1 h2
    have hg := h.get i
    rw [List.getElem?_eq_getElem h1, List.getElem?_eq_getElem h2] at hg
    exact Option.some.inj hg
  refine ⟨fun i hi hk => ?_, fun i hi hk => ?_⟩
  · have hi' : i < y.length := by rw [← h.len]; exact hi
    have hc := key i hi hi'
    simp only [Ob.core, Prod.mk.injEq] at hc
    have hk' : (y[i]).kind = 1 := by rw [← hc.1]; exact hk
    have hd : (x[i]).data = (y[i]).data := by have := hc.2.1; rw [if_pos hk, if_pos hk'] at this; exact this
    rw [h.file, hd]
    exact hy.file i hi' hk'
  · have hi' : i < y.length := by rw [← h.len]; exact hi
    have hc := key i hi hi'
    simp only [Ob.core, Prod.mk.injEq] at hc
    have hk' : (y[i]).kind = 2 := by rw [← hc.1]; exact hk
    have hd : (x[i]).ents = (y[i]).ents := by have := hc.2.2.1; rw [if_pos hk, if_pos hk'] at this; exact this
    rw [h.dir, hd]
    exact hy.dir i hi' hk'
theorem one_once {objs : List Ob} (h : OneOb objs) : Once objs := by
  obtain ⟨o, h1, h2, h3, rfl⟩ := h
  refine ⟨fun i hi hk => ?_, fun i hi hk => ?_⟩
  · have : i = 0 := by simp at hi; exact hi
    subst this
    simp only [List.getElem_cons_zero] at hk
    rw [h1] at hk; cases hk
  · have : i = 0 := by simp at hi; exact hi
    subst this
    simp [dirAt, List.findIdx?_cons, h1]

/-- What made leaves: a store with the object of a tree. -/
def Made (W w' : World) (s p : Nat) (id : Int) : Prop := ∃ tg objs got, Old W w' tg ∧ SInv tg w' s p objs got false 60000 ∧ Exact objs ∧ Once objs ∧ LTok objs 5 (.dir id) ∧ objs.length ≤ 100 ∧ 1 ≤ id

theorem m_commit {W wr : World} {s p : Nat} {B : WB} {objs : List Ob} {N lim : Nat} (h1 : OneOb objs) (hN : N ≤ 95) (hl : lim ≤ 60000) (h : MSt W wr s p B objs N lim) :
    Calls Tryz.prog 20 #[.pointer (some ⟨B.wb, 0, none⟩)] wr fun e w' => ∃ id, e = .returned (.tuple #[.int .i64 id, .int .i64 0]) ∧ 1 ≤ id ∧ Made W w' s p id := by
  obtain ⟨tg, g, t, fE, hO, hQ, hM, hbr, ks, rfl⟩ := h
  obtain ⟨hwb, c0, _⟩ := hQ.ws
  have hX := one_exact h1
  have hB : Base8 tg wr s 2 p B objs g lim (.own ks) := ⟨hQ.inv, hQ.flat, hX, hQ.fl⟩
  have hcb := cnt_big objs 5 (.own ks)
  have hfw := hM.few
  have hlen : objs.length = 1 := by obtain ⟨o, _, _, _, rfl⟩ := h1; rfl
  have hob := objR_ok g.fl 5 (Nat.le_refl _) (.own ks) objs hX hQ.ok hB.flSz
  have hol := hob.len
  refine (commit_ws B.wb B.bt _ _ wr hwb c0 (commit_any hB hQ.ok (by omega) (by omega))).mono ?_
  rintro e w' ⟨he, x', tg', hl', hsame, m, hS⟩
  have hk : kindOf x' (objR g.fl 5 (.own ks) objs).1 = 2 := by rw [hsame.kind]; exact hob.kind
  have hid := (kindOf_pos (by rw [hk]; decide)).1
  refine ⟨_, he, hid, tg', x', g.fs.got, hO.any (by simp) m, by rw [hbr] at hS; exact hS.mono hl, hsame.exact (hob.dr.exact hX), hsame.once (hob.dr.once (one_once h1)), ?_, by rw [hsame.len]; omega, hid⟩
  rw [LTok]
  exact ⟨hk, by rw [hsame.high]; exact hob.high⟩

end Go.Proofs.YtajopoddmfdejaaGreat
