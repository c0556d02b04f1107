/-
  What is proved here: canopykeep's plain answers a store and a workspace in order. Fetched and Break of a store: a new list of what has been fetched; the next fetch fails.
-/
import Derived.Test.YtehpnebekgahnaaGreatAskM46
namespace Go.Proofs.YtehpnebekgahnaaGreat
open Go.RowKit Go.Sort Go.Shelf
set_option linter.unusedVariables false

def From (n : Nat) : Nat → Prop := fun k => n ≤ k
theorem from_below {n : Nat} {w w' : World} (h : Keeps (From n) w w') : Below n w w' ∨ w.heap.size < n := by
  by_cases hn : n ≤ w.heap.size
  · exact .inl ⟨h.os, h.tape, h.output, h.size, fun k hk => h.block k (by omega) (by unfold From; omega)⟩
  · exact .inr (by omega)
theorem from_below' {n : Nat} {w w' : World} (h : Keeps (From n) w w') (hn : n ≤ w.heap.size) : Below n w w' := ⟨h.os, h.tape, h.output, h.size, fun k hk => h.block k (by omega) (by unfold From; omega)⟩
theorem from_new {ft : PTail} {n : Nat} {w w' : World} {s p : Nat} {objs : List Ob} (h : InvP ft (NewF (From n) w w') w' s p objs) (hn : n ≤ w.heap.size) : InvP ft (From n) w' s p objs :=
  h.keep (fun _ _ _ => rfl) (fun k _ hk => by rcases hk with h | h; exact h; exact Nat.le_trans hn h.1)

theorem pfile_first {n : Nat} {w : World} {s p : Nat} (h : InvP pt0 (From n) w s p []) (hn : n ≤ w.heap.size) :
    Calls Tryz.prog 21 #[.pointer (some ⟨s, 0, none⟩), .string oneB] w fun e w' => e = .returned (.tuple #[.int .i64 1, .int .i64 0]) ∧ InvP pt0 (From n) w' s p [fileOb oneB] ∧ Below n w w' := by
  have hz : oneB.size = 1 := rfl
  refine (storePutFileP h oneB (by rw [hz]; unfold maxLen; omega)).mono ?_
  rintro e w' ⟨objs', hf, hI, hk⟩
  rcases hf with ⟨h1, _⟩ | ⟨_, _, i, h1, _⟩ | ⟨_, _, h1, _⟩ | ⟨_, _, _, rfl, rfl⟩
  · omega
  · cases h1
  · exact absurd h1 (by simp)
  · exact ⟨rfl, from_new hI hn, from_below' hk hn⟩

theorem one_cells (w : World) (n1 : ByteArray) (x : Int) : ∀ j u, (flat [(n1, 1, x)])[j]? = some u → (w.alloc (.cells #[.string n1, .int .i64 1, .int .i64 x] 61)).cell? ⟨w.heap.size, 0 + j, none⟩ = some u := by
  intro j u h
  have hg := heap_alloc_new w (.cells #[.string n1, .int .i64 1, .int .i64 x] 61)
  simp only [World.cell?, hg, Nat.zero_add]
  simpa [flat, encE] using h

theorem pdir_first {n : Nat} {w : World} {s p : Nat} (h : InvP pt0 (From n) w s p [fileOb oneB]) (hn : n ≤ w.heap.size) :
    Calls Tryz.prog 22 #[.pointer (some ⟨s, 0, none⟩), .slice (some ⟨w.heap.size, 0, none⟩) 1 1] (w.alloc (.cells #[.string nameE, .int .i64 1, .int .i64 1] 61)) fun e w' => e = .returned (.tuple #[.int .i64 2, .int .i64 0]) ∧ ∃ objs, TwoObs objs ∧ InvP pt0 (From n) w' s p objs ∧ Below n w w' := by
  have hb : Below w.heap.size w (w.alloc (.cells #[.string nameE, .int .i64 1, .int .i64 1] 61)) := (Below.refl _ _).alloc (Nat.le_refl _) _
  have hn' : n ≤ (w.alloc (.cells #[.string nameE, .int .i64 1, .int .i64 1] 61)).heap.size := by simp; omega
  refine (storePutDirP (h.below hb (fun _ _ h => h)) w.heap.size 0 1 1 [(nameE, 1, 1)] rfl (by simp) (by omega) (one_cells w nameE 1) ?_).mono ?_
  · intro e he
    simp at he
    subst he
    show nameE.size ≤ maxLen
    have : nameE.size = 1 := rfl
    rw [this]; unfold maxLen; omega
  · rintro e w' ⟨objs', hf, hI, hk⟩
    have hB := (hb.mono hn).trans (from_below' hk hn')
    rcases hf with ⟨⟨x, hx, h1⟩, _⟩ | ⟨_, ⟨h1, _⟩ | ⟨_, h1, _⟩ | ⟨_, _, ⟨x, hx, h1⟩, _⟩ | ⟨_, _, _, es', hP, _, _, ⟨h1, _⟩ | ⟨_, _, i, h1, _⟩ | ⟨_, _, h1, _⟩ | ⟨_, _, _, ⟨o, h1, h2, h3, h4⟩, h5⟩⟩⟩
    · simp only [List.mem_singleton] at hx; subst hx; rw [nameE_valid] at h1; cases h1
    · exact absurd (by simp) h1
    · exact absurd h1 (by simp)
    · simp only [List.mem_singleton] at hx; subst hx; cases h1
    · have := List.perm_singleton.1 hP; subst this; exact absurd h1 (by decide)
    · have := List.perm_singleton.1 hP; subst this; cases h1
    · exact absurd h1 (by simp)
    · have := List.perm_singleton.1 hP; subst this
      subst h5
      exact ⟨rfl, objs', ⟨o, h1, h2, h3, h4⟩, from_new hI hn', hB⟩

/-- The store's tags: all of its blocks are its own. -/
theorem store_from {n : Nat} {w : World} {s p : Nat} {objs : List Ob} (h : InvP pt0 (From n) w s p objs) (hS : Sound objs) : ∃ tg : Tags, (∀ k, k < n → tg k = (0, 0)) ∧ SInv tg w s p objs [] false 0 := by
  obtain ⟨tg, h1, h2⟩ := store_tags (F := fun k => n ≤ k ∧ k < w.heap.size) (h.keep (fun _ _ _ => rfl) (fun k hk hf => ⟨hf, hk⟩)) (fun k hk => hk.2) rfl hS
  exact ⟨tg, fun k hk => h1 k (fun h => by omega), h2⟩

/-- What plain leaves. -/
def Plain (s : Nat) (B : WB) (w w' : World) : Prop := ∃ p tg objs g t, TwoObs objs ∧ (∀ k, k < w.heap.size → tg k = (0, 0)) ∧ Below w.heap.size w w' ∧ KInv tg w' s 2 p B objs g 0 t

theorem two_checkout {n : Nat} {w : World} {s p : Nat} {objs : List Ob} (h : InvP pt0 (From n) w s p objs) (hn : n ≤ w.heap.size) (h2 : TwoObs objs) :
    Calls Tryz.prog 23 #[.pointer (some ⟨s, 0, none⟩), .int .i64 2] w fun e w' => ∃ B : WB, e = .returned (.tuple #[.pointer (some ⟨B.wb, 0, none⟩), .int .i64 0]) ∧ Below n w w' ∧ ∃ tg g t, (∀ k, k < n → tg k = (0, 0)) ∧ KInv tg w' s 2 p B objs g 0 t := by
  obtain ⟨a, cap, bf, bd, Df, Dd, hI⟩ := h
  have hs : s < w.heap.size := by
    rcases Nat.lt_or_ge s w.heap.size with h | h
    · exact h
    · have := hI.hs; rw [Array.getElem?_eq_none h] at this; cases this
  have hk : kindOf objs 2 = 2 := by rw [two_kind h2]; rfl
  have hkk := kind_any p a objs.length cap bf bd objs 2 w hI.pool
  rw [hk] at hkk
  refine (checkout_walk s p 2 w hs hI.c0 hkk).mono ?_
  rintro e w' ⟨w1, hb, rfl, rfl⟩
  have hI1 : InvP pt0 (From n) w1 s p objs := InvP.below ⟨a, cap, bf, bd, Df, Dd, hI⟩ hb (fun _ _ h => h)
  obtain ⟨tg, ht, hS⟩ := store_from hI1 (two_sound h2)
  obtain ⟨m, hW⟩ := new_ws hS (i := 2) (Nat.le_refl _) hk
  refine ⟨wsB w1.heap.size, rfl, (hb.mono hn).trans ((wsMem_below w1 p 2).mono (Nat.le_trans hn hb.size)), _, _, .dir 2, fun k hk => ?_, hW, new_flat 2 [], two_ok h2, two_root h2, ?_, fun _ => rfl, rfl, fun _ => rfl⟩
  · have hk' : k < w1.heap.size := Nat.lt_of_lt_of_le hk (Nat.le_trans hn hb.size)
    unfold wsTags
    rw [if_pos hk']; exact ht k hk
  · intro f id d hx; cases hx

set_option maxRecDepth 100000 in
set_option maxHeartbeats 1000000 in
theorem plain_any (w : World) : Calls Tryz.prog 5 #[] w fun e w' => ∃ s, ∃ B : WB, e = .returned (.tuple #[.pointer (some ⟨s, 0, none⟩), .pointer (some ⟨B.wb, 0, none⟩), .bool true]) ∧ Plain s B w w' := by
  have hnew := newStore_inv w
  go_enter Tryz.func5, Tryz.ntmps5
  go_wp2_with fail
  refine hnew.mono ?_
  rintro e w1 ⟨s, rfl, ⟨p, hI0⟩, hb1⟩
  have hI1 : InvP pt0 (From w.heap.size) w1 s p [] := InvP.keep hI0 (fun _ _ _ => rfl) (fun k _ hk => by rcases hk with h | h; exact h.elim; exact h.1)
  have H1 : Hid _ := hI1
  have HB1 : Hid _ := hb1
  clear hI0 hnew hI1 hb1
  go_wp2_with fail
  refine (pfile_first H1.out HB1.out.size).mono ?_
  rintro e w2 ⟨rfl, hI2, hb2⟩
  have H2 : Hid _ := hI2
  have HB2 : Hid _ := HB1.out.trans hb2
  clear H1 HB1 hI2 hb2
  go_wp2_with fail
  refine (pdir_first H2.out HB2.out.size).mono ?_
  rintro e w3 ⟨rfl, objs, hT, hI3, hb3⟩
  have H3 : Hid _ := hI3
  have HT : Hid _ := hT
  have HB3 : Hid _ := HB2.out.trans hb3
  clear H2 HB2 hI3 hb3 hT
  go_wp2_with fail
  refine (two_checkout H3.out HB3.out.size HT.out).mono ?_
  rintro e w4 ⟨B, rfl, hb4, tg, g, t, ht, hK⟩
  have HK : Hid _ := hK
  have HB4 : Hid _ := HB3.out.trans hb4
  have HG : Hid _ := ht
  clear H3 HB3 hb4 hK ht
  go_wp2
  refine bodyPost_ret (v := .tuple #[.pointer (some ⟨s, 0, none⟩), .pointer (some ⟨B.wb, 0, none⟩), .bool true]) (by simp [results, Tryz.results5, go_sem]) rfl ?_
  exact ⟨s, B, rfl, p, tg, objs, g, t, HT.out, HG.out, HB4.out, HK.out⟩
end Go.Proofs.YtehpnebekgahnaaGreat

namespace Go.Proofs.YtehpnebekgahnaaGreat
open Go.RowKit Go.Sort Go.Shelf
set_option linter.unusedVariables false

theorem sizeOfID (w : World) : (Go.sizeOf 56).run Tryz.prog w = .ok 1 w := by kernel_rfl

theorem cloneI_row {w : World} {v : Value} {got : List Int} (hrow : w.ownsRow 0 56 1 v got.length (got.map (Value.int .i64))) (hl : got.length ≤ 1099511627776) :
    Calls Tryz.prog 78 #[v] w fun e w' => ∃ a c, e = .returned (.slice a got.length c) ∧ Below w.heap.size w w' := by
  rcases hrow.2 with ⟨rfl, h0⟩ | ⟨g, c, cur, rfl, _⟩
  · refine (AnyE.slices_Clone_nil Tryz.cloneI 0 0 w).mono ?_
    rintro e w' ⟨rfl, rfl⟩
    exact ⟨none, 0, by rw [h0], Below.refl _ _⟩
  · obtain ⟨i0, hi, hz0, hz1, hz2⟩ := info_parts infoID
    refine (AnyE.slices_Clone Tryz.cloneI i0 _ 1 8 hi hz0 hz1 hz2 rfl (by decide) sizeOfID g 0 got.length c (got.map (Value.int .i64)) w (by simp) (by unfold maxLen; omega) (by omega) (fun j u hu => by rw [Nat.zero_add]; exact (World.ownsRow.cellAt hrow j (by have := (List.getElem?_eq_some_iff.1 hu).1; simpa using this)).trans hu) ?_).mono ?_
    · intro u hu
      obtain ⟨x, _, rfl⟩ := List.mem_map.1 hu
      rfl
    · rintro e w' ⟨v', rfl, hr, hne, hb⟩
      rcases hr.2 with ⟨e, _⟩ | ⟨g', c', _, e, _⟩
      · exact absurd e hne
      · exact ⟨_, _, by rw [e], hb⟩

set_option maxRecDepth 100000 in
set_option maxHeartbeats 400000 in
theorem pfetched_walk (p : Nat) (v : Value) (n : Nat) (w : World) (c3 : w.cell? ⟨p, 3, none⟩ = some v)
    (hc : Calls Tryz.prog 78 #[v] w fun e w' => ∃ a c, e = .returned (.slice a n c) ∧ Below w.heap.size w w') :
    Calls Tryz.prog 41 #[.pointer (some ⟨p, 0, none⟩)] w fun e w' => ∃ a c, e = .returned (.slice a n c) ∧ Below w.heap.size w w' := by
  go_enter Tryz.func41, Tryz.ntmps41
  go_wp2_with fail
  refine hc.mono ?_
  rintro e w' ⟨a, c, rfl, hb⟩
  go_wp2
  go_ret
  exact ⟨a, c, rfl, hb⟩
set_option maxRecDepth 100000 in
set_option maxHeartbeats 400000 in
theorem sfetched_walk (s p n : Nat) (w : World) (c0 : w.cell? ⟨s, 0, none⟩ = some (.pointer (some ⟨p, 0, none⟩)))
    (hc : Calls Tryz.prog 41 #[.pointer (some ⟨p, 0, none⟩)] w fun e w' => ∃ a c, e = .returned (.slice a n c) ∧ Below w.heap.size w w') :
    Calls Tryz.prog 18 #[.pointer (some ⟨s, 0, none⟩)] w fun e w' => ∃ a c, e = .returned (.slice a n c) ∧ Below w.heap.size w w' := by
  go_enter Tryz.func18, Tryz.ntmps18
  go_wp2_with fail
  refine hc.mono ?_
  rintro e w' ⟨a, c, rfl, hb⟩
  go_wp2
  go_ret
  exact ⟨a, c, rfl, hb⟩
set_option maxRecDepth 100000 in
set_option maxHeartbeats 400000 in
theorem sbreak_walk (s p : Nat) (how : Int) (R : World → Prop) (w : World) (c0 : w.cell? ⟨s, 0, none⟩ = some (.pointer (some ⟨p, 0, none⟩)))
    (hc : Calls Tryz.prog 42 #[.pointer (some ⟨p, 0, none⟩), .int .i64 how] w fun e w' => e = .returned (.int .i64 0) ∧ R w') :
    Calls Tryz.prog 19 #[.pointer (some ⟨s, 0, none⟩), .int .i64 how] w fun e w' => e = .returned (.int .i64 0) ∧ R w' := by
  go_enter Tryz.func19, Tryz.ntmps19
  go_wp2_with fail
  refine hc.mono ?_
  rintro e w' ⟨rfl, hR⟩
  go_wp2
  go_ret
  exact ⟨rfl, hR⟩

section
variable {s i p : Nat} {B : WB} {objs : List Ob}

theorem fetched_any {tg : Tags} {w : World} {got : List Int} {brk : Bool} {lim : Nat} (h : SInv tg w s p objs got brk lim) (hl : lim ≤ 1099511627776) :
    Calls Tryz.prog 18 #[.pointer (some ⟨s, 0, none⟩)] w fun e w' => ∃ a c, e = .returned (.slice a got.length c) ∧ Below w.heap.size w w' := by
  obtain ⟨hfr, ft, hb, ⟨a, cap, bf, bd, Df, Dd, hI⟩, hg, hs, hgl⟩ := h
  have hat := hI.pool.at_
  have c3 : w.cell? ⟨p, 3, none⟩ = some (.slice ft.a ft.n ft.c) := by unfold PoolAt at hat; simp [World.cell?, hat]
  have hrow := hg.1
  rw [hg.2.1] at hrow c3
  exact sfetched_walk s p got.length w hI.c0 (pfetched_walk p _ got.length w c3 (cloneI_row hrow (by omega)))

theorem sbreak_any {tg : Tags} {w : World} {g : WG} {lim : Nat} (h : WInv tg w s i p B objs g lim) {how : Int} (hh : how = 1 ∨ how = 2) :
    Calls Tryz.prog 19 #[.pointer (some ⟨s, 0, none⟩), .int .i64 how] w fun e w' => e = .returned (.int .i64 0) ∧ Moves (Mine i) tg tg w w' ∧ WInv tg w' s i p B objs { g with fs := { g.fs with brk := true } } lim := by
  have c0 : w.cell? ⟨s, 0, none⟩ = some (.pointer (some ⟨p, 0, none⟩)) := by
    obtain ⟨hfr, ft, hb, ⟨a, cap, bf, bd, Df, Dd, hI⟩, _⟩ := h.st
    exact hI.c0
  refine (sbreak_walk s p how _ w c0 (break_any h.st hh)).mono ?_
  rintro e w' ⟨rfl, m, hS⟩
  refine ⟨rfl, m.mono (fun t ht => ?_), h.two, hS, ?_⟩
  · rcases ht with rfl | rfl <;> exact .inl rfl
  · have hw := h.wp.moves m (fun k hk => by have := h.two; rcases hk with hk | hk <;> injection hk with h1 h2 <;> omega)
    exact ⟨hw.tree, hw.keptF, hw.keptD, hw.ownF, hw.ownD, hw.files, hw.held, hw.opens, hw.ok⟩
end
end Go.Proofs.YtehpnebekgahnaaGreat
