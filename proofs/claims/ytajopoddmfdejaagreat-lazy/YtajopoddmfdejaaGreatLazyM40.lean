/-
  What is proved here: a new draft and a new outline; Commit of a tree: the object that the model says, and the objects that are in the store then. Commit of a workspace's tree, and of a workspace: the object that the model says; the store holds the objects that the model says. what Remove, Rename and Open make of a root that is the workspace's own, at paths of one name; how many names a root can have. Open, Remove and Rename of a workspace at paths of one name, whatever files are open. Stat of a file that the workspace holds, at a path of one name; and where nothing stands.
-/
import Derived.Test.YtajopoddmfdejaaGreatLazyM39
import Derived.Deep.RegionHeld3
import Derived.Test.YtajopoddmfdejaaGreatLazyM31
import Derived.Test.YtajopoddmfdejaaGreatLazyM32
namespace Go.Proofs.YtajopoddmfdejaaGreat
open Go.RowKit Go.Sort Go.Shelf
set_option linter.unusedVariables false

set_option maxRecDepth 100000 in
set_option maxHeartbeats 400000 in
theorem newdraft_any (p : Nat) (w : World) :
    Calls Tryz.prog 108 #[.pointer (some ⟨p, 0, none⟩)] w fun e w' => e = .returned (.pointer (some ⟨w.heap.size + 2, 0, none⟩)) ∧ w' = ((w.alloc (.map #[] 0)).alloc (.map #[] 0)).alloc (.cells #[.pointer (some ⟨p, 0, none⟩), .slice none 0 0, .map (some w.heap.size), .map (some (w.heap.size + 1))] 185) := by
  have hmm := @run_makeMap Tryz.prog
  go_enter Tryz.func108, Tryz.ntmps108
  go_wp2
  go_ret
  exact ⟨rfl, rfl⟩

set_option maxRecDepth 100000 in
set_option maxHeartbeats 800000 in
theorem outline_walk (bt p : Nat) (w : World) (hbt : bt < w.heap.size) (c0 : w.cell? ⟨bt, 0, none⟩ = some (.pointer (some ⟨p, 0, none⟩))) :
    Calls Tryz.prog 64 #[.pointer (some ⟨bt, 0, none⟩)] w fun e w' => e = .returned (.agg #[.pointer (some ⟨bt, 0, none⟩), .pointer (some ⟨w.heap.size + 3, 0, none⟩), .map (some (w.heap.size + 4))]) ∧
      ∃ X, w' = ((((w.alloc X).alloc (.map #[] 0)).alloc (.map #[] 0)).alloc (.cells #[.pointer (some ⟨p, 0, none⟩), .slice none 0 0, .map (some (w.heap.size + 1)), .map (some (w.heap.size + 2))] 185)).alloc (.map #[] 0) := by
  have hmm := @run_makeMap Tryz.prog
  have hnd := fun W => newdraft_any p W
  go_enter Tryz.func64, Tryz.ntmps64
  go_wp2_with (go_at_call 108; refine Calls.mono (hnd _) ?_; rintro e w1 ⟨rfl, rfl⟩)
  exact bodyPost_ret (v := .agg #[.pointer (some ⟨bt, 0, none⟩), .pointer (some ⟨w.heap.size + 3, 0, none⟩), .map (some (w.heap.size + 4))]) (by simp [results, Tryz.results64, go_sem]) rfl ⟨rfl, _, rfl⟩

theorem heap5 (w : World) (x1 x2 x3 x4 x5 : Obj) : (((((w.alloc x1).alloc x2).alloc x3).alloc x4).alloc x5).heap[w.heap.size + 1]? = some x2 ∧ (((((w.alloc x1).alloc x2).alloc x3).alloc x4).alloc x5).heap[w.heap.size + 2]? = some x3 ∧ (((((w.alloc x1).alloc x2).alloc x3).alloc x4).alloc x5).heap[w.heap.size + 3]? = some x4 ∧ (((((w.alloc x1).alloc x2).alloc x3).alloc x4).alloc x5).heap[w.heap.size + 4]? = some x5 := by
  refine ⟨?_, ?_, ?_, ?_⟩
  · rw [RowKit.Below.heap_alloc _ _ _ (by first | (simp; done) | (simp; omega)), RowKit.Below.heap_alloc _ _ _ (by first | (simp; done) | (simp; omega)), RowKit.Below.heap_alloc _ _ _ (by first | (simp; done) | (simp; omega))]
    exact heap_alloc2_new w x1 x2
  · rw [RowKit.Below.heap_alloc _ _ _ (by first | (simp; done) | (simp; omega)), RowKit.Below.heap_alloc _ _ _ (by first | (simp; done) | (simp; omega))]
    have := heap_alloc_new ((w.alloc x1).alloc x2) x3
    simpa using this
  · rw [RowKit.Below.heap_alloc _ _ _ (by first | (simp; done) | (simp; omega))]
    have := heap_alloc_new (((w.alloc x1).alloc x2).alloc x3) x4
    simpa using this
  · have := heap_alloc_new ((((w.alloc x1).alloc x2).alloc x3).alloc x4) x5
    simpa using this

theorem below5 (w : World) (x1 x2 x3 x4 x5 : Obj) : Below w.heap.size w (((((w.alloc x1).alloc x2).alloc x3).alloc x4).alloc x5) :=
  (((((Below.refl _ _).alloc (Nat.le_refl _) _).alloc (by first | (simp; done) | (simp; omega)) _).alloc (by first | (simp; done) | (simp; omega)) _).alloc (by first | (simp; done) | (simp; omega)) _).alloc (by first | (simp; done) | (simp; omega)) _

/-- An outline in which nothing has been worked out. -/
theorem outline_any {w : World} {bt p : Nat} (objs : List Ob) (hbt : bt < w.heap.size) (c0 : w.cell? ⟨bt, 0, none⟩ = some (.pointer (some ⟨p, 0, none⟩))) :
    Calls Tryz.prog 64 #[.pointer (some ⟨bt, 0, none⟩)] w fun e w' => ∃ b ow D, e = .returned (.agg #[.pointer (some ⟨bt, 0, none⟩), .pointer (some ⟨b.dr, 0, none⟩), .map (some ow)]) ∧ OSt w p objs D w' b ow objs (fun _ => none) objs.length ∧ Below w.heap.size w w' := by
  refine (outline_walk bt p w hbt c0).mono ?_
  rintro e w' ⟨he, X, hw⟩
  obtain ⟨h1, h2, h3, h4⟩ := heap5 w X (.map #[] 0) (.map #[] 0) (.cells #[.pointer (some ⟨p, 0, none⟩), .slice none 0 0, .map (some (w.heap.size + 1)), .map (some (w.heap.size + 2))] 185) (.map #[] 0)
  have hb := below5 w X (.map #[] 0) (.map #[] 0) (.cells #[.pointer (some ⟨p, 0, none⟩), .slice none 0 0, .map (some (w.heap.size + 1)), .map (some (w.heap.size + 2))] 185) (.map #[] 0)
  rw [← hw] at h1 h2 h3 h4 hb
  have l4 := (Array.getElem?_eq_some_iff.1 h4).1
  refine ⟨⟨w.heap.size + 3, w.heap.size + 1, w.heap.size + 2⟩, w.heap.size + 4, fun k => w.heap.size ≤ k ∧ k < w.heap.size + 4, he, ⟨hb, ?_, ⟨[], [], none, 0, .map [], .map [], by simp, rfl, ⟨⟨by simp, by simp⟩, ⟨by simp, by simp⟩, ⟨by simp, by simp⟩, fun g hg => by simp [Value.ownBlock] at hg, h3, World.ownsRow_nil _ _ _ _, ?_, ?_, ?_, ?_, by simp, (fun o ho => by cases ho), (fun o ho => by cases ho)⟩⟩, by simp, ⟨0, Nat.zero_le _, ?_⟩, Nat.le_refl _⟩, hb⟩
  · rintro k (⟨k1, k2⟩ | rfl)
    · exact ⟨k1, by omega⟩
    · exact ⟨by omega, l4⟩
  · exact ⟨#[], 0, h1, ⟨by simp, MapKept.stamped_empty 0, by simp⟩, Nat.le_refl _, rfl⟩
  · intro d; exact ⟨rfl, fun i hi => by cases hi⟩
  · exact ⟨#[], 0, h2, ⟨by simp, MapKept.stamped_empty 0, by simp⟩, Nat.le_refl _, rfl⟩
  · intro es _; exact ⟨rfl, fun i hi => by cases hi⟩
  · exact ⟨_, vmap_at h4, fun _ _ => rfl, fun kl _ hn => absurd rfl hn⟩

section
variable {s i p : Nat} {B : WB} {objs : List Ob}

set_option maxRecDepth 100000 in
set_option maxHeartbeats 2000000 in
theorem commit_walk (bt dr0 : Nat) (root : Int) (X : (Nat × Nat) → World → Prop) (Y : (Nat × Nat) → World → Prop) (R : World → Prop) (rr : Int) (w : World) (hbt : bt < w.heap.size)
    (c4 : ∀ W, Below w.heap.size w W → W.cell? ⟨bt, 4, none⟩ = some (.string ⟨#[]⟩) ∧ W.cell? ⟨bt, 5, none⟩ = some (.int .i64 2) ∧ W.cell? ⟨bt, 6, none⟩ = some (.int .i64 root))
    (hout : Calls Tryz.prog 64 #[.pointer (some ⟨bt, 0, none⟩)] w fun e w' => ∃ b, e = .returned (.agg #[.pointer (some ⟨bt, 0, none⟩), .pointer (some ⟨b.1, 0, none⟩), .map (some b.2)]) ∧ X b w' ∧ Below w.heap.size w w')
    (hobj : ∀ b W W', X b W → Below W.heap.size W W' → Calls Tryz.prog 65 #[.agg #[.pointer (some ⟨bt, 0, none⟩), .pointer (some ⟨b.1, 0, none⟩), .map (some b.2)], .agg #[.string ⟨#[]⟩, .string ⟨#[]⟩, .string ⟨#[]⟩, .string ⟨#[]⟩, .string ⟨#[]⟩], .agg #[.string ⟨#[]⟩, .int .i64 2, .int .i64 root]] W' fun e w' => e = .returned (.int .i64 rr) ∧ Y b w' ∧ Below w.heap.size w w' ∧ W'.heap.size ≤ w'.heap.size ∧ ∀ k o, W.heap.size ≤ k → k < W'.heap.size → w'.cell? ⟨k, o, none⟩ = W'.cell? ⟨k, o, none⟩)
    (hkeep : ∀ b W n, Y b W → Calls Tryz.prog 67 #[.pointer (some ⟨b.1, 0, none⟩)] (W.drewN n) fun e w' => e = .returned (.int .i64 0) ∧ R w') :
    Calls Tryz.prog 43 #[.pointer (some ⟨bt, 0, none⟩)] w fun e w' => e = .returned (.tuple #[.int .i64 rr, .int .i64 0]) ∧ R w' := by
  have hrt := fun W => root_any W
  have HOUT : Hid _ := hout
  have HOBJ : Hid _ := hobj
  have HKEEP : Hid _ := hkeep
  have HC : Hid _ := c4
  clear hout hobj hkeep c4
  unfold pathV pathA at hrt
  simp at hrt
  go_enter Tryz.func43, Tryz.ntmps43
  go_wp2_with fail
  refine Calls.mono HOUT.out ?_
  rintro e w1 ⟨⟨dr, ow⟩, rfl, hX, hb1⟩
  simp only
  have HX : Hid _ := hX
  clear hX HOUT
  have hb2 : Below w1.heap.size w1 (w1.alloc (.cells #[.pointer (some ⟨bt, 0, none⟩), .pointer (some ⟨dr, 0, none⟩), .map (some ow)] 121)).drew := below_drew ((Below.refl _ _).alloc (Nat.le_refl _) _)
  obtain ⟨d4, d5, d6⟩ := HC.out _ (below_via hb1 hb2)
  have hbx0 := cell_at (heap_alloc_new w1 (.cells #[.pointer (some ⟨bt, 0, none⟩), .pointer (some ⟨dr, 0, none⟩), .map (some ow)] 121)) 0
  have hbx1 := cell_at (heap_alloc_new w1 (.cells #[.pointer (some ⟨bt, 0, none⟩), .pointer (some ⟨dr, 0, none⟩), .map (some ow)] 121)) 1
  have hbx2 := cell_at (heap_alloc_new w1 (.cells #[.pointer (some ⟨bt, 0, none⟩), .pointer (some ⟨dr, 0, none⟩), .map (some ow)] 121)) 2
  have hz : w1.heap.size < (w1.alloc (.cells #[.pointer (some ⟨bt, 0, none⟩), .pointer (some ⟨dr, 0, none⟩), .map (some ow)] 121)).drew.heap.size := by simp
  have hSa : (w1.alloc (.cells #[.pointer (some ⟨bt, 0, none⟩), .pointer (some ⟨dr, 0, none⟩), .map (some ow)] 121)).drew.cell? ⟨w1.heap.size, 0, none⟩ = some (.pointer (some ⟨bt, 0, none⟩)) ∧ (w1.alloc (.cells #[.pointer (some ⟨bt, 0, none⟩), .pointer (some ⟨dr, 0, none⟩), .map (some ow)] 121)).drew.cell? ⟨w1.heap.size, 1, none⟩ = some (.pointer (some ⟨dr, 0, none⟩)) ∧ (w1.alloc (.cells #[.pointer (some ⟨bt, 0, none⟩), .pointer (some ⟨dr, 0, none⟩), .map (some ow)] 121)).drew.cell? ⟨w1.heap.size, 2, none⟩ = some (.map (some ow)) ∧ (w1.alloc (.cells #[.pointer (some ⟨bt, 0, none⟩), .pointer (some ⟨dr, 0, none⟩), .map (some ow)] 121)).drew.cell? ⟨bt, 4, none⟩ = some (.string ⟨#[]⟩) ∧ (w1.alloc (.cells #[.pointer (some ⟨bt, 0, none⟩), .pointer (some ⟨dr, 0, none⟩), .map (some ow)] 121)).drew.cell? ⟨bt, 5, none⟩ = some (.int .i64 2) ∧ (w1.alloc (.cells #[.pointer (some ⟨bt, 0, none⟩), .pointer (some ⟨dr, 0, none⟩), .map (some ow)] 121)).drew.cell? ⟨bt, 6, none⟩ = some (.int .i64 root) := ⟨hbx0, hbx1, hbx2, d4, d5, d6⟩
  go_wp2
  go_region_held3 (fun W => W.cell? ⟨w1.heap.size, 0, none⟩ = some (.pointer (some ⟨bt, 0, none⟩)) ∧ W.cell? ⟨w1.heap.size, 1, none⟩ = some (.pointer (some ⟨dr, 0, none⟩)) ∧ W.cell? ⟨w1.heap.size, 2, none⟩ = some (.map (some ow)) ∧ W.cell? ⟨bt, 4, none⟩ = some (.string ⟨#[]⟩) ∧ W.cell? ⟨bt, 5, none⟩ = some (.int .i64 2) ∧ W.cell? ⟨bt, 6, none⟩ = some (.int .i64 root))
    (first | exact hSa | exact hSb | exact hSc)
    (first
    | (go_at_call 66; refine (hrt _).mono ?_; rintro e w2 ⟨rfl, hb3⟩; have hb23 := below_via hb2 hb3; obtain ⟨f4, f5, f6⟩ := HC.out _ (below_via hb1 hb23); have hSb := And.intro (((bcell hb3).1 w1.heap.size 0 hz).trans hSa.1) (And.intro (((bcell hb3).1 w1.heap.size 1 hz).trans hSa.2.1) (And.intro (((bcell hb3).1 w1.heap.size 2 hz).trans hSa.2.2.1) (And.intro f4 (And.intro f5 f6)))); have hz2 := Nat.lt_of_lt_of_le hz hb3.size)
    | (go_at_call 65; refine Calls.mono (HOBJ.out (dr, ow) _ _ HX.out hb23) ?_; rintro e w3 ⟨rfl, hY, hbw, hs3, hc3⟩; obtain ⟨f4', f5', f6'⟩ := HC.out _ hbw; have hSc := And.intro ((hc3 w1.heap.size 0 (Nat.le_refl _) hz2).trans hSb.1) (And.intro ((hc3 w1.heap.size 1 (Nat.le_refl _) hz2).trans hSb.2.1) (And.intro ((hc3 w1.heap.size 2 (Nat.le_refl _) hz2).trans hSb.2.2.1) (And.intro f4' (And.intro f5' f6')))); have hz3 := Nat.lt_of_lt_of_le hz2 hs3; have HY : Hid _ := hY; clear hY hc3))
  all_goals
    go_wp2_with (go_at_call 67; refine Calls.mono (HKEEP.out (dr, ow) w3 0 HY.out) ?_; rintro e w4 ⟨rfl, hR⟩)
    go_ret2
    exact ⟨rfl, hR⟩

end
end Go.Proofs.YtajopoddmfdejaaGreat

namespace Go.Proofs.YtajopoddmfdejaaGreat
open Go.RowKit Go.Sort Go.Shelf
set_option linter.unusedVariables false

section
variable {s i p : Nat} {B : WB} {objs : List Ob}

/-- Only blocks of the store's objects have turned, and new ones have come. -/
theorem moves_keeps {tg : Tags} {w w' : World} (h : Keeps (fun k => tg k = (1, 0)) w w') (hf : Fresh tg w) : ∃ tg' : Tags, Moves (fun t => t = (1, 0)) tg tg' w w' ∧ Fresh tg' w' ∧ (∀ k, NewF (fun k => tg k = (1, 0)) w w' k → k < w'.heap.size → tg' k = (1, 0)) ∧ ∀ k, k < w.heap.size → tg' k = tg k := by
  refine ⟨fun k => if k < w.heap.size then tg k else if k < w'.heap.size then (1, 0) else (0, 0), ⟨h.os, h.tape, h.output, h.size, fun k hk => if_pos hk, fun k hk hn => h.block k hk hn, fun _ k hk => ?_⟩, fun k hk => ?_, fun k hk hl => ?_, fun k hk => if_pos hk⟩
  · show (if k < w.heap.size then tg k else if k < w'.heap.size then (1, 0) else (0, 0)) = (0, 0)
    rw [if_neg (by have := h.size; omega), if_neg (by omega)]
  · show (if k < w.heap.size then tg k else if k < w'.heap.size then (1, 0) else (0, 0)) = (0, 0)
    rw [if_neg (by have := h.size; omega), if_neg (by omega)]
  · show (if k < w.heap.size then tg k else if k < w'.heap.size then (1, 0) else (0, 0)) = (1, 0)
    by_cases h1 : k < w.heap.size
    · rw [if_pos h1]
      rcases hk with hk | ⟨hk, _⟩
      · exact hk
      · omega
    · rw [if_neg h1, if_pos hl]

/-- What a commit leaves. -/
def ComLeft (s p : Nat) (objs a : List Ob) (tg : Tags) (w w' : World) (got : List Int) (brk : Bool) (lim : Nat) : Prop :=
  ∃ x' tg', (∃ l, x' = objs ++ l) ∧ Same x' a ∧ Moves (fun t => t = (1, 0)) tg tg' w w' ∧ SInv tg' w' s p x' got brk lim

theorem commit_any {tg : Tags} {w : World} {g : WG} {lim : Nat} {t : LT} (h : Base8 tg w s i p B objs g lim t) (hok : LTok objs 5 t) (hfew : objs.length + 2 * cntO 5 t < 3000) (hroom : (objR g.fl 5 t objs).2.length ≤ 400) :
    Calls Tryz.prog 43 #[.pointer (some ⟨B.bt, 0, none⟩)] w fun e w' => e = .returned (.tuple #[.int .i64 (objR g.fl 5 t objs).1, .int .i64 0]) ∧ ComLeft s p objs (objR g.fl 5 t objs).2 tg w w' g.fs.got g.fs.brk lim := by
  have hobjs := objR_ok g.fl 5 (Nat.le_refl _) t objs h.exact hok h.flSz
  obtain ⟨hfr, ft, hbk, hi, hgot, hs, hlm⟩ := h.inv.st
  obtain ⟨hbt, c0, _, _⟩ := h.tree (Below.refl _ _)
  have hdisj : ∀ {D : Nat → Prop} {W : World} {b : DB} {ow : Nat} {a : List Ob} {f : List ByteArray → Option Int} {N : Nat}, OSt w p objs D W b ow a f N → ∀ k, tg k = (1, 0) → ¬ D k := fun hO => (h.pool hO).2
  refine commit_walk B.bt 0 g.ft.root (fun b W => ∃ D mf md, OSt w p objs D W ⟨b.1, mf, md⟩ b.2 objs (fun _ => none) objs.length) (fun b W => ∃ D mf md f' N', OSt w p objs D W ⟨b.1, mf, md⟩ b.2 (objR g.fl 5 t objs).2 f' N') _ _ w hbt (fun W hb => ?_) ((outline_any objs hbt c0).mono ?_) ?_ ?_
  · have ht := (h.inv.below hb).wp.tree.ht
    exact ⟨cell_at ht 4, cell_at ht 5, cell_at ht 6⟩
  · rintro e w' ⟨⟨dr, mf, md⟩, ow, D, he, hO, hb⟩
    exact ⟨(dr, ow), he, ⟨D, mf, md, hO⟩, hb⟩
  · rintro ⟨dr, ow⟩ W W' ⟨D, mf, md, hO⟩ hb
    have hO' := hO.via hb
    have := object_all h (b := ⟨dr, mf, md⟩) (ow := ow) 5 (Nat.le_refl _) t [] hok (at_nil objs t) ⟨(fun x hx => by cases hx), by simp⟩ (by simp) ⟨#[]⟩ D W' objs (fun _ => none) objs.length hO' .nil (fun _ _ => rfl) hfew
    rw [h.flat.kind, ← h.flat.root] at this
    refine this.mono ?_
    rintro e w' ⟨he, D', f', h1, h2, h3⟩
    refine ⟨he, ⟨D', mf, md, f', _, h1⟩, h1.below, h2.keeps.size, fun k o hk1 hk2 => h2.cell hk2 (fun hd => ?_) o⟩
    have := (hO.inb k hd).2
    omega
  · rintro ⟨dr, ow⟩ W n ⟨D, mf, md, f', N', hO⟩
    have hOn : OSt w p objs D (W.drewN n) ⟨dr, mf, md⟩ ow (objR g.fl 5 t objs).2 f' N' := hO.via (below_drewN (Below.refl _ _) n)
    refine (keep_ok (b := ⟨dr, mf, md⟩) (hi.below hOn.below (fun _ _ h => h)) (hdisj hOn) hOn.dinv hobjs.dr hroom).mono ?_
    rintro e w' ⟨he, x', hl, hsame, hinv, hk⟩
    refine ⟨he, ?_⟩
    have hkw := keeps_via hOn.below hk
    obtain ⟨tg', hm, hf', htag, hold⟩ := moves_keeps hkw hfr
    refine ⟨x', tg', hl, hsame, hm, hf', ft, hbk, ?_, hgot.moves hm (by simp), hsame.sound (hobjs.dr.exact h.exact).sound, hlm⟩
    exact hinv.keep (fun _ _ _ => rfl) (fun k hk hF => htag k (newF_via hOn.below.size k hF) hk)

set_option maxRecDepth 100000 in
set_option maxHeartbeats 400000 in
theorem commit_ws (wb bt : Nat) (rr : Int) (R : World → Prop) (w : World) (hwb : wb < w.heap.size) (c0 : w.cell? ⟨wb, 0, none⟩ = some (.pointer (some ⟨bt, 0, none⟩)))
    (hc : Calls Tryz.prog 43 #[.pointer (some ⟨bt, 0, none⟩)] w fun e w' => e = .returned (.tuple #[.int .i64 rr, .int .i64 0]) ∧ R w') :
    Calls Tryz.prog 20 #[.pointer (some ⟨wb, 0, none⟩)] w fun e w' => e = .returned (.tuple #[.int .i64 rr, .int .i64 0]) ∧ R w' := by
  have HC : Hid _ := hc
  clear hc
  go_enter Tryz.func20, Tryz.ntmps20
  go_wp2_with (go_at_call 43; refine Calls.mono HC.out ?_; rintro e w1 ⟨rfl, hR⟩)
  go_ret2
  exact ⟨rfl, hR⟩

end
end Go.Proofs.YtajopoddmfdejaaGreat

namespace Go.Proofs.YtajopoddmfdejaaGreat
open Go.RowKit Go.Sort Go.Shelf
set_option linter.unusedVariables false

theorem own_find_some {objs : List Ob} {ks : Kids} {fs : FS} {n : ByteArray} {c : LT} (h : pickK ks n = some c) : findR objs (.own ks) fs [n] = (fs, 0, c) := by
  simp [findR, kidsG, h]
theorem own_look (objs : List Ob) (ks : Kids) (fs : FS) : lookR objs (.own ks) fs [] = (fs, 0, ks) := rfl
end Go.Proofs.YtajopoddmfdejaaGreat

namespace Go.Proofs.YtajopoddmfdejaaGreat
open Go.RowKit Go.Sort Go.Shelf
set_option linter.unusedVariables false

theorem good_one {n : ByteArray} (h : validB n = true) : Good [n] := ⟨fun x hx => by rw [List.mem_singleton.1 hx]; exact h, by simp⟩

/-- The table as the open files have it. -/
def opT (g : WG) : Nat → Option Nat := fun k => (g.op k).map (·.1)

section
variable {s i p : Nat} {B : WB} {objs : List Ob}

theorem ws_tab {tg : Tags} {w : World} {g : WG} {lim : Nat} (h : WInv tg w s i p B objs g lim) : TabAt w B.wb (opT g) ∧ w.cell? ⟨B.wb, 0, none⟩ = some (.pointer (some ⟨B.bt, 0, none⟩)) := h.wp.opens.tab

theorem openTo_mono {sz sz' : Nat} {fl fl' : Nat → Option (Int × ByteArray)} {ks : Kids} {t t' : LT} {q : List ByteArray} {n : ByteArray} {tr : Bool} {f : Nat} (h : OpenTo objs sz fl ks t q n tr f fl' t') (hs : sz' ≤ sz) : OpenTo objs sz' fl ks t q n tr f fl' t' := by
  rcases h with ⟨a, b, c⟩ | h | ⟨id, a, b, c⟩
  · exact .inl ⟨a, Nat.le_trans hs b, c⟩
  · exact .inr (.inl h)
  · exact .inr (.inr ⟨id, a, Nat.le_trans hs b, c⟩)

theorem openTo_file {sz : Nat} {fl fl' : Nat → Option (Int × ByteArray)} {ks : Kids} {t t' : LT} {q : List ByteArray} {n : ByteArray} {tr : Bool} {f : Nat} (h : OpenTo objs sz fl ks t q n tr f fl' t') (hh : ∀ f, pickK ks n = some (.held f) → ∃ x, fl f = some x) : ∃ x, fl' f = some x := by
  rcases h with ⟨_, _, _, rfl⟩ | ⟨a, _, rfl⟩ | ⟨id, _, _, _, rfl⟩
  · exact ⟨_, updN_same _ _ _⟩
  · split
    · exact ⟨_, updN_same _ _ _⟩
    · exact hh f a
  · split <;> exact ⟨_, updN_same _ _ _⟩

theorem hopen {tg : Tags} {w : World} {g : WG} {lim : Nat} {t : LT} (h : WInv tg w s i p B objs g lim) (hl : lim + 1000 < 1099511627776) (hF : Flat objs t g.ft) (hok : LTok objs 5 t) {n : ByteArray} (hn : validB n = true) (fg : Int) (h0 : 0 ≤ fg) (h64 : fg < 64) (ex cr tr : Bool) (hex : (bits BinOp.and IntKind.i64 fg 8 != 0) = ex) (hcr : (bits BinOp.and IntKind.i64 fg 4 != 0) = cr) (htr : (bits BinOp.and IntKind.i64 fg 16 != 0) = tr)
    (hv : ∀ W, Calls Tryz.prog 90 #[.int .i64 fg] W fun e w' => e = .returned (.bool true) ∧ w' = W) {k : Nat} (hk : k < 8) (hk0 : g.op k = none) (hk1 : ∀ j, j < k → g.op j ≠ none)
    {fs' : FS} {ks : Kids} (hlk : lookR objs t g.fs [] = (fs', 0, ks)) (hoe : openE ks n ex cr = 0) (hhd : ∀ f, pickK ks n = some (.held f) → ∃ x, g.fl f = some x) :
    Calls Tryz.prog 50 #[.pointer (some ⟨B.wb, 0, none⟩), .string n, .int .i64 fg] w fun e w' => e = .returned (.tuple #[.int .i64 (k : Int), .int .i64 0]) ∧ ∃ tg' g' t' b f, Moves (Mine i) tg tg' w w' ∧ WInv tg' w' s i p B objs g' (lim + 300) ∧ Flat objs t' g'.ft ∧ LTok objs 5 t' ∧ g'.fs = fs' ∧ g'.op = updN g.op k (some (b, f, fg, 0)) ∧ OpenTo objs w.heap.size g.fl ks t [] n tr f g'.fl t' := by
  obtain ⟨htab, c0⟩ := ws_tab h
  have hopn := fun W (hb : Below w.heap.size w W) => open_walk (n := n) (r := []) (h.below hb) (by omega) hF hok (good_one hn) fg ex cr tr hex hcr htr
  simp only [hlk] at hopn
  have hw := open_ws_ok B.wb B.bt k (opT g) fg [n] (good_one hn) (fun f w' => ∃ tg' g' t', Moves (Mine i) tg tg' w w' ∧ WInv tg' w' s i p B objs g' (lim + 300) ∧ Flat objs t' g'.ft ∧ LTok objs 5 t' ∧ g'.fs = fs' ∧ g'.op = g.op ∧ OpenTo objs w.heap.size g.fl ks t [] n tr f g'.fl t') w htab c0 hk (by unfold opT; rw [hk0]; rfl) (fun j hj e => hk1 j hj (by unfold opT at e; cases ho : g.op j with | none => rfl | some x => rw [ho] at e; cases e)) hv (fun W hb => (hopn W hb).mono ?_) ?_
  · rw [joinB_one] at hw
    refine hw.mono ?_
    rintro e w' ⟨he, f, w1, ⟨tg1, g1, t1, m1, hW1, hF1, hO1, hs1, ho1, hT1⟩, rfl⟩
    obtain ⟨x, hx⟩ := openTo_file hT1 hhd
    obtain ⟨m2, hW2⟩ := hW1.open_at (k := k) (f := f) (fg := fg) hk hx h0 h64
    refine ⟨he, _, _, t1, w1.heap.size, f, m1.trans (m2.mono (fun x hx => .inr (by rw [hx]))), hW2, hF1, hO1, hs1, ?_, hT1⟩
    show updN g1.op k _ = _
    rw [ho1]
  · rintro e w' (⟨hx, _⟩ | ⟨_, hx, _⟩ | ⟨_, _, f, tg', ft', fl', t', he, m, hW, hF', hO', hT⟩)
    · exact absurd rfl hx
    · exact absurd hoe hx
    · exact ⟨f, he, tg', _, t', call_moves hb m, hW, hF', hO', rfl, rfl, openTo_mono hT hb.size⟩
  · rintro f w' ⟨tg', g', t', m, hW, _, _, _, ho, _⟩
    have := (ws_tab hW).1
    unfold opT at this ⊢
    rw [ho] at this
    exact this

end
end Go.Proofs.YtajopoddmfdejaaGreat

namespace Go.Proofs.YtajopoddmfdejaaGreat
open Go.RowKit Go.Sort Go.Shelf
set_option linter.unusedVariables false

section
variable {s i p : Nat} {B : WB} {objs : List Ob}

theorem OwnF.look1 {tg : Tags} {w : World} {of : List ByteArray → Option Nat} {lim : Nat} (h : OwnF tg w i B of lim) {q : List ByteArray} (hq : Good q) {W : World} (hb : Below w.heap.size w W) :
    (Instr.lookup 127 (.map (some B.oF)) (.agg (pathA q)) false).run Tryz.prog W = .ok (((of q).map ptr).getD (.pointer none)) W := by
  obtain ⟨_, ⟨n, _, M, hV, hM, _⟩, _⟩ := h
  have := (hV.keep (w' := W) (hb.block _ hV.lt)).look lawP Tryz.underlying127 (zeroFp W) (keyVP hq)
  have hMq : M (keyP Tryz.prog q) = (of q).map ptr := hM q hq
  rw [hMq] at this
  exact this
set_option maxRecDepth 100000 in
set_option maxHeartbeats 1000000 in
theorem tbytes_own {tg : Tags} {w : World} {g : WG} {lim f : Nat} {d nm : ByteArray} (h : WInv tg w s i p B objs g lim) (hl : lim < 1099511627776) (hfl : FlOk objs g.fl) {q : List ByteArray} (hq : Good q) (hf : g.ft.of q = some f) {x : Int × ByteArray} (hx : g.fl f = some x) (hbz : bytesG objs g.fl g.fs f = (g.fs, 0, d)) :
    Calls Tryz.prog 142 #[.pointer (some ⟨B.bt, 0, none⟩), .agg (pathA q), .agg #[.string nm, .int .i64 1, .int .i64 0]] w fun en w' => en = .returned (.tuple #[.string d, .int .i64 0]) ∧ DidF s i p B objs tg w w' g (lim + 1) := by
  have hb0 : Below w.heap.size w ((w.alloc (.cells (pathA q) 104)).alloc (.cells #[.string nm, .int .i64 1, .int .i64 0] 76)).drew := below_drew (((Below.refl _ _).alloc (Nat.le_refl _) _).alloc (by simp) _)
  have hlk := h.wp.ownF.look1 hq hb0
  rw [hf] at hlk
  have hby := bytes_any (h.below hb0) hl hfl hx
  rw [hbz] at hby
  obtain ⟨tb, t7, t8⟩ := h.treeAt
  obtain ⟨s0, s1, s2, s3, s4, hP⟩ : ∃ s0 s1 s2 s3 s4, pathA q = #[.string s0, .string s1, .string s2, .string s3, .string s4] := ⟨_, _, _, _, _, rfl⟩
  rw [hP] at hlk hb0 hby ⊢
  simp only [Option.map_some, Option.getD_some, ptr] at hlk
  have HB : Hid _ := hb0
  have HBY : Hid _ := hby
  clear h hb0 hby
  go_enter Tryz.func142, Tryz.ntmps142
  go_wp2
  go_region_with (go_at_call 135; refine Calls.mono HBY.out ?_; rintro e w2 ⟨rfl, hD⟩)
  all_goals
    go_wp2
    go_ret2
    exact ⟨rfl, hD.via HB.out⟩

set_option maxRecDepth 100000 in
set_option maxHeartbeats 1000000 in
theorem tsize_walk (t : Nat) (s0 s1 s2 s3 s4 nm d : ByteArray) (R : World → Prop) (w : World)
    (hby : Calls Tryz.prog 142 #[.pointer (some ⟨t, 0, none⟩), .agg #[.string s0, .string s1, .string s2, .string s3, .string s4], .agg #[.string nm, .int .i64 1, .int .i64 0]] ((w.alloc (.cells #[.string s0, .string s1, .string s2, .string s3, .string s4] 104)).alloc (.cells #[.string nm, .int .i64 1, .int .i64 0] 76)) fun en w' => en = .returned (.tuple #[.string d, .int .i64 0]) ∧ R w') :
    Calls Tryz.prog 100 #[.pointer (some ⟨t, 0, none⟩), .agg #[.string s0, .string s1, .string s2, .string s3, .string s4], .agg #[.string nm, .int .i64 1, .int .i64 0]] w fun en w' => en = .returned (.tuple #[.int .i64 (d.size : Int), .int .i64 0]) ∧ R w' := by
  have HBY : Hid _ := hby
  clear hby
  go_enter Tryz.func100, Tryz.ntmps100
  go_wp2_with fail
  refine Calls.mono HBY.out ?_
  rintro e w2 ⟨rfl, hR⟩
  go_wp2
  go_ret2
  exact ⟨rfl, hR⟩

theorem tsize_own {tg : Tags} {w : World} {g : WG} {lim f : Nat} {d nm : ByteArray} (h : WInv tg w s i p B objs g lim) (hl : lim < 1099511627776) (hfl : FlOk objs g.fl) {q : List ByteArray} (hq : Good q) (hf : g.ft.of q = some f) {x : Int × ByteArray} (hx : g.fl f = some x) (hbz : bytesG objs g.fl g.fs f = (g.fs, 0, d)) :
    Calls Tryz.prog 100 #[.pointer (some ⟨B.bt, 0, none⟩), .agg (pathA q), .agg #[.string nm, .int .i64 1, .int .i64 0]] w fun en w' => en = .returned (.tuple #[.int .i64 (d.size : Int), .int .i64 0]) ∧ DidF s i p B objs tg w w' g (lim + 1) := by
  have hb0 : Below w.heap.size w ((w.alloc (.cells (pathA q) 104)).alloc (.cells #[.string nm, .int .i64 1, .int .i64 0] 76)) := ((Below.refl _ _).alloc (Nat.le_refl _) _).alloc (by simp) _
  exact tsize_walk B.bt _ _ _ _ _ nm d _ w ((tbytes_own (h.below hb0) hl hfl hq hf hx hbz).mono (fun e w' ⟨h1, h2⟩ => ⟨h1, h2.via hb0⟩))
end
end Go.Proofs.YtajopoddmfdejaaGreat
