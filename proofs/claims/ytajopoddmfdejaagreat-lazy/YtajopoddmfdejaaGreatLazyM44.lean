/-
  What is proved here: Status of a tree that is its base, and of a workspace: nothing is told, and nothing has changed. Status of a workspace whose tree is its base's object: nothing is told, and nothing has changed. the calls of canopykeep's Back, one by one. the calls of canopykeep's Lazy, one by one.
-/
import Derived.Test.YtajopoddmfdejaaGreatLazyM43
import Derived.Test.YtajopoddmfdejaaGreatLazyM32
import Derived.Test.YtajopoddmfdejaaGreatLazyM42
import Derived.Test.YtajopoddmfdejaaGreatLazyM33
import Derived.Test.YtajopoddmfdejaaGreatLazyM35
namespace Go.Proofs.YtajopoddmfdejaaGreat
open Go.RowKit Go.Sort Go.Shelf
set_option linter.unusedVariables false

set_option maxRecDepth 100000 in
set_option maxHeartbeats 4000000 in
theorem status_walk (bt : Nat) (root base : Int) (X : (Nat × Nat) → World → Prop) (R : World → Prop) (w : World) (hbt : bt < w.heap.size)
    (c4 : ∀ W, Below w.heap.size w W → W.cell? ⟨bt, 3, none⟩ = some (.int .i64 base) ∧ W.cell? ⟨bt, 4, none⟩ = some (.string ⟨#[]⟩) ∧ W.cell? ⟨bt, 5, none⟩ = some (.int .i64 2) ∧ W.cell? ⟨bt, 6, none⟩ = some (.int .i64 root))
    (hout : Calls Tryz.prog 64 #[.pointer (some ⟨bt, 0, none⟩)] w fun e w' => ∃ b, e = .returned (.agg #[.pointer (some ⟨bt, 0, none⟩), .pointer (some ⟨b.1, 0, none⟩), .map (some b.2)]) ∧ X b w' ∧ Below w.heap.size w w')
    (hcmp : ∀ b W W', X b W → Below W.heap.size W W' → W.heap.size < W'.heap.size → W'.cell? ⟨W.heap.size, 0, none⟩ = some (.pointer (some ⟨bt, 0, none⟩)) → W'.cell? ⟨W.heap.size, 1, none⟩ = some (.pointer (some ⟨b.1, 0, none⟩)) → W'.cell? ⟨W.heap.size, 2, none⟩ = some (.map (some b.2)) →
      Calls Tryz.prog 97 #[.pointer (some ⟨W.heap.size, 0, none⟩), .agg #[.string ⟨#[]⟩, .string ⟨#[]⟩, .string ⟨#[]⟩, .string ⟨#[]⟩, .string ⟨#[]⟩], .agg #[.string ⟨#[]⟩, .int .i64 2, .int .i64 root], .agg #[.string ⟨#[]⟩, .int .i64 2, .int .i64 base]] W' fun e w' => e = .returned (.int .i64 0) ∧ R w' ∧ Below w.heap.size w w' ∧ W'.heap.size ≤ w'.heap.size ∧ ∀ k o, W.heap.size ≤ k → k < W'.heap.size → w'.cell? ⟨k, o, none⟩ = W'.cell? ⟨k, o, none⟩) :
    Calls Tryz.prog 53 #[.pointer (some ⟨bt, 0, none⟩)] w fun e w' => e = .returned (.tuple #[.slice none 0 0, .int .i64 0]) ∧ R w' := by
  have hrt := fun W => root_any W
  have hso := fun fv W => AnyF.slices_SortFunc_none Tryz.sortC none 0 fv W
  have HOUT : Hid _ := hout
  have HCMP : Hid _ := hcmp
  have HC : Hid _ := c4
  clear hout hcmp c4
  unfold pathV pathA at hrt
  simp at hrt
  go_enter Tryz.func53, Tryz.ntmps53
  go_wp2_with fail
  refine Calls.mono HOUT.out ?_
  rintro e w1 ⟨⟨dr, ow⟩, rfl, hX, hb1⟩
  simp only
  have HX : Hid _ := hX
  clear hX HOUT
  have hb2 : Below w1.heap.size w1 ((w1.alloc (.cells #[.pointer (some ⟨bt, 0, none⟩), .pointer (some ⟨dr, 0, none⟩), .map (some ow), .slice none 0 0] 172)).alloc (.cells #[.string ⟨#[]⟩, .int .i64 2, .int .i64 base] 76)).drew := below_drew (((Below.refl _ _).alloc (Nat.le_refl _) _).alloc (by simp) _)
  obtain ⟨d3, d4, d5, d6⟩ := HC.out _ (below_via hb1 hb2)
  obtain ⟨e3, _, _, _⟩ := HC.out _ hb1
  have hbt1 : bt < w1.heap.size := Nat.lt_of_lt_of_le hbt hb1.size
  have hx0 := heap_alloc2_old w1 (.cells #[.pointer (some ⟨bt, 0, none⟩), .pointer (some ⟨dr, 0, none⟩), .map (some ow), .slice none 0 0] 172) (.cells #[.string ⟨#[]⟩, .int .i64 2, .int .i64 base] 76)
  have hx1 := heap_alloc2_new w1 (.cells #[.pointer (some ⟨bt, 0, none⟩), .pointer (some ⟨dr, 0, none⟩), .map (some ow), .slice none 0 0] 172) (.cells #[.string ⟨#[]⟩, .int .i64 2, .int .i64 base] 76)
  have hz : w1.heap.size + 2 = ((w1.alloc (.cells #[.pointer (some ⟨bt, 0, none⟩), .pointer (some ⟨dr, 0, none⟩), .map (some ow), .slice none 0 0] 172)).alloc (.cells #[.string ⟨#[]⟩, .int .i64 2, .int .i64 base] 76)).drew.heap.size := by simp
  have HZ : Hid _ := hz
  have y10 := cell_at hx1 0
  have y11 := cell_at hx1 1
  have y12 := cell_at hx1 2
  have hSa : ((w1.alloc (.cells #[.pointer (some ⟨bt, 0, none⟩), .pointer (some ⟨dr, 0, none⟩), .map (some ow), .slice none 0 0] 172)).alloc (.cells #[.string ⟨#[]⟩, .int .i64 2, .int .i64 base] 76)).drew.cell? ⟨w1.heap.size + 1, 0, none⟩ = some (.string ⟨#[]⟩) ∧ ((w1.alloc (.cells #[.pointer (some ⟨bt, 0, none⟩), .pointer (some ⟨dr, 0, none⟩), .map (some ow), .slice none 0 0] 172)).alloc (.cells #[.string ⟨#[]⟩, .int .i64 2, .int .i64 base] 76)).drew.cell? ⟨w1.heap.size + 1, 1, none⟩ = some (.int .i64 2) ∧ ((w1.alloc (.cells #[.pointer (some ⟨bt, 0, none⟩), .pointer (some ⟨dr, 0, none⟩), .map (some ow), .slice none 0 0] 172)).alloc (.cells #[.string ⟨#[]⟩, .int .i64 2, .int .i64 base] 76)).drew.cell? ⟨w1.heap.size + 1, 2, none⟩ = some (.int .i64 base) ∧ ((w1.alloc (.cells #[.pointer (some ⟨bt, 0, none⟩), .pointer (some ⟨dr, 0, none⟩), .map (some ow), .slice none 0 0] 172)).alloc (.cells #[.string ⟨#[]⟩, .int .i64 2, .int .i64 base] 76)).drew.cell? ⟨bt, 4, none⟩ = some (.string ⟨#[]⟩) ∧ ((w1.alloc (.cells #[.pointer (some ⟨bt, 0, none⟩), .pointer (some ⟨dr, 0, none⟩), .map (some ow), .slice none 0 0] 172)).alloc (.cells #[.string ⟨#[]⟩, .int .i64 2, .int .i64 base] 76)).drew.cell? ⟨bt, 5, none⟩ = some (.int .i64 2) ∧ ((w1.alloc (.cells #[.pointer (some ⟨bt, 0, none⟩), .pointer (some ⟨dr, 0, none⟩), .map (some ow), .slice none 0 0] 172)).alloc (.cells #[.string ⟨#[]⟩, .int .i64 2, .int .i64 base] 76)).drew.cell? ⟨bt, 6, none⟩ = some (.int .i64 root) := ⟨y10, y11, y12, d4, d5, d6⟩
  have HX0 : Hid _ := hx0
  clear hx0 hx1 y10 y11 y12 hz d3
  go_wp2
  go_region_held3 (fun W => W.cell? ⟨w1.heap.size + 1, 0, none⟩ = some (.string ⟨#[]⟩) ∧ W.cell? ⟨w1.heap.size + 1, 1, none⟩ = some (.int .i64 2) ∧ W.cell? ⟨w1.heap.size + 1, 2, none⟩ = some (.int .i64 base) ∧ W.cell? ⟨bt, 4, none⟩ = some (.string ⟨#[]⟩) ∧ W.cell? ⟨bt, 5, none⟩ = some (.int .i64 2) ∧ W.cell? ⟨bt, 6, none⟩ = some (.int .i64 root))
    (first | exact hSa | exact hSb | exact hSc)
    (first
    | (go_at_call 66; refine (hrt _).mono ?_; rintro e w2 ⟨rfl, hb3⟩; have hb23 := below_via hb2 hb3; have hs2 : w1.heap.size + 2 ≤ w2.heap.size := Nat.le_trans (Nat.le_of_eq HZ.out) hb3.size; obtain ⟨_, f4, f5, f6⟩ := HC.out _ (below_via hb1 hb23); have hSb := And.intro (((bcell hb3).1 (w1.heap.size + 1) 0 (Nat.lt_of_lt_of_eq (by omega) HZ.out)).trans hSa.1) (And.intro (((bcell hb3).1 (w1.heap.size + 1) 1 (Nat.lt_of_lt_of_eq (by omega) HZ.out)).trans hSa.2.1) (And.intro (((bcell hb3).1 (w1.heap.size + 1) 2 (Nat.lt_of_lt_of_eq (by omega) HZ.out)).trans hSa.2.2.1) (And.intro f4 (And.intro f5 f6)))); have hsv := (hb3.block w1.heap.size (Nat.lt_of_lt_of_eq (by omega) HZ.out)).trans HX0.out; have g0 := cell_at hsv 0; have g1 := cell_at hsv 1; have g2 := cell_at hsv 2; have g3 := cell_at hsv 3; clear hsv)
    | (go_at_call 97; refine Calls.mono (HCMP.out (dr, ow) _ _ HX.out hb23 (by omega) g0 g1 g2) ?_; rintro e w3 ⟨rfl, hR, hbw, hs3, hc3⟩; obtain ⟨_, f4', f5', f6'⟩ := HC.out _ hbw; have hSc := And.intro ((hc3 (w1.heap.size + 1) 0 (by omega) (by omega)).trans hSb.1) (And.intro ((hc3 (w1.heap.size + 1) 1 (by omega) (by omega)).trans hSb.2.1) (And.intro ((hc3 (w1.heap.size + 1) 2 (by omega) (by omega)).trans hSb.2.2.1) (And.intro f4' (And.intro f5' f6')))); have g33 := (hc3 w1.heap.size 3 (Nat.le_refl _) (by omega)).trans g3; have hz3 : w1.heap.size < w3.heap.size := (by omega); have HR : Hid _ := hR; clear hR hc3))
  all_goals
    simp at g33
    go_wp2_with (go_at_call 98; refine Calls.mono (hso _ _) ?_; rintro e w4 ⟨rfl, rfl⟩)
    go_ret2
    exact ⟨rfl, HR.out⟩

end Go.Proofs.YtajopoddmfdejaaGreat

namespace Go.Proofs.YtajopoddmfdejaaGreat
open Go.RowKit Go.Sort Go.Shelf
set_option linter.unusedVariables false

section
variable {s i p : Nat} {B : WB} {objs : List Ob}

theorem status_same {tg : Tags} {w : World} {g : WG} {lim : Nat} {t : LT} (h : Base8 tg w s i p B objs g lim t) (hok : LTok objs 5 t) (hfew : objs.length + 2 * cntO 5 t < 3000) (hbase : (objR g.fl 5 t objs).1 = g.base) :
    Calls Tryz.prog 53 #[.pointer (some ⟨B.bt, 0, none⟩)] w fun e w' => e = .returned (.tuple #[.slice none 0 0, .int .i64 0]) ∧ Below w.heap.size w w' := by
  obtain ⟨hbt, c0, _, _⟩ := h.tree (Below.refl _ _)
  refine status_walk B.bt g.ft.root g.base (fun b W => ∃ D mf md, OSt w p objs D W ⟨b.1, mf, md⟩ b.2 objs (fun _ => none) objs.length) (fun w' => Below w.heap.size w w') w hbt (fun W hb => ?_) ((outline_any objs hbt c0).mono ?_) ?_
  · have ht := (h.inv.below hb).wp.tree.ht
    exact ⟨cell_at ht 3, cell_at ht 4, cell_at ht 5, cell_at ht 6⟩
  · rintro e w' ⟨⟨dr, mf, md⟩, ow, D, he, hO, hb⟩
    exact ⟨(dr, ow), he, ⟨D, mf, md, hO⟩, hb⟩
  · rintro ⟨dr, ow⟩ W W' ⟨D, mf, md, hO⟩ hb hlt v0 v1 v2
    have hO' := hO.via hb
    refine (scompare_same W.heap.size B.bt dr ow _ _ _ _ _ ⟨#[]⟩ ⟨#[]⟩ 2 g.ft.root g.base (fun w' => Below w.heap.size w w' ∧ W'.heap.size ≤ w'.heap.size ∧ ∀ k o, W.heap.size ≤ k → k < W'.heap.size → w'.cell? ⟨k, o, none⟩ = W'.cell? ⟨k, o, none⟩) W' hlt v0 v1 v2 (fun W2 hb2 => ?_)).mono (fun e w' ⟨h1, h2, h3, h4⟩ => ⟨h1, h2, h2, h3, h4⟩)
    have := object_all h (b := ⟨dr, mf, md⟩) (ow := ow) 5 (Nat.le_refl _) t [] hok (at_nil objs t) ⟨(fun x hx => by cases hx), by simp⟩ (by simp) ⟨#[]⟩ D W2 objs (fun _ => none) objs.length (hO'.via hb2) .nil (fun _ _ => rfl) hfew
    rw [h.flat.kind, ← h.flat.root, hbase] at this
    refine this.mono ?_
    rintro e w' ⟨he, D', f', h1, h2, h3⟩
    have hcell : ∀ k o, W.heap.size ≤ k → k < W2.heap.size → w'.cell? ⟨k, o, none⟩ = W2.cell? ⟨k, o, none⟩ := fun k o hk1 hk2 => h2.cell hk2 (fun hd => by have := (hO.inb k hd).2; omega) o
    refine ⟨he, ⟨h1.below, Nat.le_trans hb2.size h2.keeps.size, fun k o hk1 hk2 => ?_⟩, fun j o hj hj2 => hcell j o (by rcases hj with rfl | hj; exact Nat.le_refl _; omega) hj2⟩
    rw [hcell k o hk1 (Nat.lt_of_lt_of_le hk2 hb2.size)]
    exact hb2.cell (p := ⟨k, o, none⟩) hk2

set_option maxRecDepth 100000 in
set_option maxHeartbeats 400000 in
theorem status_ws (wb bt : Nat) (v : Value) (er : Int) (R : World → Prop) (w : World) (hwb : wb < w.heap.size) (c0 : w.cell? ⟨wb, 0, none⟩ = some (.pointer (some ⟨bt, 0, none⟩)))
    (hc : Calls Tryz.prog 53 #[.pointer (some ⟨bt, 0, none⟩)] w fun e w' => e = .returned (.tuple #[v, .int .i64 er]) ∧ R w') :
    Calls Tryz.prog 27 #[.pointer (some ⟨wb, 0, none⟩)] w fun e w' => e = .returned (.tuple #[v, .int .i64 er]) ∧ R w' := by
  have HC : Hid _ := hc
  clear hc
  go_enter Tryz.func27, Tryz.ntmps27
  go_wp2_with (go_at_call 53; refine Calls.mono HC.out ?_; rintro e w1 ⟨rfl, hR⟩)
  go_ret2
  exact ⟨rfl, hR⟩

end
end Go.Proofs.YtajopoddmfdejaaGreat

namespace Go.Proofs.YtajopoddmfdejaaGreat
open Go.RowKit Go.Sort Go.Shelf
set_option linter.unusedVariables false

/-- The objects that made leaves. -/
structure Obs8 (objs : List Ob) (id : Int) : Prop where
  exact : Exact objs
  once : Once objs
  ok : LTok objs 5 (.dir id)
  len : objs.length ≤ 100

/-- A workspace of it, between two calls. -/
def BSt (W wr : World) (s p : Nat) (B : WB) (objs : List Ob) (id : Int) (lim : Nat) (t : LT) : Prop := ∃ tg g, Old W wr tg ∧ QInv tg wr s 3 p B objs g lim t ∧ g.fs.brk = false ∧ g.base = id

theorem BSt.below {W wr w' : World} {s p : Nat} {B : WB} {objs : List Ob} {id : Int} {lim : Nat} {t : LT} (h : BSt W wr s p B objs id lim t) (hb : Below wr.heap.size wr w') : BSt W w' s p B objs id lim t := by
  obtain ⟨tg, g, hO, hQ, h1, h2⟩ := h
  exact ⟨tg, g, hO.any (P := fun _ => False) (fun h => h) (Moves.of_below hb), hQ.below hb, h1, h2⟩

set_option maxRecDepth 100000 in
set_option maxHeartbeats 400000 in
theorem work_walk (s : Nat) (id : Int) (R : Nat → World → Prop) (w : World) (hc : Calls Tryz.prog 40 #[.pointer (some ⟨s, 0, none⟩), .int .i64 id] w fun e w' => ∃ wb : Nat, e = .returned (.tuple #[.pointer (some ⟨wb, 0, none⟩), .int .i64 0]) ∧ R wb w') :
    Calls Tryz.prog 12 #[.pointer (some ⟨s, 0, none⟩), .int .i64 id] w fun e w' => ∃ wb : Nat, e = .returned (.tuple #[.pointer (some ⟨wb, 0, none⟩), .bool true]) ∧ R wb w' := by
  have HC : Hid _ := hc
  clear hc
  go_enter Tryz.func12, Tryz.ntmps12
  go_wp2_with fail
  refine Calls.mono HC.out ?_
  rintro e w1 ⟨wb, rfl, hR⟩
  have HR : Hid _ := hR
  clear hR HC
  go_wp2
  go_ret2
  exact ⟨wb, rfl, HR.out⟩

/-- A tree that reads as its base does, little of which is its own. -/
def AsBase (objs : List Ob) (id : Int) (t : LT) : Prop := (∀ fc x, sem objs fc t x = sem objs fc (.dir id) x) ∧ cntO 5 t ≤ 30
theorem asBase_dir (objs : List Ob) (id : Int) : AsBase objs id (.dir id) := ⟨fun _ _ => rfl, by rw [cntO]; omega⟩

theorem base_objR {tg : Tags} {w : World} {s i p : Nat} {B : WB} {objs : List Ob} {g : WG} {lim : Nat} {t : LT} {id : Int} (hObs : Obs8 objs id) (hQ : QInv tg w s i p B objs g lim t) (hA : AsBase objs id t) : Base8 tg w s i p B objs g lim t ∧ objR g.fl 5 t objs = (id, objs) := by
  have hB : Base8 tg w s i p B objs g lim t := ⟨hQ.inv, hQ.flat, hObs.exact, hQ.fl⟩
  exact ⟨hB, objR_sem hObs.exact hObs.once hB.flSz 5 t (.dir id) hQ.ok hObs.ok (.inr ⟨id, rfl⟩) (fun q => hA.1 _ q)⟩

end Go.Proofs.YtajopoddmfdejaaGreat

namespace Go.Proofs.YtajopoddmfdejaaGreat
open Go.RowKit Go.Sort Go.Shelf
set_option linter.unusedVariables false

/-- What the caller holds: lists of objects, and boxes. -/
def Keep8 (tg : Tags) (w : World) (rows : List (Value × List Int)) (boxes : List (Nat × Obj)) : Prop := (∀ r ∈ rows, IdRow w r.1 r.2 ∧ ∀ b, r.1.ownBlock = some b → tg b = (0, 0)) ∧ ∀ x ∈ boxes, w.heap[x.1]? = some x.2 ∧ tg x.1 = (0, 0)
theorem Keep8.any {P : Nat × Nat → Prop} {tg tg' : Tags} {w w' : World} {rows : List (Value × List Int)} {boxes : List (Nat × Obj)} (h : Keep8 tg w rows boxes) (hP : ¬ P (0, 0)) (m : Moves P tg tg' w w') : Keep8 tg' w' rows boxes := by
  refine ⟨fun r hr => ?_, fun x hx => ?_⟩
  · obtain ⟨h1, h2⟩ := h.1 r hr
    exact ⟨ownsRow_keep h1 (fun g hg => m.block g (ownsRow_lt h1 hg) (by rw [h2 g hg]; exact hP)), fun b hb => (m.tags b (ownsRow_lt h1 hb)).trans (h2 b hb)⟩
  · obtain ⟨h1, h2⟩ := h.2 x hx
    have hlt : x.1 < w.heap.size := (Array.getElem?_eq_some_iff.1 h1).1
    exact ⟨(m.block x.1 hlt (by rw [h2]; exact hP)).trans h1, (m.tags x.1 hlt).trans h2⟩
theorem Keep8.below {tg : Tags} {w w' : World} {rows : List (Value × List Int)} {boxes : List (Nat × Obj)} (h : Keep8 tg w rows boxes) (hb : Below w.heap.size w w') : Keep8 tg w' rows boxes := h.any (P := fun _ => False) (fun h => h) (Moves.of_below hb)
theorem Keep8.row {tg : Tags} {w w' : World} {rows : List (Value × List Int)} {boxes : List (Nat × Obj)} (h : Keep8 tg w rows boxes) (hf : Fresh tg w) (hb : Below w.heap.size w w') {v : Value} {L : List Int} (hr : w'.ownsRow w.heap.size 26 1 v L.length (encN L)) : Keep8 tg w' ((v, L) :: rows) boxes := by
  have hk := h.below hb
  refine ⟨fun r hr' => ?_, hk.2⟩
  rcases List.mem_cons.1 hr' with rfl | hr'
  · exact ⟨row_base0 hr, fun b hb' => hf b (hr.lt b hb').1⟩
  · exact hk.1 r hr'
theorem Keep8.box {tg : Tags} {w : World} {rows : List (Value × List Int)} {boxes : List (Nat × Obj)} (h : Keep8 tg w rows boxes) (hf : Fresh tg w) (X : Obj) : Keep8 tg (w.alloc X) rows ((w.heap.size, X) :: boxes) := by
  have hk := h.below ((Below.refl _ _).alloc (Nat.le_refl _) X)
  refine ⟨hk.1, fun x hx => ?_⟩
  rcases List.mem_cons.1 hx with rfl | hx
  · exact ⟨heap_alloc_new w X, hf _ (Nat.le_refl _)⟩
  · exact hk.2 x hx

/-- What is at, or on the way to, a path is on the shelf. -/
def KeptAll (objs : List Ob) (id : Int) (p : List ByteArray) (fs : FS) : Prop := ∀ q c, q <+: p → (LT.dir id).at objs q = some c → (c.kind = 2 ∨ q = p) → Kept objs fs c

/-- A workspace of which only Stat has been asked, at these paths. -/
def LzSt (W wr : World) (s p : Nat) (B : WB) (objs : List Ob) (id : Int) (lim : Nat) (before L : List Int) (ps : List (List ByteArray)) (rows : List (Value × List Int)) (boxes : List (Nat × Obj)) : Prop :=
  ∃ tg g, Old W wr tg ∧ QInv tg wr s 3 p B objs g lim (.dir id) ∧ g.fs.brk = false ∧ g.base = id ∧ g.fl = (fun _ => none) ∧ GI objs before g.fs L ∧ (∀ q ∈ ps, KeptAll objs id q g.fs) ∧ (∀ x ∈ L, ∃ q ∈ ps, OnWay objs id q x) ∧ Keep8 tg wr rows boxes
/-- The store behind it. -/
def StSt (W wr : World) (s p : Nat) (objs : List Ob) (lim : Nat) (got : List Int) (rows : List (Value × List Int)) (boxes : List (Nat × Obj)) : Prop :=
  ∃ tg, Old W wr tg ∧ SInv tg wr s p objs got false lim ∧ Keep8 tg wr rows boxes

section
variable {W wr : World} {s p : Nat} {B : WB} {objs : List Ob} {id : Int} {lim : Nat} {before L got : List Int} {ps : List (List ByteArray)} {rows : List (Value × List Int)} {boxes : List (Nat × Obj)}

theorem StSt.old (h : StSt W wr s p objs lim got rows boxes) : Below W.heap.size W wr := by
  obtain ⟨_, hO, _⟩ := h
  exact hO.1
theorem StSt.below {w' : World} (h : StSt W wr s p objs lim got rows boxes) (hb : Below wr.heap.size wr w') : StSt W w' s p objs lim got rows boxes := by
  obtain ⟨tg, hO, hS, hK⟩ := h
  exact ⟨tg, hO.below hb, hS.moves (P := fun _ => False) (Moves.of_below hb) (fun h => h) (fun h => h), hK.below hb⟩
theorem StSt.row (h : StSt W wr s p objs lim got rows boxes) {r : Value × List Int} (hr : r ∈ rows) : IdRow wr r.1 r.2 := by
  obtain ⟨tg, hO, hS, hK⟩ := h
  exact (hK.1 r hr).1
theorem StSt.box_at (h : StSt W wr s p objs lim got rows boxes) {x : Nat × Obj} (hx : x ∈ boxes) : wr.heap[x.1]? = some x.2 := by
  obtain ⟨tg, hO, hS, hK⟩ := h
  exact (hK.2 x hx).1
theorem StSt.addRow {w' : World} (h : StSt W wr s p objs lim got rows boxes) (hb : Below wr.heap.size wr w') {v : Value} {M : List Int} (hr : w'.ownsRow wr.heap.size 26 1 v M.length (encN M)) : StSt W w' s p objs lim got ((v, M) :: rows) boxes := by
  obtain ⟨tg, hO, hS, hK⟩ := h
  exact ⟨tg, hO.below hb, hS.moves (P := fun _ => False) (Moves.of_below hb) (fun h => h) (fun h => h), hK.row hS.fresh hb hr⟩

theorem LzSt.below {w' : World} (h : LzSt W wr s p B objs id lim before L ps rows boxes) (hb : Below wr.heap.size wr w') : LzSt W w' s p B objs id lim before L ps rows boxes := by
  obtain ⟨tg, g, hO, hQ, h1, h2, h3, h4, h5, h6, hK⟩ := h
  exact ⟨tg, g, hO.below hb, hQ.below hb, h1, h2, h3, h4, h5, h6, hK.below hb⟩
theorem LzSt.box (h : LzSt W wr s p B objs id lim before L ps rows boxes) (X : Obj) : LzSt W (wr.alloc X) s p B objs id lim before L ps rows ((wr.heap.size, X) :: boxes) := by
  obtain ⟨tg, g, hO, hQ, h1, h2, h3, h4, h5, h6, hK⟩ := h
  have hb : Below wr.heap.size wr (wr.alloc X) := (Below.refl _ _).alloc (Nat.le_refl _) X
  exact ⟨tg, g, hO.below hb, hQ.below hb, h1, h2, h3, h4, h5, h6, hK.box hQ.inv.st.fresh X⟩

/-- Fetched of a store. -/
theorem l_fetched (h : StSt W wr s p objs lim got rows boxes) (hl : lim ≤ 100000) :
    Calls Tryz.prog 29 #[.pointer (some ⟨s, 0, none⟩)] wr fun e w' => ∃ v, e = .returned v ∧ StSt W w' s p objs lim got ((v, got) :: rows) boxes := by
  have h0 := h
  obtain ⟨tg, hO, hS, hK⟩ := h
  refine (fetched_all hS (by omega)).mono ?_
  rintro e w' ⟨v, he, hr, hb⟩
  exact ⟨v, he, h0.addRow hb hr⟩
/-- .. of which there is a workspace. -/
theorem l_fetched8 (h : LzSt W wr s p B objs id lim before L ps rows boxes) (hl : lim ≤ 100000) :
    Calls Tryz.prog 29 #[.pointer (some ⟨s, 0, none⟩)] wr fun e w' => ∃ v, e = .returned v ∧ LzSt W w' s p B objs id lim before L ps ((v, before ++ L) :: rows) boxes := by
  obtain ⟨tg, g, hO, hQ, h1, h2, h3, h4, h5, h6, hK⟩ := h
  refine (fetched_all hQ.inv.st (by omega)).mono ?_
  rintro e w' ⟨v, he, hr, hb⟩
  rw [h4.got] at hr
  exact ⟨v, he, tg, g, hO.below hb, hQ.below hb, h1, h2, h3, h4, h5, h6, hK.row hQ.inv.st.fresh hb hr⟩

theorem l_work (hok : LTok objs 5 (.dir id)) (h : StSt W wr s p objs 60000 got rows boxes) :
    Calls Tryz.prog 12 #[.pointer (some ⟨s, 0, none⟩), .int .i64 id] wr fun e w' => ∃ B : WB, e = .returned (.tuple #[.pointer (some ⟨B.wb, 0, none⟩), .bool true]) ∧ LzSt W w' s p B objs id 60000 got [] [] rows boxes := by
  obtain ⟨tg, hO, hS, hK⟩ := h
  refine (work_walk s id (fun wb w' => ∃ B : WB, B.wb = wb ∧ LzSt W w' s p B objs id 60000 got [] [] rows boxes) wr ((qcheckout (i := 3) hS (by decide) hok).mono ?_)).mono ?_
  · rintro e w' ⟨B, he, tg', m, hQ⟩
    refine ⟨B.wb, he, B, rfl, tg', _, hO.any (fun h => h) m, hQ, rfl, rfl, rfl, ⟨by simp [wg0], List.nodup_nil, (fun x hx => by cases hx), (fun x _ => ?_), (fun x _ => ?_)⟩, (fun q hq => by cases hq), (fun x hx => by cases hx), hK.any (fun h => h) m⟩
    · simp [wg0]
    · simp [wg0]
  · rintro e w' ⟨wb, he, B, rfl, hB⟩
    exact ⟨B, he, hB⟩

theorem l_status (hObs : Obs8 objs id) (h : LzSt W wr s p B objs id lim before L ps rows boxes) :
    Calls Tryz.prog 27 #[.pointer (some ⟨B.wb, 0, none⟩)] wr fun e w' => e = .returned (.tuple #[.slice none 0 0, .int .i64 0]) ∧ LzSt W w' s p B objs id lim before L ps rows boxes := by
  have h0 := h
  obtain ⟨tg, g, hO, hQ, hb, hba, _⟩ := h
  obtain ⟨hB, hR⟩ := base_objR hObs hQ (asBase_dir objs id)
  obtain ⟨hwb, c0, _⟩ := hQ.ws
  have hlen := hObs.len
  have hcn := (asBase_dir objs id).2
  refine (status_ws B.wb B.bt _ 0 _ wr hwb c0 (status_same hB hQ.ok (by omega) (by rw [hR, hba]))).mono ?_
  rintro e w' ⟨he, hbl⟩
  exact ⟨he, h0.below hbl⟩

/-- What Stat answers. -/
def statA (objs : List Ob) (id : Int) (r : List ByteArray) : Int × Int × Int := (statR objs (fun _ => none) (.dir id) fsAll r).2
theorem l_stat (hObs : Obs8 objs id) (h : LzSt W wr s p B objs id lim before L ps rows boxes) (hl : lim ≤ 100000) {r : List ByteArray} (hL : Good r.reverse) :
    Calls Tryz.prog 28 #[.pointer (some ⟨B.wb, 0, none⟩), .string (joinB r.reverse)] wr fun e w' => e = .returned (.tuple #[.agg #[.int .i64 (statA objs id r).2.1, .int .i64 (statA objs id r).2.2], .int .i64 (statA objs id r).1]) ∧ (statA objs id r).1 ≠ 14 ∧ ∃ M, LzSt W w' s p B objs id (lim + 400) before (L ++ M) (r.reverse :: ps) rows boxes := by
  obtain ⟨tg, g, hO, hQ, hb, hba, hfl, hGI, hK, hon, hKp⟩ := h
  have hS := hObs.exact.sound
  obtain ⟨g1, g2, g3⟩ := stat_gr hS hObs.ok g.fl hb r
  have hA : (statR objs g.fl (.dir id) g.fs r).2 = statA objs id r := by
    rcases fair_stat objs g.fl (.dir id) g.fs r with ⟨_, h2⟩ | ⟨h1, _⟩
    · rw [h2, hfl]; rfl
    · rw [h1.1] at hb; cases hb
  refine (qstat hQ (by omega) hL).mono ?_
  rintro e w' ⟨he, tg', g', t', m, hQ', rfl, hfs, hfl', hbs⟩
  rw [hA] at he g2
  obtain ⟨M, hM1, hM2⟩ := g1.2.2.2 before L hGI
  refine ⟨he, g2, M, tg', g', hO.any (mine0 (by decide)) m, hQ', by rw [hfs]; exact g1.1, by rw [hbs]; exact hba, by rw [hfl']; exact hfl, by rw [hfs]; exact hM1, fun q hq => ?_, fun x hx => ?_, hKp.any (mine0 (by decide)) m⟩
  · rw [hfs]
    rcases List.mem_cons.1 hq with rfl | hq
    · exact g3
    · exact fun y c hy hc hk => (hK q hq y c hy hc hk).mono g1
  · rcases List.mem_append.1 hx with hx | hx
    · obtain ⟨q, hq, ho⟩ := hon x hx
      exact ⟨q, List.mem_cons_of_mem _ hq, ho⟩
    · exact ⟨_, List.mem_cons_self .., hM2 x hx⟩

theorem l_commit (hObs : Obs8 objs id) (h : LzSt W wr s p B objs id lim before L ps rows boxes) :
    Calls Tryz.prog 20 #[.pointer (some ⟨B.wb, 0, none⟩)] wr fun e w' => e = .returned (.tuple #[.int .i64 id, .int .i64 0]) ∧ StSt W w' s p objs lim (before ++ L) rows boxes := by
  obtain ⟨tg, g, hO, hQ, hb, hba, hfl, hGI, hK, hon, hKp⟩ := h
  obtain ⟨hB, hR⟩ := base_objR hObs hQ (asBase_dir objs id)
  obtain ⟨hwb, c0, _⟩ := hQ.ws
  have hlen := hObs.len
  have hcn := (asBase_dir objs id).2
  have hc := commit_any hB hQ.ok (by omega) (by rw [hR]; show objs.length ≤ 400; omega)
  rw [hR] at hc
  refine (commit_ws B.wb B.bt _ _ wr hwb c0 hc).mono ?_
  rintro e w' ⟨he, x', tg', ⟨l, rfl⟩, hsame, m, hS'⟩
  have hl0 : l = [] := by
    have := hsame.len
    simp only [List.length_append] at this
    exact List.length_eq_zero_iff.1 (by omega)
  subst hl0
  rw [List.append_nil] at hS'
  rw [hb, hGI.got] at hS'
  exact ⟨he, tg', hO.any (by simp) m, hS', hKp.any (by simp) m⟩

/-- allowed. -/
theorem l_allowed (hObs : Obs8 objs id) (h : StSt W wr s p objs lim got rows boxes) {l : List ByteArray} (hL : Letters l) :
    Calls Tryz.prog 30 #[.pointer (some ⟨s, 0, none⟩), .int .i64 id, .string (joinB l)] wr fun e w' => ∃ v, e = .returned (.tuple #[v, .int .i64 ((chainR objs id l).2 : Int)]) ∧ w'.ownsRow wr.heap.size 26 1 v (chainR objs id l).1.length (encN (chainR objs id l).1) ∧ Below wr.heap.size wr w' := by
  obtain ⟨tg, hO, ⟨hfr, ft, hb, hI, hg, hS, hl⟩, hK⟩ := h
  refine (allowed_any hI (fun j hj hk => ?_) id l hL.all hL.len).mono ?_
  · have h2 : kindOf objs ((j : Int) + 1) = 2 := by rw [kindOf_in hj]; exact hk
    have := (hS.2 _ h2).2.1
    rw [entsOf_at hj] at this
    exact this
  · rintro e w' ⟨v, he, hr, hb⟩
    exact ⟨v, he, hr, hb⟩

theorem l_statL (hObs : Obs8 objs id) {l : List ByteArray} (hL : Good l) (h : LzSt W wr s p B objs id lim before L ps rows boxes) (hl : lim ≤ 100000) :
    Calls Tryz.prog 28 #[.pointer (some ⟨B.wb, 0, none⟩), .string (joinB l)] wr fun e w' => e = .returned (.tuple #[.agg #[.int .i64 (statA objs id l.reverse).2.1, .int .i64 (statA objs id l.reverse).2.2], .int .i64 (statA objs id l.reverse).1]) ∧ (statA objs id l.reverse).1 ≠ 14 ∧ ∃ M, LzSt W w' s p B objs id (lim + 400) before (L ++ M) (l :: ps) rows boxes := by
  have := l_stat hObs h hl (r := l.reverse) (by rw [List.reverse_reverse]; exact hL)
  rw [List.reverse_reverse] at this
  exact this

theorem LzSt.len (h : LzSt W wr s p B objs id lim before L ps rows boxes) : (before ++ L).length ≤ lim := by
  obtain ⟨tg, g, hO, hQ, h1, h2, h3, h4, h5, h6, hK⟩ := h
  obtain ⟨_, ft, _, _, _, _, hl⟩ := hQ.inv.st
  rw [h4.got] at hl
  exact hl
theorem StSt.len (h : StSt W wr s p objs lim got rows boxes) : got.length ≤ lim := by
  obtain ⟨tg, hO, ⟨_, ft, _, _, _, _, hl⟩, hK⟩ := h
  exact hl
theorem LzSt.row (h : LzSt W wr s p B objs id lim before L ps rows boxes) {r : Value × List Int} (hr : r ∈ rows) : IdRow wr r.1 r.2 := by
  obtain ⟨tg, g, hO, hQ, h1, h2, h3, h4, h5, h6, hK⟩ := h
  exact (hK.1 r hr).1

/-- What must be fetched has been. -/
theorem LzSt.must (hObs : Obs8 objs id) (h : LzSt W wr s p B objs id lim before L ps rows boxes) {l : List ByteArray} (hl : l ∈ ps) : ∀ k (hk : k < (chainR objs id l).2) (hk' : k < (chainR objs id l).1.length), hasB (before ++ L) before.length ((chainR objs id l).1[k]) = true := by
  obtain ⟨tg, g, hO, hQ, h1, h2, h3, h4, h5, h6, hK⟩ := h
  intro k hk hk'
  obtain ⟨x, hx, hm⟩ := must_chain hObs.exact.sound hObs.ok h4 (h5 l hl) k hk
  rw [List.getElem?_eq_getElem hk'] at hx
  rw [Option.some.inj hx]
  unfold hasB
  rw [List.drop_left]
  exact decide_eq_true hm
/-- What has been fetched may be; each once. -/
theorem LzSt.may (hObs : Obs8 objs id) {l l' : List ByteArray} (h : LzSt W wr s p B objs id lim before L ps rows boxes) (hps : ∀ q ∈ ps, q = l ∨ q = l') : (∀ k (hk : k < (before ++ L).length), before.length ≤ k → hasB ((chainR objs id l).1 ++ (chainR objs id l').1) 0 ((before ++ L)[k]) = true) ∧ ∀ j k (hj : j < (before ++ L).length) (hk : k < (before ++ L).length), before.length ≤ j → j < k → (before ++ L)[j] ≠ (before ++ L)[k] := by
  obtain ⟨tg, g, hO, hQ, h1, h2, h3, h4, h5, h6, hK⟩ := h
  refine ⟨fun k hk hb => ?_, fun j k hj hk hb hjk => ?_⟩
  · have hm : (before ++ L)[k] ∈ L := by rw [List.getElem_append_right hb]; exact List.getElem_mem _
    unfold hasB
    rw [List.drop_zero]
    refine decide_eq_true (List.mem_append.2 ?_)
    obtain ⟨q, hq, ho⟩ := h6 _ hm
    have := way_chain hObs.exact.sound hObs.ok ho
    rcases hps q hq with rfl | rfl
    · exact .inl this
    · exact .inr this
  · rw [List.getElem_append_right hb, List.getElem_append_right (by omega)]
    have := List.pairwise_iff_getElem.1 h4.nodup (j - before.length) (k - before.length) (by rw [List.length_append] at hj; omega) (by rw [List.length_append] at hk; omega) (by omega)
    exact this
end

end Go.Proofs.YtajopoddmfdejaaGreat
