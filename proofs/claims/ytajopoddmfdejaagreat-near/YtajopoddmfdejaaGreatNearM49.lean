/-
  What is proved here: the calls of canopykeep's Back, one by one. the calls of canopykeep's Lazy, one by one. the calls of canopykeep's Near, one by one.
-/
import Derived.Test.YtajopoddmfdejaaGreatNearM48
import Derived.Test.YtajopoddmfdejaaGreatNearM45
import Derived.Test.YtajopoddmfdejaaGreatNearM36
import Derived.Test.YtajopoddmfdejaaGreatNearM38
import Derived.Test.YtajopoddmfdejaaGreatNearM39
import Derived.Test.YtajopoddmfdejaaGreatNearM47
namespace Go.Proofs.YtajopoddmfdejaaGreat
open Go.RowKit Go.Sort Go.Shelf
set_option linter.unusedVariables false

/-- The objects that made leaves. -/
structure Obs8 (objs : List Ob) (id : Int) : Prop where
  exact : Exact objs
  once : Once objs
  ok : LTok objs 5 (.dir id)
  len : objs.length ≤ 100

/-- A workspace of it, between two calls. -/
def BSt (W wr : World) (s p : Nat) (B : WB) (objs : List Ob) (id : Int) (lim : Nat) (t : LT) : Prop := ∃ tg g, Old W wr tg ∧ QInv tg wr s 3 p B objs g lim t ∧ g.fs.brk = false ∧ g.base = id

theorem BSt.below {W wr w' : World} {s p : Nat} {B : WB} {objs : List Ob} {id : Int} {lim : Nat} {t : LT} (h : BSt W wr s p B objs id lim t) (hb : Below wr.heap.size wr w') : BSt W w' s p B objs id lim t := by
  obtain ⟨tg, g, hO, hQ, h1, h2⟩ := h
  exact ⟨tg, g, hO.any (P := fun _ => False) (fun h => h) (Moves.of_below hb), hQ.below hb, h1, h2⟩

set_option maxRecDepth 100000 in
set_option maxHeartbeats 400000 in
theorem work_walk (s : Nat) (id : Int) (R : Nat → World → Prop) (w : World) (hc : Calls Tryz.prog 40 #[.pointer (some ⟨s, 0, none⟩), .int .i64 id] w fun e w' => ∃ wb : Nat, e = .returned (.tuple #[.pointer (some ⟨wb, 0, none⟩), .int .i64 0]) ∧ R wb w') :
    Calls Tryz.prog 12 #[.pointer (some ⟨s, 0, none⟩), .int .i64 id] w fun e w' => ∃ wb : Nat, e = .returned (.tuple #[.pointer (some ⟨wb, 0, none⟩), .bool true]) ∧ R wb w' := by
  have HC : Hid _ := hc
  clear hc
  go_enter Tryz.func12, Tryz.ntmps12
  go_wp2_with fail
  refine Calls.mono HC.out ?_
  rintro e w1 ⟨wb, rfl, hR⟩
  have HR : Hid _ := hR
  clear hR HC
  go_wp2
  go_ret2
  exact ⟨wb, rfl, HR.out⟩

end Go.Proofs.YtajopoddmfdejaaGreat

namespace Go.Proofs.YtajopoddmfdejaaGreat
open Go.RowKit Go.Sort Go.Shelf
set_option linter.unusedVariables false

/-- What the caller holds: lists of objects, and boxes. -/
def Keep8 (tg : Tags) (w : World) (rows : List (Value × List Int)) (boxes : List (Nat × Obj)) : Prop := (∀ r ∈ rows, IdRow w r.1 r.2 ∧ ∀ b, r.1.ownBlock = some b → tg b = (0, 0)) ∧ ∀ x ∈ boxes, w.heap[x.1]? = some x.2 ∧ tg x.1 = (0, 0)
theorem Keep8.any {P : Nat × Nat → Prop} {tg tg' : Tags} {w w' : World} {rows : List (Value × List Int)} {boxes : List (Nat × Obj)} (h : Keep8 tg w rows boxes) (hP : ¬ P (0, 0)) (m : Moves P tg tg' w w') : Keep8 tg' w' rows boxes := by
  refine ⟨fun r hr => ?_, fun x hx => ?_⟩
  · obtain ⟨h1, h2⟩ := h.1 r hr
    exact ⟨ownsRow_keep h1 (fun g hg => m.block g (ownsRow_lt h1 hg) (by rw [h2 g hg]; exact hP)), fun b hb => (m.tags b (ownsRow_lt h1 hb)).trans (h2 b hb)⟩
  · obtain ⟨h1, h2⟩ := h.2 x hx
    have hlt : x.1 < w.heap.size := (Array.getElem?_eq_some_iff.1 h1).1
    exact ⟨(m.block x.1 hlt (by rw [h2]; exact hP)).trans h1, (m.tags x.1 hlt).trans h2⟩
theorem Keep8.below {tg : Tags} {w w' : World} {rows : List (Value × List Int)} {boxes : List (Nat × Obj)} (h : Keep8 tg w rows boxes) (hb : Below w.heap.size w w') : Keep8 tg w' rows boxes := h.any (P := fun _ => False) (fun h => h) (Moves.of_below hb)
theorem Keep8.row {tg : Tags} {w w' : World} {rows : List (Value × List Int)} {boxes : List (Nat × Obj)} (h : Keep8 tg w rows boxes) (hf : Fresh tg w) (hb : Below w.heap.size w w') {v : Value} {L : List Int} (hr : w'.ownsRow w.heap.size 26 1 v L.length (encN L)) : Keep8 tg w' ((v, L) :: rows) boxes := by
  have hk := h.below hb
  refine ⟨fun r hr' => ?_, hk.2⟩
  rcases List.mem_cons.1 hr' with rfl | hr'
  · exact ⟨row_base0 hr, fun b hb' => hf b (hr.lt b hb').1⟩
  · exact hk.1 r hr'
theorem Keep8.box {tg : Tags} {w : World} {rows : List (Value × List Int)} {boxes : List (Nat × Obj)} (h : Keep8 tg w rows boxes) (hf : Fresh tg w) (X : Obj) : Keep8 tg (w.alloc X) rows ((w.heap.size, X) :: boxes) := by
  have hk := h.below ((Below.refl _ _).alloc (Nat.le_refl _) X)
  refine ⟨hk.1, fun x hx => ?_⟩
  rcases List.mem_cons.1 hx with rfl | hx
  · exact ⟨heap_alloc_new w X, hf _ (Nat.le_refl _)⟩
  · exact hk.2 x hx

/-- What is at, or on the way to, a path is on the shelf. -/
def KeptAll (objs : List Ob) (id : Int) (p : List ByteArray) (fs : FS) : Prop := ∀ q c, q <+: p → (LT.dir id).at objs q = some c → (c.kind = 2 ∨ q = p) → Kept objs fs c

/-- A workspace of which only Stat has been asked, at these paths. -/
def LzSt (W wr : World) (s p : Nat) (B : WB) (objs : List Ob) (id : Int) (lim : Nat) (before L : List Int) (ps : List (List ByteArray)) (rows : List (Value × List Int)) (boxes : List (Nat × Obj)) : Prop :=
  ∃ tg g, Old W wr tg ∧ QInv tg wr s 3 p B objs g lim (.dir id) ∧ g.fs.brk = false ∧ g.base = id ∧ g.fl = (fun _ => none) ∧ GI objs before g.fs L ∧ (∀ q ∈ ps, KeptAll objs id q g.fs) ∧ (∀ x ∈ L, ∃ q ∈ ps, OnWay objs id q x) ∧ Keep8 tg wr rows boxes
/-- The store behind it. -/
def StSt (W wr : World) (s p : Nat) (objs : List Ob) (lim : Nat) (got : List Int) (rows : List (Value × List Int)) (boxes : List (Nat × Obj)) : Prop :=
  ∃ tg, Old W wr tg ∧ SInv tg wr s p objs got false lim ∧ Keep8 tg wr rows boxes

section
variable {W wr : World} {s p : Nat} {B : WB} {objs : List Ob} {id : Int} {lim : Nat} {before L got : List Int} {ps : List (List ByteArray)} {rows : List (Value × List Int)} {boxes : List (Nat × Obj)}

theorem StSt.old (h : StSt W wr s p objs lim got rows boxes) : Below W.heap.size W wr := by
  obtain ⟨_, hO, _⟩ := h
  exact hO.1
theorem StSt.below {w' : World} (h : StSt W wr s p objs lim got rows boxes) (hb : Below wr.heap.size wr w') : StSt W w' s p objs lim got rows boxes := by
  obtain ⟨tg, hO, hS, hK⟩ := h
  exact ⟨tg, hO.below hb, hS.moves (P := fun _ => False) (Moves.of_below hb) (fun h => h) (fun h => h), hK.below hb⟩
theorem StSt.row (h : StSt W wr s p objs lim got rows boxes) {r : Value × List Int} (hr : r ∈ rows) : IdRow wr r.1 r.2 := by
  obtain ⟨tg, hO, hS, hK⟩ := h
  exact (hK.1 r hr).1
theorem StSt.addRow {w' : World} (h : StSt W wr s p objs lim got rows boxes) (hb : Below wr.heap.size wr w') {v : Value} {M : List Int} (hr : w'.ownsRow wr.heap.size 26 1 v M.length (encN M)) : StSt W w' s p objs lim got ((v, M) :: rows) boxes := by
  obtain ⟨tg, hO, hS, hK⟩ := h
  exact ⟨tg, hO.below hb, hS.moves (P := fun _ => False) (Moves.of_below hb) (fun h => h) (fun h => h), hK.row hS.fresh hb hr⟩

theorem LzSt.below {w' : World} (h : LzSt W wr s p B objs id lim before L ps rows boxes) (hb : Below wr.heap.size wr w') : LzSt W w' s p B objs id lim before L ps rows boxes := by
  obtain ⟨tg, g, hO, hQ, h1, h2, h3, h4, h5, h6, hK⟩ := h
  exact ⟨tg, g, hO.below hb, hQ.below hb, h1, h2, h3, h4, h5, h6, hK.below hb⟩
theorem LzSt.box (h : LzSt W wr s p B objs id lim before L ps rows boxes) (X : Obj) : LzSt W (wr.alloc X) s p B objs id lim before L ps rows ((wr.heap.size, X) :: boxes) := by
  obtain ⟨tg, g, hO, hQ, h1, h2, h3, h4, h5, h6, hK⟩ := h
  have hb : Below wr.heap.size wr (wr.alloc X) := (Below.refl _ _).alloc (Nat.le_refl _) X
  exact ⟨tg, g, hO.below hb, hQ.below hb, h1, h2, h3, h4, h5, h6, hK.box hQ.inv.st.fresh X⟩

/-- Fetched of a store. -/
theorem l_fetched (h : StSt W wr s p objs lim got rows boxes) (hl : lim ≤ 100000) :
    Calls Tryz.prog 29 #[.pointer (some ⟨s, 0, none⟩)] wr fun e w' => ∃ v, e = .returned v ∧ StSt W w' s p objs lim got ((v, got) :: rows) boxes := by
  have h0 := h
  obtain ⟨tg, hO, hS, hK⟩ := h
  refine (fetched_all hS (by omega)).mono ?_
  rintro e w' ⟨v, he, hr, hb⟩
  exact ⟨v, he, h0.addRow hb hr⟩
/-- .. of which there is a workspace. -/
theorem l_fetched8 (h : LzSt W wr s p B objs id lim before L ps rows boxes) (hl : lim ≤ 100000) :
    Calls Tryz.prog 29 #[.pointer (some ⟨s, 0, none⟩)] wr fun e w' => ∃ v, e = .returned v ∧ LzSt W w' s p B objs id lim before L ps ((v, before ++ L) :: rows) boxes := by
  obtain ⟨tg, g, hO, hQ, h1, h2, h3, h4, h5, h6, hK⟩ := h
  refine (fetched_all hQ.inv.st (by omega)).mono ?_
  rintro e w' ⟨v, he, hr, hb⟩
  rw [h4.got] at hr
  exact ⟨v, he, tg, g, hO.below hb, hQ.below hb, h1, h2, h3, h4, h5, h6, hK.row hQ.inv.st.fresh hb hr⟩

theorem l_work (hok : LTok objs 5 (.dir id)) (h : StSt W wr s p objs 60000 got rows boxes) :
    Calls Tryz.prog 12 #[.pointer (some ⟨s, 0, none⟩), .int .i64 id] wr fun e w' => ∃ B : WB, e = .returned (.tuple #[.pointer (some ⟨B.wb, 0, none⟩), .bool true]) ∧ LzSt W w' s p B objs id 60000 got [] [] rows boxes := by
  obtain ⟨tg, hO, hS, hK⟩ := h
  refine (work_walk s id (fun wb w' => ∃ B : WB, B.wb = wb ∧ LzSt W w' s p B objs id 60000 got [] [] rows boxes) wr ((qcheckout (i := 3) hS (by decide) hok).mono ?_)).mono ?_
  · rintro e w' ⟨B, he, tg', m, hQ⟩
    refine ⟨B.wb, he, B, rfl, tg', _, hO.any (fun h => h) m, hQ, rfl, rfl, rfl, ⟨by simp [wg0], List.nodup_nil, (fun x hx => by cases hx), (fun x _ => ?_), (fun x _ => ?_)⟩, (fun q hq => by cases hq), (fun x hx => by cases hx), hK.any (fun h => h) m⟩
    · simp [wg0]
    · simp [wg0]
  · rintro e w' ⟨wb, he, B, rfl, hB⟩
    exact ⟨B, he, hB⟩

theorem LzSt.len (h : LzSt W wr s p B objs id lim before L ps rows boxes) : (before ++ L).length ≤ lim := by
  obtain ⟨tg, g, hO, hQ, h1, h2, h3, h4, h5, h6, hK⟩ := h
  obtain ⟨_, ft, _, _, _, _, hl⟩ := hQ.inv.st
  rw [h4.got] at hl
  exact hl
theorem StSt.len (h : StSt W wr s p objs lim got rows boxes) : got.length ≤ lim := by
  obtain ⟨tg, hO, ⟨_, ft, _, _, _, _, hl⟩, hK⟩ := h
  exact hl
theorem LzSt.row (h : LzSt W wr s p B objs id lim before L ps rows boxes) {r : Value × List Int} (hr : r ∈ rows) : IdRow wr r.1 r.2 := by
  obtain ⟨tg, g, hO, hQ, h1, h2, h3, h4, h5, h6, hK⟩ := h
  exact (hK.1 r hr).1

/-- What must be fetched has been. -/
theorem LzSt.must (hObs : Obs8 objs id) (h : LzSt W wr s p B objs id lim before L ps rows boxes) {l : List ByteArray} (hl : l ∈ ps) : ∀ k (hk : k < (chainR objs id l).2) (hk' : k < (chainR objs id l).1.length), hasB (before ++ L) before.length ((chainR objs id l).1[k]) = true := by
  obtain ⟨tg, g, hO, hQ, h1, h2, h3, h4, h5, h6, hK⟩ := h
  intro k hk hk'
  obtain ⟨x, hx, hm⟩ := must_chain hObs.exact.sound hObs.ok h4 (h5 l hl) k hk
  rw [List.getElem?_eq_getElem hk'] at hx
  rw [Option.some.inj hx]
  unfold hasB
  rw [List.drop_left]
  exact decide_eq_true hm
/-- What has been fetched may be; each once. -/
theorem LzSt.may (hObs : Obs8 objs id) {l l' : List ByteArray} (h : LzSt W wr s p B objs id lim before L ps rows boxes) (hps : ∀ q ∈ ps, q = l ∨ q = l') : (∀ k (hk : k < (before ++ L).length), before.length ≤ k → hasB ((chainR objs id l).1 ++ (chainR objs id l').1) 0 ((before ++ L)[k]) = true) ∧ ∀ j k (hj : j < (before ++ L).length) (hk : k < (before ++ L).length), before.length ≤ j → j < k → (before ++ L)[j] ≠ (before ++ L)[k] := by
  obtain ⟨tg, g, hO, hQ, h1, h2, h3, h4, h5, h6, hK⟩ := h
  refine ⟨fun k hk hb => ?_, fun j k hj hk hb hjk => ?_⟩
  · have hm : (before ++ L)[k] ∈ L := by rw [List.getElem_append_right hb]; exact List.getElem_mem _
    unfold hasB
    rw [List.drop_zero]
    refine decide_eq_true (List.mem_append.2 ?_)
    obtain ⟨q, hq, ho⟩ := h6 _ hm
    have := way_chain hObs.exact.sound hObs.ok ho
    rcases hps q hq with rfl | rfl
    · exact .inl this
    · exact .inr this
  · rw [List.getElem_append_right hb, List.getElem_append_right (by omega)]
    have := List.pairwise_iff_getElem.1 h4.nodup (j - before.length) (k - before.length) (by rw [List.length_append] at hj; omega) (by rw [List.length_append] at hk; omega) (by omega)
    exact this
end

end Go.Proofs.YtajopoddmfdejaaGreat

namespace Go.Proofs.YtajopoddmfdejaaGreat
open Go.RowKit Go.Sort Go.Shelf
set_option linter.unusedVariables false

/-- A workspace in which only things below a have been touched. -/
def NeSt (W wr : World) (s p : Nat) (B : WB) (objs : List Ob) (id : Int) (lim : Nat) (before : List Int) (K : FS → Prop) (rows : List (Value × List Int)) : Prop :=
  ∃ tg g t L, Old W wr tg ∧ QInv tg wr s 3 p B objs g lim t ∧ NearS objs id t g.fs ∧ K g.fs ∧ GI objs before g.fs L ∧ (∀ x ∈ L, x ∈ mayL objs id) ∧ Keep8 tg wr rows []

theorem joinA (l : List ByteArray) (hl : l ≠ []) : (⟨#[97, 47]⟩ : ByteArray) ++ joinB l = joinB (nameA :: l) := by
  apply toL_inj
  rw [toL_append, joinB_cons nameA hl]
  rfl
theorem goodA {l : List ByteArray} (h : Letters l) : Good (nameA :: l) := ⟨fun x hx => by
  rcases List.mem_cons.1 hx with rfl | hx
  · exact (letter_valid (by simp [letters, nameA])).1
  · exact h.good.1 x hx, by have := h.len; simp; omega⟩
theorem goodA1 : Good [nameA] := ⟨fun x hx => by
  rw [List.mem_singleton.1 hx]
  exact (letter_valid (by simp [letters, nameA])).1, by simp⟩

section
variable {W wr : World} {s p : Nat} {B : WB} {objs : List Ob} {id : Int} {lim : Nat} {before : List Int} {K : FS → Prop} {rows : List (Value × List Int)}

theorem NeSt.below {w' : World} (h : NeSt W wr s p B objs id lim before K rows) (hb : Below wr.heap.size wr w') : NeSt W w' s p B objs id lim before K rows := by
  obtain ⟨tg, g, t, L, hO, hQ, h1, h2, h3, h4, hK⟩ := h
  exact ⟨tg, g, t, L, hO.below hb, hQ.below hb, h1, h2, h3, h4, hK.below hb⟩
theorem NeSt.old (h : NeSt W wr s p B objs id lim before K rows) : Below W.heap.size W wr := by
  obtain ⟨tg, g, t, L, hO, _⟩ := h
  exact hO.1
theorem NeSt.row (h : NeSt W wr s p B objs id lim before K rows) {r : Value × List Int} (hr : r ∈ rows) : IdRow wr r.1 r.2 := by
  obtain ⟨tg, g, t, L, hO, hQ, h1, h2, h3, h4, hK⟩ := h
  exact (hK.1 r hr).1

theorem ne_begin (hObs : Obs8 objs id) {B : WB} (h : LzSt W wr s p B objs id lim before [] [] rows []) : NeSt W wr s p B objs id lim before (fun _ => True) rows := by
  obtain ⟨tg, g, hO, hQ, h1, h2, h3, h4, h5, h6, hK⟩ := h
  exact ⟨tg, g, .dir id, [], hO, hQ, ⟨h1, near_base hObs.exact.sound hObs.ok, (fun i e => by cases e; rfl), .inl rfl⟩, trivial, h4, (fun x hx => by cases hx), hK⟩

/-- One call. -/
theorem ne_step {tg : Tags} {g : WG} {L : List Int} (hO : Old W wr tg) (hGI : GI objs before g.fs L) (hL : ∀ x ∈ L, x ∈ mayL objs id) (hKp : Keep8 tg wr rows []) {w' : World} {tg' : Tags} {g' : WG} {t' : LT} {lim' : Nat} (m : Moves (Mine 3) tg tg' wr w') (hQ : QInv tg' w' s 3 p B objs g' lim' t') (hst : StepN objs id g.fs g'.fs t') : NeSt W w' s p B objs id lim' before (fun fs => fs.kD id = true) rows := by
  obtain ⟨h1, h2, h3⟩ := hst
  obtain ⟨M, hM, hS⟩ := h3.2.2.2 before L hGI
  exact ⟨tg', g', t', L ++ M, hO.any (mine0 (by decide)) m, hQ, h1, h2, hM, (fun x hx => by
    rcases List.mem_append.1 hx with hx | hx
    · exact hL x hx
    · exact hS x hx), hKp.any (mine0 (by decide)) m⟩

theorem kind_base (hObs : Obs8 objs id) : kindOf objs id = 2 := by have := hObs.ok; rw [LTok] at this; exact this.1

theorem ne_mkdir (hObs : Obs8 objs id) (h : NeSt W wr s p B objs id lim before K rows) (hl : lim ≤ 200000) {l : List ByteArray} (hL : Letters l) :
    Calls Tryz.prog 23 #[.pointer (some ⟨B.wb, 0, none⟩), .string (⟨#[97, 47]⟩ ++ joinB l)] wr fun e w' => ∃ er : Int, e = .returned (.int .i64 er) ∧ NeSt W w' s p B objs id (lim + 400) before (fun _ => True) rows := by
  obtain ⟨tg, g, t, L, hO, hQ, h1, h2, h3, h4, hK⟩ := h
  have hne : l ≠ [] := fun e => by have := hL.pos; rw [e] at this; simp at this
  obtain ⟨n, r0, hl0⟩ := hL.split
  have hp : nameA :: l = (r0 ++ [nameA]).reverse ++ [n] := by rw [hl0]; simp
  have hg := goodA hL
  rw [joinA l hne, hp]
  rw [hp] at hg
  refine (qmkdir hQ (by omega) hg).mono ?_
  rintro e w' ⟨he, tg', g', t', m, hQ', rfl, hfs, hfl, hbs⟩
  have hst := n_mkdir hObs.exact.sound (kind_base hObs) h1 (n := n) (r := r0 ++ [nameA]) (l := r0.reverse) (by simp)
  rw [← hfs] at hst
  obtain ⟨tg2, g2, t2, L2, k1, k2, k3, k4, k5⟩ := ne_step hO h3 h4 hK m hQ' hst
  exact ⟨_, he, tg2, g2, t2, L2, k1, k2, k3, trivial, k5⟩
theorem ne_remove (hObs : Obs8 objs id) (h : NeSt W wr s p B objs id lim before K rows) (hl : lim ≤ 200000) {l : List ByteArray} (hL : Letters l) :
    Calls Tryz.prog 25 #[.pointer (some ⟨B.wb, 0, none⟩), .string (⟨#[97, 47]⟩ ++ joinB l)] wr fun e w' => ∃ er : Int, e = .returned (.int .i64 er) ∧ NeSt W w' s p B objs id (lim + 400) before (fun _ => True) rows := by
  obtain ⟨tg, g, t, L, hO, hQ, h1, h2, h3, h4, hK⟩ := h
  have hne : l ≠ [] := fun e => by have := hL.pos; rw [e] at this; simp at this
  obtain ⟨n, r0, hl0⟩ := hL.split
  have hp : nameA :: l = (r0 ++ [nameA]).reverse ++ [n] := by rw [hl0]; simp
  have hg := goodA hL
  rw [joinA l hne, hp]
  rw [hp] at hg
  refine (qremove hQ (by omega) hg).mono ?_
  rintro e w' ⟨he, tg', g', t', m, hQ', rfl, hfs, hfl, hbs⟩
  have hst := n_remove hObs.exact.sound (kind_base hObs) h1 (n := n) (r := r0 ++ [nameA]) (l := r0.reverse) (by simp)
  rw [← hfs] at hst
  obtain ⟨tg2, g2, t2, L2, k1, k2, k3, k4, k5⟩ := ne_step hO h3 h4 hK m hQ' hst
  exact ⟨_, he, tg2, g2, t2, L2, k1, k2, k3, trivial, k5⟩
theorem ne_rename (hObs : Obs8 objs id) (h : NeSt W wr s p B objs id lim before K rows) (hl : lim ≤ 200000) {l l' : List ByteArray} (hL : Letters l) (hL' : Letters l') :
    Calls Tryz.prog 24 #[.pointer (some ⟨B.wb, 0, none⟩), .string (⟨#[97, 47]⟩ ++ joinB l), .string (⟨#[97, 47]⟩ ++ joinB l')] wr fun e w' => ∃ er : Int, e = .returned (.int .i64 er) ∧ NeSt W w' s p B objs id (lim + 400) before (fun _ => True) rows := by
  obtain ⟨tg, g, t, L, hO, hQ, h1, h2, h3, h4, hK⟩ := h
  have hne : l ≠ [] := fun e => by have := hL.pos; rw [e] at this; simp at this
  have hne' : l' ≠ [] := fun e => by have := hL'.pos; rw [e] at this; simp at this
  obtain ⟨n, r0, hl0⟩ := hL.split
  obtain ⟨n', r0', hl0'⟩ := hL'.split
  have hp : nameA :: l = (r0 ++ [nameA]).reverse ++ [n] := by rw [hl0]; simp
  have hp' : nameA :: l' = (r0' ++ [nameA]).reverse ++ [n'] := by rw [hl0']; simp
  have hg := goodA hL
  have hg' := goodA hL'
  rw [joinA l hne, hp, joinA l' hne', hp']
  rw [hp] at hg
  rw [hp'] at hg'
  refine (qrename hQ (by omega) hg hg').mono ?_
  rintro e w' ⟨he, tg', g', t', m, hQ', rfl, hfs, hfl, hbs⟩
  have hst := n_rename hObs.exact.sound (kind_base hObs) h1 (nf := n) (nt := n') (rf := r0 ++ [nameA]) (rt := r0' ++ [nameA]) (lf := r0.reverse) (lt := r0'.reverse) (by simp) (by simp)
  rw [← hfs] at hst
  obtain ⟨tg2, g2, t2, L2, k1, k2, k3, k4, k5⟩ := ne_step hO h3 h4 hK m hQ' hst
  exact ⟨_, he, tg2, g2, t2, L2, k1, k2, k3, trivial, k5⟩
theorem ne_listG (hObs : Obs8 objs id) (h : NeSt W wr s p B objs id lim before K rows) (hl : lim ≤ 200000) {l : List ByteArray} (hg : Good (nameA :: l)) :
    Calls Tryz.prog 32 #[.pointer (some ⟨B.wb, 0, none⟩), .string (joinB (nameA :: l))] wr fun e w' => ∃ (v : Value) (er : Int), e = .returned (.tuple #[v, .int .i64 er]) ∧ er ≠ 14 ∧ NeSt W w' s p B objs id (lim + 400) before (fun fs => fs.kD id = true) rows := by
  obtain ⟨tg, g, t, L, hO, hQ, h1, h2, h3, h4, hK⟩ := h
  have hp : nameA :: l = (l.reverse ++ [nameA]).reverse := by simp
  rw [hp] at hg ⊢
  refine (qlist hQ (by omega) hg).mono ?_
  rintro e w' ⟨v, he, tg', m, hQ', _⟩
  have hst := n_look hObs.exact.sound (kind_base hObs) h1 (r := l.reverse ++ [nameA]) (l := l) (by simp)
  exact ⟨_, _, he, look_not14 h1.brk _, ne_step hO h3 h4 hK m hQ' hst⟩
theorem ne_list (hObs : Obs8 objs id) (h : NeSt W wr s p B objs id lim before K rows) (hl : lim ≤ 200000) {l : List ByteArray} (hL : Letters l) :
    Calls Tryz.prog 32 #[.pointer (some ⟨B.wb, 0, none⟩), .string (⟨#[97, 47]⟩ ++ joinB l)] wr fun e w' => ∃ (v : Value) (er : Int), e = .returned (.tuple #[v, .int .i64 er]) ∧ NeSt W w' s p B objs id (lim + 400) before (fun _ => True) rows := by
  have hne : l ≠ [] := fun e => by have := hL.pos; rw [e] at this; simp at this
  rw [joinA l hne]
  refine (ne_listG hObs h hl (goodA hL)).mono ?_
  rintro e w' ⟨v, er, he, _, tg2, g2, t2, L2, k1, k2, k3, k4, k5⟩
  exact ⟨v, er, he, tg2, g2, t2, L2, k1, k2, k3, trivial, k5⟩
theorem ne_listA (hObs : Obs8 objs id) (h : NeSt W wr s p B objs id lim before K rows) (hl : lim ≤ 200000) :
    Calls Tryz.prog 32 #[.pointer (some ⟨B.wb, 0, none⟩), .string ⟨#[97]⟩] wr fun e w' => ∃ (v : Value) (er : Int), e = .returned (.tuple #[v, .int .i64 er]) ∧ er ≠ 14 ∧ NeSt W w' s p B objs id (lim + 400) before (fun fs => fs.kD id = true) rows := by
  have := ne_listG hObs h hl (l := []) goodA1
  rw [joinB_one] at this
  exact this
theorem NeSt.any (h : NeSt W wr s p B objs id lim before K rows) : NeSt W wr s p B objs id lim before (fun _ => True) rows := by
  obtain ⟨tg2, g2, t2, L2, k1, k2, k3, k4, k5⟩ := h
  exact ⟨tg2, g2, t2, L2, k1, k2, k3, trivial, k5⟩

/-- Behind it: what has been fetched, by the store. -/
theorem ne_end (hObs : Obs8 objs id) (h : NeSt W wr s p B objs id lim before (fun fs => fs.kD id = true) rows) : ∃ L, StSt W wr s p objs lim (before ++ L) rows [] ∧ L ≠ [] ∧ (∀ x ∈ L, x ∈ mayL objs id) := by
  obtain ⟨tg, g, t, L, hO, hQ, h1, h2, h3, h4, hK⟩ := h
  have hst := hQ.inv.st
  rw [h1.brk, h3.got] at hst
  refine ⟨L, ⟨tg, hO, hst, hK⟩, fun e => ?_, h4⟩
  have := (h3.dir id (kind_base hObs)).1 h2
  rw [e] at this
  cases this
end
end Go.Proofs.YtajopoddmfdejaaGreat
