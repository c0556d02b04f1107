/-
  What is proved here: an outline's object, whatever is at a path: the object that the model says, and the draft that it says. an outline's object, whatever is at a path: the object that the model says, and the draft that it says. a new draft and a new outline; Commit of a tree: the object that the model says, and the objects that are in the store then. Commit of a workspace's tree, and of a workspace: the object that the model says; the store holds the objects that the model says. Stat of a tree, and of a workspace, at any path: as the model says.
-/
import Derived.Test.YtajopoddmfdejaaGreatNearM44
import Derived.Test.YtajopoddmfdejaaGreatNearM24
import Derived.Test.YtajopoddmfdejaaGreatNearM31
import Derived.Deep.RegionHeld3
import Derived.Test.YtajopoddmfdejaaGreatNearM41
namespace Go.Proofs.YtajopoddmfdejaaGreat
open Go.RowKit Go.Sort Go.Shelf
set_option linter.unusedVariables false

theorem OwnF.look {tg : Tags} {w : World} {i : Nat} {B : WB} {of : List ByteArray → Option Nat} {lim : Nat} (h : OwnF tg w i B of lim) {q : List ByteArray} (hq : Good q) {f : Nat} (hf : of q = some f) {W : World} (hb : Below w.heap.size w W) :
    (Instr.lookup 127 (.map (some B.oF)) (.agg (pathA q)) false).run Tryz.prog W = .ok (.pointer (some ⟨f, 0, none⟩)) W := by
  obtain ⟨_, ⟨n, _, hp⟩, _⟩ := h
  have := PMap.look (hp.keep (hb.block B.oF hp.lt)) Tryz.underlying127 (zeroFp W) hq
  rw [hf] at this
  exact this

section
variable {s i p : Nat} {B : WB} {objs : List Ob}

/-- Where the outline's own blocks, and what was there ahead of it, are as they were. -/
theorem OSt.keepOut {w0 W W' : World} {D : Nat → Prop} {b : DB} {ow n : Nat} {a : List Ob} {f : List ByteArray → Option Int} {N : Nat} (h : OSt w0 p objs D W b ow a f N) (hn : w0.heap.size ≤ n) (hk : KeepOut (Dow D ow) n W W') : OSt w0 p objs D W' b ow a f N := by
  obtain ⟨m, hm, hp⟩ := h.map
  have hb : ∀ k, Dow D ow k → W'.heap[k]? = W.heap[k]? := fun k hd => hk.block k (h.inb k hd).2 (.inr hd)
  refine ⟨⟨hk.os.trans h.below.os, hk.tape.trans h.below.tape, hk.output.trans h.below.output, Nat.le_trans h.below.size hk.size, fun k hkk => ?_⟩, fun k hd => ⟨(h.inb k hd).1, Nat.lt_of_lt_of_le (h.inb k hd).2 hk.size⟩, h.dinv.keep (fun k _ hd => hb k (.inl hd)) (fun _ _ h => h), h.nin, ⟨m, hm, hp.keep (hb ow (.inr rfl))⟩, h.few⟩
  rw [hk.block k (Nat.lt_of_lt_of_le hkk h.below.size) (.inl (by omega)), h.below.block k hkk]

/-- What a call on the outline leaves. -/
def Left8 (w0 : World) (p : Nat) (objs : List Ob) (D : Nat → Prop) (W w' : World) (b : DB) (ow : Nat) (a' : List Ob) (f : List ByteArray → Option Int) (q : List ByteArray) (N' : Nat) : Prop :=
  ∃ D' f', OSt w0 p objs D' w' b ow a' f' N' ∧ Turn (Dow D ow) (Dow D' ow) W w' ∧ ∀ q', ¬ q <+: q' → f' q' = f q'

theorem ObjOk.len' {a : List Ob} {n k : Nat} {c : LT} {r : Int × List Ob} (h : ObjOk a n k c r) : r.2.length ≤ a.length + k := h.len

/-- A directory's entries, some of which are worked out. -/
def entsAt (fl : Nat → Option (Int × ByteArray)) (n : Nat) (es : Kids) (a : List Ob) (k : Nat) : List Ent := (kidsR fl n (es.take k) a).1 ++ (es.drop k).map entOf

theorem kidsR_len (fl : Nat → Option (Int × ByteArray)) (n : Nat) : ∀ (es : Kids) (a : List Ob), (kidsR fl n es a).1.length = es.length := by
  intro es a
  have h : ∀ l : Kids, (kidsR fl n l.reverse a).1.length = l.reverse.length := by
    intro l
    induction l with
    | nil => rfl
    | cons x r ih => rw [List.reverse_cons, kidsR_snoc, List.length_append, ih]; simp
  have := h es.reverse
  rwa [List.reverse_reverse] at this

theorem entsAt_facts (fl : Nat → Option (Int × ByteArray)) (n : Nat) (es : Kids) (a : List Ob) : entsAt fl n es a 0 = es.map entOf ∧ entsAt fl n es a es.length = (kidsR fl n es a).1 ∧ (∀ k, k ≤ es.length → (entsAt fl n es a k).length = es.length) ∧
    (∀ k (hk : k < es.length), (entsAt fl n es a k)[k]? = some (entOf es[k])) ∧ ∀ k (hk : k < es.length), entsAt fl n es a (k + 1) = (entsAt fl n es a k).set k ((es[k]).1, (es[k]).2.kind, (objR fl n (es[k]).2 (kidsR fl n (es.take k) a).2).1) := by
  refine ⟨by simp [entsAt, kidsR], by simp [entsAt], fun k hk => ?_, fun k hk => ?_, fun k hk => ?_⟩
  · unfold entsAt
    rw [List.length_append, kidsR_len, List.length_take, List.length_map, List.length_drop]; omega
  · unfold entsAt
    have hl : (kidsR fl n (es.take k) a).1.length = k := by rw [kidsR_len, List.length_take]; omega
    rw [List.getElem?_append_right (by omega), hl, Nat.sub_self, List.getElem?_map, List.getElem?_drop, Nat.add_zero, List.getElem?_eq_getElem hk]; rfl
  · unfold entsAt
    have hl : (kidsR fl n (es.take k) a).1.length = k := by rw [kidsR_len, List.length_take]; omega
    rw [List.take_succ_eq_append_getElem hk, kidsR_snoc, List.drop_eq_getElem_cons hk, List.map_cons, List.set_append_right _ _ (by omega), hl, Nat.sub_self, List.set_cons_zero, List.append_assoc]
    rfl

/-- What a commit is made of: the tree in memory, the objects that are there. -/
structure Base8 (tg : Tags) (w0 : World) (s i p : Nat) (B : WB) (objs : List Ob) (g : WG) (lim : Nat) (t : LT) : Prop where
  inv : WInv tg w0 s i p B objs g lim
  flat : Flat objs t g.ft
  exact : Exact objs
  fl : FlOk objs g.fl

theorem Base8.flSz {tg : Tags} {w0 : World} {g : WG} {lim : Nat} {t : LT} (h : Base8 tg w0 s i p B objs g lim t) : FlSz objs g.fl := fun f id d hf => ⟨fun h0 => h.fl f id d hf h0, fun _ => (h.inv.wp.files f id d hf).2.2⟩

/-- The pool, and that none of its blocks is the draft's. -/
theorem Base8.pool {tg : Tags} {w0 W : World} {g : WG} {lim : Nat} {t : LT} (h : Base8 tg w0 s i p B objs g lim t) {D : Nat → Prop} {b : DB} {ow : Nat} {a : List Ob} {f : List ByteArray → Option Int} {N : Nat} (hO : OSt w0 p objs D W b ow a f N) : (∃ ft, InvP ft (fun k => tg k = (1, 0)) W s p objs) ∧ ∀ k, tg k = (1, 0) → ¬ D k := by
  obtain ⟨hfr, ft, _, hi, _⟩ := h.inv.st
  refine ⟨⟨ft, hi.below hO.below (fun _ _ h => h)⟩, fun k hk hd => ?_⟩
  have := hfr k (hO.inb k (.inl hd)).1
  rw [this] at hk
  cases hk

theorem Base8.tree {tg : Tags} {w0 W : World} {g : WG} {lim : Nat} {t : LT} (h : Base8 tg w0 s i p B objs g lim t) (hb : Below w0.heap.size w0 W) : B.bt < W.heap.size ∧ W.cell? ⟨B.bt, 0, none⟩ = some (.pointer (some ⟨p, 0, none⟩)) ∧ W.cell? ⟨B.bt, 7, none⟩ = some (.map (some B.oF)) ∧ W.cell? ⟨B.bt, 8, none⟩ = some (.map (some B.oD)) := by
  have ht := (h.inv.below hb).wp.tree.ht
  exact ⟨(Array.getElem?_eq_some_iff.1 ht).1, cell_at ht 0, cell_at ht 7, cell_at ht 8⟩

theorem Left8.of_below {w0 W w' : World} {D : Nat → Prop} {b : DB} {ow : Nat} {a : List Ob} {f : List ByteArray → Option Int} {q : List ByteArray} {N N' : Nat} (hO : OSt w0 p objs D W b ow a f N) (hb : Below W.heap.size W w') (hN : N ≤ N') : Left8 w0 p objs D W w' b ow a f q N' :=
  ⟨D, f, (hO.via hb).mono hN, Turn.of_below hb, fun _ _ => rfl⟩

/-- A file of the tree's own. -/
theorem file_all {tg : Tags} {w0 W : World} {g : WG} {lim : Nat} {t : LT} (h : Base8 tg w0 s i p B objs g lim t) {D : Nat → Prop} {b : DB} {ow : Nat} {a : List Ob} {f : List ByteArray → Option Int} {N : Nat} (hO : OSt w0 p objs D W b ow a f N) (hN : N < 3000) {q : List ByteArray} (hq : Good q) {fb : Nat} (ha : t.at objs q = some (.held fb)) :
    Calls Tryz.prog 144 #[.agg #[.pointer (some ⟨B.bt, 0, none⟩), .pointer (some ⟨b.dr, 0, none⟩), .map (some ow)], .agg (pathA q)] W fun e w' => e = .returned (.int .i64 (heldR (g.fl fb) a).1) ∧ Left8 w0 p objs D W w' b ow (heldR (g.fl fb) a).2 f q (N + 1) := by
  have hof : g.ft.of q = some fb := by rw [h.flat.of, ha]; rfl
  obtain ⟨⟨id, d⟩, hx⟩ := h.inv.wp.held q fb hof
  obtain ⟨hbt, _, c7, _⟩ := h.tree hO.below
  have hWf := (h.inv.below hO.below).wp.files fb id d hx
  have hfl := (Array.getElem?_eq_some_iff.1 hWf.2.1).1
  have cf : W.cell? ⟨fb, 1, none⟩ = some (.int .i64 id) := cell_at hWf.2.1 1
  have cd : W.cell? ⟨fb, 2, none⟩ = some (.string d) := cell_at hWf.2.1 2
  have hlk : ∀ W', Below W.heap.size W W' → (Instr.lookup 127 (.map (some B.oF)) (.agg (pathA q)) false).run Tryz.prog W' = .ok (.pointer (some ⟨fb, 0, none⟩)) W' := fun W' hb => h.inv.wp.ownF.look hq hof (below_via hO.below hb)
  rw [hx]
  by_cases hid : id = 0
  · subst hid
    have e : heldR (some ((0 : Int), d)) a = fileD a d := by simp [heldR]
    rw [e]
    obtain ⟨⟨ft, hP⟩, hdis⟩ := h.pool hO
    refine ofile_own B.bt B.oF b.dr ow fb _ _ _ _ _ d _ _ W hbt hfl c7 cf cd hlk (fun W' hb => ?_)
    have hO' := hO.via hb
    refine (dfile_any (hP.below hb (fun _ _ h => h)) hdis hO'.dinv (by have := hO.few; omega) d hWf.2.2).mono ?_
    rintro e w' ⟨he, hd, hk⟩
    have hl : (fileD a d).2.length ≤ N + 1 := by
      have := hO.few
      unfold fileD
      cases fileAt a d with
      | none => simp; omega
      | some _ => simp; omega
    obtain ⟨h1, h2⟩ := hO'.draft hd hk (Nat.le_succ N) hl
    exact ⟨he, _, f, h1, h2.via hb, fun _ _ => rfl⟩
  · have e : heldR (some (id, d)) a = (id, a) := by simp [heldR, hid]
    rw [e]
    refine (ofile_stored B.bt B.oF b.dr ow fb _ _ _ _ _ id W hbt hfl c7 cf hid hlk).mono ?_
    rintro e w' ⟨he, hb⟩
    exact ⟨he, Left8.of_below hO hb (Nat.le_succ N)⟩

end
end Go.Proofs.YtajopoddmfdejaaGreat

namespace Go.Proofs.YtajopoddmfdejaaGreat
open Go.RowKit Go.Sort Go.Shelf
set_option linter.unusedVariables false

/-- A path's names, the rest empty. -/
abbrev comp (l : List ByteArray) (k : Nat) : ByteArray := l.getD k ⟨#[]⟩

section
variable {s i p : Nat} {B : WB} {objs : List Ob}

/-- object of what is the tree's own: by work, and noted. -/
theorem object_own {tg : Tags} {w0 W : World} {g : WG} {lim : Nat} {t : LT} {D : Nat → Prop} {b : DB} {ow : Nat} {a a' : List Ob} {f : List ByteArray → Option Int} {N N' : Nat} (hO : OSt w0 p objs D W b ow a f N) {q : List ByteArray} (hq : Good q) (hf : f q = none) (nm : ByteArray) (k r : Int) (hN : N' < 50000)
    (hw : ∀ W1, Below W.heap.size W W1 → Calls Tryz.prog 109 #[.agg #[.pointer (some ⟨B.bt, 0, none⟩), .pointer (some ⟨b.dr, 0, none⟩), .map (some ow)], .agg (pathA q), .int .i64 k] W1 fun e w' => e = .returned (.int .i64 r) ∧ Left8 w0 p objs D W1 w' b ow a' f q N') :
    Calls Tryz.prog 65 #[.agg #[.pointer (some ⟨B.bt, 0, none⟩), .pointer (some ⟨b.dr, 0, none⟩), .map (some ow)], .agg (pathA q), .agg #[.string nm, .int .i64 k, .int .i64 0]] W fun e w' => e = .returned (.int .i64 r) ∧ Left8 w0 p objs D W w' b ow a' f q (N' + 1) := by
  have hb := objBoxes_below W B.bt b.dr ow (comp q 0) (comp q 1) (comp q 2) (comp q 3) (comp q 4) nm k 0
  have hsz3 : (objBoxes W B.bt b.dr ow (comp q 0) (comp q 1) (comp q 2) (comp q 3) (comp q 4) nm k 0).heap.size = W.heap.size + 3 := by unfold objBoxes; simp
  refine oobject_own B.bt b.dr ow _ _ _ _ _ nm k r (fun w' => Left8 w0 p objs D (objBoxes W B.bt b.dr ow (comp q 0) (comp q 1) (comp q 2) (comp q 3) (comp q 4) nm k 0) w' b ow a' f q N') (fun w' => Left8 w0 p objs D W w' b ow a' f q (N' + 1)) W (fun W1 hb1 => ?_) (hw _ hb) (fun w' ⟨D', f', h1, h2, h3⟩ j o hj1 hj2 => ?_) (fun w' ⟨D', f', h1, h2, h3⟩ => ?_) (fun w' ⟨D', f', h1, h2, h3⟩ => ?_)
  · obtain ⟨n, _, hp⟩ := (hO.via hb1).map
    have := PMap.look_ok hp Tryz.underlying119 (zero25 W1) hq
    rw [hf] at this
    exact this
  · refine h2.cell (by rw [hsz3]; omega) (fun hd => ?_) o
    have := (hO.inb j hd).2
    omega
  · have := h2.keeps.size
    rw [hsz3] at this
    exact this
  · obtain ⟨w'', hrun, h4, h5, _⟩ := h1.note (by omega) hq r
    refine ⟨w'', hrun, D', _, h4, (h2.via hb).trans h5, fun q' hq' => ?_⟩
    rw [upd_other (fun e => hq' (by rw [e]; exact List.prefix_refl _))]
    exact h3 q' hq'

theorem cnt_take (n : Nat) (es : Kids) (k : Nat) (hk : k < es.length) : ((es.take (k + 1)).map fun x => cntO n x.2).sum = ((es.take k).map fun x => cntO n x.2).sum + cntO n (es[k]).2 := by
  rw [List.take_succ_eq_append_getElem hk, List.map_append, List.sum_append]; simp
theorem cnt_take_le (n : Nat) (es : Kids) (k : Nat) : ((es.take k).map fun x => cntO n x.2).sum ≤ (es.map fun x => cntO n x.2).sum := by
  conv => rhs; rw [← List.take_append_drop k es]
  rw [List.map_append, List.sum_append]; omega

/-- Another name, another place. -/
theorem apart {q q' : List ByteArray} {x y : ByteArray} (h : x ≠ y) (h1 : q ++ [x] <+: q') : ¬ q ++ [y] <+: q' := by
  rintro ⟨l, rfl⟩
  obtain ⟨l2, h2⟩ := h1
  rw [List.append_assoc, List.append_assoc] at h2
  have := List.append_cancel_left h2
  simp at this
  exact h this.1

/-- What work of a directory stands on, k of its things worked out. -/
def DirSt (w0 : World) (p : Nat) (objs : List Ob) (D0 : Nat → Prop) (w : World) (b : DB) (ow : Nat) (fl : Nat → Option (Int × ByteArray)) (n : Nat) (es : Kids) (a : List Ob) (f : List ByteArray → Option Int) (q : List ByteArray) (N : Nat) (k : Nat) (D : Nat → Prop) (W : World) : Prop :=
  ∃ D1 f1, D = Dow D1 ow ∧ OSt w0 p objs D1 W b ow (kidsR fl n (es.take k) a).2 f1 (N + 2 * ((es.take k).map fun x => cntO n x.2).sum) ∧ Turn (Dow D0 ow) D w W ∧ (∀ q', ¬ q <+: q' → f1 q' = f q') ∧ ∀ j (hj : j < es.length), k ≤ j → ∀ q', q ++ [(es[j]).1] <+: q' → f1 q' = none

theorem fits_id {a : List Ob} (hl : a.length < 100000) {e : Ent} (hv : validB e.1 = true) (h12 : e.2.1 = 1 ∨ e.2.1 = 2) (hk : kindOf a e.2.2 = e.2.1) : Fits e ∧ 1 ≤ e.1.size := by
  have hs := valid_size hv
  obtain ⟨h1, h2⟩ := kindOf_pos (a := a) (id := e.2.2) (by rw [hk]; exact ne0 h12)
  exact ⟨⟨by unfold maxLen; omega, WalkArith.wf_i64 (by omega), WalkArith.wf_i64 (by omega)⟩, hs.1⟩

/-- work of a directory of the tree's own. -/
theorem work_dir {tg : Tags} {w0 : World} {g : WG} {lim : Nat} {t : LT} (h : Base8 tg w0 s i p B objs g lim t) (n : Nat) (hn : n ≤ 5)
    {es : Kids} {q : List ByteArray} (hr : RisingK es) (h16 : es.length ≤ 16) (hks : ∀ x ∈ es, validB x.1 = true ∧ LTok objs n x.2) (ha : t.at objs q = some (.own es)) (hq : Good q) (h4 : ∀ x ∈ es, q.length ≤ 4)
    {D : Nat → Prop} {W : World} {b : DB} {ow : Nat} {a : List Ob} {f : List ByteArray → Option Int} {N : Nat} (hO : OSt w0 p objs D W b ow a f N) (hdr : Drafted objs a) (hf : ∀ q', q <+: q' → f q' = none) (hN : N + 2 * (es.map fun x => cntO n x.2).sum < 3000)
    (ih : ∀ x ∈ es, ∀ (D : Nat → Prop) (W : World) (a : List Ob) (f : List ByteArray → Option Int) (N : Nat), OSt w0 p objs D W b ow a f N → Drafted objs a → (∀ q', q ++ [x.1] <+: q' → f q' = none) → N + 2 * cntO n x.2 < 3000 →
      Calls Tryz.prog 65 #[.agg #[.pointer (some ⟨B.bt, 0, none⟩), .pointer (some ⟨b.dr, 0, none⟩), .map (some ow)], .agg (pathA (q ++ [x.1])), .agg #[.string x.1, .int .i64 x.2.kind, .int .i64 x.2.id]] W fun e w' => e = .returned (.int .i64 (objR g.fl n x.2 a).1) ∧ Left8 w0 p objs D W w' b ow (objR g.fl n x.2 a).2 f (q ++ [x.1]) (N + 2 * cntO n x.2)) :
    Calls Tryz.prog 109 #[.agg #[.pointer (some ⟨B.bt, 0, none⟩), .pointer (some ⟨b.dr, 0, none⟩), .map (some ow)], .agg (pathA q), .int .i64 2] W fun e w' => e = .returned (.int .i64 (dirD (kidsR g.fl n es a).2 (kidsR g.fl n es a).1).1) ∧ Left8 w0 p objs D W w' b ow (dirD (kidsR g.fl n es a).2 (kidsR g.fl n es a).1).2 f q (N + 2 * (es.map fun x => cntO n x.2).sum + 1) := by
  obtain ⟨hbt, _, _, c8⟩ := h.tree hO.below
  obtain ⟨vD, hD⟩ := h.inv.wp.ownD
  have ho : g.ft.od q = some (es.map entOf) := by rw [h.flat.od, ha]; rfl
  have hrow := hD.row q _ ho
  have hlk : ∀ W', Below W.heap.size W W' → (Instr.lookup 128 (.map (some B.oD)) (.agg (pathA q)) false).run Tryz.prog W' = .ok (vD q) W' := fun W' hb => by
    have := hD.look hq (below_via hO.below hb)
    rw [ho] at this
    exact this
  have hrowW : W.ownsRow 0 76 3 (vD q) (es.map entOf).length (flat (es.map entOf)) := ownsRow_keep hrow.1 (fun k hk => hO.below.block k (ownsRow_lt hrow.1 hk))
  obtain ⟨x0, x1, x2, x3, x4⟩ := entsAt_facts g.fl n es a
  have hfl0 := h.flSz
  obtain ⟨l0, hl0⟩ := hdr.app
  have hfa : FlSz a g.fl := by rw [hl0]; exact hfl0.app l0
  have hka : ∀ x ∈ es, validB x.1 = true ∧ LTok a n x.2 := fun x hx => ⟨(hks x hx).1, by rw [hl0]; exact LTok_app l0 n _ (hks x hx).2⟩
  have hall := fun k : Nat => kidsR_ok g.fl n (fun c a' he hok hfz => objR_ok g.fl n hn c a' he hok hfz) (es.take k) a (hdr.exact h.exact) hfa (fun x hx => hka x (List.mem_of_mem_take hx))
  have hlen : (es.map entOf).length = es.length := by simp
  refine owork_dir B.bt B.oD b.dr ow _ _ _ _ _ q (vD q) (es.map entOf) (entsAt g.fl n es a) (fun k => (objR g.fl n ((es[k]?).getD (⟨#[]⟩, .file 0)).2 (kidsR g.fl n (es.take k) a).2).1) _ (DirSt w0 p objs D W b ow g.fl n es a f q N) (fun w' => Left8 w0 p objs D W w' b ow (dirD (kidsR g.fl n es a).2 (kidsR g.fl n es a).1).2 f q (N + 2 * (es.map fun x => cntO n x.2).sum + 1)) (Dow D ow) W hbt c8 hlk hrowW (by rw [hlen]; exact h16) x0 (fun k hk => by rw [hlen] at hk ⊢; exact x2 k hk) (fun k hk => ?_) (fun k hk => ?_) (fun x W' hx => ?_) ?_ (fun x hx => (hO.inb x hx).2) ?_ ?_ ?_ ?_
  · have hk' : k < es.length := by rw [hlen] at hk; exact hk
    rw [x3 k hk', List.getElem_map]
  · have hk' : k < es.length := by rw [hlen] at hk; exact hk
    rw [x4 k hk', List.getElem?_eq_getElem hk', Option.getD_some, List.getElem_map]
    rfl
  · rw [List.map_map] at hx
    obtain ⟨y, hy, rfl⟩ := List.mem_map.1 hx
    exact child_any q hq (h4 y hy) y.1 W'
  · exact ⟨D, f, rfl, by simpa [kidsR] using hO, Turn.of_below (Below.refl _ _), fun _ _ => rfl, fun j hj _ q' hq' => hf q' ((List.prefix_append _ _).trans hq')⟩
  · rintro k D2 W2 W3 ⟨D1, f1, rfl, h1, h2, h3, h4'⟩ hk
    exact ⟨D1, f1, rfl, h1.keepOut hO.below.size hk, ⟨⟨hk.os.trans h2.keeps.os, hk.tape.trans h2.keeps.tape, hk.output.trans h2.keeps.output, Nat.le_trans h2.keeps.size hk.size, fun x hx hnx => (hk.block x (Nat.lt_of_lt_of_le hx h2.keeps.size) (.inl hx)).trans (h2.keeps.block x hx hnx)⟩, h2.own⟩, h3, h4'⟩
  · rintro k D2 W2 ⟨D1, f1, rfl, h1, _⟩ x hx
    exact (h1.inb x hx).2
  · rintro k hk D2 W2 ⟨D1, f1, rfl, h1, h2, h3, h4'⟩
    have hk' : k < es.length := by rw [hlen] at hk; exact hk
    have hm := List.getElem_mem hk'
    obtain ⟨hd1, _⟩ := hall k
    have hcnt := cnt_take n es k hk'
    have hcl := cnt_take_le n es (k + 1)
    have := ih es[k] hm D1 W2 _ f1 _ h1 (hdr.trans hd1) (h4' k hk' (Nat.le_refl _)) (by omega)
    rw [List.getElem_map, List.getElem?_eq_getElem hk', Option.getD_some]
    refine this.mono ?_
    rintro e w' ⟨he, D3, f3, k1, k2, k3⟩
    refine ⟨he, Dow D3 ow, ⟨D3, f3, rfl, ?_, h2.trans k2, fun q' hq' => ?_, fun j hj hkj q' hq' => ?_⟩, k2⟩
    · rw [hcnt, List.take_succ_eq_append_getElem hk', kidsR_snoc]
      have e1 : N + 2 * ((es.take k).map fun x => cntO n x.2).sum + 2 * cntO n (es[k]).2 = N + 2 * (((es.take k).map fun x => cntO n x.2).sum + cntO n (es[k]).2) := by omega
      rw [← e1]; exact k1
    · rw [k3 q' (fun h => hq' ((List.prefix_append _ _).trans h)), h3 q' hq']
    · have hne : (es[j]).1 ≠ (es[k]).1 := by
        intro e
        have := List.pairwise_iff_getElem.1 hr k j hk' hj (by omega)
        rw [e, cmpN_self] at this
        omega
      rw [k3 q' (apart hne hq')]
      exact h4' j hj (by omega) q' hq'
  · rintro D2 W2 v' ⟨D1, f1, rfl, h1, h2, h3, h4'⟩ hrv
    rw [hlen] at h1 hrv
    rw [List.take_length] at h1
    obtain ⟨hd1, hd2, hd3, hd4⟩ := hall es.length
    rw [List.take_length] at hd1 hd2 hd3 hd4
    rw [x1] at hrv
    have hl1 := kidsR_len g.fl n es a
    have hfew := h1.few
    obtain ⟨⟨ft, hP⟩, hdis⟩ := h.pool h1
    have hNm : Named (kidsR g.fl n es a).1 := ⟨by rw [hl1]; exact h16, fun e he => fits_id (a := (kidsR g.fl n es a).2) (by omega) (hd3 e he).1 (hd3 e he).2.1 (hd3 e he).2.2.1⟩
    rw [← hl1] at hrv
    refine (ddir_any hP hdis h1.dinv (by omega) v' _ hrv hNm (rising_of_K (rising_names hd2 hr))).mono ?_
    rintro e w' ⟨he, hdi, hk⟩
    have hl : (dirD (kidsR g.fl n es a).2 (kidsR g.fl n es a).1).2.length ≤ N + 2 * (es.map fun x => cntO n x.2).sum + 1 := by
      unfold dirD
      cases dirAt (kidsR g.fl n es a).2 (kidsR g.fl n es a).1 with
      | none => simp; omega
      | some _ => simp; omega
    obtain ⟨k1, k2⟩ := h1.draft hdi hk (Nat.le_succ _) hl
    exact ⟨he, _, f1, k1, h2.trans k2, h3⟩

theorem Left8.via {w0 W W1 w' : World} {D : Nat → Prop} {b : DB} {ow : Nat} {a' : List Ob} {f : List ByteArray → Option Int} {q : List ByteArray} {N' : Nat} (hb : Below W.heap.size W W1) (h : Left8 w0 p objs D W1 w' b ow a' f q N') : Left8 w0 p objs D W w' b ow a' f q N' := by
  obtain ⟨D', f', h1, h2, h3⟩ := h
  exact ⟨D', f', h1, h2.via hb, h3⟩

/-- object, whatever is there. -/
theorem object_all {tg : Tags} {w0 : World} {g : WG} {lim : Nat} {t : LT} (h : Base8 tg w0 s i p B objs g lim t) {b : DB} {ow : Nat} : ∀ (n : Nat), n ≤ 5 → ∀ (c : LT) (q : List ByteArray), LTok objs n c → t.at objs q = some c → Good q → q.length + n ≤ 5 → ∀ (nm : ByteArray) (D : Nat → Prop) (W : World) (a : List Ob) (f : List ByteArray → Option Int) (N : Nat), OSt w0 p objs D W b ow a f N → Drafted objs a → (∀ q', q <+: q' → f q' = none) → N + 2 * cntO n c < 3000 →
    Calls Tryz.prog 65 #[.agg #[.pointer (some ⟨B.bt, 0, none⟩), .pointer (some ⟨b.dr, 0, none⟩), .map (some ow)], .agg (pathA q), .agg #[.string nm, .int .i64 c.kind, .int .i64 c.id]] W fun e w' => e = .returned (.int .i64 (objR g.fl n c a).1) ∧ Left8 w0 p objs D W w' b ow (objR g.fl n c a).2 f q (N + 2 * cntO n c) := by
  have hst : ∀ (n : Nat) (c : LT) (q : List ByteArray) (nm : ByteArray) (D : Nat → Prop) (W : World) (a : List Ob) (f : List ByteArray → Option Int) (N : Nat), OSt w0 p objs D W b ow a f N → kindOf objs c.id ≠ 0 → objR g.fl n c a = (c.id, a) →
      Calls Tryz.prog 65 #[.agg #[.pointer (some ⟨B.bt, 0, none⟩), .pointer (some ⟨b.dr, 0, none⟩), .map (some ow)], .agg (pathA q), .agg #[.string nm, .int .i64 c.kind, .int .i64 c.id]] W fun e w' => e = .returned (.int .i64 (objR g.fl n c a).1) ∧ Left8 w0 p objs D W w' b ow (objR g.fl n c a).2 f q (N + 2 * cntO n c) := by
    intro n c q nm D W a f N hO hk he
    rw [he]
    have hid : c.id ≠ 0 := fun e => by have := (kindOf_pos hk).1; omega
    refine (oobject_stored B.bt b.dr ow _ _ _ _ _ nm c.kind c.id W hid).mono ?_
    rintro e w' ⟨h1, h2⟩
    exact ⟨h1, Left8.of_below hO h2 (Nat.le_add_right _ _)⟩
  have hheld : ∀ (n : Nat) (fb : Nat) (q : List ByteArray), t.at objs q = some (.held fb) → Good q → ∀ (nm : ByteArray) (D : Nat → Prop) (W : World) (a : List Ob) (f : List ByteArray → Option Int) (N : Nat), OSt w0 p objs D W b ow a f N → (∀ q', q <+: q' → f q' = none) → N + 2 < 3000 → objR g.fl n (.held fb) a = heldR (g.fl fb) a → cntO n (.held fb) = 1 →
      Calls Tryz.prog 65 #[.agg #[.pointer (some ⟨B.bt, 0, none⟩), .pointer (some ⟨b.dr, 0, none⟩), .map (some ow)], .agg (pathA q), .agg #[.string nm, .int .i64 1, .int .i64 0]] W fun e w' => e = .returned (.int .i64 (objR g.fl n (.held fb) a).1) ∧ Left8 w0 p objs D W w' b ow (objR g.fl n (.held fb) a).2 f q (N + 2 * cntO n (.held fb)) := by
    intro n fb q ha hq nm D W a f N hO hf hN he hc
    rw [he, hc]
    refine object_own (tg := tg) (g := g) (lim := lim) (t := t) hO hq (hf q (List.prefix_refl _)) nm 1 _ (N' := N + 1) (by omega) (fun W1 hb1 => ?_)
    refine owork_file B.bt b.dr ow _ _ _ _ _ _ _ W1 (fun W2 hb2 => ?_)
    refine (file_all h ((hO.via hb1).via hb2) (by omega) hq ha).mono ?_
    rintro e w' ⟨h1, h2⟩
    exact ⟨h1, h2.via hb2⟩
  have hdir : ∀ (n : Nat) (es : Kids) (q : List ByteArray) (nm : ByteArray) (D : Nat → Prop) (W : World) (a : List Ob) (f : List ByteArray → Option Int) (N N' : Nat) (rr : Int × List Ob), OSt w0 p objs D W b ow a f N → Good q → (∀ q', q <+: q' → f q' = none) → N' < 3000 →
      (∀ W1, Below W.heap.size W W1 → Calls Tryz.prog 109 #[.agg #[.pointer (some ⟨B.bt, 0, none⟩), .pointer (some ⟨b.dr, 0, none⟩), .map (some ow)], .agg (pathA q), .int .i64 2] W1 fun e w' => e = .returned (.int .i64 rr.1) ∧ Left8 w0 p objs D W1 w' b ow rr.2 f q N') →
      Calls Tryz.prog 65 #[.agg #[.pointer (some ⟨B.bt, 0, none⟩), .pointer (some ⟨b.dr, 0, none⟩), .map (some ow)], .agg (pathA q), .agg #[.string nm, .int .i64 2, .int .i64 0]] W fun e w' => e = .returned (.int .i64 rr.1) ∧ Left8 w0 p objs D W w' b ow rr.2 f q (N' + 1) := by
    intro n es q nm D W a f N N' rr hO hq hf hN hw
    exact object_own (tg := tg) (g := g) (lim := lim) (t := t) hO hq (hf q (List.prefix_refl _)) nm 2 _ (by omega) hw
  intro n
  induction n with
  | zero =>
    intro hn c q hc ha hq hlen nm D W a f N hO hdr hf hN
    cases c with
    | file id => exact hst 0 (.file id) q nm D W a f N hO (by rw [LTok] at hc; show kindOf objs id ≠ 0; rw [hc]; decide) (by rw [objR]; rfl)
    | dir id => exact hst 0 (.dir id) q nm D W a f N hO (by rw [LTok] at hc; show kindOf objs id ≠ 0; rw [hc.1]; decide) (by rw [objR]; rfl)
    | held fb => exact hheld 0 fb q ha hq nm D W a f N hO hf (by rw [cntO] at hN; omega) (by rw [objR]) (by rw [cntO])
    | own es =>
      rw [LTok] at hc
      subst hc
      have hcn : cntO 0 (.own []) = 1 := by rw [cntO]
      rw [hcn] at hN ⊢
      have hob : objR g.fl 0 (.own []) a = dirD a [] := by rw [objR]
      rw [hob]
      refine hdir 0 [] q nm D W a f N (N + 1) (dirD a []) hO hq hf (by omega) (fun W1 hb1 => ?_)
      exact work_dir h 0 (by omega) (es := []) List.Pairwise.nil (by simp) (fun x hx => by cases hx) ha hq (fun x hx => by cases hx) (hO.via hb1) hdr hf (by simp; omega) (fun x hx => by cases hx)
  | succ n ih =>
    intro hn c q hc ha hq hlen nm D W a f N hO hdr hf hN
    cases c with
    | file id => exact hst _ (.file id) q nm D W a f N hO (by rw [LTok] at hc; show kindOf objs id ≠ 0; rw [hc]; decide) (by rw [objR]; rfl)
    | dir id => exact hst _ (.dir id) q nm D W a f N hO (by rw [LTok] at hc; show kindOf objs id ≠ 0; rw [hc.1]; decide) (by rw [objR]; rfl)
    | held fb => exact hheld _ fb q ha hq nm D W a f N hO hf (by rw [cntO] at hN; omega) (by rw [objR]) (by rw [cntO])
    | own es =>
      rw [LTok] at hc
      have hcn : cntO (n + 1) (.own es) = 1 + (es.map fun x => cntO n x.2).sum := by rw [cntO]
      rw [hcn] at hN ⊢
      rw [objR_own]
      have e1 : N + 2 * (1 + (es.map fun x => cntO n x.2).sum) = N + 2 * (es.map fun x => cntO n x.2).sum + 1 + 1 := by omega
      rw [e1]
      refine hdir n es q nm D W a f N _ (dirD (kidsR g.fl n es a).2 (kidsR g.fl n es a).1) hO hq hf (by omega) (fun W1 hb1 => ?_)
      refine work_dir h n (by omega) (es := es) hc.1 hc.2.1 hc.2.2 ha hq (fun x hx => by omega) (hO.via hb1) hdr hf (by omega) (fun x hx D W a f N hO' hdr' hf' hN' => ?_)
      have hg : Good (q ++ [x.1]) := ⟨hq.val.append (fun y hy => by simp at hy; rw [hy]; exact (hc.2.2 x hx).1), by simp; omega⟩
      exact ih (by omega) x.2 (q ++ [x.1]) (hc.2.2 x hx).2 (at_own ha hc.1 hx) hg (by simp; omega) x.1 D W a f N hO' hdr' hf' hN'

end
end Go.Proofs.YtajopoddmfdejaaGreat

namespace Go.Proofs.YtajopoddmfdejaaGreat
open Go.RowKit Go.Sort Go.Shelf
set_option linter.unusedVariables false

set_option maxRecDepth 100000 in
set_option maxHeartbeats 400000 in
theorem newdraft_any (p : Nat) (w : World) :
    Calls Tryz.prog 108 #[.pointer (some ⟨p, 0, none⟩)] w fun e w' => e = .returned (.pointer (some ⟨w.heap.size + 2, 0, none⟩)) ∧ w' = ((w.alloc (.map #[] 0)).alloc (.map #[] 0)).alloc (.cells #[.pointer (some ⟨p, 0, none⟩), .slice none 0 0, .map (some w.heap.size), .map (some (w.heap.size + 1))] 185) := by
  have hmm := @run_makeMap Tryz.prog
  go_enter Tryz.func108, Tryz.ntmps108
  go_wp2
  go_ret
  exact ⟨rfl, rfl⟩

set_option maxRecDepth 100000 in
set_option maxHeartbeats 800000 in
theorem outline_walk (bt p : Nat) (w : World) (hbt : bt < w.heap.size) (c0 : w.cell? ⟨bt, 0, none⟩ = some (.pointer (some ⟨p, 0, none⟩))) :
    Calls Tryz.prog 64 #[.pointer (some ⟨bt, 0, none⟩)] w fun e w' => e = .returned (.agg #[.pointer (some ⟨bt, 0, none⟩), .pointer (some ⟨w.heap.size + 3, 0, none⟩), .map (some (w.heap.size + 4))]) ∧
      ∃ X, w' = ((((w.alloc X).alloc (.map #[] 0)).alloc (.map #[] 0)).alloc (.cells #[.pointer (some ⟨p, 0, none⟩), .slice none 0 0, .map (some (w.heap.size + 1)), .map (some (w.heap.size + 2))] 185)).alloc (.map #[] 0) := by
  have hmm := @run_makeMap Tryz.prog
  have hnd := fun W => newdraft_any p W
  go_enter Tryz.func64, Tryz.ntmps64
  go_wp2_with (go_at_call 108; refine Calls.mono (hnd _) ?_; rintro e w1 ⟨rfl, rfl⟩)
  exact bodyPost_ret (v := .agg #[.pointer (some ⟨bt, 0, none⟩), .pointer (some ⟨w.heap.size + 3, 0, none⟩), .map (some (w.heap.size + 4))]) (by simp [results, Tryz.results64, go_sem]) rfl ⟨rfl, _, rfl⟩

theorem heap5 (w : World) (x1 x2 x3 x4 x5 : Obj) : (((((w.alloc x1).alloc x2).alloc x3).alloc x4).alloc x5).heap[w.heap.size + 1]? = some x2 ∧ (((((w.alloc x1).alloc x2).alloc x3).alloc x4).alloc x5).heap[w.heap.size + 2]? = some x3 ∧ (((((w.alloc x1).alloc x2).alloc x3).alloc x4).alloc x5).heap[w.heap.size + 3]? = some x4 ∧ (((((w.alloc x1).alloc x2).alloc x3).alloc x4).alloc x5).heap[w.heap.size + 4]? = some x5 := by
  refine ⟨?_, ?_, ?_, ?_⟩
  · rw [RowKit.Below.heap_alloc _ _ _ (by first | (simp; done) | (simp; omega)), RowKit.Below.heap_alloc _ _ _ (by first | (simp; done) | (simp; omega)), RowKit.Below.heap_alloc _ _ _ (by first | (simp; done) | (simp; omega))]
    exact heap_alloc2_new w x1 x2
  · rw [RowKit.Below.heap_alloc _ _ _ (by first | (simp; done) | (simp; omega)), RowKit.Below.heap_alloc _ _ _ (by first | (simp; done) | (simp; omega))]
    have := heap_alloc_new ((w.alloc x1).alloc x2) x3
    simpa using this
  · rw [RowKit.Below.heap_alloc _ _ _ (by first | (simp; done) | (simp; omega))]
    have := heap_alloc_new (((w.alloc x1).alloc x2).alloc x3) x4
    simpa using this
  · have := heap_alloc_new ((((w.alloc x1).alloc x2).alloc x3).alloc x4) x5
    simpa using this

theorem below5 (w : World) (x1 x2 x3 x4 x5 : Obj) : Below w.heap.size w (((((w.alloc x1).alloc x2).alloc x3).alloc x4).alloc x5) :=
  (((((Below.refl _ _).alloc (Nat.le_refl _) _).alloc (by first | (simp; done) | (simp; omega)) _).alloc (by first | (simp; done) | (simp; omega)) _).alloc (by first | (simp; done) | (simp; omega)) _).alloc (by first | (simp; done) | (simp; omega)) _

/-- An outline in which nothing has been worked out. -/
theorem outline_any {w : World} {bt p : Nat} (objs : List Ob) (hbt : bt < w.heap.size) (c0 : w.cell? ⟨bt, 0, none⟩ = some (.pointer (some ⟨p, 0, none⟩))) :
    Calls Tryz.prog 64 #[.pointer (some ⟨bt, 0, none⟩)] w fun e w' => ∃ b ow D, e = .returned (.agg #[.pointer (some ⟨bt, 0, none⟩), .pointer (some ⟨b.dr, 0, none⟩), .map (some ow)]) ∧ OSt w p objs D w' b ow objs (fun _ => none) objs.length ∧ Below w.heap.size w w' := by
  refine (outline_walk bt p w hbt c0).mono ?_
  rintro e w' ⟨he, X, hw⟩
  obtain ⟨h1, h2, h3, h4⟩ := heap5 w X (.map #[] 0) (.map #[] 0) (.cells #[.pointer (some ⟨p, 0, none⟩), .slice none 0 0, .map (some (w.heap.size + 1)), .map (some (w.heap.size + 2))] 185) (.map #[] 0)
  have hb := below5 w X (.map #[] 0) (.map #[] 0) (.cells #[.pointer (some ⟨p, 0, none⟩), .slice none 0 0, .map (some (w.heap.size + 1)), .map (some (w.heap.size + 2))] 185) (.map #[] 0)
  rw [← hw] at h1 h2 h3 h4 hb
  have l4 := (Array.getElem?_eq_some_iff.1 h4).1
  refine ⟨⟨w.heap.size + 3, w.heap.size + 1, w.heap.size + 2⟩, w.heap.size + 4, fun k => w.heap.size ≤ k ∧ k < w.heap.size + 4, he, ⟨hb, ?_, ⟨[], [], none, 0, .map [], .map [], by simp, rfl, ⟨⟨by simp, by simp⟩, ⟨by simp, by simp⟩, ⟨by simp, by simp⟩, fun g hg => by simp [Value.ownBlock] at hg, h3, World.ownsRow_nil _ _ _ _, ?_, ?_, ?_, ?_, by simp, (fun o ho => by cases ho), (fun o ho => by cases ho)⟩⟩, by simp, ⟨0, Nat.zero_le _, ?_⟩, Nat.le_refl _⟩, hb⟩
  · rintro k (⟨k1, k2⟩ | rfl)
    · exact ⟨k1, by omega⟩
    · exact ⟨by omega, l4⟩
  · exact ⟨#[], 0, h1, ⟨by simp, MapKept.stamped_empty 0, by simp⟩, Nat.le_refl _, rfl⟩
  · intro d; exact ⟨rfl, fun i hi => by cases hi⟩
  · exact ⟨#[], 0, h2, ⟨by simp, MapKept.stamped_empty 0, by simp⟩, Nat.le_refl _, rfl⟩
  · intro es _; exact ⟨rfl, fun i hi => by cases hi⟩
  · exact ⟨_, vmap_at h4, fun _ _ => rfl, fun kl _ hn => absurd rfl hn⟩

section
variable {s i p : Nat} {B : WB} {objs : List Ob}

set_option maxRecDepth 100000 in
set_option maxHeartbeats 2000000 in
theorem commit_walk (bt dr0 : Nat) (root : Int) (X : (Nat × Nat) → World → Prop) (Y : (Nat × Nat) → World → Prop) (R : World → Prop) (rr : Int) (w : World) (hbt : bt < w.heap.size)
    (c4 : ∀ W, Below w.heap.size w W → W.cell? ⟨bt, 4, none⟩ = some (.string ⟨#[]⟩) ∧ W.cell? ⟨bt, 5, none⟩ = some (.int .i64 2) ∧ W.cell? ⟨bt, 6, none⟩ = some (.int .i64 root))
    (hout : Calls Tryz.prog 64 #[.pointer (some ⟨bt, 0, none⟩)] w fun e w' => ∃ b, e = .returned (.agg #[.pointer (some ⟨bt, 0, none⟩), .pointer (some ⟨b.1, 0, none⟩), .map (some b.2)]) ∧ X b w' ∧ Below w.heap.size w w')
    (hobj : ∀ b W W', X b W → Below W.heap.size W W' → Calls Tryz.prog 65 #[.agg #[.pointer (some ⟨bt, 0, none⟩), .pointer (some ⟨b.1, 0, none⟩), .map (some b.2)], .agg #[.string ⟨#[]⟩, .string ⟨#[]⟩, .string ⟨#[]⟩, .string ⟨#[]⟩, .string ⟨#[]⟩], .agg #[.string ⟨#[]⟩, .int .i64 2, .int .i64 root]] W' fun e w' => e = .returned (.int .i64 rr) ∧ Y b w' ∧ Below w.heap.size w w' ∧ W'.heap.size ≤ w'.heap.size ∧ ∀ k o, W.heap.size ≤ k → k < W'.heap.size → w'.cell? ⟨k, o, none⟩ = W'.cell? ⟨k, o, none⟩)
    (hkeep : ∀ b W n, Y b W → Calls Tryz.prog 67 #[.pointer (some ⟨b.1, 0, none⟩)] (W.drewN n) fun e w' => e = .returned (.int .i64 0) ∧ R w') :
    Calls Tryz.prog 43 #[.pointer (some ⟨bt, 0, none⟩)] w fun e w' => e = .returned (.tuple #[.int .i64 rr, .int .i64 0]) ∧ R w' := by
  have hrt := fun W => root_any W
  have HOUT : Hid _ := hout
  have HOBJ : Hid _ := hobj
  have HKEEP : Hid _ := hkeep
  have HC : Hid _ := c4
  clear hout hobj hkeep c4
  unfold pathV pathA at hrt
  simp at hrt
  go_enter Tryz.func43, Tryz.ntmps43
  go_wp2_with fail
  refine Calls.mono HOUT.out ?_
  rintro e w1 ⟨⟨dr, ow⟩, rfl, hX, hb1⟩
  simp only
  have HX : Hid _ := hX
  clear hX HOUT
  have hb2 : Below w1.heap.size w1 (w1.alloc (.cells #[.pointer (some ⟨bt, 0, none⟩), .pointer (some ⟨dr, 0, none⟩), .map (some ow)] 121)).drew := below_drew ((Below.refl _ _).alloc (Nat.le_refl _) _)
  obtain ⟨d4, d5, d6⟩ := HC.out _ (below_via hb1 hb2)
  have hbx0 := cell_at (heap_alloc_new w1 (.cells #[.pointer (some ⟨bt, 0, none⟩), .pointer (some ⟨dr, 0, none⟩), .map (some ow)] 121)) 0
  have hbx1 := cell_at (heap_alloc_new w1 (.cells #[.pointer (some ⟨bt, 0, none⟩), .pointer (some ⟨dr, 0, none⟩), .map (some ow)] 121)) 1
  have hbx2 := cell_at (heap_alloc_new w1 (.cells #[.pointer (some ⟨bt, 0, none⟩), .pointer (some ⟨dr, 0, none⟩), .map (some ow)] 121)) 2
  have hz : w1.heap.size < (w1.alloc (.cells #[.pointer (some ⟨bt, 0, none⟩), .pointer (some ⟨dr, 0, none⟩), .map (some ow)] 121)).drew.heap.size := by simp
  have hSa : (w1.alloc (.cells #[.pointer (some ⟨bt, 0, none⟩), .pointer (some ⟨dr, 0, none⟩), .map (some ow)] 121)).drew.cell? ⟨w1.heap.size, 0, none⟩ = some (.pointer (some ⟨bt, 0, none⟩)) ∧ (w1.alloc (.cells #[.pointer (some ⟨bt, 0, none⟩), .pointer (some ⟨dr, 0, none⟩), .map (some ow)] 121)).drew.cell? ⟨w1.heap.size, 1, none⟩ = some (.pointer (some ⟨dr, 0, none⟩)) ∧ (w1.alloc (.cells #[.pointer (some ⟨bt, 0, none⟩), .pointer (some ⟨dr, 0, none⟩), .map (some ow)] 121)).drew.cell? ⟨w1.heap.size, 2, none⟩ = some (.map (some ow)) ∧ (w1.alloc (.cells #[.pointer (some ⟨bt, 0, none⟩), .pointer (some ⟨dr, 0, none⟩), .map (some ow)] 121)).drew.cell? ⟨bt, 4, none⟩ = some (.string ⟨#[]⟩) ∧ (w1.alloc (.cells #[.pointer (some ⟨bt, 0, none⟩), .pointer (some ⟨dr, 0, none⟩), .map (some ow)] 121)).drew.cell? ⟨bt, 5, none⟩ = some (.int .i64 2) ∧ (w1.alloc (.cells #[.pointer (some ⟨bt, 0, none⟩), .pointer (some ⟨dr, 0, none⟩), .map (some ow)] 121)).drew.cell? ⟨bt, 6, none⟩ = some (.int .i64 root) := ⟨hbx0, hbx1, hbx2, d4, d5, d6⟩
  go_wp2
  go_region_held3 (fun W => W.cell? ⟨w1.heap.size, 0, none⟩ = some (.pointer (some ⟨bt, 0, none⟩)) ∧ W.cell? ⟨w1.heap.size, 1, none⟩ = some (.pointer (some ⟨dr, 0, none⟩)) ∧ W.cell? ⟨w1.heap.size, 2, none⟩ = some (.map (some ow)) ∧ W.cell? ⟨bt, 4, none⟩ = some (.string ⟨#[]⟩) ∧ W.cell? ⟨bt, 5, none⟩ = some (.int .i64 2) ∧ W.cell? ⟨bt, 6, none⟩ = some (.int .i64 root))
    (first | exact hSa | exact hSb | exact hSc)
    (first
    | (go_at_call 66; refine (hrt _).mono ?_; rintro e w2 ⟨rfl, hb3⟩; have hb23 := below_via hb2 hb3; obtain ⟨f4, f5, f6⟩ := HC.out _ (below_via hb1 hb23); have hSb := And.intro (((bcell hb3).1 w1.heap.size 0 hz).trans hSa.1) (And.intro (((bcell hb3).1 w1.heap.size 1 hz).trans hSa.2.1) (And.intro (((bcell hb3).1 w1.heap.size 2 hz).trans hSa.2.2.1) (And.intro f4 (And.intro f5 f6)))); have hz2 := Nat.lt_of_lt_of_le hz hb3.size)
    | (go_at_call 65; refine Calls.mono (HOBJ.out (dr, ow) _ _ HX.out hb23) ?_; rintro e w3 ⟨rfl, hY, hbw, hs3, hc3⟩; obtain ⟨f4', f5', f6'⟩ := HC.out _ hbw; have hSc := And.intro ((hc3 w1.heap.size 0 (Nat.le_refl _) hz2).trans hSb.1) (And.intro ((hc3 w1.heap.size 1 (Nat.le_refl _) hz2).trans hSb.2.1) (And.intro ((hc3 w1.heap.size 2 (Nat.le_refl _) hz2).trans hSb.2.2.1) (And.intro f4' (And.intro f5' f6')))); have hz3 := Nat.lt_of_lt_of_le hz2 hs3; have HY : Hid _ := hY; clear hY hc3))
  all_goals
    go_wp2_with (go_at_call 67; refine Calls.mono (HKEEP.out (dr, ow) w3 0 HY.out) ?_; rintro e w4 ⟨rfl, hR⟩)
    go_ret2
    exact ⟨rfl, hR⟩

end
end Go.Proofs.YtajopoddmfdejaaGreat

namespace Go.Proofs.YtajopoddmfdejaaGreat
open Go.RowKit Go.Sort Go.Shelf
set_option linter.unusedVariables false

section
variable {s i p : Nat} {B : WB} {objs : List Ob}

/-- Only blocks of the store's objects have turned, and new ones have come. -/
theorem moves_keeps {tg : Tags} {w w' : World} (h : Keeps (fun k => tg k = (1, 0)) w w') (hf : Fresh tg w) : ∃ tg' : Tags, Moves (fun t => t = (1, 0)) tg tg' w w' ∧ Fresh tg' w' ∧ (∀ k, NewF (fun k => tg k = (1, 0)) w w' k → k < w'.heap.size → tg' k = (1, 0)) ∧ ∀ k, k < w.heap.size → tg' k = tg k := by
  refine ⟨fun k => if k < w.heap.size then tg k else if k < w'.heap.size then (1, 0) else (0, 0), ⟨h.os, h.tape, h.output, h.size, fun k hk => if_pos hk, fun k hk hn => h.block k hk hn, fun _ k hk => ?_⟩, fun k hk => ?_, fun k hk hl => ?_, fun k hk => if_pos hk⟩
  · show (if k < w.heap.size then tg k else if k < w'.heap.size then (1, 0) else (0, 0)) = (0, 0)
    rw [if_neg (by have := h.size; omega), if_neg (by omega)]
  · show (if k < w.heap.size then tg k else if k < w'.heap.size then (1, 0) else (0, 0)) = (0, 0)
    rw [if_neg (by have := h.size; omega), if_neg (by omega)]
  · show (if k < w.heap.size then tg k else if k < w'.heap.size then (1, 0) else (0, 0)) = (1, 0)
    by_cases h1 : k < w.heap.size
    · rw [if_pos h1]
      rcases hk with hk | ⟨hk, _⟩
      · exact hk
      · omega
    · rw [if_neg h1, if_pos hl]

/-- What a commit leaves. -/
def ComLeft (s p : Nat) (objs a : List Ob) (tg : Tags) (w w' : World) (got : List Int) (brk : Bool) (lim : Nat) : Prop :=
  ∃ x' tg', (∃ l, x' = objs ++ l) ∧ Same x' a ∧ Moves (fun t => t = (1, 0)) tg tg' w w' ∧ SInv tg' w' s p x' got brk lim

theorem commit_any {tg : Tags} {w : World} {g : WG} {lim : Nat} {t : LT} (h : Base8 tg w s i p B objs g lim t) (hok : LTok objs 5 t) (hfew : objs.length + 2 * cntO 5 t < 3000) (hroom : (objR g.fl 5 t objs).2.length ≤ 400) :
    Calls Tryz.prog 43 #[.pointer (some ⟨B.bt, 0, none⟩)] w fun e w' => e = .returned (.tuple #[.int .i64 (objR g.fl 5 t objs).1, .int .i64 0]) ∧ ComLeft s p objs (objR g.fl 5 t objs).2 tg w w' g.fs.got g.fs.brk lim := by
  have hobjs := objR_ok g.fl 5 (Nat.le_refl _) t objs h.exact hok h.flSz
  obtain ⟨hfr, ft, hbk, hi, hgot, hs, hlm⟩ := h.inv.st
  obtain ⟨hbt, c0, _, _⟩ := h.tree (Below.refl _ _)
  have hdisj : ∀ {D : Nat → Prop} {W : World} {b : DB} {ow : Nat} {a : List Ob} {f : List ByteArray → Option Int} {N : Nat}, OSt w p objs D W b ow a f N → ∀ k, tg k = (1, 0) → ¬ D k := fun hO => (h.pool hO).2
  refine commit_walk B.bt 0 g.ft.root (fun b W => ∃ D mf md, OSt w p objs D W ⟨b.1, mf, md⟩ b.2 objs (fun _ => none) objs.length) (fun b W => ∃ D mf md f' N', OSt w p objs D W ⟨b.1, mf, md⟩ b.2 (objR g.fl 5 t objs).2 f' N') _ _ w hbt (fun W hb => ?_) ((outline_any objs hbt c0).mono ?_) ?_ ?_
  · have ht := (h.inv.below hb).wp.tree.ht
    exact ⟨cell_at ht 4, cell_at ht 5, cell_at ht 6⟩
  · rintro e w' ⟨⟨dr, mf, md⟩, ow, D, he, hO, hb⟩
    exact ⟨(dr, ow), he, ⟨D, mf, md, hO⟩, hb⟩
  · rintro ⟨dr, ow⟩ W W' ⟨D, mf, md, hO⟩ hb
    have hO' := hO.via hb
    have := object_all h (b := ⟨dr, mf, md⟩) (ow := ow) 5 (Nat.le_refl _) t [] hok (at_nil objs t) ⟨(fun x hx => by cases hx), by simp⟩ (by simp) ⟨#[]⟩ D W' objs (fun _ => none) objs.length hO' .nil (fun _ _ => rfl) hfew
    rw [h.flat.kind, ← h.flat.root] at this
    refine this.mono ?_
    rintro e w' ⟨he, D', f', h1, h2, h3⟩
    refine ⟨he, ⟨D', mf, md, f', _, h1⟩, h1.below, h2.keeps.size, fun k o hk1 hk2 => h2.cell hk2 (fun hd => ?_) o⟩
    have := (hO.inb k hd).2
    omega
  · rintro ⟨dr, ow⟩ W n ⟨D, mf, md, f', N', hO⟩
    have hOn : OSt w p objs D (W.drewN n) ⟨dr, mf, md⟩ ow (objR g.fl 5 t objs).2 f' N' := hO.via (below_drewN (Below.refl _ _) n)
    refine (keep_ok (b := ⟨dr, mf, md⟩) (hi.below hOn.below (fun _ _ h => h)) (hdisj hOn) hOn.dinv hobjs.dr hroom).mono ?_
    rintro e w' ⟨he, x', hl, hsame, hinv, hk⟩
    refine ⟨he, ?_⟩
    have hkw := keeps_via hOn.below hk
    obtain ⟨tg', hm, hf', htag, hold⟩ := moves_keeps hkw hfr
    refine ⟨x', tg', hl, hsame, hm, hf', ft, hbk, ?_, hgot.moves hm (by simp), hsame.sound (hobjs.dr.exact h.exact).sound, hlm⟩
    exact hinv.keep (fun _ _ _ => rfl) (fun k hk hF => htag k (newF_via hOn.below.size k hF) hk)

set_option maxRecDepth 100000 in
set_option maxHeartbeats 400000 in
theorem commit_ws (wb bt : Nat) (rr : Int) (R : World → Prop) (w : World) (hwb : wb < w.heap.size) (c0 : w.cell? ⟨wb, 0, none⟩ = some (.pointer (some ⟨bt, 0, none⟩)))
    (hc : Calls Tryz.prog 43 #[.pointer (some ⟨bt, 0, none⟩)] w fun e w' => e = .returned (.tuple #[.int .i64 rr, .int .i64 0]) ∧ R w') :
    Calls Tryz.prog 20 #[.pointer (some ⟨wb, 0, none⟩)] w fun e w' => e = .returned (.tuple #[.int .i64 rr, .int .i64 0]) ∧ R w' := by
  have HC : Hid _ := hc
  clear hc
  go_enter Tryz.func20, Tryz.ntmps20
  go_wp2_with (go_at_call 43; refine Calls.mono HC.out ?_; rintro e w1 ⟨rfl, hR⟩)
  go_ret2
  exact ⟨rfl, hR⟩

end
end Go.Proofs.YtajopoddmfdejaaGreat

namespace Go.Proofs.YtajopoddmfdejaaGreat
open Go.RowKit Go.Sort Go.Shelf
set_option linter.unusedVariables false

section
variable {s i p : Nat} {B : WB} {objs : List Ob}

end
end Go.Proofs.YtajopoddmfdejaaGreat
