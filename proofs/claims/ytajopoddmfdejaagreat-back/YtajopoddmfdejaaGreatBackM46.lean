/-
  What is proved here: an outline's object, whatever is at a path: the object that the model says, and the draft that it says. a new draft and a new outline; Commit of a tree: the object that the model says, and the objects that are in the store then. Commit of a workspace's tree, and of a workspace: the object that the model says; the store holds the objects that the model says. a workspace is checked out of a store: its memory, and that its tree is the stored directory. what Remove, Rename and Open make of a root that is the workspace's own, at paths of one name; how many names a root can have.
-/
import Derived.Test.YtajopoddmfdejaaGreatBackM45
import Derived.Deep.RegionHeld3
import Derived.Test.YtajopoddmfdejaaGreatBackM38
namespace Go.Proofs.YtajopoddmfdejaaGreat
open Go.RowKit Go.Sort Go.Shelf
set_option linter.unusedVariables false

/-- A path's names, the rest empty. -/
abbrev comp (l : List ByteArray) (k : Nat) : ByteArray := l.getD k ⟨#[]⟩

section
variable {s i p : Nat} {B : WB} {objs : List Ob}

/-- object of what is the tree's own: by work, and noted. -/
theorem object_own {tg : Tags} {w0 W : World} {g : WG} {lim : Nat} {t : LT} {D : Nat → Prop} {b : DB} {ow : Nat} {a a' : List Ob} {f : List ByteArray → Option Int} {N N' : Nat} (hO : OSt w0 p objs D W b ow a f N) {q : List ByteArray} (hq : Good q) (hf : f q = none) (nm : ByteArray) (k r : Int) (hN : N' < 50000)
    (hw : ∀ W1, Below W.heap.size W W1 → Calls Tryz.prog 109 #[.agg #[.pointer (some ⟨B.bt, 0, none⟩), .pointer (some ⟨b.dr, 0, none⟩), .map (some ow)], .agg (pathA q), .int .i64 k] W1 fun e w' => e = .returned (.int .i64 r) ∧ Left8 w0 p objs D W1 w' b ow a' f q N') :
    Calls Tryz.prog 65 #[.agg #[.pointer (some ⟨B.bt, 0, none⟩), .pointer (some ⟨b.dr, 0, none⟩), .map (some ow)], .agg (pathA q), .agg #[.string nm, .int .i64 k, .int .i64 0]] W fun e w' => e = .returned (.int .i64 r) ∧ Left8 w0 p objs D W w' b ow a' f q (N' + 1) := by
  have hb := objBoxes_below W B.bt b.dr ow (comp q 0) (comp q 1) (comp q 2) (comp q 3) (comp q 4) nm k 0
  have hsz3 : (objBoxes W B.bt b.dr ow (comp q 0) (comp q 1) (comp q 2) (comp q 3) (comp q 4) nm k 0).heap.size = W.heap.size + 3 := by unfold objBoxes; simp
  refine oobject_own B.bt b.dr ow _ _ _ _ _ nm k r (fun w' => Left8 w0 p objs D (objBoxes W B.bt b.dr ow (comp q 0) (comp q 1) (comp q 2) (comp q 3) (comp q 4) nm k 0) w' b ow a' f q N') (fun w' => Left8 w0 p objs D W w' b ow a' f q (N' + 1)) W (fun W1 hb1 => ?_) (hw _ hb) (fun w' ⟨D', f', h1, h2, h3⟩ j o hj1 hj2 => ?_) (fun w' ⟨D', f', h1, h2, h3⟩ => ?_) (fun w' ⟨D', f', h1, h2, h3⟩ => ?_)
  · obtain ⟨n, _, hp⟩ := (hO.via hb1).map
    have := PMap.look_ok hp Tryz.underlying119 (zero25 W1) hq
    rw [hf] at this
    exact this
  · refine h2.cell (by rw [hsz3]; omega) (fun hd => ?_) o
    have := (hO.inb j hd).2
    omega
  · have := h2.keeps.size
    rw [hsz3] at this
    exact this
  · obtain ⟨w'', hrun, h4, h5, _⟩ := h1.note (by omega) hq r
    refine ⟨w'', hrun, D', _, h4, (h2.via hb).trans h5, fun q' hq' => ?_⟩
    rw [upd_other (fun e => hq' (by rw [e]; exact List.prefix_refl _))]
    exact h3 q' hq'

theorem cnt_take (n : Nat) (es : Kids) (k : Nat) (hk : k < es.length) : ((es.take (k + 1)).map fun x => cntO n x.2).sum = ((es.take k).map fun x => cntO n x.2).sum + cntO n (es[k]).2 := by
  rw [List.take_succ_eq_append_getElem hk, List.map_append, List.sum_append]; simp
theorem cnt_take_le (n : Nat) (es : Kids) (k : Nat) : ((es.take k).map fun x => cntO n x.2).sum ≤ (es.map fun x => cntO n x.2).sum := by
  conv => rhs; rw [← List.take_append_drop k es]
  rw [List.map_append, List.sum_append]; omega

/-- Another name, another place. -/
theorem apart {q q' : List ByteArray} {x y : ByteArray} (h : x ≠ y) (h1 : q ++ [x] <+: q') : ¬ q ++ [y] <+: q' := by
  rintro ⟨l, rfl⟩
  obtain ⟨l2, h2⟩ := h1
  rw [List.append_assoc, List.append_assoc] at h2
  have := List.append_cancel_left h2
  simp at this
  exact h this.1

/-- What work of a directory stands on, k of its things worked out. -/
def DirSt (w0 : World) (p : Nat) (objs : List Ob) (D0 : Nat → Prop) (w : World) (b : DB) (ow : Nat) (fl : Nat → Option (Int × ByteArray)) (n : Nat) (es : Kids) (a : List Ob) (f : List ByteArray → Option Int) (q : List ByteArray) (N : Nat) (k : Nat) (D : Nat → Prop) (W : World) : Prop :=
  ∃ D1 f1, D = Dow D1 ow ∧ OSt w0 p objs D1 W b ow (kidsR fl n (es.take k) a).2 f1 (N + 2 * ((es.take k).map fun x => cntO n x.2).sum) ∧ Turn (Dow D0 ow) D w W ∧ (∀ q', ¬ q <+: q' → f1 q' = f q') ∧ ∀ j (hj : j < es.length), k ≤ j → ∀ q', q ++ [(es[j]).1] <+: q' → f1 q' = none

theorem fits_id {a : List Ob} (hl : a.length < 100000) {e : Ent} (hv : validB e.1 = true) (h12 : e.2.1 = 1 ∨ e.2.1 = 2) (hk : kindOf a e.2.2 = e.2.1) : Fits e ∧ 1 ≤ e.1.size := by
  have hs := valid_size hv
  obtain ⟨h1, h2⟩ := kindOf_pos (a := a) (id := e.2.2) (by rw [hk]; exact ne0 h12)
  exact ⟨⟨by unfold maxLen; omega, WalkArith.wf_i64 (by omega), WalkArith.wf_i64 (by omega)⟩, hs.1⟩

/-- work of a directory of the tree's own. -/
theorem work_dir {tg : Tags} {w0 : World} {g : WG} {lim : Nat} {t : LT} (h : Base8 tg w0 s i p B objs g lim t) (n : Nat) (hn : n ≤ 5)
    {es : Kids} {q : List ByteArray} (hr : RisingK es) (h16 : es.length ≤ 16) (hks : ∀ x ∈ es, validB x.1 = true ∧ LTok objs n x.2) (ha : t.at objs q = some (.own es)) (hq : Good q) (h4 : ∀ x ∈ es, q.length ≤ 4)
    {D : Nat → Prop} {W : World} {b : DB} {ow : Nat} {a : List Ob} {f : List ByteArray → Option Int} {N : Nat} (hO : OSt w0 p objs D W b ow a f N) (hdr : Drafted objs a) (hf : ∀ q', q <+: q' → f q' = none) (hN : N + 2 * (es.map fun x => cntO n x.2).sum < 3000)
    (ih : ∀ x ∈ es, ∀ (D : Nat → Prop) (W : World) (a : List Ob) (f : List ByteArray → Option Int) (N : Nat), OSt w0 p objs D W b ow a f N → Drafted objs a → (∀ q', q ++ [x.1] <+: q' → f q' = none) → N + 2 * cntO n x.2 < 3000 →
      Calls Tryz.prog 65 #[.agg #[.pointer (some ⟨B.bt, 0, none⟩), .pointer (some ⟨b.dr, 0, none⟩), .map (some ow)], .agg (pathA (q ++ [x.1])), .agg #[.string x.1, .int .i64 x.2.kind, .int .i64 x.2.id]] W fun e w' => e = .returned (.int .i64 (objR g.fl n x.2 a).1) ∧ Left8 w0 p objs D W w' b ow (objR g.fl n x.2 a).2 f (q ++ [x.1]) (N + 2 * cntO n x.2)) :
    Calls Tryz.prog 109 #[.agg #[.pointer (some ⟨B.bt, 0, none⟩), .pointer (some ⟨b.dr, 0, none⟩), .map (some ow)], .agg (pathA q), .int .i64 2] W fun e w' => e = .returned (.int .i64 (dirD (kidsR g.fl n es a).2 (kidsR g.fl n es a).1).1) ∧ Left8 w0 p objs D W w' b ow (dirD (kidsR g.fl n es a).2 (kidsR g.fl n es a).1).2 f q (N + 2 * (es.map fun x => cntO n x.2).sum + 1) := by
  obtain ⟨hbt, _, _, c8⟩ := h.tree hO.below
  obtain ⟨vD, hD⟩ := h.inv.wp.ownD
  have ho : g.ft.od q = some (es.map entOf) := by rw [h.flat.od, ha]; rfl
  have hrow := hD.row q _ ho
  have hlk : ∀ W', Below W.heap.size W W' → (Instr.lookup 128 (.map (some B.oD)) (.agg (pathA q)) false).run Tryz.prog W' = .ok (vD q) W' := fun W' hb => by
    have := hD.look hq (below_via hO.below hb)
    rw [ho] at this
    exact this
  have hrowW : W.ownsRow 0 76 3 (vD q) (es.map entOf).length (flat (es.map entOf)) := ownsRow_keep hrow.1 (fun k hk => hO.below.block k (ownsRow_lt hrow.1 hk))
  obtain ⟨x0, x1, x2, x3, x4⟩ := entsAt_facts g.fl n es a
  have hfl0 := h.flSz
  obtain ⟨l0, hl0⟩ := hdr.app
  have hfa : FlSz a g.fl := by rw [hl0]; exact hfl0.app l0
  have hka : ∀ x ∈ es, validB x.1 = true ∧ LTok a n x.2 := fun x hx => ⟨(hks x hx).1, by rw [hl0]; exact LTok_app l0 n _ (hks x hx).2⟩
  have hall := fun k : Nat => kidsR_ok g.fl n (fun c a' he hok hfz => objR_ok g.fl n hn c a' he hok hfz) (es.take k) a (hdr.exact h.exact) hfa (fun x hx => hka x (List.mem_of_mem_take hx))
  have hlen : (es.map entOf).length = es.length := by simp
  refine owork_dir B.bt B.oD b.dr ow _ _ _ _ _ q (vD q) (es.map entOf) (entsAt g.fl n es a) (fun k => (objR g.fl n ((es[k]?).getD (⟨#[]⟩, .file 0)).2 (kidsR g.fl n (es.take k) a).2).1) _ (DirSt w0 p objs D W b ow g.fl n es a f q N) (fun w' => Left8 w0 p objs D W w' b ow (dirD (kidsR g.fl n es a).2 (kidsR g.fl n es a).1).2 f q (N + 2 * (es.map fun x => cntO n x.2).sum + 1)) (Dow D ow) W hbt c8 hlk hrowW (by rw [hlen]; exact h16) x0 (fun k hk => by rw [hlen] at hk ⊢; exact x2 k hk) (fun k hk => ?_) (fun k hk => ?_) (fun x W' hx => ?_) ?_ (fun x hx => (hO.inb x hx).2) ?_ ?_ ?_ ?_
  · have hk' : k < es.length := by rw [hlen] at hk; exact hk
    rw [x3 k hk', List.getElem_map]
  · have hk' : k < es.length := by rw [hlen] at hk; exact hk
    rw [x4 k hk', List.getElem?_eq_getElem hk', Option.getD_some, List.getElem_map]
    rfl
  · rw [List.map_map] at hx
    obtain ⟨y, hy, rfl⟩ := List.mem_map.1 hx
    exact child_any q hq (h4 y hy) y.1 W'
  · exact ⟨D, f, rfl, by simpa [kidsR] using hO, Turn.of_below (Below.refl _ _), fun _ _ => rfl, fun j hj _ q' hq' => hf q' ((List.prefix_append _ _).trans hq')⟩
  · rintro k D2 W2 W3 ⟨D1, f1, rfl, h1, h2, h3, h4'⟩ hk
    exact ⟨D1, f1, rfl, h1.keepOut hO.below.size hk, ⟨⟨hk.os.trans h2.keeps.os, hk.tape.trans h2.keeps.tape, hk.output.trans h2.keeps.output, Nat.le_trans h2.keeps.size hk.size, fun x hx hnx => (hk.block x (Nat.lt_of_lt_of_le hx h2.keeps.size) (.inl hx)).trans (h2.keeps.block x hx hnx)⟩, h2.own⟩, h3, h4'⟩
  · rintro k D2 W2 ⟨D1, f1, rfl, h1, _⟩ x hx
    exact (h1.inb x hx).2
  · rintro k hk D2 W2 ⟨D1, f1, rfl, h1, h2, h3, h4'⟩
    have hk' : k < es.length := by rw [hlen] at hk; exact hk
    have hm := List.getElem_mem hk'
    obtain ⟨hd1, _⟩ := hall k
    have hcnt := cnt_take n es k hk'
    have hcl := cnt_take_le n es (k + 1)
    have := ih es[k] hm D1 W2 _ f1 _ h1 (hdr.trans hd1) (h4' k hk' (Nat.le_refl _)) (by omega)
    rw [List.getElem_map, List.getElem?_eq_getElem hk', Option.getD_some]
    refine this.mono ?_
    rintro e w' ⟨he, D3, f3, k1, k2, k3⟩
    refine ⟨he, Dow D3 ow, ⟨D3, f3, rfl, ?_, h2.trans k2, fun q' hq' => ?_, fun j hj hkj q' hq' => ?_⟩, k2⟩
    · rw [hcnt, List.take_succ_eq_append_getElem hk', kidsR_snoc]
      have e1 : N + 2 * ((es.take k).map fun x => cntO n x.2).sum + 2 * cntO n (es[k]).2 = N + 2 * (((es.take k).map fun x => cntO n x.2).sum + cntO n (es[k]).2) := by omega
      rw [← e1]; exact k1
    · rw [k3 q' (fun h => hq' ((List.prefix_append _ _).trans h)), h3 q' hq']
    · have hne : (es[j]).1 ≠ (es[k]).1 := by
        intro e
        have := List.pairwise_iff_getElem.1 hr k j hk' hj (by omega)
        rw [e, cmpN_self] at this
        omega
      rw [k3 q' (apart hne hq')]
      exact h4' j hj (by omega) q' hq'
  · rintro D2 W2 v' ⟨D1, f1, rfl, h1, h2, h3, h4'⟩ hrv
    rw [hlen] at h1 hrv
    rw [List.take_length] at h1
    obtain ⟨hd1, hd2, hd3, hd4⟩ := hall es.length
    rw [List.take_length] at hd1 hd2 hd3 hd4
    rw [x1] at hrv
    have hl1 := kidsR_len g.fl n es a
    have hfew := h1.few
    obtain ⟨⟨ft, hP⟩, hdis⟩ := h.pool h1
    have hNm : Named (kidsR g.fl n es a).1 := ⟨by rw [hl1]; exact h16, fun e he => fits_id (a := (kidsR g.fl n es a).2) (by omega) (hd3 e he).1 (hd3 e he).2.1 (hd3 e he).2.2.1⟩
    rw [← hl1] at hrv
    refine (ddir_any hP hdis h1.dinv (by omega) v' _ hrv hNm (rising_of_K (rising_names hd2 hr))).mono ?_
    rintro e w' ⟨he, hdi, hk⟩
    have hl : (dirD (kidsR g.fl n es a).2 (kidsR g.fl n es a).1).2.length ≤ N + 2 * (es.map fun x => cntO n x.2).sum + 1 := by
      unfold dirD
      cases dirAt (kidsR g.fl n es a).2 (kidsR g.fl n es a).1 with
      | none => simp; omega
      | some _ => simp; omega
    obtain ⟨k1, k2⟩ := h1.draft hdi hk (Nat.le_succ _) hl
    exact ⟨he, _, f1, k1, h2.trans k2, h3⟩

theorem Left8.via {w0 W W1 w' : World} {D : Nat → Prop} {b : DB} {ow : Nat} {a' : List Ob} {f : List ByteArray → Option Int} {q : List ByteArray} {N' : Nat} (hb : Below W.heap.size W W1) (h : Left8 w0 p objs D W1 w' b ow a' f q N') : Left8 w0 p objs D W w' b ow a' f q N' := by
  obtain ⟨D', f', h1, h2, h3⟩ := h
  exact ⟨D', f', h1, h2.via hb, h3⟩

/-- object, whatever is there. -/
theorem object_all {tg : Tags} {w0 : World} {g : WG} {lim : Nat} {t : LT} (h : Base8 tg w0 s i p B objs g lim t) {b : DB} {ow : Nat} : ∀ (n : Nat), n ≤ 5 → ∀ (c : LT) (q : List ByteArray), LTok objs n c → t.at objs q = some c → Good q → q.length + n ≤ 5 → ∀ (nm : ByteArray) (D : Nat → Prop) (W : World) (a : List Ob) (f : List ByteArray → Option Int) (N : Nat), OSt w0 p objs D W b ow a f N → Drafted objs a → (∀ q', q <+: q' → f q' = none) → N + 2 * cntO n c < 3000 →
    Calls Tryz.prog 65 #[.agg #[.pointer (some ⟨B.bt, 0, none⟩), .pointer (some ⟨b.dr, 0, none⟩), .map (some ow)], .agg (pathA q), .agg #[.string nm, .int .i64 c.kind, .int .i64 c.id]] W fun e w' => e = .returned (.int .i64 (objR g.fl n c a).1) ∧ Left8 w0 p objs D W w' b ow (objR g.fl n c a).2 f q (N + 2 * cntO n c) := by
  have hst : ∀ (n : Nat) (c : LT) (q : List ByteArray) (nm : ByteArray) (D : Nat → Prop) (W : World) (a : List Ob) (f : List ByteArray → Option Int) (N : Nat), OSt w0 p objs D W b ow a f N → kindOf objs c.id ≠ 0 → objR g.fl n c a = (c.id, a) →
      Calls Tryz.prog 65 #[.agg #[.pointer (some ⟨B.bt, 0, none⟩), .pointer (some ⟨b.dr, 0, none⟩), .map (some ow)], .agg (pathA q), .agg #[.string nm, .int .i64 c.kind, .int .i64 c.id]] W fun e w' => e = .returned (.int .i64 (objR g.fl n c a).1) ∧ Left8 w0 p objs D W w' b ow (objR g.fl n c a).2 f q (N + 2 * cntO n c) := by
    intro n c q nm D W a f N hO hk he
    rw [he]
    have hid : c.id ≠ 0 := fun e => by have := (kindOf_pos hk).1; omega
    refine (oobject_stored B.bt b.dr ow _ _ _ _ _ nm c.kind c.id W hid).mono ?_
    rintro e w' ⟨h1, h2⟩
    exact ⟨h1, Left8.of_below hO h2 (Nat.le_add_right _ _)⟩
  have hheld : ∀ (n : Nat) (fb : Nat) (q : List ByteArray), t.at objs q = some (.held fb) → Good q → ∀ (nm : ByteArray) (D : Nat → Prop) (W : World) (a : List Ob) (f : List ByteArray → Option Int) (N : Nat), OSt w0 p objs D W b ow a f N → (∀ q', q <+: q' → f q' = none) → N + 2 < 3000 → objR g.fl n (.held fb) a = heldR (g.fl fb) a → cntO n (.held fb) = 1 →
      Calls Tryz.prog 65 #[.agg #[.pointer (some ⟨B.bt, 0, none⟩), .pointer (some ⟨b.dr, 0, none⟩), .map (some ow)], .agg (pathA q), .agg #[.string nm, .int .i64 1, .int .i64 0]] W fun e w' => e = .returned (.int .i64 (objR g.fl n (.held fb) a).1) ∧ Left8 w0 p objs D W w' b ow (objR g.fl n (.held fb) a).2 f q (N + 2 * cntO n (.held fb)) := by
    intro n fb q ha hq nm D W a f N hO hf hN he hc
    rw [he, hc]
    refine object_own (tg := tg) (g := g) (lim := lim) (t := t) hO hq (hf q (List.prefix_refl _)) nm 1 _ (N' := N + 1) (by omega) (fun W1 hb1 => ?_)
    refine owork_file B.bt b.dr ow _ _ _ _ _ _ _ W1 (fun W2 hb2 => ?_)
    refine (file_all h ((hO.via hb1).via hb2) (by omega) hq ha).mono ?_
    rintro e w' ⟨h1, h2⟩
    exact ⟨h1, h2.via hb2⟩
  have hdir : ∀ (n : Nat) (es : Kids) (q : List ByteArray) (nm : ByteArray) (D : Nat → Prop) (W : World) (a : List Ob) (f : List ByteArray → Option Int) (N N' : Nat) (rr : Int × List Ob), OSt w0 p objs D W b ow a f N → Good q → (∀ q', q <+: q' → f q' = none) → N' < 3000 →
      (∀ W1, Below W.heap.size W W1 → Calls Tryz.prog 109 #[.agg #[.pointer (some ⟨B.bt, 0, none⟩), .pointer (some ⟨b.dr, 0, none⟩), .map (some ow)], .agg (pathA q), .int .i64 2] W1 fun e w' => e = .returned (.int .i64 rr.1) ∧ Left8 w0 p objs D W1 w' b ow rr.2 f q N') →
      Calls Tryz.prog 65 #[.agg #[.pointer (some ⟨B.bt, 0, none⟩), .pointer (some ⟨b.dr, 0, none⟩), .map (some ow)], .agg (pathA q), .agg #[.string nm, .int .i64 2, .int .i64 0]] W fun e w' => e = .returned (.int .i64 rr.1) ∧ Left8 w0 p objs D W w' b ow rr.2 f q (N' + 1) := by
    intro n es q nm D W a f N N' rr hO hq hf hN hw
    exact object_own (tg := tg) (g := g) (lim := lim) (t := t) hO hq (hf q (List.prefix_refl _)) nm 2 _ (by omega) hw
  intro n
  induction n with
  | zero =>
    intro hn c q hc ha hq hlen nm D W a f N hO hdr hf hN
    cases c with
    | file id => exact hst 0 (.file id) q nm D W a f N hO (by rw [LTok] at hc; show kindOf objs id ≠ 0; rw [hc]; decide) (by rw [objR]; rfl)
    | dir id => exact hst 0 (.dir id) q nm D W a f N hO (by rw [LTok] at hc; show kindOf objs id ≠ 0; rw [hc.1]; decide) (by rw [objR]; rfl)
    | held fb => exact hheld 0 fb q ha hq nm D W a f N hO hf (by rw [cntO] at hN; omega) (by rw [objR]) (by rw [cntO])
    | own es =>
      rw [LTok] at hc
      subst hc
      have hcn : cntO 0 (.own []) = 1 := by rw [cntO]
      rw [hcn] at hN ⊢
      have hob : objR g.fl 0 (.own []) a = dirD a [] := by rw [objR]
      rw [hob]
      refine hdir 0 [] q nm D W a f N (N + 1) (dirD a []) hO hq hf (by omega) (fun W1 hb1 => ?_)
      exact work_dir h 0 (by omega) (es := []) List.Pairwise.nil (by simp) (fun x hx => by cases hx) ha hq (fun x hx => by cases hx) (hO.via hb1) hdr hf (by simp; omega) (fun x hx => by cases hx)
  | succ n ih =>
    intro hn c q hc ha hq hlen nm D W a f N hO hdr hf hN
    cases c with
    | file id => exact hst _ (.file id) q nm D W a f N hO (by rw [LTok] at hc; show kindOf objs id ≠ 0; rw [hc]; decide) (by rw [objR]; rfl)
    | dir id => exact hst _ (.dir id) q nm D W a f N hO (by rw [LTok] at hc; show kindOf objs id ≠ 0; rw [hc.1]; decide) (by rw [objR]; rfl)
    | held fb => exact hheld _ fb q ha hq nm D W a f N hO hf (by rw [cntO] at hN; omega) (by rw [objR]) (by rw [cntO])
    | own es =>
      rw [LTok] at hc
      have hcn : cntO (n + 1) (.own es) = 1 + (es.map fun x => cntO n x.2).sum := by rw [cntO]
      rw [hcn] at hN ⊢
      rw [objR_own]
      have e1 : N + 2 * (1 + (es.map fun x => cntO n x.2).sum) = N + 2 * (es.map fun x => cntO n x.2).sum + 1 + 1 := by omega
      rw [e1]
      refine hdir n es q nm D W a f N _ (dirD (kidsR g.fl n es a).2 (kidsR g.fl n es a).1) hO hq hf (by omega) (fun W1 hb1 => ?_)
      refine work_dir h n (by omega) (es := es) hc.1 hc.2.1 hc.2.2 ha hq (fun x hx => by omega) (hO.via hb1) hdr hf (by omega) (fun x hx D W a f N hO' hdr' hf' hN' => ?_)
      have hg : Good (q ++ [x.1]) := ⟨hq.val.append (fun y hy => by simp at hy; rw [hy]; exact (hc.2.2 x hx).1), by simp; omega⟩
      exact ih (by omega) x.2 (q ++ [x.1]) (hc.2.2 x hx).2 (at_own ha hc.1 hx) hg (by simp; omega) x.1 D W a f N hO' hdr' hf' hN'

end
end Go.Proofs.YtajopoddmfdejaaGreat

namespace Go.Proofs.YtajopoddmfdejaaGreat
open Go.RowKit Go.Sort Go.Shelf
set_option linter.unusedVariables false

set_option maxRecDepth 100000 in
set_option maxHeartbeats 400000 in
theorem newdraft_any (p : Nat) (w : World) :
    Calls Tryz.prog 108 #[.pointer (some ⟨p, 0, none⟩)] w fun e w' => e = .returned (.pointer (some ⟨w.heap.size + 2, 0, none⟩)) ∧ w' = ((w.alloc (.map #[] 0)).alloc (.map #[] 0)).alloc (.cells #[.pointer (some ⟨p, 0, none⟩), .slice none 0 0, .map (some w.heap.size), .map (some (w.heap.size + 1))] 185) := by
  have hmm := @run_makeMap Tryz.prog
  go_enter Tryz.func108, Tryz.ntmps108
  go_wp2
  go_ret
  exact ⟨rfl, rfl⟩

set_option maxRecDepth 100000 in
set_option maxHeartbeats 800000 in
theorem outline_walk (bt p : Nat) (w : World) (hbt : bt < w.heap.size) (c0 : w.cell? ⟨bt, 0, none⟩ = some (.pointer (some ⟨p, 0, none⟩))) :
    Calls Tryz.prog 64 #[.pointer (some ⟨bt, 0, none⟩)] w fun e w' => e = .returned (.agg #[.pointer (some ⟨bt, 0, none⟩), .pointer (some ⟨w.heap.size + 3, 0, none⟩), .map (some (w.heap.size + 4))]) ∧
      ∃ X, w' = ((((w.alloc X).alloc (.map #[] 0)).alloc (.map #[] 0)).alloc (.cells #[.pointer (some ⟨p, 0, none⟩), .slice none 0 0, .map (some (w.heap.size + 1)), .map (some (w.heap.size + 2))] 185)).alloc (.map #[] 0) := by
  have hmm := @run_makeMap Tryz.prog
  have hnd := fun W => newdraft_any p W
  go_enter Tryz.func64, Tryz.ntmps64
  go_wp2_with (go_at_call 108; refine Calls.mono (hnd _) ?_; rintro e w1 ⟨rfl, rfl⟩)
  exact bodyPost_ret (v := .agg #[.pointer (some ⟨bt, 0, none⟩), .pointer (some ⟨w.heap.size + 3, 0, none⟩), .map (some (w.heap.size + 4))]) (by simp [results, Tryz.results64, go_sem]) rfl ⟨rfl, _, rfl⟩

theorem heap5 (w : World) (x1 x2 x3 x4 x5 : Obj) : (((((w.alloc x1).alloc x2).alloc x3).alloc x4).alloc x5).heap[w.heap.size + 1]? = some x2 ∧ (((((w.alloc x1).alloc x2).alloc x3).alloc x4).alloc x5).heap[w.heap.size + 2]? = some x3 ∧ (((((w.alloc x1).alloc x2).alloc x3).alloc x4).alloc x5).heap[w.heap.size + 3]? = some x4 ∧ (((((w.alloc x1).alloc x2).alloc x3).alloc x4).alloc x5).heap[w.heap.size + 4]? = some x5 := by
  refine ⟨?_, ?_, ?_, ?_⟩
  · rw [RowKit.Below.heap_alloc _ _ _ (by first | (simp; done) | (simp; omega)), RowKit.Below.heap_alloc _ _ _ (by first | (simp; done) | (simp; omega)), RowKit.Below.heap_alloc _ _ _ (by first | (simp; done) | (simp; omega))]
    exact heap_alloc2_new w x1 x2
  · rw [RowKit.Below.heap_alloc _ _ _ (by first | (simp; done) | (simp; omega)), RowKit.Below.heap_alloc _ _ _ (by first | (simp; done) | (simp; omega))]
    have := heap_alloc_new ((w.alloc x1).alloc x2) x3
    simpa using this
  · rw [RowKit.Below.heap_alloc _ _ _ (by first | (simp; done) | (simp; omega))]
    have := heap_alloc_new (((w.alloc x1).alloc x2).alloc x3) x4
    simpa using this
  · have := heap_alloc_new ((((w.alloc x1).alloc x2).alloc x3).alloc x4) x5
    simpa using this

theorem below5 (w : World) (x1 x2 x3 x4 x5 : Obj) : Below w.heap.size w (((((w.alloc x1).alloc x2).alloc x3).alloc x4).alloc x5) :=
  (((((Below.refl _ _).alloc (Nat.le_refl _) _).alloc (by first | (simp; done) | (simp; omega)) _).alloc (by first | (simp; done) | (simp; omega)) _).alloc (by first | (simp; done) | (simp; omega)) _).alloc (by first | (simp; done) | (simp; omega)) _

/-- An outline in which nothing has been worked out. -/
theorem outline_any {w : World} {bt p : Nat} (objs : List Ob) (hbt : bt < w.heap.size) (c0 : w.cell? ⟨bt, 0, none⟩ = some (.pointer (some ⟨p, 0, none⟩))) :
    Calls Tryz.prog 64 #[.pointer (some ⟨bt, 0, none⟩)] w fun e w' => ∃ b ow D, e = .returned (.agg #[.pointer (some ⟨bt, 0, none⟩), .pointer (some ⟨b.dr, 0, none⟩), .map (some ow)]) ∧ OSt w p objs D w' b ow objs (fun _ => none) objs.length ∧ Below w.heap.size w w' := by
  refine (outline_walk bt p w hbt c0).mono ?_
  rintro e w' ⟨he, X, hw⟩
  obtain ⟨h1, h2, h3, h4⟩ := heap5 w X (.map #[] 0) (.map #[] 0) (.cells #[.pointer (some ⟨p, 0, none⟩), .slice none 0 0, .map (some (w.heap.size + 1)), .map (some (w.heap.size + 2))] 185) (.map #[] 0)
  have hb := below5 w X (.map #[] 0) (.map #[] 0) (.cells #[.pointer (some ⟨p, 0, none⟩), .slice none 0 0, .map (some (w.heap.size + 1)), .map (some (w.heap.size + 2))] 185) (.map #[] 0)
  rw [← hw] at h1 h2 h3 h4 hb
  have l4 := (Array.getElem?_eq_some_iff.1 h4).1
  refine ⟨⟨w.heap.size + 3, w.heap.size + 1, w.heap.size + 2⟩, w.heap.size + 4, fun k => w.heap.size ≤ k ∧ k < w.heap.size + 4, he, ⟨hb, ?_, ⟨[], [], none, 0, .map [], .map [], by simp, rfl, ⟨⟨by simp, by simp⟩, ⟨by simp, by simp⟩, ⟨by simp, by simp⟩, fun g hg => by simp [Value.ownBlock] at hg, h3, World.ownsRow_nil _ _ _ _, ?_, ?_, ?_, ?_, by simp, (fun o ho => by cases ho), (fun o ho => by cases ho)⟩⟩, by simp, ⟨0, Nat.zero_le _, ?_⟩, Nat.le_refl _⟩, hb⟩
  · rintro k (⟨k1, k2⟩ | rfl)
    · exact ⟨k1, by omega⟩
    · exact ⟨by omega, l4⟩
  · exact ⟨#[], 0, h1, ⟨by simp, MapKept.stamped_empty 0, by simp⟩, Nat.le_refl _, rfl⟩
  · intro d; exact ⟨rfl, fun i hi => by cases hi⟩
  · exact ⟨#[], 0, h2, ⟨by simp, MapKept.stamped_empty 0, by simp⟩, Nat.le_refl _, rfl⟩
  · intro es _; exact ⟨rfl, fun i hi => by cases hi⟩
  · exact ⟨_, vmap_at h4, fun _ _ => rfl, fun kl _ hn => absurd rfl hn⟩

section
variable {s i p : Nat} {B : WB} {objs : List Ob}

/-- What a commit leaves: the objects that it put behind those that were there; of the rest only the store's own has turned. -/
def Committed8 (s p : Nat) (objs a : List Ob) (tg : Tags) (w w' : World) (ft : PTail) : Prop := ∃ x', (∃ l, x' = objs ++ l) ∧ Same x' a ∧ InvP ft (NewF (fun k => tg k = (1, 0)) w w') w' s p x' ∧ Keeps (fun k => tg k = (1, 0)) w w'

set_option maxRecDepth 100000 in
set_option maxHeartbeats 2000000 in
theorem commit_walk (bt dr0 : Nat) (root : Int) (X : (Nat × Nat) → World → Prop) (Y : (Nat × Nat) → World → Prop) (R : World → Prop) (rr : Int) (w : World) (hbt : bt < w.heap.size)
    (c4 : ∀ W, Below w.heap.size w W → W.cell? ⟨bt, 4, none⟩ = some (.string ⟨#[]⟩) ∧ W.cell? ⟨bt, 5, none⟩ = some (.int .i64 2) ∧ W.cell? ⟨bt, 6, none⟩ = some (.int .i64 root))
    (hout : Calls Tryz.prog 64 #[.pointer (some ⟨bt, 0, none⟩)] w fun e w' => ∃ b, e = .returned (.agg #[.pointer (some ⟨bt, 0, none⟩), .pointer (some ⟨b.1, 0, none⟩), .map (some b.2)]) ∧ X b w' ∧ Below w.heap.size w w')
    (hobj : ∀ b W W', X b W → Below W.heap.size W W' → Calls Tryz.prog 65 #[.agg #[.pointer (some ⟨bt, 0, none⟩), .pointer (some ⟨b.1, 0, none⟩), .map (some b.2)], .agg #[.string ⟨#[]⟩, .string ⟨#[]⟩, .string ⟨#[]⟩, .string ⟨#[]⟩, .string ⟨#[]⟩], .agg #[.string ⟨#[]⟩, .int .i64 2, .int .i64 root]] W' fun e w' => e = .returned (.int .i64 rr) ∧ Y b w' ∧ Below w.heap.size w w' ∧ W'.heap.size ≤ w'.heap.size ∧ ∀ k o, W.heap.size ≤ k → k < W'.heap.size → w'.cell? ⟨k, o, none⟩ = W'.cell? ⟨k, o, none⟩)
    (hkeep : ∀ b W n, Y b W → Calls Tryz.prog 67 #[.pointer (some ⟨b.1, 0, none⟩)] (W.drewN n) fun e w' => e = .returned (.int .i64 0) ∧ R w') :
    Calls Tryz.prog 43 #[.pointer (some ⟨bt, 0, none⟩)] w fun e w' => e = .returned (.tuple #[.int .i64 rr, .int .i64 0]) ∧ R w' := by
  have hrt := fun W => root_any W
  have HOUT : Hid _ := hout
  have HOBJ : Hid _ := hobj
  have HKEEP : Hid _ := hkeep
  have HC : Hid _ := c4
  clear hout hobj hkeep c4
  unfold pathV pathA at hrt
  simp at hrt
  go_enter Tryz.func43, Tryz.ntmps43
  go_wp2_with fail
  refine Calls.mono HOUT.out ?_
  rintro e w1 ⟨⟨dr, ow⟩, rfl, hX, hb1⟩
  simp only
  have HX : Hid _ := hX
  clear hX HOUT
  have hb2 : Below w1.heap.size w1 (w1.alloc (.cells #[.pointer (some ⟨bt, 0, none⟩), .pointer (some ⟨dr, 0, none⟩), .map (some ow)] 121)).drew := below_drew ((Below.refl _ _).alloc (Nat.le_refl _) _)
  obtain ⟨d4, d5, d6⟩ := HC.out _ (below_via hb1 hb2)
  have hbx0 := cell_at (heap_alloc_new w1 (.cells #[.pointer (some ⟨bt, 0, none⟩), .pointer (some ⟨dr, 0, none⟩), .map (some ow)] 121)) 0
  have hbx1 := cell_at (heap_alloc_new w1 (.cells #[.pointer (some ⟨bt, 0, none⟩), .pointer (some ⟨dr, 0, none⟩), .map (some ow)] 121)) 1
  have hbx2 := cell_at (heap_alloc_new w1 (.cells #[.pointer (some ⟨bt, 0, none⟩), .pointer (some ⟨dr, 0, none⟩), .map (some ow)] 121)) 2
  have hz : w1.heap.size < (w1.alloc (.cells #[.pointer (some ⟨bt, 0, none⟩), .pointer (some ⟨dr, 0, none⟩), .map (some ow)] 121)).drew.heap.size := by simp
  have hSa : (w1.alloc (.cells #[.pointer (some ⟨bt, 0, none⟩), .pointer (some ⟨dr, 0, none⟩), .map (some ow)] 121)).drew.cell? ⟨w1.heap.size, 0, none⟩ = some (.pointer (some ⟨bt, 0, none⟩)) ∧ (w1.alloc (.cells #[.pointer (some ⟨bt, 0, none⟩), .pointer (some ⟨dr, 0, none⟩), .map (some ow)] 121)).drew.cell? ⟨w1.heap.size, 1, none⟩ = some (.pointer (some ⟨dr, 0, none⟩)) ∧ (w1.alloc (.cells #[.pointer (some ⟨bt, 0, none⟩), .pointer (some ⟨dr, 0, none⟩), .map (some ow)] 121)).drew.cell? ⟨w1.heap.size, 2, none⟩ = some (.map (some ow)) ∧ (w1.alloc (.cells #[.pointer (some ⟨bt, 0, none⟩), .pointer (some ⟨dr, 0, none⟩), .map (some ow)] 121)).drew.cell? ⟨bt, 4, none⟩ = some (.string ⟨#[]⟩) ∧ (w1.alloc (.cells #[.pointer (some ⟨bt, 0, none⟩), .pointer (some ⟨dr, 0, none⟩), .map (some ow)] 121)).drew.cell? ⟨bt, 5, none⟩ = some (.int .i64 2) ∧ (w1.alloc (.cells #[.pointer (some ⟨bt, 0, none⟩), .pointer (some ⟨dr, 0, none⟩), .map (some ow)] 121)).drew.cell? ⟨bt, 6, none⟩ = some (.int .i64 root) := ⟨hbx0, hbx1, hbx2, d4, d5, d6⟩
  go_wp2
  go_region_held3 (fun W => W.cell? ⟨w1.heap.size, 0, none⟩ = some (.pointer (some ⟨bt, 0, none⟩)) ∧ W.cell? ⟨w1.heap.size, 1, none⟩ = some (.pointer (some ⟨dr, 0, none⟩)) ∧ W.cell? ⟨w1.heap.size, 2, none⟩ = some (.map (some ow)) ∧ W.cell? ⟨bt, 4, none⟩ = some (.string ⟨#[]⟩) ∧ W.cell? ⟨bt, 5, none⟩ = some (.int .i64 2) ∧ W.cell? ⟨bt, 6, none⟩ = some (.int .i64 root))
    (first | exact hSa | exact hSb | exact hSc)
    (first
    | (go_at_call 66; refine (hrt _).mono ?_; rintro e w2 ⟨rfl, hb3⟩; have hb23 := below_via hb2 hb3; obtain ⟨f4, f5, f6⟩ := HC.out _ (below_via hb1 hb23); have hSb := And.intro (((bcell hb3).1 w1.heap.size 0 hz).trans hSa.1) (And.intro (((bcell hb3).1 w1.heap.size 1 hz).trans hSa.2.1) (And.intro (((bcell hb3).1 w1.heap.size 2 hz).trans hSa.2.2.1) (And.intro f4 (And.intro f5 f6)))); have hz2 := Nat.lt_of_lt_of_le hz hb3.size)
    | (go_at_call 65; refine Calls.mono (HOBJ.out (dr, ow) _ _ HX.out hb23) ?_; rintro e w3 ⟨rfl, hY, hbw, hs3, hc3⟩; obtain ⟨f4', f5', f6'⟩ := HC.out _ hbw; have hSc := And.intro ((hc3 w1.heap.size 0 (Nat.le_refl _) hz2).trans hSb.1) (And.intro ((hc3 w1.heap.size 1 (Nat.le_refl _) hz2).trans hSb.2.1) (And.intro ((hc3 w1.heap.size 2 (Nat.le_refl _) hz2).trans hSb.2.2.1) (And.intro f4' (And.intro f5' f6')))); have hz3 := Nat.lt_of_lt_of_le hz2 hs3; have HY : Hid _ := hY; clear hY hc3))
  all_goals
    go_wp2_with (go_at_call 67; refine Calls.mono (HKEEP.out (dr, ow) w3 0 HY.out) ?_; rintro e w4 ⟨rfl, hR⟩)
    go_ret2
    exact ⟨rfl, hR⟩

end
end Go.Proofs.YtajopoddmfdejaaGreat

namespace Go.Proofs.YtajopoddmfdejaaGreat
open Go.RowKit Go.Sort Go.Shelf
set_option linter.unusedVariables false

section
variable {s i p : Nat} {B : WB} {objs : List Ob}

/-- Only blocks of the store's objects have turned, and new ones have come. -/
theorem moves_keeps {tg : Tags} {w w' : World} (h : Keeps (fun k => tg k = (1, 0)) w w') (hf : Fresh tg w) : ∃ tg' : Tags, Moves (fun t => t = (1, 0)) tg tg' w w' ∧ Fresh tg' w' ∧ (∀ k, NewF (fun k => tg k = (1, 0)) w w' k → k < w'.heap.size → tg' k = (1, 0)) ∧ ∀ k, k < w.heap.size → tg' k = tg k := by
  refine ⟨fun k => if k < w.heap.size then tg k else if k < w'.heap.size then (1, 0) else (0, 0), ⟨h.os, h.tape, h.output, h.size, fun k hk => if_pos hk, fun k hk hn => h.block k hk hn, fun _ k hk => ?_⟩, fun k hk => ?_, fun k hk hl => ?_, fun k hk => if_pos hk⟩
  · show (if k < w.heap.size then tg k else if k < w'.heap.size then (1, 0) else (0, 0)) = (0, 0)
    rw [if_neg (by have := h.size; omega), if_neg (by omega)]
  · show (if k < w.heap.size then tg k else if k < w'.heap.size then (1, 0) else (0, 0)) = (0, 0)
    rw [if_neg (by have := h.size; omega), if_neg (by omega)]
  · show (if k < w.heap.size then tg k else if k < w'.heap.size then (1, 0) else (0, 0)) = (1, 0)
    by_cases h1 : k < w.heap.size
    · rw [if_pos h1]
      rcases hk with hk | ⟨hk, _⟩
      · exact hk
      · omega
    · rw [if_neg h1, if_pos hl]

/-- What a commit leaves. -/
def ComLeft (s p : Nat) (objs a : List Ob) (tg : Tags) (w w' : World) (got : List Int) (brk : Bool) (lim : Nat) : Prop :=
  ∃ x' tg', (∃ l, x' = objs ++ l) ∧ Same x' a ∧ Moves (fun t => t = (1, 0)) tg tg' w w' ∧ SInv tg' w' s p x' got brk lim

theorem commit_any {tg : Tags} {w : World} {g : WG} {lim : Nat} {t : LT} (h : Base8 tg w s i p B objs g lim t) (hok : LTok objs 5 t) (hfew : objs.length + 2 * cntO 5 t < 3000) (hroom : (objR g.fl 5 t objs).2.length ≤ 400) :
    Calls Tryz.prog 43 #[.pointer (some ⟨B.bt, 0, none⟩)] w fun e w' => e = .returned (.tuple #[.int .i64 (objR g.fl 5 t objs).1, .int .i64 0]) ∧ ComLeft s p objs (objR g.fl 5 t objs).2 tg w w' g.fs.got g.fs.brk lim := by
  have hobjs := objR_ok g.fl 5 (Nat.le_refl _) t objs h.exact hok h.flSz
  obtain ⟨hfr, ft, hbk, hi, hgot, hs, hlm⟩ := h.inv.st
  obtain ⟨hbt, c0, _, _⟩ := h.tree (Below.refl _ _)
  have hdisj : ∀ {D : Nat → Prop} {W : World} {b : DB} {ow : Nat} {a : List Ob} {f : List ByteArray → Option Int} {N : Nat}, OSt w p objs D W b ow a f N → ∀ k, tg k = (1, 0) → ¬ D k := fun hO => (h.pool hO).2
  refine commit_walk B.bt 0 g.ft.root (fun b W => ∃ D mf md, OSt w p objs D W ⟨b.1, mf, md⟩ b.2 objs (fun _ => none) objs.length) (fun b W => ∃ D mf md f' N', OSt w p objs D W ⟨b.1, mf, md⟩ b.2 (objR g.fl 5 t objs).2 f' N') _ _ w hbt (fun W hb => ?_) ((outline_any objs hbt c0).mono ?_) ?_ ?_
  · have ht := (h.inv.below hb).wp.tree.ht
    exact ⟨cell_at ht 4, cell_at ht 5, cell_at ht 6⟩
  · rintro e w' ⟨⟨dr, mf, md⟩, ow, D, he, hO, hb⟩
    exact ⟨(dr, ow), he, ⟨D, mf, md, hO⟩, hb⟩
  · rintro ⟨dr, ow⟩ W W' ⟨D, mf, md, hO⟩ hb
    have hO' := hO.via hb
    have := object_all h (b := ⟨dr, mf, md⟩) (ow := ow) 5 (Nat.le_refl _) t [] hok (at_nil objs t) ⟨(fun x hx => by cases hx), by simp⟩ (by simp) ⟨#[]⟩ D W' objs (fun _ => none) objs.length hO' .nil (fun _ _ => rfl) hfew
    rw [h.flat.kind, ← h.flat.root] at this
    refine this.mono ?_
    rintro e w' ⟨he, D', f', h1, h2, h3⟩
    refine ⟨he, ⟨D', mf, md, f', _, h1⟩, h1.below, h2.keeps.size, fun k o hk1 hk2 => h2.cell hk2 (fun hd => ?_) o⟩
    have := (hO.inb k hd).2
    omega
  · rintro ⟨dr, ow⟩ W n ⟨D, mf, md, f', N', hO⟩
    have hOn : OSt w p objs D (W.drewN n) ⟨dr, mf, md⟩ ow (objR g.fl 5 t objs).2 f' N' := hO.via (below_drewN (Below.refl _ _) n)
    refine (keep_ok (b := ⟨dr, mf, md⟩) (hi.below hOn.below (fun _ _ h => h)) (hdisj hOn) hOn.dinv hobjs.dr hroom).mono ?_
    rintro e w' ⟨he, x', hl, hsame, hinv, hk⟩
    refine ⟨he, ?_⟩
    have hkw := keeps_via hOn.below hk
    obtain ⟨tg', hm, hf', htag, hold⟩ := moves_keeps hkw hfr
    refine ⟨x', tg', hl, hsame, hm, hf', ft, hbk, ?_, hgot.moves hm (by simp), hsame.sound (hobjs.dr.exact h.exact).sound, hlm⟩
    exact hinv.keep (fun _ _ _ => rfl) (fun k hk hF => htag k (newF_via hOn.below.size k hF) hk)

set_option maxRecDepth 100000 in
set_option maxHeartbeats 400000 in
theorem commit_ws (wb bt : Nat) (rr : Int) (R : World → Prop) (w : World) (hwb : wb < w.heap.size) (c0 : w.cell? ⟨wb, 0, none⟩ = some (.pointer (some ⟨bt, 0, none⟩)))
    (hc : Calls Tryz.prog 43 #[.pointer (some ⟨bt, 0, none⟩)] w fun e w' => e = .returned (.tuple #[.int .i64 rr, .int .i64 0]) ∧ R w') :
    Calls Tryz.prog 20 #[.pointer (some ⟨wb, 0, none⟩)] w fun e w' => e = .returned (.tuple #[.int .i64 rr, .int .i64 0]) ∧ R w' := by
  have HC : Hid _ := hc
  clear hc
  go_enter Tryz.func20, Tryz.ntmps20
  go_wp2_with (go_at_call 43; refine Calls.mono HC.out ?_; rintro e w1 ⟨rfl, hR⟩)
  go_ret2
  exact ⟨rfl, hR⟩

end
end Go.Proofs.YtajopoddmfdejaaGreat

namespace Go.Proofs.YtajopoddmfdejaaGreat
open Go.RowKit Go.Sort Go.Shelf
set_option linter.unusedVariables false

set_option maxRecDepth 100000 in
set_option maxHeartbeats 400000 in
theorem shF_new (f : Fn) (vs : Array Value) (w : World) : Calls Tryz.prog 103 #[.func f vs #[]] w fun e w' => e = .returned (.pointer (some ⟨w.heap.size + 1, 0, none⟩)) ∧ w' = (w.alloc (.map #[] 0)).alloc (.cells #[.func f vs #[], .map (some w.heap.size)] 219) := by
  have hmm := @run_makeMap Tryz.prog
  go_enter Tryz.func103, Tryz.ntmps103
  go_wp2
  go_ret
  exact ⟨rfl, rfl⟩
set_option maxRecDepth 100000 in
set_option maxHeartbeats 400000 in
theorem shD_new (f : Fn) (vs : Array Value) (w : World) : Calls Tryz.prog 105 #[.func f vs #[]] w fun e w' => e = .returned (.pointer (some ⟨w.heap.size + 1, 0, none⟩)) ∧ w' = (w.alloc (.map #[] 0)).alloc (.cells #[.func f vs #[], .map (some w.heap.size)] 223) := by
  have hmm := @run_makeMap Tryz.prog
  go_enter Tryz.func105, Tryz.ntmps105
  go_wp2
  go_ret
  exact ⟨rfl, rfl⟩

/-- The memory of a new workspace, ahead of the workspace itself. -/
def treeMem (w : World) (p : Nat) (root : Int) : World := ((((((w.alloc (.map #[] 0)).alloc (.cells #[.func (.func 104) #[ptr p] #[], .map (some w.heap.size)] 219)).alloc (.map #[] 0)).alloc (.cells #[.func (.func 106) #[ptr p] #[], .map (some (w.heap.size + 2))] 223)).alloc (.map #[] 0)).alloc (.map #[] 0)).alloc (.cells #[ptr p, ptr (w.heap.size + 1), ptr (w.heap.size + 3), .int .i64 root, .string ⟨#[]⟩, .int .i64 2, .int .i64 root, .map (some (w.heap.size + 4)), .map (some (w.heap.size + 5))] 130)

set_option maxRecDepth 100000 in
set_option maxHeartbeats 1000000 in
theorem tnew_any (p : Nat) (root : Int) (w : World) : Calls Tryz.prog 62 #[.pointer (some ⟨p, 0, none⟩), .int .i64 root] w fun e w' => e = .returned (.pointer (some ⟨w.heap.size + 6, 0, none⟩)) ∧ w' = treeMem w p root := by
  have h1 := fun vs W => shF_new (.func 104) vs W
  have h2 := fun vs W => shD_new (.func 106) vs W
  have hmm := @run_makeMap Tryz.prog
  go_enter Tryz.func62, Tryz.ntmps62
  go_wp2_with (first
    | (go_at_call 103; refine Calls.mono (h1 _ _) ?_; rintro e w1 ⟨rfl, rfl⟩)
    | (go_at_call 105; refine Calls.mono (h2 _ _) ?_; rintro e w1 ⟨rfl, rfl⟩))
  go_ret
  exact ⟨rfl, rfl⟩

/-- A new workspace. -/
def wsMem (w : World) (p : Nat) (root : Int) : World := (treeMem w p root).alloc (.cells #[ptr (w.heap.size + 6), .pointer none, .pointer none, .pointer none, .pointer none, .pointer none, .pointer none, .pointer none, .pointer none] 99)

set_option maxRecDepth 100000 in
set_option maxHeartbeats 1000000 in
theorem checkout_walk (s p : Nat) (id : Int) (w : World) (hs : s < w.heap.size) (c0 : w.cell? ⟨s, 0, none⟩ = some (.pointer (some ⟨p, 0, none⟩))) (hk : Calls Tryz.prog 61 #[.pointer (some ⟨p, 0, none⟩), .int .i64 id] w fun e w' => e = .returned (.int .i64 2) ∧ Below w.heap.size w w') :
    Calls Tryz.prog 40 #[.pointer (some ⟨s, 0, none⟩), .int .i64 id] w fun e w' => ∃ w1, Below w.heap.size w w1 ∧ e = .returned (.tuple #[.pointer (some ⟨w1.heap.size + 7, 0, none⟩), .int .i64 0]) ∧ w' = wsMem w1 p id := by
  have htn := fun W => tnew_any p id W
  have hts : ∀ W, (treeMem W p id).heap.size = W.heap.size + 7 := fun W => by unfold treeMem; simp
  go_enter Tryz.func40, Tryz.ntmps40
  go_wp2_with (first
    | (go_at_call 61; refine hk.mono ?_; rintro e w1 ⟨rfl, hb1⟩; have d0 := ((bcell hb1).1 s 0 hs).trans c0; have hs1 := Nat.lt_of_lt_of_le hs hb1.size)
    | (go_at_call 62; refine Calls.mono (htn _) ?_; rintro e w2 ⟨rfl, rfl⟩))
  go_ret2
  exact ⟨w1, hb1, rfl, rfl⟩

/-! ### its memory -/
def wsB (n : Nat) : WB := ⟨n + 7, n + 6, n + 1, n + 3, n, n + 2, n + 4, n + 5⟩
def wsTags (tg : Tags) (n i : Nat) : Tags := fun k => if k < n then tg k else if k = n then (i, 2) else if k = n + 1 then (i, 1) else if k = n + 2 then (i, 3) else if k = n + 3 then (i, 1) else if k = n + 4 then (i, 4) else if k = n + 5 then (i, 5) else if k = n + 6 then (i, 1) else if k = n + 7 then (i, 0) else (0, 0)
theorem wsMem_size (w : World) (p : Nat) (id : Int) : (wsMem w p id).heap.size = w.heap.size + 8 := by unfold wsMem treeMem; simp
theorem wsMem_below (w : World) (p : Nat) (id : Int) : Below w.heap.size w (wsMem w p id) := by
  unfold wsMem treeMem
  exact (((((((((Below.refl w.heap.size w).alloc (Nat.le_refl _) _).alloc (by simp) _).alloc (by simp; omega) _).alloc (by simp; omega) _).alloc (by simp; omega) _).alloc (by simp; omega) _).alloc (by simp; omega) _).alloc (by simp; omega) _)
theorem wsMem_heap (w : World) (p : Nat) (id : Int) :
    (wsMem w p id).heap[w.heap.size]? = some (.map #[] 0) ∧ (wsMem w p id).heap[w.heap.size + 1]? = some (.cells #[.func (.func 104) #[ptr p] #[], .map (some w.heap.size)] 219 (0, 0)) ∧ (wsMem w p id).heap[w.heap.size + 2]? = some (.map #[] 0) ∧ (wsMem w p id).heap[w.heap.size + 3]? = some (.cells #[.func (.func 106) #[ptr p] #[], .map (some (w.heap.size + 2))] 223 (0, 0)) ∧ (wsMem w p id).heap[w.heap.size + 4]? = some (.map #[] 0) ∧ (wsMem w p id).heap[w.heap.size + 5]? = some (.map #[] 0) ∧
    (wsMem w p id).heap[w.heap.size + 6]? = some (.cells #[ptr p, ptr (w.heap.size + 1), ptr (w.heap.size + 3), .int .i64 id, .string ⟨#[]⟩, .int .i64 2, .int .i64 id, .map (some (w.heap.size + 4)), .map (some (w.heap.size + 5))] 130 (0, 0)) ∧ (wsMem w p id).heap[w.heap.size + 7]? = some (.cells #[ptr (w.heap.size + 6), .pointer none, .pointer none, .pointer none, .pointer none, .pointer none, .pointer none, .pointer none, .pointer none] 99 (0, 0)) := by
  unfold wsMem treeMem World.alloc
  simp only [Array.getElem?_push, Array.size_push]
  refine ⟨?_, ?_, ?_, ?_, ?_, ?_, ?_, ?_⟩
  · rw [if_neg (by omega), if_neg (by omega), if_neg (by omega), if_neg (by omega), if_neg (by omega), if_neg (by omega), if_neg (by omega), if_pos trivial]
  all_goals simp

/-- A workspace of which nothing has been touched. -/
def wg0 (id : Int) (got : List Int) : WG := ⟨id, ⟨id, fun _ => none, fun _ => none⟩, ⟨got, false, fun _ => false, fun _ => false⟩, fun _ => none, fun _ => none⟩

section
variable {s i p : Nat} {objs : List Ob}

theorem new_ws {tg : Tags} {w : World} {got : List Int} {lim : Nat} (h : SInv tg w s p objs got false lim) (hi : 2 ≤ i) {id : Int} (hk : kindOf objs id = 2) :
    Moves (fun _ => False) tg (wsTags tg w.heap.size i) w (wsMem w p id) ∧ WInv (wsTags tg w.heap.size i) (wsMem w p id) s i p (wsB w.heap.size) objs (wg0 id got) lim := by
  have hb := wsMem_below w p id
  obtain ⟨b0, b1, b2, b3, b4, b5, b6, b7⟩ := wsMem_heap w p id
  have ht : ∀ k, k < w.heap.size → wsTags tg w.heap.size i k = tg k := fun k hk => by unfold wsTags; rw [if_pos hk]
  have m : Moves (fun _ => False) tg (wsTags tg w.heap.size i) w (wsMem w p id) := ⟨hb.os, hb.tape, hb.output, hb.size, ht, fun k hk _ => hb.block k hk, fun hf k hk => by
    rw [wsMem_size] at hk
    unfold wsTags
    rw [if_neg (by omega), if_neg (by omega), if_neg (by omega), if_neg (by omega), if_neg (by omega), if_neg (by omega), if_neg (by omega), if_neg (by omega), if_neg (by omega)]⟩
  have t0 : wsTags tg w.heap.size i w.heap.size = (i, 2) := by unfold wsTags; simp
  have t1 : wsTags tg w.heap.size i (w.heap.size + 1) = (i, 1) := by unfold wsTags; rw [if_neg (by omega)]; simp
  have t2 : wsTags tg w.heap.size i (w.heap.size + 2) = (i, 3) := by unfold wsTags; rw [if_neg (by omega)]; simp
  have t3 : wsTags tg w.heap.size i (w.heap.size + 3) = (i, 1) := by unfold wsTags; rw [if_neg (by omega)]; simp
  have t4 : wsTags tg w.heap.size i (w.heap.size + 4) = (i, 4) := by unfold wsTags; rw [if_neg (by omega)]; simp
  have t5 : wsTags tg w.heap.size i (w.heap.size + 5) = (i, 5) := by unfold wsTags; rw [if_neg (by omega)]; simp
  have t6 : wsTags tg w.heap.size i (w.heap.size + 6) = (i, 1) := by unfold wsTags; rw [if_neg (by omega)]; simp
  have t7 : wsTags tg w.heap.size i (w.heap.size + 7) = (i, 0) := by unfold wsTags; rw [if_neg (by omega)]; simp
  refine ⟨m, hi, h.moves m (fun x => x) (fun x => x), ⟨⟨t6, t1, t3, b6, b1, b3⟩, ⟨t0, 0, fun _ => none, Nat.zero_le _, vmap_at b0, fun id => rfl, fun id hx => by cases hx⟩, ⟨t2, 0, fun _ => none, fun _ => .slice none 0 0, Nat.zero_le _, vmap_at b2, fun id => rfl, fun id hx => by cases hx⟩, ⟨t4, ⟨0, Nat.zero_le _, fun _ => none, vmap_at b4, fun _ _ => rfl, fun kl _ hx => absurd rfl hx⟩, fun q f hx => by cases hx⟩, ⟨fun _ => .slice none 0 0, t5, ⟨0, Nat.zero_le _, fun _ => none, vmap_at b5, fun _ _ => rfl, fun kl _ hx => absurd rfl hx⟩, fun q es hx => (by cases hx), fun q es hx => (by cases hx), fun q r es fs gg hx => (by cases hx)⟩, fun f id d hx => (by cases hx), fun q f hx => (by cases hx), ⟨t7, b7, fun k hk => rfl, fun k b f fg pl hx => (by cases hx), fun k l x y hx => (by cases hx)⟩, ⟨fun _ => hk, fun q es hx => (by cases hx)⟩⟩⟩

theorem stored_at (objs : List Ob) : ∀ (q : List ByteArray) (id : Int), odOf ((LT.dir id).at objs q) = none ∧ ofOf ((LT.dir id).at objs q) = none
  | [], id => by rw [at_nil]; exact ⟨rfl, rfl⟩
  | n :: r, id => by
    rw [at_cons]
    show odOf ((pickK ((entsOf objs id).map kidOf) n).bind _) = none ∧ ofOf ((pickK ((entsOf objs id).map kidOf) n).bind _) = none
    cases hp : pickK ((entsOf objs id).map kidOf) n with
    | none => exact ⟨rfl, rfl⟩
    | some c =>
      obtain ⟨e, _, he⟩ := List.mem_map.1 (pick_mem hp)
      have hc : c = ltOf e := by unfold kidOf at he; exact (Prod.mk.inj he).2.symm
      rw [Option.bind_some, hc]
      unfold ltOf
      split
      · exact stored_at objs r _
      · cases r with
        | nil => rw [at_nil]; exact ⟨rfl, rfl⟩
        | cons m r => rw [at_cons]; exact ⟨rfl, rfl⟩
theorem new_flat (id : Int) (got : List Int) : Flat objs (.dir id) (wg0 id got).ft := ⟨rfl, rfl, fun q => (stored_at objs q id).1.symm, fun q => (stored_at objs q id).2.symm⟩
end
end Go.Proofs.YtajopoddmfdejaaGreat

namespace Go.Proofs.YtajopoddmfdejaaGreat
open Go.RowKit Go.Sort Go.Shelf
set_option linter.unusedVariables false

theorem own_find_some {objs : List Ob} {ks : Kids} {fs : FS} {n : ByteArray} {c : LT} (h : pickK ks n = some c) : findR objs (.own ks) fs [n] = (fs, 0, c) := by
  simp [findR, kidsG, h]
theorem own_find_none {objs : List Ob} {ks : Kids} {fs : FS} {n : ByteArray} (h : pickK ks n = none) : findR objs (.own ks) fs [n] = (fs, 4, .dir 0) := by
  simp [findR, kidsG, h]
theorem own_look (objs : List Ob) (ks : Kids) (fs : FS) : lookR objs (.own ks) fs [] = (fs, 0, ks) := rfl
theorem own_mod (objs : List Ob) (f : Kids → Kids) (ks : Kids) : modG objs f [] (.own ks) = .own (f ks) := rfl

theorem own_remove {objs : List Ob} {ks : Kids} {fs : FS} {n : ByteArray} {f : Nat} (h : pickK ks n = some (.held f)) : removeR objs (.own ks) fs [n] = (fs, 0, .own (dropK ks n)) := by
  unfold removeR
  simp only [own_find_some h]
  simp [vacantG, LT.kind, own_mod]

theorem own_rename {objs : List Ob} {ks : Kids} {fs : FS} {n m : ByteArray} {f : Nat} (h : pickK ks n = some (.held f)) (hnm : n ≠ m) (hm : pickK ks m = none ∨ ∃ f2, pickK ks m = some (.held f2)) : renameR objs (.own ks) fs [n] [m] = (fs, 0, .own (putK (dropK ks n) m (.held f))) := by
  have hroom : roomG objs fs (decide (([] : List ByteArray) = [])) ks m (.held f) = (fs, 0) := by
    rcases hm with hm | ⟨f2, hm⟩
    · unfold roomG; rw [hm]; simp
    · unfold roomG; rw [hm]; simp [yieldsG, LT.kind, vacantG]
  have hh : hgt objs 5 (.held f) = 0 := by unfold hgt; rfl
  simp only [decide_true] at hroom
  simp [renameR, own_find_some h, own_look, hnm, hroom, hh, own_mod]

theorem rising_nodup {ks : Kids} (hr : RisingK ks) : (ks.map (·.1)).Nodup := by
  unfold List.Nodup
  rw [List.pairwise_map]
  exact hr.imp (fun {x y} h e => by rw [e] at h; exact absurd h (by rw [cmpN_self]; omega))

theorem nodup_len {α : Type} [DecidableEq α] : ∀ (l m : List α), l.Nodup → (∀ x ∈ l, x ∈ m) → l.length ≤ m.length
  | [], m, _, _ => Nat.zero_le _
  | x :: r, m, hn, hs => by
    have h1 := List.nodup_cons.1 hn
    have hx := hs x (by simp)
    have := nodup_len r (m.erase x) h1.2 (fun y hy => by
      have hne : y ≠ x := fun e => h1.1 (e ▸ hy)
      exact (List.mem_erase_of_ne hne).2 (hs y (by simp [hy])))
    rw [List.length_erase_of_mem hx] at this
    have hpos := List.length_pos_of_mem hx
    simp only [List.length_cons]
    omega

theorem root_few {ks : Kids} (hr : RisingK ks) (h : ∀ x ∈ ks, x.1 ∈ letters ∨ x.1 = nameE) : ks.length ≤ 5 := by
  have hn : (ks.map (·.1)).Nodup := rising_nodup hr
  have := nodup_len (ks.map (·.1)) (nameE :: letters) hn (fun x hx => by
    obtain ⟨y, hy, rfl⟩ := List.mem_map.1 hx
    rcases h y hy with h | h
    · exact List.mem_cons_of_mem _ h
    · rw [h]; exact List.mem_cons_self)
  simpa [letters] using this
end Go.Proofs.YtajopoddmfdejaaGreat
