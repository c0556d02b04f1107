/-
  What is proved here: 'forget': what was the tree's own at a path is so no more. a directory of the tree's own gets another slice of entries: in the same memory, or in new memory. 'take': what stands under a name stands there no more.
-/
import Derived.Test.YtajopoddmfdejaaGreatNearM18
namespace Go.Proofs.YtajopoddmfdejaaGreat
open Go.RowKit Go.Sort Go.Shelf
set_option linter.unusedVariables false

section
variable {s i p : Nat} {B : WB} {objs : List Ob}

theorem drop_files {tg : Tags} {w : World} {g : WG} {lim : Nat} (h : WInv tg w s i p B objs g lim) {q : List ByteArray} (hq : Good q) (ty : TypeId) :
    ∃ w', (Builtin.delete_ #[127, 104] ty #[.map (some B.oF), .agg (pathA q)]).run Tryz.prog w = .ok (.tuple #[]) w' ∧ Moves (fun t => t = (i, 4)) tg tg w w' ∧ w.grownBy w' (some B.oF) ∧ w'.heap.size = w.heap.size ∧ B.oF < w.heap.size ∧ WInv tg w' s i p B objs { g with ft := { g.ft with of := upd g.ft.of q none } } lim := by
  have hi := h.two
  obtain ⟨ht, ⟨n, hn, hm⟩, hg⟩ := h.wp.ownF
  obtain ⟨w', hrun, hm', hgr, hs⟩ := hm.drop hq Tryz.underlying127 ty
  have m : Moves (fun t => t = (i, 4)) tg tg w w' := moves_grown hgr hs ht
  have hp := h.wp
  obtain ⟨vD, hD⟩ := hp.ownD
  refine ⟨w', hrun, m, hgr, hs, hm.lt, h.two, h.st.moves m (fun e => by cases e) (fun e => by cases e), ⟨hp.tree.moves m (fun e => by cases e), hp.keptF.moves m (fun e => by cases e), hp.keptD.moves m (fun e => by cases e), ⟨ht, ⟨n, hn, hm'.congr (fun x hx => ?_)⟩, fun x f hx => ?_⟩, ⟨vD, hD.moves m (fun e => by cases e)⟩, hp.files.moves m (fun e => by cases e), fun x f hx => ?_, hp.opens.moves m (fun e => by cases e) (fun e => by cases e), ⟨hp.ok.root, hp.ok.od⟩⟩⟩
  · show upd (fun y => (g.ft.of y).map ptr) q none x = Option.map ptr (upd g.ft.of q none x)
    by_cases e : x = q
    · subst e; rw [upd_same, upd_same]; rfl
    · rw [upd_other e, upd_other e]
  · by_cases e : x = q
    · subst e
      have hx' : upd g.ft.of x none x = some f := hx
      rw [upd_same] at hx'; cases hx'
    · have hx' : upd g.ft.of q none x = some f := hx
      rw [upd_other e] at hx'; exact hg x f hx'
  · by_cases e : x = q
    · subst e
      have hx' : upd g.ft.of x none x = some f := hx
      rw [upd_same] at hx'; cases hx'
    · have hx' : upd g.ft.of q none x = some f := hx
      rw [upd_other e] at hx'; exact hp.held x f hx'

theorem drop_dirs {tg : Tags} {w : World} {g : WG} {lim : Nat} {vD : List ByteArray → Value} (h : WInv tg w s i p B objs g lim) (hD : OwnDV tg w i B g.ft.od lim vD) {q : List ByteArray} (hq : Good q) (ty : TypeId) :
    ∃ w', (Builtin.delete_ #[128, 104] ty #[.map (some B.oD), .agg (pathA q)]).run Tryz.prog w = .ok (.tuple #[]) w' ∧ Moves (fun t => t = (i, 5)) tg tg w w' ∧ WInv tg w' s i p B objs { g with ft := { g.ft with od := upd g.ft.od q none } } lim ∧ OwnDV tg w' i B (upd g.ft.od q none) lim vD := by
  obtain ⟨n, hn, hm⟩ := hD.map
  obtain ⟨w', hrun, hm', hgr, hs⟩ := hm.drop hq Tryz.underlying128 ty
  obtain ⟨e0, ck, hb⟩ := hm.isMap
  have m : Moves (fun t => t = (i, 5)) tg tg w w' := moves_grown hgr hs hD.tag
  have hsub : ∀ x es, upd g.ft.od q none x = some es → g.ft.od x = some es := fun x es hx => by
    by_cases e : x = q
    · subst e; rw [upd_same] at hx; cases hx
    · rw [upd_other e] at hx; exact hx
  have hD' : OwnDV tg w' i B (upd g.ft.od q none) lim vD := by
    refine ⟨hD.tag, ⟨n, hn, hm'.congr (fun x hx => ?_)⟩, fun x es hx => hD.good x es (hsub x es hx), fun x es hx => (hD.row x es (hsub x es hx)).keep_map hb hgr, fun x y ex ey gb hx hy h1 h2 => hD.inj x y ex ey gb (hsub x ex hx) (hsub y ey hy) h1 h2⟩
    by_cases e : x = q
    · subst e; rw [upd_same, upd_same]; rfl
    · rw [upd_other e, upd_other e]
  exact ⟨w', hrun, m, h.od m (Nat.le_refl _) hD' (fun x es hx => h.wp.ok.od x es (hsub x es hx)), hD'⟩

set_option maxRecDepth 100000 in
set_option maxHeartbeats 1000000 in
theorem forget_any {tg : Tags} {w : World} {g : WG} {lim : Nat} {vD : List ByteArray → Value} (h : WInv tg w s i p B objs g lim) (hD : OwnDV tg w i B g.ft.od lim vD) {q : List ByteArray} (hq : Good q) :
    Calls Tryz.prog 89 #[.pointer (some ⟨B.bt, 0, none⟩), .agg (pathA q)] w fun en w' => en = .returned (.tuple #[]) ∧ Moves (Mine i) tg tg w w' ∧ WInv tg w' s i p B objs { g with ft := forgetF g.ft q } lim ∧ OwnDV tg w' i B (upd g.ft.od q none) lim vD := by
  have hb0 := below_drew ((Below.refl w.heap.size w).alloc (Nat.le_refl _) (.cells (pathA q) 104))
  have hW0 := h.below hb0
  have hD0 := hD.moves (Moves.of_below (P := fun _ => False) hb0) (fun x => x)
  obtain ⟨w1, hrun1, m1, hg1, hs1, hoF, hW1⟩ := drop_files hW0 hq 0
  have hD1 : OwnDV tg w1 i B g.ft.od lim vD := hD0.moves m1 (fun e => by cases e)
  obtain ⟨w2, hrun2, m2, hW2, hD2⟩ := drop_dirs (hW1.below (below_drew (Below.refl _ _))) (hD1.moves (Moves.of_below (P := fun _ => False) (below_drew (Below.refl _ _))) (fun x => x)) hq 0
  obtain ⟨ht, c8, c7, _, _⟩ := h.wp.tree.cells
  obtain ⟨ht1, c81, _, _, _⟩ := hW1.wp.tree.cells
  have hne : w.heap.size ≠ B.oF := by
    obtain ⟨_, ⟨n, _, hm⟩, _⟩ := h.wp.ownF
    have := hm.lt; omega
  have k1 : ∀ o, w1.cell? ⟨w.heap.size, o, none⟩ = ((w.alloc (.cells (pathA q) 104)).drew).cell? ⟨w.heap.size, o, none⟩ := out_cell (c := w.heap.size) hg1 (by simp [World.drew]) hne
  have HR : Hid (Moves (Mine i) tg tg w w2 ∧ WInv tg w2 s i p B objs { g with ft := forgetF g.ft q } lim ∧ OwnDV tg w2 i B (upd g.ft.od q none) lim vD) := ⟨(Moves.of_below hb0).trans ((m1.mono (fun t ht => (Or.inr (by rw [ht]) : Mine i t))).trans ((Moves.of_below (below_drew (Below.refl _ _))).trans (m2.mono (fun t ht => (Or.inr (by rw [ht]) : Mine i t))))), hW2, hD2⟩
  obtain ⟨s0, s1, s2, s3, s4, hP⟩ : ∃ s0 s1 s2 s3 s4, pathA q = #[.string s0, .string s1, .string s2, .string s3, .string s4] := ⟨_, _, _, _, _, rfl⟩
  rw [hP] at hrun1 hrun2 k1 hb0 ⊢
  clear h hD hW0 hD0 hW1 hD1 hW2 hD2 m1 m2 hb0 hg1
  go_enter Tryz.func89, Tryz.ntmps89
  go_wp2
  go_region
  all_goals
    go_wp2
    go_region
    all_goals
      go_wp2
      exact bodyPost_end (v := .tuple #[]) (by simp [results, Tryz.results89, go_sem]) rfl ⟨rfl, HR.out⟩
end

end Go.Proofs.YtajopoddmfdejaaGreat

namespace Go.Proofs.YtajopoddmfdejaaGreat
open Go.RowKit Go.Sort Go.Shelf
set_option linter.unusedVariables false

section
variable {s i p : Nat} {B : WB} {objs : List Ob}

theorem own_swap {tg : Tags} {w W6 W : World} {g : WG} {lim : Nat} {vD : List ByteArray → Value} (h : WInv tg w s i p B objs g lim) (hD : OwnDV tg w i B g.ft.od lim vD) (hl : lim < maxLen) {q : List ByteArray} {es es' : List Ent} (ho : g.ft.od q = some es) (hg : w.grownBy W6 (vD q).ownBlock) {v6 : Value}
    (hrow : W6.ownsRow 0 76 3 v6 es'.length (flat es')) (hloc : v6.ownBlock = (vD q).ownBlock ∨ ∀ gb, v6.ownBlock = some gb → w.heap.size ≤ gb) (hE : Ents objs es') (hb : Below W6.heap.size W6 W) :
    ∃ w7 tg7, (Instr.mapUpdate 128 (.map (some B.oD)) (.agg (pathA q)) v6).run Tryz.prog W = .ok () w7 ∧ Moves (Mine i) tg tg7 w w7 ∧
      WInv tg7 w7 s i p B objs { g with ft := { g.ft with od := upd g.ft.od q (some es') } } (lim + 1) ∧ OwnDV tg7 w7 i B (upd g.ft.od q (some es')) (lim + 1) (upd vD q v6) := by
  have hi := h.two
  have hq := (hD.good q es ho).1
  have hrq := hD.row q es ho
  obtain ⟨n, hn, hm⟩ := hD.map
  obtain ⟨e0, ck, hmap⟩ := hm.isMap
  have hnoD : some B.oD ≠ (vD q).ownBlock := owns_ne_map hrq.1 hmap
  have hm6 : W6.heap[B.oD]? = w.heap[B.oD]? := hg.block _ hm.lt hnoD
  have hW : W.heap[B.oD]? = w.heap[B.oD]? := (hb.block _ (Nat.lt_of_lt_of_le hm.lt hg.size)).trans hm6
  obtain ⟨w7, hrun, hm7, hg7, hs7⟩ := (hm.keep hW).store hq (Nat.lt_of_le_of_lt hn hl) Tryz.underlying128 v6
  have hmapW : W.heap[B.oD]? = some (.map e0 ck) := hW.trans hmap
  have tagk : ∀ k, (tg k).1 ≠ 0 → tagOf tg v6 (i, 5) k = tg k := fun k hk => by
    by_cases e : v6.ownBlock = some k
    · rw [tagOf_same e]
      rcases hloc with h1 | h1
      · exact (hrq.2 k (h1 ▸ e)).symm
      · rw [h.st.fresh k (h1 k e)] at hk; exact absurd rfl hk
    · exact tagOf_other e _
  have tagl : ∀ k, k < w.heap.size → tagOf tg v6 (i, 5) k = tg k := fun k hk => by
    by_cases e : v6.ownBlock = some k
    · rw [tagOf_same e]
      rcases hloc with h1 | h1
      · exact (hrq.2 k (h1 ▸ e)).symm
      · have := h1 k e; omega
    · exact tagOf_other e _
  have hf7 : Fresh (tagOf tg v6 (i, 5)) w7 := fun k hk => by
    have h6 : W6.heap.size ≤ k := Nat.le_trans hb.size (by omega)
    rw [tagOf_other (fun e => by have := ownsRow_lt hrow e; omega)]
    exact h.st.fresh k (Nat.le_trans hg.size h6)
  have m : Moves (fun t => t = (i, 5)) tg (tagOf tg v6 (i, 5)) w w7 := by
    refine ⟨hg7.os.trans (hb.os.trans hg.os), hg7.tape.trans (hb.tape.trans hg.tape), hg7.output.trans (hb.output.trans hg.output), Nat.le_trans hg.size (Nat.le_trans hb.size hg7.size), tagl, fun k hk hn => ?_, fun _ => hf7⟩
    have k6 : k < W6.heap.size := Nat.lt_of_lt_of_le hk hg.size
    rw [hg7.block k (Nat.lt_of_lt_of_le k6 hb.size) (fun e => hn (by cases e; exact hD.tag)), hb.block k k6, hg.block k hk (fun e => hn (hrq.2 k e.symm))]
  have hD7 : OwnDV (tagOf tg v6 (i, 5)) w7 i B (upd g.ft.od q (some es')) (lim + 1) (upd vD q v6) := by
    have hrow7 : RowT (tagOf tg v6 (i, 5)) w7 (i, 5) v6 es' := by
      refine ⟨ownsRow_keep hrow (fun g' hg' => ?_), fun gb hgb => tagOf_same hgb _⟩
      have hl6 := ownsRow_lt hrow hg'
      rw [hg7.block g' (Nat.lt_of_lt_of_le hl6 hb.size) (fun e => ?_), hb.block g' hl6]
      have e' : g' = B.oD := by injection e
      rw [e'] at hg'
      exact owns_ne_map hrow (hm6.trans hmap) hg'.symm
    refine ⟨(tagl _ hm.lt).trans hD.tag, ⟨n + 1, by omega, hm7.congr (fun x hx => ?_)⟩, fun x fs hx => ?_, fun x fs hx => ?_, fun x y fs fs' gb hx hy h1 h2 => ?_⟩
    · by_cases e : x = q
      · subst e; rw [upd_same, upd_same, upd_same]; rfl
      · rw [upd_other e, upd_other e, upd_other e]
    · by_cases e : x = q
      · subst e
        rw [upd_same] at hx
        cases hx
        exact ⟨hq, hE.rising, hE.len, fun e he => ⟨(hE.ok e he).1, (hE.ok e he).2.1⟩⟩
      · rw [upd_other e] at hx; exact hD.good x fs hx
    · by_cases e : x = q
      · subst e
        rw [upd_same] at hx ⊢
        cases hx
        exact hrow7
      · rw [upd_other e] at hx ⊢
        have hr := hD.row x fs hx
        refine hr.keep (fun g' hg' hl' => ⟨?_, tagl g' hl'⟩)
        have k6 : g' < W6.heap.size := Nat.lt_of_lt_of_le hl' hg.size
        rw [hg7.block g' (Nat.lt_of_lt_of_le k6 hb.size) (fun e2 => ?_), hb.block g' k6, hg.block g' hl' (fun e2 => ?_)]
        · exact e (hD.inj x q fs es g' hx ho hg' e2.symm)
        · have e' : g' = B.oD := by injection e2
          rw [e'] at hg'
          exact owns_ne_map hr.1 hmap hg'.symm
    · have apart : ∀ z fz, z ≠ q → g.ft.od z = some fz → (vD z).ownBlock = some gb → v6.ownBlock = some gb → False := fun z fz hz hoz hbz hb6 => by
        rcases hloc with h3 | h3
        · exact hz (hD.inj z q fz es gb hoz ho hbz (h3 ▸ hb6))
        · have hlz := ownsRow_lt (hD.row z fz hoz).1 hbz
          have := h3 gb hb6
          omega
      by_cases e : x = q
      · by_cases e' : y = q
        · rw [e, e']
        · subst e
          rw [upd_same] at h1
          rw [upd_other e'] at hy h2
          exact (apart y fs' e' hy h2 h1).elim
      · by_cases e' : y = q
        · subst e'
          rw [upd_same] at h2
          rw [upd_other e] at hx h1
          exact (apart x fs e hx h1 h2).elim
        · rw [upd_other e] at hx h1
          rw [upd_other e'] at hy h2
          exact hD.inj x y fs fs' gb hx hy h1 h2
  refine ⟨w7, tagOf tg v6 (i, 5), hrun, m.mono (fun t ht => (Or.inr (by rw [ht]) : Mine i t)), h.od m (Nat.le_succ _) hD7 (fun x fs hx => ?_), hD7⟩
  by_cases e : x = q
  · subst e
    rw [upd_same] at hx
    cases hx
    exact fun e he => (hE.ok e he).2
  · rw [upd_other e] at hx
    exact h.wp.ok.od x fs hx
end

end Go.Proofs.YtajopoddmfdejaaGreat

namespace Go.Proofs.YtajopoddmfdejaaGreat
open Go.RowKit Go.Sort Go.Shelf
set_option linter.unusedVariables false

theorem del_any {w : World} {gb n c k : Nat} {es : List Ent} (hrow : w.ownsRow 0 76 3 (.slice (some ⟨gb, 0, none⟩) n c) n (flat es)) (hn : es.length = n) (hk : k < n) :
    Calls Tryz.prog 127 #[.slice (some ⟨gb, 0, none⟩) n c, .int .i64 (k : Int), .int .i64 ((k : Int) + 1)] w fun e w' => e = .returned (.slice (some ⟨gb, 0, none⟩) (n - 1) c) ∧
      w'.ownsRow 0 76 3 (.slice (some ⟨gb, 0, none⟩) (n - 1) c) (n - 1) (flat (es.eraseIdx k)) ∧ w.grownBy w' (some gb) ∧ w'.heap.size = w.heap.size := by
  rcases hrow.2 with ⟨e, _⟩ | ⟨g', c', cur, e, _, hg, hnc, hcm, hcs, ht⟩
  · cases e
  · cases e
    refine (del_walk gb n c k es cur w hg hn hk hnc hcm hcs ht).mono ?_
    rintro e w' ⟨rfl, cur', hg', hs', ht', hgr, hsz⟩
    refine ⟨rfl, ⟨?_, .inr ⟨gb, c, cur', rfl, Nat.zero_le _, hg', by omega, hcm, hs', ht'⟩⟩, hgr, hsz⟩
    rw [flat_len, List.length_eraseIdx_of_lt (by omega), hn]

theorem alloc_size {w w1 : World} {o1 : Obj} (h : Below (w.alloc o1).heap.size (w.alloc o1) w1) : w.heap.size < w1.heap.size := by
  have h2 := h.size
  rw [World.size_alloc] at h2
  omega

theorem lt_alloc {w : World} {a : Nat} (h : a < w.heap.size) (o : Obj) : a < (w.alloc o).heap.size := by rw [World.size_alloc]; omega
theorem self_alloc (w : World) (o : Obj) : w.heap.size < (w.alloc o).heap.size := by rw [World.size_alloc]; omega

theorem tag_ne {tg : Tags} {a b : Nat} {t t' : Nat × Nat} (h1 : tg a = t) (h2 : tg b = t') (hne : t ≠ t') : a ≠ b := fun e => hne (h1.symm.trans (e ▸ h2))
theorem ne15 (i : Nat) : ((i, 1) : Nat × Nat) ≠ (i, 5) := fun h => by cases h
theorem ne05 (i : Nat) : ((0, 0) : Nat × Nat) ≠ (i, 5) := fun h => by cases h

theorem own_same {v : Value} {gb n c : Nat} (h : v = .slice (some ⟨gb, 0, none⟩) n c) (n' c' : Nat) : (Value.slice (some ⟨gb, 0, none⟩) n' c').ownBlock = v.ownBlock := by subst h; rfl
theorem own_grown {v : Value} {w w' : World} {gb n c : Nat} (h : v = .slice (some ⟨gb, 0, none⟩) n c) (hg : w.grownBy w' (some gb)) : w.grownBy w' v.ownBlock := by subst h; exact hg

theorem ents_drop {objs : List Ob} {es : List Ent} (h : Ents objs es) (n : ByteArray) : Ents objs (dropK es n) :=
  ⟨by unfold dropK; exact List.Pairwise.sublist (List.eraseIdx_sublist _ _) h.rising, by unfold dropK; exact Nat.le_trans (List.length_eraseIdx_le _ _) h.len, fun e he => h.ok e (dropK_mem he)⟩

section
variable {s i p : Nat} {B : WB} {objs : List Ob}

theorem take_end {tg : Tags} {w w6 : World} {g : WG} {lim : Nat} {vD : List ByteArray → Value} {q : List ByteArray} {es : List Ent} {nm : ByteArray} {gb n c ix : Nat} (h : WInv tg w s i p B objs g lim) (hD : OwnDV tg w i B g.ft.od lim vD) (hl : lim < maxLen) (ho : g.ft.od q = some es) (hgb : vD q = .slice (some ⟨gb, 0, none⟩) n c) (hth : thereK es nm = true) (hix : idxK es nm = ix) (hE : Ents objs es)
    (hrow : w6.ownsRow 0 76 3 (.slice (some ⟨gb, 0, none⟩) (es.length - 1) c) (es.length - 1) (flat (es.eraseIdx ix))) (hg : w.grownBy w6 (some gb)) :
    ∃ w7 tg7, (Instr.mapUpdate 128 (.map (some B.oD)) (.agg (pathA q)) (.slice (some ⟨gb, 0, none⟩) (es.length - 1) c)).run Tryz.prog w6 = .ok () w7 ∧ Moves (Mine i) tg tg7 w w7 ∧
      WInv tg7 w7 s i p B objs { g with ft := { g.ft with od := upd g.ft.od q (some (dropK es nm)) } } (lim + 1) ∧ OwnDV tg7 w7 i B (upd g.ft.od q (some (dropK es nm))) (lim + 1) (upd vD q (.slice (some ⟨gb, 0, none⟩) (es.length - 1) c)) := by
  refine own_swap h hD hl ho (own_grown hgb hg) ?_ (.inl (own_same hgb _ _)) (ents_drop hE nm) (Below.refl _ _)
  rw [dropK_length hth]
  unfold dropK
  rw [hix]
  exact hrow

set_option maxRecDepth 100000 in
set_option maxHeartbeats 4000000 in
theorem take_any {tg : Tags} {w : World} {g : WG} {lim : Nat} {K : List ByteArray → List Ent} {vD : List ByteArray → Value} (h : WInv tg w s i p B objs g lim) (hD : OwnDV tg w i B g.ft.od lim vD) (hl : lim + 300 < 1099511627776) {q : List ByteArray} {n : ByteArray} (hp : Good (q ++ [n])) (hway : OwnWay objs g.fs g.ft K q) (hE : Ents objs (K q)) (hth : thereK (K q) n = true) :
    Calls Tryz.prog 85 #[.pointer (some ⟨B.bt, 0, none⟩), .agg (pathA (q ++ [n]))] w fun en w' => en = .returned (.tuple #[]) ∧ ∃ tg' vD', Moves (Mine i) tg tg' w w' ∧
      WInv tg' w' s i p B objs { g with ft := takeF objs g.fs g.ft q n } (lim + 150) ∧ OwnDV tg' w' i B (takeF objs g.fs g.ft q n).od (lim + 150) vD' := by
  have hq : Good q := by have := hp.dropLast; rwa [List.dropLast_concat] at this
  have hq4 : q.length ≤ 4 := by have := hp.len; simp at this; omega
  obtain ⟨m1, m2, m3, m4⟩ := claim_at hway
  have htk : takeF objs g.fs g.ft q n = { claimF objs g.fs g.ft q.reverse with od := upd (claimF objs g.fs g.ft q.reverse).od q (some (dropK (K q) n)) } := by
    unfold takeF; simp only [m3, Option.getD_some]
  rw [htk]
  have hcl := fun W (hb : Below w.heap.size w W) => claim_all (s := s) (i := i) (p := p) (B := B) (objs := objs) q.reverse tg W g lim K vD (h.below hb) (hD.moves (Moves.of_below (P := fun _ => False) hb) (fun x => x)) (by rw [List.length_reverse]; omega) (by rw [List.reverse_reverse]; exact hq) (by rw [List.reverse_reverse]; exact hway)
  rw [List.reverse_reverse, List.length_reverse] at hcl
  have hpar := fun W => parent_any (q ++ [n]) hp W
  have hname := fun W => name_any (q ++ [n]) hp (by simp) W
  rw [List.dropLast_concat] at hpar
  simp only [List.getLast_concat] at hname
  obtain ⟨s0, s1, s2, s3, s4, hP⟩ : ∃ s0 s1 s2 s3 s4, pathA (q ++ [n]) = #[.string s0, .string s1, .string s2, .string s3, .string s4] := ⟨_, _, _, _, _, rfl⟩
  obtain ⟨r0, r1, r2, r3, r4, hP'⟩ : ∃ s0 s1 s2 s3 s4, pathA q = #[.string s0, .string s1, .string s2, .string s3, .string s4] := ⟨_, _, _, _, _, rfl⟩
  unfold pathV at hpar hname
  simp only [hP, hP'] at hpar hname hcl
  rw [hP]
  obtain ⟨hix, hnm⟩ := there_at hth
  have h16 := hE.len
  have hi := h.two
  have hlm : lim + 20 * (q.length + 1) < maxLen := by unfold maxLen; omega
  generalize hixe : idxK (K q) n = ix at hix
  have HIX : Hid (idxK (K q) n = ix) := hixe
  have HP' : Hid _ := hP'
  have H0 : Hid _ := h
  have HCL : Hid _ := hcl
  have HOD : Hid _ := m3
  have HE : Hid _ := hE
  have HTH : Hid _ := hth
  have hfr0 := h.st.fresh
  have HFR : Hid _ := hfr0
  clear hixe h hD hcl m1 m2 m3 m4 hE hth hP hP' hway htk hnm hfr0
  go_enter Tryz.func85, Tryz.ntmps85
  go_wp2_with (first
    | (go_at_call 76; refine (hpar _).mono ?_; rintro e w1 ⟨rfl, hb1⟩; have hz1 := alloc_size hb1; have k1 := fun o => (bcell hb1).1 w.heap.size o (by simp); have b1 := below_via ((Below.refl w.heap.size w).alloc (Nat.le_refl _) _) hb1)
    | (go_at_call 123; go_loud (refine (HCL.out _ (b1.alloc b1.size _)).mono ?_; rintro e w3 ⟨v3, rfl, tg3, vD3, mv3, hW3, hD3, hv3, hq3⟩; have kb0 := kept_cell (b := w.heap.size) hi mv3 (lt_alloc hz1 _) (HFR.out _ (Nat.le_refl _)); have kb1 := kept_cell (b := w1.heap.size) hi mv3 (self_alloc _ _) (HFR.out _ (Nat.le_of_lt hz1)); have tz1 : tg3 w1.heap.size = (0, 0) := (mv3.tags _ (self_alloc _ _)).trans (HFR.out _ (Nat.le_of_lt hz1)); have hsz3 : w1.heap.size < w3.heap.size := Nat.lt_of_lt_of_le (self_alloc _ _) mv3.size; have hr8 := hD3.row _ _ HOD.out; obtain ⟨gb, cc, hgb⟩ := slice_of_owns hr8.1 (by omega); rw [hgb] at hv3 hr8; subst hv3; have hgl : gb < w3.heap.size := ownsRow_lt hr8.1 rfl; obtain ⟨ht3, c83, _, _, _⟩ := hW3.wp.tree.cells; have hnb := tag_ne hW3.wp.tree.tt (hr8.2 gb rfl) (ne15 i); have hnp := tag_ne tz1 (hr8.2 gb rfl) (ne05 i); have HW3 : Hid _ := hW3; have HM3 : Hid _ := mv3; have HD3 : Hid _ := hD3; have HR8 : Hid _ := hr8; have HG8 : Hid _ := hgb; have HQ3 : Hid _ := hq3; clear hW3 mv3 hD3 hr8 hgb hq3))
    | (go_at_call 78; refine (hname _).mono ?_; rintro e w4 ⟨rfl, hb4⟩; have hz4 : w1.heap.size < w4.heap.size := Nat.lt_of_lt_of_le hsz3 hb4.size; have k4 : ∀ o, w4.cell? ⟨w1.heap.size, o, none⟩ = w3.cell? ⟨w1.heap.size, o, none⟩ := fun o => (bcell hb4).1 _ o hsz3; have d4 : w4.cell? ⟨B.bt, 8, none⟩ = w3.cell? ⟨B.bt, 8, none⟩ := (bcell hb4).1 _ _ ht3)
    | (go_at_call 77; go_loud (refine (search_any (ownsRow_keep HR8.out.1 (fun g' hg' => hb4.block g' (ownsRow_lt HR8.out.1 hg'))) n HE.out.rising HE.out.len).mono ?_; rintro e w5 ⟨rfl, hb5⟩; rw [HIX.out, HTH.out]; have b35 := below_via hb4 hb5; have k5 : ∀ o, w5.cell? ⟨w1.heap.size, o, none⟩ = w4.cell? ⟨w1.heap.size, o, none⟩ := fun o => (bcell hb5).1 _ o hz4; have d5 : w5.cell? ⟨B.bt, 8, none⟩ = w3.cell? ⟨B.bt, 8, none⟩ := (bcell b35).1 _ _ ht3)))
  have hr5 : w5.drew.ownsRow 0 76 3 (.slice (some ⟨gb, 0, none⟩) (K q).length cc) (K q).length (flat (K q)) := ownsRow_keep HR8.out.1 (fun g' hg' => (below_drew b35).block g' (ownsRow_lt HR8.out.1 hg'))
  have hdel := del_any hr5 rfl hix
  have HDEL : Hid _ := hdel
  clear hdel hr5
  have hwx : IntKind.i64.wrap ((ix : Int) + 1) = (ix : Int) + 1 := by rw [IntKind.wrap_i64]; omega
  go_region_with (go_at_call 127; go_loud (refine Calls.mono HDEL.out ?_; rintro e w6 ⟨rfl, hrow6, hg6, hs6⟩; have k6 := fun o => out_cell (c := w1.heap.size) hg6 (Nat.lt_of_lt_of_le hz4 hb5.size) hnp o; have d6 := out_cell (c := B.bt) hg6 (Nat.lt_of_lt_of_le ht3 b35.size) hnb 8; obtain ⟨w7, tg7, hmu, m7, hW7, hD7⟩ := take_end (HW3.out.below (below_drew b35)) (HD3.out.moves (Moves.of_below (P := fun _ => False) (below_drew b35)) (fun x => x)) hlm HOD.out HG8.out HTH.out HIX.out HE.out hrow6 hg6; rw [HP'.out] at hmu; have HM7 : Hid _ := m7; have HW7 : Hid _ := hW7; have HD7 : Hid _ := hD7; clear m7 hW7 hD7 hrow6 hg6))
  all_goals
    go_wp2
    exact bodyPost_end (v := .tuple #[]) (by simp [results, Tryz.results85, go_sem]) rfl ⟨rfl, tg7, _, ((call_moves (b1.alloc b1.size _) HM3.out).trans ((Moves.of_below (below_drew b35)).trans HM7.out)), HW7.out.mono (by omega), HD7.out.mono (by omega)⟩
end

end Go.Proofs.YtajopoddmfdejaaGreat
