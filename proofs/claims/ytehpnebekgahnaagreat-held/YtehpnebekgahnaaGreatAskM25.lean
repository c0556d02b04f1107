/-
  What is proved here: 'forget': what was the tree's own at a path is so no more. a directory of the tree's own gets another slice of entries: in the same memory, or in new memory.
-/
import Derived.Test.YtehpnebekgahnaaGreatAskM24
namespace Go.Proofs.YtehpnebekgahnaaGreat
open Go.RowKit Go.Sort Go.Shelf
set_option linter.unusedVariables false

section
variable {s i p : Nat} {B : WB} {objs : List Ob}

theorem drop_files {tg : Tags} {w : World} {g : WG} {lim : Nat} (h : WInv tg w s i p B objs g lim) {q : List ByteArray} (hq : Good q) (ty : TypeId) :
    ∃ w', (Builtin.delete_ #[125, 67] ty #[.map (some B.oF), .agg (pathA q)]).run Tryz.prog w = .ok (.tuple #[]) w' ∧ Moves (fun t => t = (i, 4)) tg tg w w' ∧ w.grownBy w' (some B.oF) ∧ w'.heap.size = w.heap.size ∧ B.oF < w.heap.size ∧ WInv tg w' s i p B objs { g with ft := { g.ft with of := upd g.ft.of q none } } lim := by
  have hi := h.two
  obtain ⟨ht, ⟨n, hn, hm⟩, hg⟩ := h.wp.ownF
  obtain ⟨w', hrun, hm', hgr, hs⟩ := hm.drop hq Tryz.underlying125 ty
  have m : Moves (fun t => t = (i, 4)) tg tg w w' := moves_grown hgr hs ht
  have hp := h.wp
  obtain ⟨vD, hD⟩ := hp.ownD
  refine ⟨w', hrun, m, hgr, hs, hm.lt, h.two, h.st.moves m (fun e => by cases e) (fun e => by cases e), ⟨hp.tree.moves m (fun e => by cases e), hp.keptF.moves m (fun e => by cases e), hp.keptD.moves m (fun e => by cases e), ⟨ht, ⟨n, hn, hm'.congr (fun x hx => ?_)⟩, fun x f hx => ?_⟩, ⟨vD, hD.moves m (fun e => by cases e)⟩, hp.files.moves m (fun e => by cases e), fun x f hx => ?_, hp.opens.moves m (fun e => by cases e) (fun e => by cases e), ⟨hp.ok.root, hp.ok.od⟩⟩⟩
  · show upd (fun y => (g.ft.of y).map ptr) q none x = Option.map ptr (upd g.ft.of q none x)
    by_cases e : x = q
    · subst e; rw [upd_same, upd_same]; rfl
    · rw [upd_other e, upd_other e]
  · by_cases e : x = q
    · subst e
      have hx' : upd g.ft.of x none x = some f := hx
      rw [upd_same] at hx'; cases hx'
    · have hx' : upd g.ft.of q none x = some f := hx
      rw [upd_other e] at hx'; exact hg x f hx'
  · by_cases e : x = q
    · subst e
      have hx' : upd g.ft.of x none x = some f := hx
      rw [upd_same] at hx'; cases hx'
    · have hx' : upd g.ft.of q none x = some f := hx
      rw [upd_other e] at hx'; exact hp.held x f hx'

theorem drop_dirs {tg : Tags} {w : World} {g : WG} {lim : Nat} {vD : List ByteArray → Value} (h : WInv tg w s i p B objs g lim) (hD : OwnDV tg w i B g.ft.od lim vD) {q : List ByteArray} (hq : Good q) (ty : TypeId) :
    ∃ w', (Builtin.delete_ #[126, 67] ty #[.map (some B.oD), .agg (pathA q)]).run Tryz.prog w = .ok (.tuple #[]) w' ∧ Moves (fun t => t = (i, 5)) tg tg w w' ∧ WInv tg w' s i p B objs { g with ft := { g.ft with od := upd g.ft.od q none } } lim ∧ OwnDV tg w' i B (upd g.ft.od q none) lim vD := by
  obtain ⟨n, hn, hm⟩ := hD.map
  obtain ⟨w', hrun, hm', hgr, hs⟩ := hm.drop hq Tryz.underlying126 ty
  obtain ⟨e0, ck, hb⟩ := hm.isMap
  have m : Moves (fun t => t = (i, 5)) tg tg w w' := moves_grown hgr hs hD.tag
  have hsub : ∀ x es, upd g.ft.od q none x = some es → g.ft.od x = some es := fun x es hx => by
    by_cases e : x = q
    · subst e; rw [upd_same] at hx; cases hx
    · rw [upd_other e] at hx; exact hx
  have hD' : OwnDV tg w' i B (upd g.ft.od q none) lim vD := by
    refine ⟨hD.tag, ⟨n, hn, hm'.congr (fun x hx => ?_)⟩, fun x es hx => hD.good x es (hsub x es hx), fun x es hx => (hD.row x es (hsub x es hx)).keep_map hb hgr, fun x y ex ey gb hx hy h1 h2 => hD.inj x y ex ey gb (hsub x ex hx) (hsub y ey hy) h1 h2⟩
    by_cases e : x = q
    · subst e; rw [upd_same, upd_same]; rfl
    · rw [upd_other e, upd_other e]
  exact ⟨w', hrun, m, h.od m (Nat.le_refl _) hD' (fun x es hx => h.wp.ok.od x es (hsub x es hx)), hD'⟩

set_option maxRecDepth 100000 in
set_option maxHeartbeats 1000000 in
theorem forget_any {tg : Tags} {w : World} {g : WG} {lim : Nat} {vD : List ByteArray → Value} (h : WInv tg w s i p B objs g lim) (hD : OwnDV tg w i B g.ft.od lim vD) {q : List ByteArray} (hq : Good q) :
    Calls Tryz.prog 65 #[.pointer (some ⟨B.bt, 0, none⟩), .agg (pathA q)] w fun en w' => en = .returned (.tuple #[]) ∧ Moves (Mine i) tg tg w w' ∧ WInv tg w' s i p B objs { g with ft := forgetF g.ft q } lim ∧ OwnDV tg w' i B (upd g.ft.od q none) lim vD := by
  have hb0 := below_drew ((Below.refl w.heap.size w).alloc (Nat.le_refl _) (.cells (pathA q) 67))
  have hW0 := h.below hb0
  have hD0 := hD.moves (Moves.of_below (P := fun _ => False) hb0) (fun x => x)
  obtain ⟨w1, hrun1, m1, hg1, hs1, hoF, hW1⟩ := drop_files hW0 hq 0
  have hD1 : OwnDV tg w1 i B g.ft.od lim vD := hD0.moves m1 (fun e => by cases e)
  obtain ⟨w2, hrun2, m2, hW2, hD2⟩ := drop_dirs (hW1.below (below_drew (Below.refl _ _))) (hD1.moves (Moves.of_below (P := fun _ => False) (below_drew (Below.refl _ _))) (fun x => x)) hq 0
  obtain ⟨ht, c8, c7, _, _⟩ := h.wp.tree.cells
  obtain ⟨ht1, c81, _, _, _⟩ := hW1.wp.tree.cells
  have hne : w.heap.size ≠ B.oF := by
    obtain ⟨_, ⟨n, _, hm⟩, _⟩ := h.wp.ownF
    have := hm.lt; omega
  have k1 : ∀ o, w1.cell? ⟨w.heap.size, o, none⟩ = ((w.alloc (.cells (pathA q) 67)).drew).cell? ⟨w.heap.size, o, none⟩ := out_cell (c := w.heap.size) hg1 (by simp [World.drew]) hne
  have HR : Hid (Moves (Mine i) tg tg w w2 ∧ WInv tg w2 s i p B objs { g with ft := forgetF g.ft q } lim ∧ OwnDV tg w2 i B (upd g.ft.od q none) lim vD) := ⟨(Moves.of_below hb0).trans ((m1.mono (fun t ht => (Or.inr (by rw [ht]) : Mine i t))).trans ((Moves.of_below (below_drew (Below.refl _ _))).trans (m2.mono (fun t ht => (Or.inr (by rw [ht]) : Mine i t))))), hW2, hD2⟩
  obtain ⟨s0, s1, s2, s3, s4, hP⟩ : ∃ s0 s1 s2 s3 s4, pathA q = #[.string s0, .string s1, .string s2, .string s3, .string s4] := ⟨_, _, _, _, _, rfl⟩
  rw [hP] at hrun1 hrun2 k1 hb0 ⊢
  clear h hD hW0 hD0 hW1 hD1 hW2 hD2 m1 m2 hb0 hg1
  go_enter Tryz.func65, Tryz.ntmps65
  go_wp2
  go_region
  all_goals
    go_wp2
    go_region
    all_goals
      go_wp2
      exact bodyPost_end (v := .tuple #[]) (by simp [results, Tryz.results65, go_sem]) rfl ⟨rfl, HR.out⟩
end

end Go.Proofs.YtehpnebekgahnaaGreat

namespace Go.Proofs.YtehpnebekgahnaaGreat
open Go.RowKit Go.Sort Go.Shelf
set_option linter.unusedVariables false

section
variable {s i p : Nat} {B : WB} {objs : List Ob}

theorem own_swap {tg : Tags} {w W6 W : World} {g : WG} {lim : Nat} {vD : List ByteArray → Value} (h : WInv tg w s i p B objs g lim) (hD : OwnDV tg w i B g.ft.od lim vD) (hl : lim < maxLen) {q : List ByteArray} {es es' : List Ent} (ho : g.ft.od q = some es) (hg : w.grownBy W6 (vD q).ownBlock) {v6 : Value}
    (hrow : W6.ownsRow 0 61 3 v6 es'.length (flat es')) (hloc : v6.ownBlock = (vD q).ownBlock ∨ ∀ gb, v6.ownBlock = some gb → w.heap.size ≤ gb) (hE : Ents objs es') (hb : Below W6.heap.size W6 W) :
    ∃ w7 tg7, (Instr.mapUpdate 126 (.map (some B.oD)) (.agg (pathA q)) v6).run Tryz.prog W = .ok () w7 ∧ Moves (Mine i) tg tg7 w w7 ∧
      WInv tg7 w7 s i p B objs { g with ft := { g.ft with od := upd g.ft.od q (some es') } } (lim + 1) ∧ OwnDV tg7 w7 i B (upd g.ft.od q (some es')) (lim + 1) (upd vD q v6) := by
  have hi := h.two
  have hq := (hD.good q es ho).1
  have hrq := hD.row q es ho
  obtain ⟨n, hn, hm⟩ := hD.map
  obtain ⟨e0, ck, hmap⟩ := hm.isMap
  have hnoD : some B.oD ≠ (vD q).ownBlock := owns_ne_map hrq.1 hmap
  have hm6 : W6.heap[B.oD]? = w.heap[B.oD]? := hg.block _ hm.lt hnoD
  have hW : W.heap[B.oD]? = w.heap[B.oD]? := (hb.block _ (Nat.lt_of_lt_of_le hm.lt hg.size)).trans hm6
  obtain ⟨w7, hrun, hm7, hg7, hs7⟩ := (hm.keep hW).store hq (Nat.lt_of_le_of_lt hn hl) Tryz.underlying126 v6
  have hmapW : W.heap[B.oD]? = some (.map e0 ck) := hW.trans hmap
  have tagk : ∀ k, (tg k).1 ≠ 0 → tagOf tg v6 (i, 5) k = tg k := fun k hk => by
    by_cases e : v6.ownBlock = some k
    · rw [tagOf_same e]
      rcases hloc with h1 | h1
      · exact (hrq.2 k (h1 ▸ e)).symm
      · rw [h.st.fresh k (h1 k e)] at hk; exact absurd rfl hk
    · exact tagOf_other e _
  have tagl : ∀ k, k < w.heap.size → tagOf tg v6 (i, 5) k = tg k := fun k hk => by
    by_cases e : v6.ownBlock = some k
    · rw [tagOf_same e]
      rcases hloc with h1 | h1
      · exact (hrq.2 k (h1 ▸ e)).symm
      · have := h1 k e; omega
    · exact tagOf_other e _
  have hf7 : Fresh (tagOf tg v6 (i, 5)) w7 := fun k hk => by
    have h6 : W6.heap.size ≤ k := Nat.le_trans hb.size (by omega)
    rw [tagOf_other (fun e => by have := ownsRow_lt hrow e; omega)]
    exact h.st.fresh k (Nat.le_trans hg.size h6)
  have m : Moves (fun t => t = (i, 5)) tg (tagOf tg v6 (i, 5)) w w7 := by
    refine ⟨hg7.os.trans (hb.os.trans hg.os), hg7.tape.trans (hb.tape.trans hg.tape), hg7.output.trans (hb.output.trans hg.output), Nat.le_trans hg.size (Nat.le_trans hb.size hg7.size), tagl, fun k hk hn => ?_, fun _ => hf7⟩
    have k6 : k < W6.heap.size := Nat.lt_of_lt_of_le hk hg.size
    rw [hg7.block k (Nat.lt_of_lt_of_le k6 hb.size) (fun e => hn (by cases e; exact hD.tag)), hb.block k k6, hg.block k hk (fun e => hn (hrq.2 k e.symm))]
  have hD7 : OwnDV (tagOf tg v6 (i, 5)) w7 i B (upd g.ft.od q (some es')) (lim + 1) (upd vD q v6) := by
    have hrow7 : RowT (tagOf tg v6 (i, 5)) w7 (i, 5) v6 es' := by
      refine ⟨ownsRow_keep hrow (fun g' hg' => ?_), fun gb hgb => tagOf_same hgb _⟩
      have hl6 := ownsRow_lt hrow hg'
      rw [hg7.block g' (Nat.lt_of_lt_of_le hl6 hb.size) (fun e => ?_), hb.block g' hl6]
      have e' : g' = B.oD := by injection e
      rw [e'] at hg'
      exact owns_ne_map hrow (hm6.trans hmap) hg'.symm
    refine ⟨(tagl _ hm.lt).trans hD.tag, ⟨n + 1, by omega, hm7.congr (fun x hx => ?_)⟩, fun x fs hx => ?_, fun x fs hx => ?_, fun x y fs fs' gb hx hy h1 h2 => ?_⟩
    · by_cases e : x = q
      · subst e; rw [upd_same, upd_same, upd_same]; rfl
      · rw [upd_other e, upd_other e, upd_other e]
    · by_cases e : x = q
      · subst e
        rw [upd_same] at hx
        cases hx
        exact ⟨hq, hE.rising, hE.len, fun e he => ⟨(hE.ok e he).1, (hE.ok e he).2.1⟩⟩
      · rw [upd_other e] at hx; exact hD.good x fs hx
    · by_cases e : x = q
      · subst e
        rw [upd_same] at hx ⊢
        cases hx
        exact hrow7
      · rw [upd_other e] at hx ⊢
        have hr := hD.row x fs hx
        refine hr.keep (fun g' hg' hl' => ⟨?_, tagl g' hl'⟩)
        have k6 : g' < W6.heap.size := Nat.lt_of_lt_of_le hl' hg.size
        rw [hg7.block g' (Nat.lt_of_lt_of_le k6 hb.size) (fun e2 => ?_), hb.block g' k6, hg.block g' hl' (fun e2 => ?_)]
        · exact e (hD.inj x q fs es g' hx ho hg' e2.symm)
        · have e' : g' = B.oD := by injection e2
          rw [e'] at hg'
          exact owns_ne_map hr.1 hmap hg'.symm
    · have apart : ∀ z fz, z ≠ q → g.ft.od z = some fz → (vD z).ownBlock = some gb → v6.ownBlock = some gb → False := fun z fz hz hoz hbz hb6 => by
        rcases hloc with h3 | h3
        · exact hz (hD.inj z q fz es gb hoz ho hbz (h3 ▸ hb6))
        · have hlz := ownsRow_lt (hD.row z fz hoz).1 hbz
          have := h3 gb hb6
          omega
      by_cases e : x = q
      · by_cases e' : y = q
        · rw [e, e']
        · subst e
          rw [upd_same] at h1
          rw [upd_other e'] at hy h2
          exact (apart y fs' e' hy h2 h1).elim
      · by_cases e' : y = q
        · subst e'
          rw [upd_same] at h2
          rw [upd_other e] at hx h1
          exact (apart x fs e hx h1 h2).elim
        · rw [upd_other e] at hx h1
          rw [upd_other e'] at hy h2
          exact hD.inj x y fs fs' gb hx hy h1 h2
  refine ⟨w7, tagOf tg v6 (i, 5), hrun, m.mono (fun t ht => (Or.inr (by rw [ht]) : Mine i t)), h.od m (Nat.le_succ _) hD7 (fun x fs hx => ?_), hD7⟩
  by_cases e : x = q
  · subst e
    rw [upd_same] at hx
    cases hx
    exact fun e he => (hE.ok e he).2
  · rw [upd_other e] at hx
    exact h.wp.ok.od x fs hx
end

end Go.Proofs.YtehpnebekgahnaaGreat
