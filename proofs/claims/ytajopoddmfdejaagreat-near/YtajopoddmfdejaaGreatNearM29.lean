/-
  What is proved here: the end of Rename, call by call: take, put, and carry twice. whether there is room for what is moved, whatever stands there (room), and what follows if there is.
-/
import Derived.Test.YtajopoddmfdejaaGreatNearM28
namespace Go.Proofs.YtajopoddmfdejaaGreat
open Go.RowKit Go.Sort Go.Shelf
set_option linter.unusedVariables false

theorem lt_mono {objs : List Ob} : ∀ (n m : Nat) {c : LT}, n ≤ m → LTok objs n c → LTok objs m c
  | n, m, .file id, _, h => by
    have : kindOf objs id = 1 := by cases n <;> simpa [LTok] using h
    cases m <;> simpa [LTok] using this
  | n, m, .held f, _, _ => by cases m <;> simp [LTok]
  | n, m, .dir id, hnm, h => by
    have h1 : kindOf objs id = 2 ∧ highOf objs id ≤ n := by cases n <;> simpa [LTok] using h
    have h2 : highOf objs id ≤ m := by omega
    cases m <;> (rw [LTok]; exact ⟨h1.1, h2⟩)
  | 0, m, .own es, _, h => by
    rw [LTok] at h
    subst h
    exact ok_own List.Pairwise.nil (by simp) (by simp)
  | n + 1, 0, .own es, hnm, _ => by omega
  | n + 1, m + 1, .own es, hnm, h => by
    rw [LTok] at h ⊢
    exact ⟨h.1, h.2.1, fun x hx => ⟨(h.2.2 x hx).1, lt_mono n m (by omega) (h.2.2 x hx).2⟩⟩

theorem ents_kids {objs : List Ob} (hS : Sound objs) {n : Nat} {d : LT} {ks : Kids} (hok : LTok objs n d) (hk : kids objs d = some ks) : Ents objs (ks.map entOf) := by
  obtain ⟨q1, q2, q3⟩ := ok_kids hS hok hk
  refine ⟨by rw [map_ent]; exact mapK_rising _ q1, by rw [List.length_map]; exact q2, fun e he => ?_⟩
  obtain ⟨x, hx, rfl⟩ := List.mem_map.1 he
  obtain ⟨h1, m, _, h3⟩ := q3 x hx
  exact ⟨h1, lt_entOk h3 x.1⟩

section
variable {s i p : Nat} {B : WB} {objs : List Ob}

def TreeAt (B : WB) (w : World) : Prop := B.bt < w.heap.size ∧ w.cell? ⟨B.bt, 7, none⟩ = some (.map (some B.oF)) ∧ w.cell? ⟨B.bt, 8, none⟩ = some (.map (some B.oD))
theorem WInv.treeAt {tg : Tags} {w : World} {g : WG} {lim : Nat} (h : WInv tg w s i p B objs g lim) : TreeAt B w := by
  obtain ⟨h1, h2, h3, _⟩ := h.wp.tree.cells
  exact ⟨h1, h3, h2⟩

theorem mine4 {i : Nat} (t : Nat × Nat) (h : t = (i, 4)) : Mine i t := .inr (by rw [h])
theorem mine5 {i : Nat} (t : Nat × Nat) (h : t = (i, 5)) : Mine i t := .inr (by rw [h])

theorem rename_moves {tg : Tags} {w : World} {g : WG} {lim : Nat} {t c df dt : LT} {kf kt : Kids} (h : WInv tg w s i p B objs g lim) (hl : lim + 700 < 1099511627776) (hF : Flat objs t g.ft) (hok : LTok objs 5 t) {qf qt : List ByteArray} {nf nt : ByteArray} (hgf : Good (qf ++ [nf])) (hgq : Good (qt ++ [nt]))
    (ha : t.at objs qf = some df) (hk : kids objs df = some kf) (hp : pickK kf nf = some c) (hb : t.at objs qt = some dt) (hkt : kids objs dt = some kt) (hwf : KeptWay objs t g.fs qf) (hwt : KeptWay objs t g.fs qt)
    (hnf : ¬ (qf ++ [nf]) <+: (qt ++ [nt])) (hroom : ∀ e, pickK kt nt = some e → kids objs e = none ∨ kids objs e = some []) (h16 : pickK kt nt = none → kt.length < 16 ∨ qf = qt) (hh : ((qt.length + 1 : Nat) : Int) + hgt objs 5 c ≤ 5) (nm : ByteArray) :
    Calls Tryz.prog 85 #[.pointer (some ⟨B.bt, 0, none⟩), .agg (pathA (qf ++ [nf]))] w fun e w1 => e = .returned (.tuple #[]) ∧ Kept0 tg w w1 ∧
      Calls Tryz.prog 79 #[.pointer (some ⟨B.bt, 0, none⟩), .agg (pathA (qt ++ [nt])), .agg #[.string nm, .int .i64 c.kind, .int .i64 c.id]] w1 fun e w2 => e = .returned (.tuple #[]) ∧ Kept0 tg w w2 ∧
        ∀ W2, Below w2.heap.size w2 W2 → Kept0 tg w W2 ∧ TreeAt B W2 ∧ Calls Tryz.prog 86 #[.map (some B.oF), .agg (pathA (qf ++ [nf])), .agg (pathA (qt ++ [nt]))] W2 fun e w3 => e = .returned (.tuple #[]) ∧
          ∀ W3, Below w3.heap.size w3 W3 → Kept0 tg w W3 ∧ TreeAt B W3 ∧ Calls Tryz.prog 87 #[.map (some B.oD), .agg (pathA (qf ++ [nf])), .agg (pathA (qt ++ [nt]))] W3 fun e w4 => e = .returned (.tuple #[]) ∧
            Left s i p B objs tg w w4 g g.fs (modG objs (fun ks => putK ks nt c) qt (modG objs (fun ks => dropK ks nf) qf t)) (lim + 300) := by
  have hS := h.st.sound
  have hi := h.two
  have hfok := (ok_at hS _ hok ha).2.1
  have q1 := (ok_kids hS hfok hk).1
  have hth : thereK kf nf = true := by rw [← pick_there q1, hp]; rfl
  have hne : qt ++ [nt] ≠ qf ++ [nf] := fun e => hnf (e ▸ List.prefix_refl _)
  have hnt := not_above ha hk hp hb hkt hne hroom
  have hnq : ¬ (qf ++ [nf]) <+: qt := fun hx => hnf (hx.trans (List.prefix_append _ _))
  have hac : t.at objs (qf ++ [nf]) = some c := by rw [at_append, ha, Option.bind_some, at_cons, hk, Option.bind_some, hp, Option.bind_some, at_nil]
  have hokc := (ok_at hS _ hok hac).2.1
  have hlt : qt.length + 1 ≤ 5 := by have := hgq.len; simp at this; omega
  have hokc5 : LTok objs (5 - (qt.length + 1)) c := ok_hgt hS 5 (by
    have h1 := hokc
    exact lt_mono _ _ (Nat.sub_le _ _) h1) (by omega)
  have hwy := ownWay_flat hS hF hok ha hk hwf
  have hcur := cur_at ha hk
  have hE1 : Ents objs (curK objs t qf) := by rw [hcur]; exact ents_kids hS hfok hk
  have hth1 : thereK (curK objs t qf) nf = true := by rw [hcur, there_ent]; exact hth
  obtain ⟨d1, k1, e1, e2, hFl, hway2⟩ := flat_rename hS hF hok ha hk hp hb hkt hwf hwt hnf hnt
  obtain ⟨x1, x2, x3⟩ := drop_kids q1 ha hk hth hb hkt hnq hne e1 e2
  have hok1 := drop_ok hS hok ha hk nf
  have hd1 := (ok_at hS _ hok1 e1).2.1
  have hcur2 := cur_at e1 e2
  have hE2 : Ents objs (curK objs (modG objs (fun ks => dropK ks nf) qf t) qt) := by rw [hcur2]; exact ents_kids hS hd1 e2
  have hpk : thereK (curK objs (modG objs (fun ks => dropK ks nf) qf t) qt) nt = (pickK kt nt).isSome := by rw [hcur2, there_ent, ← pick_there (ok_kids hS hd1 e2).1, x1]
  obtain ⟨t1, t2, t3⟩ := takeF_maps hwy nf
  obtain ⟨p1, p2, p3, p4, p5⟩ := putF_maps hway2 nt (c.kind, c.id)
  have hEn : EntOk objs (nt, c.kind, c.id) := lt_entOk hokc nt
  have hbelow : ∀ r, t.at objs (qt ++ nt :: r) ≠ none → ∃ e, pickK kt nt = some e ∧ r = [] := fun r hr => by
    cases he : pickK kt nt with
    | none => rw [at_append, hb, Option.bind_some, at_cons, hkt, Option.bind_some, he] at hr; exact absurd rfl hr
    | some e =>
      cases r with
      | nil => exact ⟨e, rfl, rfl⟩
      | cons m r =>
        have hae : t.at objs (qt ++ [nt]) = some e := by rw [at_append, hb, Option.bind_some, at_cons, hkt, Option.bind_some, he, Option.bind_some, at_nil]
        have := below_none hae (hroom e he) m r
        rw [List.append_assoc, List.singleton_append] at this
        exact absurd this hr
  have hdst : ∀ x, (qt ++ [nt]) <+: x → (putF objs g.fs (takeF objs g.fs g.ft qf nf) qt nt (c.kind, c.id)).od x = none ∧ (putF objs g.fs (takeF objs g.fs g.ft qf nf) qt nt (c.kind, c.id)).of x = none := by
    rintro x ⟨r, rfl⟩
    rw [List.append_assoc, List.singleton_append]
    have hnone : r ≠ [] ∨ pickK kt nt = none → t.at objs (qt ++ nt :: r) = none := fun hr => by
      cases hx : t.at objs (qt ++ nt :: r) with
      | none => rfl
      | some y =>
        obtain ⟨e, he1, he2⟩ := hbelow r (by rw [hx]; simp)
        rcases hr with hr | hr
        · exact absurd he2 hr
        · rw [he1] at hr; cases hr
    have hq1 : qt ++ nt :: r ≠ qt := fun e => by have := congrArg List.length e; simp at this
    have hq2 : ¬ (qt ++ nt :: r) <+: qt := fun e => by have := e.length_le; simp at this; omega
    have hf1 : qt ++ nt :: r ≠ qf := fun e => hnt (by rw [← e]; exact ⟨r ++ [nf], by simp⟩)
    have hf2 : ¬ (qt ++ nt :: r) <+: qf := fun e => hnt ((List.IsPrefix.trans ⟨r, by simp⟩ e).trans (List.prefix_append _ _))
    by_cases hr : r = []
    · subst hr
      rw [p4, p5]
      by_cases hth2 : thereK (curK objs (modG objs (fun ks => dropK ks nf) qf t) qt) nt = true
      · rw [if_pos hth2, if_pos hth2]; exact ⟨rfl, rfl⟩
      · have hpn : pickK kt nt = none := by
          rw [hpk] at hth2
          cases hc : pickK kt nt with
          | none => rfl
          | some y => rw [hc] at hth2; exact absurd rfl hth2
        rw [if_neg hth2, if_neg hth2, t2, if_neg hf1, if_neg hf2, t3, hF.od, hF.of, hnone (.inr hpn)]
        exact ⟨rfl, rfl⟩
    · have hx : qt ++ nt :: r ≠ qt ++ [nt] := fun e => hr (by simpa using e)
      rw [p2 _ hx, p3 _ hx, if_neg hq1, if_neg hq2, t2, if_neg hf1, if_neg hf2, t3, hF.od, hF.of, hnone (.inl hr)]
      exact ⟨rfl, rfl⟩
  have hsrcat : ∀ x, (qf ++ [nf]) <+: x → (putF objs g.fs (takeF objs g.fs g.ft qf nf) qt nt (c.kind, c.id)).od x = odOf (t.at objs x) ∧ (putF objs g.fs (takeF objs g.fs g.ft qf nf) qt nt (c.kind, c.id)).of x = ofOf (t.at objs x) ∧ (t.at objs x ≠ none → (qt ++ [nt]).length + (x.length - (qf ++ [nf]).length) ≤ 5) := by
    rintro x ⟨r, rfl⟩
    have hx : (qf ++ [nf]) ++ r ≠ qt ++ [nt] := fun e => hnf (by rw [← e]; exact List.prefix_append _ _)
    have hq1 : (qf ++ [nf]) ++ r ≠ qt := fun e => hnq (by rw [← e]; exact List.prefix_append _ _)
    have hq2 : ¬ ((qf ++ [nf]) ++ r) <+: qt := fun e => hnq ((List.prefix_append _ _).trans e)
    have hf1 : (qf ++ [nf]) ++ r ≠ qf := fun e => by have := congrArg List.length e; simp at this; try omega
    have hf2 : ¬ ((qf ++ [nf]) ++ r) <+: qf := fun e => by have := e.length_le; simp at this; omega
    refine ⟨by rw [p2 _ hx, if_neg hq1, if_neg hq2, t2, if_neg hf1, if_neg hf2, hF.od], by rw [p3 _ hx, t3, hF.of], fun hr => ?_⟩
    cases hy : t.at objs ((qf ++ [nf]) ++ r) with
    | none => exact absurd hy hr
    | some y =>
      rw [at_append, hac, Option.bind_some] at hy
      have := (ok_at hS _ hokc5 hy).1
      simp
      omega
  obtain ⟨vD, hvD⟩ := h.wp.ownD
  refine (take_any h hvD (by omega) hgf hwy hE1 hth1).mono ?_
  rintro e w1 ⟨rfl, tg1, vD1, m1, hW1, hD1⟩
  refine ⟨rfl, Kept0.of_moves hi m1, ?_⟩
  have hput : Calls Tryz.prog 79 #[.pointer (some ⟨B.bt, 0, none⟩), .agg (pathA (qt ++ [nt])), .agg #[.string nm, .int .i64 c.kind, .int .i64 c.id]] w1 fun en w' => en = .returned (.tuple #[]) ∧ ∃ tg' vD', Moves (Mine i) tg1 tg' w1 w' ∧
      WInv tg' w' s i p B objs { g with ft := putF objs g.fs (takeF objs g.fs g.ft qf nf) qt nt (c.kind, c.id) } (lim + 150 + 150) ∧ OwnDV tg' w' i B (putF objs g.fs (takeF objs g.fs g.ft qf nf) qt nt (c.kind, c.id)).od (lim + 150 + 150) vD' := by
    cases hth2 : thereK (curK objs (modG objs (fun ks => dropK ks nf) qf t) qt) nt with
    | true => exact put_over hW1 hD1 (by omega) hgq hway2 hE2 hth2 nm c.kind c.id hEn
    | false =>
      refine put_new hW1 hD1 (by omega) hgq hway2 hE2 hth2 ?_ nm c.kind c.id hEn
      rw [hcur2, List.length_map]
      have hpn : pickK kt nt = none := by
        rw [hpk] at hth2
        cases hc : pickK kt nt with
        | none => rfl
        | some y => rw [hc] at hth2; cases hth2
      have hk16 := (ok_kids hS (ok_at hS _ hok hb).2.1 hkt).2.1
      rcases h16 hpn with hx | hx
      · omega
      · have := x3 hx; omega
  refine hput.mono ?_
  rintro e w2 ⟨rfl, tg2, vD2, m2, hW2, hD2⟩
  have m12 := m1.trans m2
  refine ⟨rfl, Kept0.of_moves hi m12, fun W2 hb2 => ?_⟩
  have hWB := hW2.below hb2
  have m12b := m12.trans (Moves.of_below hb2)
  refine ⟨Kept0.of_moves hi m12b, hWB.treeAt, ?_⟩
  refine (carryF_any hWB (by omega) hgf hgq (fun x hx => (hdst x hx).2) (fun x f hx hf => ?_)).mono ?_
  · obtain ⟨_, a2, a3⟩ := hsrcat x hx
    have hf' : (putF objs g.fs (takeF objs g.fs g.ft qf nf) qt nt (c.kind, c.id)).of x = some f := hf
    rw [a2] at hf'
    exact a3 (fun e => by rw [e] at hf'; cases hf')
  · rintro e w3 ⟨rfl, m3, hW3⟩
    refine ⟨rfl, fun W3 hb3 => ?_⟩
    have hWC := hW3.below hb3
    have m123 := (m12b.trans (m3.mono mine4)).trans (Moves.of_below hb3)
    refine ⟨Kept0.of_moves hi m123, hWC.treeAt, ?_⟩
    refine (carryD_any hWC (by omega) hgf hgq (fun x hx => (hdst x hx).1) (fun x f hx hf => ?_)).mono ?_
    · obtain ⟨a1, _, a3⟩ := hsrcat x hx
      have hf' : (putF objs g.fs (takeF objs g.fs g.ft qf nf) qt nt (c.kind, c.id)).od x = some f := hf
      rw [a1] at hf'
      exact a3 (fun e => by rw [e] at hf'; cases hf')
    · rintro e w4 ⟨rfl, m4, hW4⟩
      refine ⟨rfl, tg2, _, m123.trans (m4.mono mine5), hW4, hFl, ?_⟩
      exact put_ok hS hok1 e1 e2 (hgq.val nt (by simp)) (by omega) hokc5 (by
        rw [← pick_there (ok_kids hS hd1 e2).1, x1]
        cases hc : pickK kt nt with
        | some y => exact .inl rfl
        | none =>
          right
          have hk16 := (ok_kids hS (ok_at hS _ hok hb).2.1 hkt).2.1
          rcases h16 hc with hx | hx
          · omega
          · have := x3 hx; omega)
end
end Go.Proofs.YtajopoddmfdejaaGreat

namespace Go.Proofs.YtajopoddmfdejaaGreat
open Go.RowKit Go.Sort Go.Shelf
set_option linter.unusedVariables false

theorem yields_next {objs : List Ob} {fs : FS} {e c : LT} (h : (yieldsG objs fs e c).2 = 0) : fs.Next (yieldsG objs fs e c).1 ∧ (kids objs e = none ∨ kids objs e = some []) := by
  unfold yieldsG at h ⊢
  by_cases h1 : e.kind = 2 ∧ c.kind = 1
  · rw [if_pos h1] at h; cases h
  · rw [if_neg h1] at h ⊢
    by_cases h2 : e.kind = 1 ∧ c.kind = 2
    · rw [if_pos h2] at h; cases h
    · rw [if_neg h2] at h ⊢
      exact vacant_next h

theorem room_next {objs : List Ob} {fs : FS} {b : Bool} {ks : Kids} {n : ByteArray} {c : LT} (h : (roomG objs fs b ks n c).2 = 0) : fs.Next (roomG objs fs b ks n c).1 ∧ (∀ e, pickK ks n = some e → kids objs e = none ∨ kids objs e = some []) ∧ (pickK ks n = none → ks.length < 16 ∨ b = true) := by
  unfold roomG at h ⊢
  cases hp : pickK ks n with
  | some e =>
    rw [hp] at h
    simp only at h ⊢
    obtain ⟨h1, h2⟩ := yields_next h
    exact ⟨h1, fun e' he => by cases he; exact h2, fun hn => by cases hn⟩
  | none =>
    rw [hp] at h
    simp only at h ⊢
    by_cases h16 : 16 ≤ ks.length ∧ b = false
    · rw [if_pos h16] at h; cases h
    · rw [if_neg h16]
      refine ⟨FS.Next.refl _, fun e he => (by cases he), fun _ => ?_⟩
      by_cases hl : ks.length < 16
      · exact .inl hl
      · right
        cases b with
        | true => rfl
        | false => exact absurd ⟨by omega, rfl⟩ h16

section
variable {s i p : Nat} {B : WB} {objs : List Ob}

theorem room_any {tg : Tags} {w : World} {g : WG} {lim : Nat} {t c d : LT} (h : WInv tg w s i p B objs g lim) (hl : lim + 10 < 1099511627776) (hF : Flat objs t g.ft) (hok : LTok objs 5 t) {rf rt : List ByteArray} {nf nt : ByteArray} (hgf : Good (rf.reverse ++ [nf])) (hgq : Good (rt.reverse ++ [nt])) {ks : Kids} (ha : t.at objs rt.reverse = some d) (hk : kids objs d = some ks) {v : Value} (hs : Slc tg w i v (ks.map entOf)) (nx : ByteArray) :
    Calls Tryz.prog 82 #[.pointer (some ⟨B.bt, 0, none⟩), .agg (pathA (rf.reverse ++ [nf])), .agg (pathA (rt.reverse ++ [nt])), .agg #[.string nx, .int .i64 c.kind, .int .i64 c.id], v] w fun en w' => en = .returned (.int .i64 (roomG objs g.fs (decide (rf = rt)) ks nt c).2) ∧ DidF s i p B objs tg w w' { g with fs := (roomG objs g.fs (decide (rf = rt)) ks nt c).1 } (lim + 1) := by
  unfold roomG
  cases hp : pickK ks nt with
  | some e => exact room_there h hl hF hok hgf hgq ha hk hp hs nx
  | none =>
    have hc : (16 ≤ ks.length ∧ decide (rf = rt) = false) ↔ (16 ≤ ks.length ∧ rf.reverse ≠ rt.reverse) := by
      simp [List.reverse_inj]
    refine (room_free h hF hok hgf hgq ha hk hp hs nx c.kind c.id).mono fun en w' ⟨h1, h2⟩ => ?_
    simp only [hc]
    by_cases h16 : 16 ≤ ks.length ∧ rf.reverse ≠ rt.reverse
    · rw [if_pos h16] at h1 ⊢; exact ⟨h1, h2.mono (Nat.le_succ _)⟩
    · rw [if_neg h16] at h1 ⊢; exact ⟨h1, h2.mono (Nat.le_succ _)⟩
end

def cell5 (w' : World) (a : Nat) (p0 p1 p2 p3 p4 : ByteArray) : Prop := w'.cell? ⟨a, 0, none⟩ = some (.string p0) ∧ w'.cell? ⟨a, 1, none⟩ = some (.string p1) ∧ w'.cell? ⟨a, 2, none⟩ = some (.string p2) ∧ w'.cell? ⟨a, 3, none⟩ = some (.string p3) ∧ w'.cell? ⟨a, 4, none⟩ = some (.string p4)
theorem cell5.keep {w w' : World} {a : Nat} {p0 p1 p2 p3 p4 : ByteArray} (h : cell5 w a p0 p1 p2 p3 p4) (ha : ∀ o, w'.cell? ⟨a, o, none⟩ = w.cell? ⟨a, o, none⟩) : cell5 w' a p0 p1 p2 p3 p4 := by
  unfold cell5 at h ⊢
  simp only [ha]
  exact h
end Go.Proofs.YtajopoddmfdejaaGreat
