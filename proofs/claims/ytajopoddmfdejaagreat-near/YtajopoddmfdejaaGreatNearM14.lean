/-
  What is proved here: 'find', walked: the way to a path, where something stands there. 'look', walked: what is in the directory at a path, over whatever 'find' and 'entries' answer. 'entries', 'find' and 'look' of a workspace's tree: what they answer, what they fetch, and that all else stays. 'find' and 'look' of a workspace's tree, at every path: they answer what the maps say, fetch what is missing, and change nothing else.
-/
import Derived.Test.YtajopoddmfdejaaGreatNearM13
namespace Go.Proofs.YtajopoddmfdejaaGreat
open Go.RowKit Go.Sort Go.Shelf
set_option linter.unusedVariables false

set_option maxRecDepth 100000 in
set_option maxHeartbeats 1000000 in
theorem find_some (t : Nat) (s0 s1 s2 s3 s4 r0 r1 r2 r3 r4 : ByteArray) (R : Value → World → World → Prop) (x : ByteArray) (k : Nat) (y : Ent) (w : World)
    (heq : ∀ W, (Op.equalIn 10000 104 (.agg #[.string s0, .string s1, .string s2, .string s3, .string s4]) (.agg #[.string ⟨#[]⟩, .string ⟨#[]⟩, .string ⟨#[]⟩, .string ⟨#[]⟩, .string ⟨#[]⟩])).run Tryz.prog W = .ok false W)
    (hpar : ∀ W, Calls Tryz.prog 76 #[.agg #[.string s0, .string s1, .string s2, .string s3, .string s4]] W fun e w' => e = .returned (.agg #[.string r0, .string r1, .string r2, .string r3, .string r4]) ∧ Below W.heap.size W w')
    (hlook : ∀ W, Below w.heap.size w W → Calls Tryz.prog 75 #[.pointer (some ⟨t, 0, none⟩), .agg #[.string r0, .string r1, .string r2, .string r3, .string r4]] W fun e w' => ∃ gb ln cp, e = .returned (.tuple #[.slice (some ⟨gb, 0, none⟩) ln cp, .int .i64 0]) ∧ R (.slice (some ⟨gb, 0, none⟩) ln cp) W w')
    (hname : ∀ W, Calls Tryz.prog 78 #[.agg #[.string s0, .string s1, .string s2, .string s3, .string s4]] W fun e w' => e = .returned (.string x) ∧ Below W.heap.size W w')
    (hsea : ∀ v W w3, R v W w3 → ∀ W2, Below w3.heap.size w3 W2 → Calls Tryz.prog 77 #[v, .string x] W2 fun e w' => e = .returned (.tuple #[.int .i64 (k : Int), .bool true]) ∧ Below W2.heap.size W2 w')
    (hcell : ∀ gb ln cp W w3, R (.slice (some ⟨gb, 0, none⟩) ln cp) W w3 → gb < w3.heap.size ∧ k < ln ∧ ln ≤ 16 ∧ w3.cell? ⟨gb, k * 3, none⟩ = some (.string y.1) ∧ w3.cell? ⟨gb, k * 3 + 1, none⟩ = some (.int .i64 y.2.1) ∧ w3.cell? ⟨gb, k * 3 + 2, none⟩ = some (.int .i64 y.2.2))
    (hst : ∀ v W w3, R v W w3 → Stays w W w3) :
    Calls Tryz.prog 80 #[.pointer (some ⟨t, 0, none⟩), .agg #[.string s0, .string s1, .string s2, .string s3, .string s4]] w fun e w' => e = .returned (.tuple #[.agg #[.string y.1, .int .i64 y.2.1, .int .i64 y.2.2], .int .i64 0]) ∧ ∃ v W w3, Below w.heap.size w W ∧ w.heap.size + 1 < W.heap.size ∧ R v W w3 ∧ w3.grownBy w' (some (w.heap.size + 1)) := by
  have hroot := fun W => root_any W
  unfold pathV pathA at hroot
  simp only [List.getD_nil] at hroot
  go_enter Tryz.func80, Tryz.ntmps80
  go_wp2
  go_region_with (go_at_call 66; refine (hroot _).mono ?_; rintro e w1 ⟨rfl, hb1⟩; obtain ⟨hc1, hf1⟩ := bcell hb1; obtain ⟨hz0, hz1⟩ := two_size hb1)
  all_goals
    have h1 : Below w.heap.size w w1 := below_via (below_drew (((Below.refl _ _).alloc (Nat.le_refl _) _).alloc (by simp) _)) hb1
    go_wp2_with (first
      | (go_at_call 76; refine (hpar _).mono ?_; rintro e w2 ⟨rfl, hb2⟩; obtain ⟨hc2, hf2⟩ := bcell hb2; have hz2 : w.heap.size + 1 < w2.heap.size := Nat.lt_of_lt_of_le hz1 hb2.size; have hz3 : w.heap.size < w2.heap.size := Nat.lt_of_lt_of_le hz0 hb2.size)
      | (go_at_call 75; refine (hlook _ (below_via h1 hb2)).mono ?_; rintro e w3 ⟨gb, ln, cp, rfl, hR⟩; have hS := hst _ _ _ hR; obtain ⟨hgl, hkl, hl16, y0, y1, y2⟩ := hcell _ _ _ _ _ hR; have k0 := hS.cell (Nat.le_refl _) hz3; have k1 := hS.cell (b := w.heap.size + 1) (by omega) hz2; have k2 := hS.frozen (b := w.heap.size + 1) (by omega) hz2; have HR : Hid _ := hR; have hz4 : w.heap.size < w3.heap.size := Nat.lt_of_lt_of_le hz3 hS.1; have hz5 : w.heap.size + 1 < w3.heap.size := Nat.lt_of_lt_of_le hz2 hS.1; clear hR hS)
      | (go_at_call 78; refine (hname _).mono ?_; rintro e w4 ⟨rfl, hb4⟩; obtain ⟨hc4, hf4⟩ := bcell hb4; have hz6 : w.heap.size + 1 < w4.heap.size := Nat.lt_of_lt_of_le hz5 hb4.size; have hz7 : gb < w4.heap.size := Nat.lt_of_lt_of_le hgl hb4.size)
      | (go_at_call 77; refine (hsea _ _ _ HR.out _ hb4).mono ?_; rintro e w5 ⟨rfl, hb5⟩; obtain ⟨hc5, hf5⟩ := bcell hb5))
    exact bodyPost_ret (v := .tuple #[.agg #[.string y.1, .int .i64 y.2.1, .int .i64 y.2.2], .int .i64 0]) (by simp [results, Tryz.results80, go_sem, hc1, hc2, k1, hc4, hc5, hz1, hz5, hz6]) rfl ⟨rfl, _, w2, w3, below_via h1 hb2, hz2, HR.out, by
      refine grown_below (below_via hb4 hb5) ?_
      repeat (first | exact grown_refl _ _ | (refine grown_set ?_))⟩

end Go.Proofs.YtajopoddmfdejaaGreat

namespace Go.Proofs.YtajopoddmfdejaaGreat
open Go.RowKit Go.Sort Go.Shelf
set_option linter.unusedVariables false

set_option maxRecDepth 100000 in
set_option maxHeartbeats 400000 in
theorem look_err (t : Nat) (s0 s1 s2 s3 s4 a : ByteArray) (k id er : Int) (R : World → World → Prop) (w : World) (her : (er == 0) = false)
    (hfind : ∀ W, Below w.heap.size w W → Calls Tryz.prog 80 #[.pointer (some ⟨t, 0, none⟩), .agg #[.string s0, .string s1, .string s2, .string s3, .string s4]] W fun e w' => e = .returned (.tuple #[.agg #[.string a, .int .i64 k, .int .i64 id], .int .i64 er]) ∧ R W w') :
    Calls Tryz.prog 75 #[.pointer (some ⟨t, 0, none⟩), .agg #[.string s0, .string s1, .string s2, .string s3, .string s4]] w fun e w' => e = .returned (.tuple #[.slice none 0 0, .int .i64 er]) ∧ ∃ W w3, Below w.heap.size w W ∧ R W w3 ∧ Below w3.heap.size w3 w' := by
  have hf := hfind _ ((Below.refl w.heap.size w).alloc (Nat.le_refl _) (.cells #[.string s0, .string s1, .string s2, .string s3, .string s4] 104))
  clear hfind
  go_enter Tryz.func75, Tryz.ntmps75
  go_wp2_with (go_at_call 80; refine hf.mono ?_; rintro e w3 ⟨rfl, hR⟩; have HR : Hid _ := hR; clear hR)
  go_ret2
  exact ⟨rfl, _, w3, (Below.refl w.heap.size w).alloc (Nat.le_refl _) _, HR.out, by repeat (first | exact Below.refl _ _ | (refine Below.alloc ?_ (by simp) _) | (refine Below.setCell ?_ (by simp) _))⟩

set_option maxRecDepth 100000 in
set_option maxHeartbeats 400000 in
theorem look_ok (t : Nat) (s0 s1 s2 s3 s4 a : ByteArray) (k id : Int) (R : World → World → Prop) (S : Value → Int → World → World → Prop) (w : World)
    (hfind : ∀ W, Below w.heap.size w W → Calls Tryz.prog 80 #[.pointer (some ⟨t, 0, none⟩), .agg #[.string s0, .string s1, .string s2, .string s3, .string s4]] W fun e w' => e = .returned (.tuple #[.agg #[.string a, .int .i64 k, .int .i64 id], .int .i64 0]) ∧ R W w')
    (hents : ∀ W w3, R W w3 → ∀ W2, Below w3.heap.size w3 W2 → Calls Tryz.prog 118 #[.pointer (some ⟨t, 0, none⟩), .agg #[.string s0, .string s1, .string s2, .string s3, .string s4], .agg #[.string a, .int .i64 k, .int .i64 id]] W2 fun e w' => ∃ v er, e = .returned (.tuple #[v, .int .i64 er]) ∧ S v er W2 w')
    (hst : ∀ W w3, R W w3 → Stays w W w3) :
    Calls Tryz.prog 75 #[.pointer (some ⟨t, 0, none⟩), .agg #[.string s0, .string s1, .string s2, .string s3, .string s4]] w fun e w' => ∃ v er W w3 W2, Below w.heap.size w W ∧ R W w3 ∧ Below w3.heap.size w3 W2 ∧ e = .returned (.tuple #[v, .int .i64 er]) ∧ S v er W2 w' := by
  have hf := hfind _ ((Below.refl w.heap.size w).alloc (Nat.le_refl _) (.cells #[.string s0, .string s1, .string s2, .string s3, .string s4] 104))
  clear hfind
  go_enter Tryz.func75, Tryz.ntmps75
  go_wp2_with (first
    | (go_at_call 80; refine hf.mono ?_; rintro e w3 ⟨rfl, hR⟩; have hS := hst _ _ hR; have k0 := hS.cell (Nat.le_refl _) (by simp); have hz : w.heap.size < w3.heap.size := Nat.lt_of_lt_of_le (by simp) hS.1; have HR : Hid _ := hR; clear hR hS)
    | (go_at_call 118; refine (hents _ _ HR.out _ (by repeat (first | exact Below.refl _ _ | (refine Below.alloc ?_ (by simp) _) | (refine Below.setCell ?_ (by simp) _)))).mono ?_; rintro e w4 ⟨v, er, rfl, hS⟩; have HS : Hid _ := hS; clear hS))
  go_ret2
  exact ⟨v, er, _, w3, _, (Below.refl w.heap.size w).alloc (Nat.le_refl _) _, HR.out, by repeat (first | exact Below.refl _ _ | (refine Below.alloc ?_ (by simp) _) | (refine Below.setCell ?_ (by simp) _)), rfl, HS.out⟩

end Go.Proofs.YtajopoddmfdejaaGreat

namespace Go.Proofs.YtajopoddmfdejaaGreat
open Go.RowKit Go.Sort Go.Shelf
set_option linter.unusedVariables false

/-- A slice of entries that the tree has, or a shelf. -/
def Slc (tg : Tags) (w : World) (i : Nat) (v : Value) (es : List Ent) : Prop := w.ownsRow 0 76 3 v es.length (flat es) ∧ ∀ g, v.ownBlock = some g → tg g = (i, 3) ∨ tg g = (i, 5)

theorem nil_row (w : World) : w.ownsRow 0 76 3 (.slice none 0 0) ([] : List Ent).length (flat []) := ⟨rfl, .inl ⟨rfl, rfl⟩⟩
theorem Slc.nil (tg : Tags) (w : World) (i : Nat) : Slc tg w i (.slice none 0 0) [] := ⟨nil_row w, fun g hg => by simp [Value.ownBlock] at hg⟩
theorem Slc.below {tg : Tags} {w w' : World} {i : Nat} {v : Value} {es : List Ent} (h : Slc tg w i v es) (hb : Below w.heap.size w w') : Slc tg w' i v es := ⟨ownsRow_keep h.1 (fun g hg => hb.block g (ownsRow_lt h.1 hg)), h.2⟩
theorem Slc.shape {tg : Tags} {w : World} {i : Nat} {v : Value} {es : List Ent} (h : Slc tg w i v es) : ∃ la n c, v = .slice la n c := by
  rcases h.1.2 with ⟨e, _⟩ | ⟨g', c', _, e, _⟩
  · exact ⟨_, _, _, e⟩
  · exact ⟨_, _, _, e⟩

section
variable {tg : Tags} {w : World} {s i p : Nat} {B : WB} {objs : List Ob} {g : WG} {lim : Nat}

theorem OwnDV.look {od : List ByteArray → Option (List Ent)} {vD : List ByteArray → Value} (h : OwnDV tg w i B od lim vD) {q : List ByteArray} (hq : Good q) {W : World} (hb : Below w.heap.size w W) :
    (Instr.lookup 128 (.map (some B.oD)) (.agg (pathA q)) false).run Tryz.prog W = .ok (((od q).map fun _ => vD q).getD (.slice none 0 0)) W := by
  obtain ⟨n, _, M, hV, hM, _⟩ := h.map
  have := (hV.keep (w' := W) (hb.block _ hV.lt)).look lawP Tryz.underlying128 (zeroEs W) (keyVP hq)
  rw [hM q hq] at this
  exact this

/-- A call of the workspace's, behind memory of the call's own. -/
theorem call_moves {P : Nat × Nat → Prop} {tg tg' : Tags} {w W w' : World} (hb : Below w.heap.size w W) (m : Moves P tg tg' W w') : Moves P tg tg' w w' := (Moves.of_below hb).trans m

theorem entries_any (h : WInv tg w s i p B objs g lim) (hl : lim < 1099511627776) {q : List ByteArray} (hq : Good q) {e : Ent} (he : EntOk objs e) :
    Calls Tryz.prog 118 #[.pointer (some ⟨B.bt, 0, none⟩), .agg (pathA q), .agg #[.string e.1, .int .i64 e.2.1, .int .i64 e.2.2]] w fun en w' => ∃ v, en = .returned (.tuple #[v, .int .i64 (entsF objs g.ft g.fs q e).2.1]) ∧
      ∃ tg', Moves (Fetches i) tg tg' w w' ∧ WInv tg' w' s i p B objs { g with fs := (entsF objs g.ft g.fs q e).1 } (lim + 1) ∧ Slc tg' w' i v (entsF objs g.ft g.fs q e).2.2 := by
  obtain ⟨nm, k, id⟩ := e
  have hlt : B.bt < w.heap.size := (Array.getElem?_eq_some_iff.1 h.wp.tree.ht).1
  by_cases hk : k = 2
  · subst hk
    by_cases hid : id = 0
    · subst hid
      have hE : entsF objs g.ft g.fs q (nm, 2, 0) = (g.fs, 0, (g.ft.od q).getD []) := rfl
      rw [hE]
      obtain ⟨vD, hD⟩ := h.wp.ownD
      have c8 : w.cell? ⟨B.bt, 8, none⟩ = some (.map (some B.oD)) := by simp [World.cell?, h.wp.tree.ht]
      refine (ents_own B.bt B.oD _ _ _ _ _ nm _ w hlt c8 (fun W hb => hD.look hq hb)).mono ?_
      rintro en w' ⟨rfl, hb⟩
      refine ⟨_, rfl, tg, Moves.of_below hb, (h.below hb).mono (Nat.le_succ _), ?_⟩
      cases ho : g.ft.od q with
      | none => exact Slc.nil _ _ _
      | some es =>
        have hr := hD.row q es ho
        exact Slc.below ⟨hr.1, fun g' hg' => .inr (hr.2 g' hg')⟩ hb
    · have hko := he.2 hid
      have c2 : w.cell? ⟨B.bt, 2, none⟩ = some (.pointer (some ⟨B.sD, 0, none⟩)) := by simp [World.cell?, h.wp.tree.ht, ptr]
      have hE : entsF objs g.ft g.fs q (nm, 2, id) = if (g.fs.dirG id).2 then ((g.fs.dirG id).1, 0, entsOf objs id) else ((g.fs.dirG id).1, 14, []) := by
        unfold entsF
        rw [if_neg (show ¬ ((nm, (2 : Int), id) : Ent).2.1 ≠ 2 from fun h => h rfl), if_neg hid]
      refine (ents_get B.bt B.sD _ _ _ _ _ nm id (fun v er W w' => er = (if (g.fs.dirG id).2 then 0 else 14) ∧ ∃ tg', Moves (Fetches i) tg tg' W w' ∧ WInv tg' w' s i p B objs { g with fs := (g.fs.dirG id).1 } (lim + 1) ∧ (if (g.fs.dirG id).2 then RowT tg' w' (i, 3) v (entsOf objs id) else v = .slice none 0 0)) w hlt c2 hid (fun W hb => (shelfD (h.below hb) hl hko).mono ?_)).mono ?_
      · rintro en w' ⟨v, rfl, tg', m, hW, hr⟩
        exact ⟨v, _, rfl, rfl, tg', m, hW, hr⟩
      · rintro en w' ⟨v, er, W, hb, rfl, rfl, tg', m, hW, hr⟩
        rw [hE]
        by_cases hG : (g.fs.dirG id).2 = true
        · rw [if_pos hG] at hr ⊢
          rw [if_pos hG]
          exact ⟨v, rfl, tg', call_moves hb m, hW, hr.1, fun g' hg' => .inl (hr.2 g' hg')⟩
        · rw [if_neg hG] at hr ⊢
          rw [if_neg hG]
          subst hr
          exact ⟨_, rfl, tg', call_moves hb m, hW, Slc.nil _ _ _⟩
  · have hE : entsF objs g.ft g.fs q (nm, k, id) = (g.fs, 5, []) := by unfold entsF; rw [if_pos hk]
    rw [hE]
    refine (ents_not B.bt _ _ _ _ _ nm k id w hk).mono ?_
    rintro en w' ⟨rfl, hb⟩
    exact ⟨_, rfl, tg, Moves.of_below hb, (h.below hb).mono (Nat.le_succ _), Slc.nil _ _ _⟩

/-- What is found is an entry that may be; what is looked into is by rising names. -/
theorem find_entOk (hS : Sound objs) {ft : FT} (hok : FtOk objs ft) (hr : ∀ p es, ft.od p = some es → RisingK es ∧ es.length ≤ 16) (fs : FS) : ∀ r, ((findF objs ft fs r).2.1 = 0 → EntOk objs (findF objs ft fs r).2.2) ∧ (∀ e ∈ (lookF objs ft fs r).2.2, EntOk objs e) ∧ RisingK (lookF objs ft fs r).2.2 ∧ (lookF objs ft fs r).2.2.length ≤ 16 := by
  have key : ∀ r, ((findF objs ft fs r).2.1 = 0 → EntOk objs (findF objs ft fs r).2.2) → (∀ e ∈ (lookF objs ft fs r).2.2, EntOk objs e) ∧ RisingK (lookF objs ft fs r).2.2 ∧ (lookF objs ft fs r).2.2.length ≤ 16 := by
    intro r hf
    unfold lookF
    by_cases h0 : (findF objs ft fs r).2.1 ≠ 0
    · simp only [if_pos h0]; exact ⟨by simp, List.Pairwise.nil, by simp⟩
    · simp only [if_neg h0]
      have he := hf (Decidable.not_not.1 h0)
      unfold entsF
      by_cases hk : (findF objs ft fs r).2.2.2.1 ≠ 2
      · rw [if_pos hk]; exact ⟨by simp, List.Pairwise.nil, by simp⟩
      · rw [if_neg hk]
        by_cases hid : (findF objs ft fs r).2.2.2.2 = 0
        · rw [if_pos hid]
          cases ho : ft.od r.reverse with
          | none => exact ⟨by simp, List.Pairwise.nil, by simp⟩
          | some es => exact ⟨hok.od _ es ho, (hr _ es ho).1, (hr _ es ho).2⟩
        · rw [if_neg hid]
          by_cases hG : ((findF objs ft fs r).1.dirG (findF objs ft fs r).2.2.2.2).2 = true
          · rw [if_pos hG]
            obtain ⟨s1, s2, s3⟩ := hS.2 _ ((he.2 hid).trans (Decidable.not_not.1 hk))
            exact ⟨fun e he => ⟨(s3 e he).2.1, fun _ => (s3 e he).2.2.1⟩, s1, s2⟩
          · rw [if_neg hG]; exact ⟨by simp, List.Pairwise.nil, by simp⟩
  have find : ∀ r, (findF objs ft fs r).2.1 = 0 → EntOk objs (findF objs ft fs r).2.2 := by
    intro r
    induction r with
    | nil => exact fun _ => ⟨.inr rfl, hok.root⟩
    | cons n r ih =>
      intro h0
      rw [findF_cons] at h0 ⊢
      by_cases hl : (lookF objs ft fs r).2.1 ≠ 0
      · rw [if_pos hl] at h0; exact absurd h0 hl
      · rw [if_neg hl] at h0 ⊢
        cases hg : getK (lookF objs ft fs r).2.2 n with
        | none => rw [hg] at h0; simp at h0
        | some c =>
          simp only
          have hmem : (n, c) ∈ (lookF objs ft fs r).2.2 := by
            unfold getK at hg
            cases hf : (lookF objs ft fs r).2.2.find? (fun x => decide (x.1 = n)) with
            | none => rw [hf] at hg; simp at hg
            | some x =>
              rw [hf] at hg
              have h1 := List.find?_some hf
              have h2 := List.mem_of_find?_eq_some hf
              simp only [decide_eq_true_eq] at h1
              simp only [Option.map_some, Option.some.injEq] at hg
              rw [← h1, ← hg]; exact h2
          exact (key r ih).1 _ hmem
  exact fun r => ⟨find r, key r (find r)⟩
end

end Go.Proofs.YtajopoddmfdejaaGreat

namespace Go.Proofs.YtajopoddmfdejaaGreat
open Go.RowKit Go.Sort Go.Shelf
set_option linter.unusedVariables false

theorem moves_own {tg : Tags} {w w' : World} {b : Nat} (hg : w.grownBy w' (some b)) (ht : tg b = (0, 0)) : Moves (fun t => t = (0, 0)) tg tg w w' :=
  ⟨hg.os, hg.tape, hg.output, hg.size, fun _ _ => rfl, fun k hk hn => hg.block k hk (fun e => hn (by cases e; exact ht)), fun hf k hk => hf k (Nat.le_trans hg.size hk)⟩

section
variable {s i p : Nat} {B : WB} {objs : List Ob}

theorem WInv.own {tg : Tags} {w w' : World} {g : WG} {lim b : Nat} (h : WInv tg w s i p B objs g lim) (hg : w.grownBy w' (some b)) (ht : tg b = (0, 0)) : WInv tg w' s i p B objs g lim := by
  have hi := h.two
  have m := moves_own hg ht
  exact ⟨h.two, h.st.moves m (fun e => by cases e) (fun e => by cases e), h.wp.moves m (fun k e => by cases e; omega)⟩
theorem stays_mine {tg tg' : Tags} {w W w3 : World} (hi : 2 ≤ i) (hf : Fresh tg w) (m : Moves (Mine i) tg tg' W w3) : Stays w W w3 :=
  ⟨m.size, fun b h1 h2 => m.block b h2 (by rw [hf b h1]; rintro (h | h) <;> simp at h; omega)⟩
theorem stays_of {tg tg' : Tags} {w W w3 : World} (hi : 2 ≤ i) (hf : Fresh tg w) (m : Moves (Fetches i) tg tg' W w3) : Stays w W w3 := stays_mine hi hf (m.mono (fun _ h => h.mine))

/-- What becomes of a call: what it touched, and what the workspace is. -/
def DidF (s i p : Nat) (B : WB) (objs : List Ob) (tg : Tags) (w w' : World) (g' : WG) (lim : Nat) : Prop := ∃ tg', Moves (Fetches i) tg tg' w w' ∧ WInv tg' w' s i p B objs g' lim

theorem didF_end {tg : Tags} {w W w3 w' : World} {g g' : WG} {lim lim' : Nat} (h : WInv tg w s i p B objs g lim) (hb : Below w.heap.size w W) (hz : w.heap.size + 1 < W.heap.size) (hd : DidF s i p B objs tg W w3 g' lim') (hg : w3.grownBy w' (some (w.heap.size + 1))) : DidF s i p B objs tg w w' g' lim' := by
  obtain ⟨tg', m, hW⟩ := hd
  have ht : tg' (w.heap.size + 1) = (0, 0) := (m.tags _ hz).trans (h.st.fresh _ (by omega))
  have m1 := call_moves hb m
  refine ⟨tg', ⟨hg.os.trans m1.os, hg.tape.trans m1.tape, hg.output.trans m1.output, Nat.le_trans m1.size hg.size, m1.tags, fun k hk hn => (hg.block k (Nat.lt_of_lt_of_le hk m1.size) (fun e => by cases e; omega)).trans (m1.block k hk hn), fun hf => (hW.own hg ht).st.fresh⟩, hW.own hg ht⟩

def FindC (s i p : Nat) (B : WB) (objs : List Ob) (r : List ByteArray) : Prop := ∀ (tg : Tags) (w : World) (g : WG) (lim : Nat), WInv tg w s i p B objs g lim → lim + 10 < 1099511627776 → Good r.reverse →
  Calls Tryz.prog 80 #[.pointer (some ⟨B.bt, 0, none⟩), .agg (pathA r.reverse)] w fun en w' => en = .returned (.tuple #[.agg #[.string (findF objs g.ft g.fs r).2.2.1, .int .i64 (findF objs g.ft g.fs r).2.2.2.1, .int .i64 (findF objs g.ft g.fs r).2.2.2.2], .int .i64 (findF objs g.ft g.fs r).2.1]) ∧
    DidF s i p B objs tg w w' { g with fs := (findF objs g.ft g.fs r).1 } (lim + r.length)
def LookC (s i p : Nat) (B : WB) (objs : List Ob) (r : List ByteArray) : Prop := ∀ (tg : Tags) (w : World) (g : WG) (lim : Nat), WInv tg w s i p B objs g lim → lim + 10 < 1099511627776 → Good r.reverse →
  Calls Tryz.prog 75 #[.pointer (some ⟨B.bt, 0, none⟩), .agg (pathA r.reverse)] w fun en w' => ∃ v, en = .returned (.tuple #[v, .int .i64 (lookF objs g.ft g.fs r).2.1]) ∧
    ∃ tg', Moves (Fetches i) tg tg' w w' ∧ WInv tg' w' s i p B objs { g with fs := (lookF objs g.ft g.fs r).1 } (lim + r.length + 1) ∧ Slc tg' w' i v (lookF objs g.ft g.fs r).2.2

theorem WInv.rising {tg : Tags} {w : World} {g : WG} {lim : Nat} (h : WInv tg w s i p B objs g lim) : ∀ q es, g.ft.od q = some es → RisingK es ∧ es.length ≤ 16 := by
  obtain ⟨vD, hD⟩ := h.wp.ownD
  exact fun q es he => ⟨(hD.good q es he).2.1, (hD.good q es he).2.2.1⟩

theorem look_of (r : List ByteArray) (hF : FindC s i p B objs r) : LookC s i p B objs r := by
  intro tg w g lim h hl hr
  have hlen : r.length ≤ 5 := by have := hr.len; simpa using this
  obtain ⟨f1, _⟩ := find_entOk h.st.sound h.wp.ok h.rising g.fs r
  by_cases h0 : (findF objs g.ft g.fs r).2.1 = 0
  · have hE : lookF objs g.ft g.fs r = entsF objs g.ft (findF objs g.ft g.fs r).1 r.reverse (findF objs g.ft g.fs r).2.2 := by
      unfold lookF; simp only [if_neg (show ¬ (findF objs g.ft g.fs r).2.1 ≠ 0 from fun h => h h0)]
    have hen := f1 h0
    refine (look_ok B.bt _ _ _ _ _ (findF objs g.ft g.fs r).2.2.1 (findF objs g.ft g.fs r).2.2.2.1 (findF objs g.ft g.fs r).2.2.2.2 (fun W w3 => Below w.heap.size w W ∧ DidF s i p B objs tg W w3 { g with fs := (findF objs g.ft g.fs r).1 } (lim + r.length))
      (fun v er W2 w' => er = (lookF objs g.ft g.fs r).2.1 ∧ ∃ tg', Moves (Fetches i) tg tg' w w' ∧ WInv tg' w' s i p B objs { g with fs := (lookF objs g.ft g.fs r).1 } (lim + r.length + 1) ∧ Slc tg' w' i v (lookF objs g.ft g.fs r).2.2) w (fun W hb => ?_) (fun W w3 hR W2 hb => ?_) (fun W w3 hR => ?_)).mono ?_
    · refine (hF tg W g lim (h.below hb) hl hr).mono ?_
      rintro en w' ⟨he, hd⟩
      rw [h0] at he
      exact ⟨he, hb, hd⟩
    · obtain ⟨hbW, tg1, m1, hW1⟩ := hR
      refine (entries_any (hW1.below hb) (by omega) hr hen).mono ?_
      rintro en w' ⟨v, rfl, tg2, m2, hW2, hs2⟩
      rw [hE]
      exact ⟨v, _, rfl, rfl, tg2, (call_moves hbW m1).trans (call_moves hb m2), hW2, hs2⟩
    · obtain ⟨hbW, tg1, m1, hW1⟩ := hR
      exact stays_of h.two h.st.fresh m1
    · rintro en w' ⟨v, er, W, w3, W2, _, _, _, rfl, rfl, hrest⟩
      exact ⟨v, rfl, hrest⟩
  · have hE : lookF objs g.ft g.fs r = ((findF objs g.ft g.fs r).1, (findF objs g.ft g.fs r).2.1, []) := by
      unfold lookF; simp only [if_pos h0]
    rw [hE]
    refine (look_err B.bt _ _ _ _ _ _ _ _ (findF objs g.ft g.fs r).2.1 (fun W w3 => DidF s i p B objs tg W w3 { g with fs := (findF objs g.ft g.fs r).1 } (lim + r.length)) w (by simpa using h0) (fun W hb => hF tg W g lim (h.below hb) hl hr)).mono ?_
    rintro en w' ⟨rfl, W, w3, hb, ⟨tg1, m1, hW1⟩, hb3⟩
    exact ⟨_, rfl, tg1, (call_moves hb m1).trans (Moves.of_below hb3), (hW1.below hb3).mono (Nat.le_succ _), Slc.nil _ _ _⟩

theorem find_nil : FindC s i p B objs [] := by
  intro tg w g lim h hl hr
  have hlt : B.bt < w.heap.size := (Array.getElem?_eq_some_iff.1 h.wp.tree.ht).1
  refine (find_root B.bt g.ft.root w hlt (by simp [World.cell?, h.wp.tree.ht]) (by simp [World.cell?, h.wp.tree.ht]) (by simp [World.cell?, h.wp.tree.ht])).mono ?_
  rintro en w' ⟨rfl, hb⟩
  exact ⟨rfl, tg, Moves.of_below hb, h.below hb⟩

theorem find_cons (n : ByteArray) (r : List ByteArray) (hL : LookC s i p B objs r) : FindC s i p B objs (n :: r) := by
  intro tg w g lim h hl hr
  have hrev : (n :: r).reverse = r.reverse ++ [n] := List.reverse_cons
  rw [hrev] at hr ⊢
  have hne : r.reverse ++ [n] ≠ [] := by simp
  have hr' : Good r.reverse := by have := hr.dropLast; rwa [List.dropLast_concat] at this
  have hlen : r.length ≤ 4 := by have := hr.len; simp at this; omega
  have heq : ∀ W, (Op.equalIn 10000 104 (pathV (r.reverse ++ [n])) (pathV [])).run Tryz.prog W = .ok false W := fun W => by
    have := run_eqP hr Good.nil W
    rw [decide_eq_false hne] at this; exact this
  have hpar := fun W => parent_any (r.reverse ++ [n]) hr W
  have hname := fun W => name_any (r.reverse ++ [n]) hr hne W
  rw [List.dropLast_concat] at hpar
  simp only [List.getLast_concat] at hname
  obtain ⟨_, l1, l2, l3⟩ := find_entOk h.st.sound h.wp.ok h.rising g.fs r
  have hst : ∀ (v : Value) (W w3 : World), (Below w.heap.size w W ∧ ∃ tg', Moves (Fetches i) tg tg' W w3 ∧ WInv tg' w3 s i p B objs { g with fs := (lookF objs g.ft g.fs r).1 } (lim + r.length + 1) ∧ Slc tg' w3 i v (lookF objs g.ft g.fs r).2.2) → Stays w W w3 := fun v W w3 ⟨hb, tg', m, _, _⟩ => stays_of h.two h.st.fresh m
  have hlook : ∀ W, Below w.heap.size w W → Calls Tryz.prog 75 #[.pointer (some ⟨B.bt, 0, none⟩), .agg (pathA r.reverse)] W fun en w' => ∃ v, en = .returned (.tuple #[v, .int .i64 (lookF objs g.ft g.fs r).2.1]) ∧
      (Below w.heap.size w W ∧ ∃ tg', Moves (Fetches i) tg tg' W w' ∧ WInv tg' w' s i p B objs { g with fs := (lookF objs g.ft g.fs r).1 } (lim + r.length + 1) ∧ Slc tg' w' i v (lookF objs g.ft g.fs r).2.2) := fun W hb => (hL tg W g lim (h.below hb) hl hr').mono (fun en w' ⟨v, he, hrest⟩ => ⟨v, he, hb, hrest⟩)
  have fin : ∀ {w' : World} (v : Value) (W w3 : World), Below w.heap.size w W → w.heap.size + 1 < W.heap.size → (∃ tg', Moves (Fetches i) tg tg' W w3 ∧ WInv tg' w3 s i p B objs { g with fs := (lookF objs g.ft g.fs r).1 } (lim + r.length + 1) ∧ Slc tg' w3 i v (lookF objs g.ft g.fs r).2.2) → w3.grownBy w' (some (w.heap.size + 1)) → DidF s i p B objs tg w w' { g with fs := (lookF objs g.ft g.fs r).1 } (lim + (n :: r).length) := fun v W w3 hb hz ⟨tg', m, hW, _⟩ hg => didF_end h hb hz ⟨tg', m, hW⟩ hg
  have hsea : ∀ (v : Value) (W w3 : World), (Below w.heap.size w W ∧ ∃ tg', Moves (Fetches i) tg tg' W w3 ∧ WInv tg' w3 s i p B objs { g with fs := (lookF objs g.ft g.fs r).1 } (lim + r.length + 1) ∧ Slc tg' w3 i v (lookF objs g.ft g.fs r).2.2) → ∀ W2, Below w3.heap.size w3 W2 → Calls Tryz.prog 77 #[v, .string n] W2 fun e w' => e = .returned (.tuple #[.int .i64 (idxK (lookF objs g.ft g.fs r).2.2 n : Nat), .bool (thereK (lookF objs g.ft g.fs r).2.2 n)]) ∧ Below W2.heap.size W2 w' := fun v W w3 ⟨_, tg', _, _, hs⟩ W2 hb => search_any (hs.below hb).1 n l2 l3
  by_cases h0 : (lookF objs g.ft g.fs r).2.1 = 0
  · have hlook0 := hlook
    rw [h0] at hlook0
    have hG := getK_there (n := n) l2
    cases ht : thereK (lookF objs g.ft g.fs r).2.2 n with
    | false =>
      rw [ht] at hG
      have hE : findF objs g.ft g.fs (n :: r) = ((lookF objs g.ft g.fs r).1, 4, zE) := by
        rw [findF_cons, if_neg (fun h => h h0), hG]; rfl
      rw [hE]
      simp only [ht] at hsea
      refine (find_none B.bt _ _ _ _ _ _ _ _ _ _ _ n _ w heq hpar hlook0 hname hsea hst).mono ?_
      rintro en w' ⟨rfl, v, W, w3, hb, hz, ⟨_, hR⟩, hg⟩
      exact ⟨rfl, fin v W w3 hb hz hR hg⟩
    | true =>
      have hix := thereK_lt ht
      rw [ht, if_pos rfl, List.getElem?_eq_getElem hix, Option.map_some] at hG
      have hnm : ((lookF objs g.ft g.fs r).2.2[idxK (lookF objs g.ft g.fs r).2.2 n]).1 = n := by
        unfold thereK at ht
        rw [List.getElem?_eq_getElem hix] at ht
        simpa using ht
      have hE : findF objs g.ft g.fs (n :: r) = ((lookF objs g.ft g.fs r).1, 0, (lookF objs g.ft g.fs r).2.2[idxK (lookF objs g.ft g.fs r).2.2 n]) := by
        rw [findF_cons, if_neg (fun h => h h0), hG]
        exact congrArg (fun y : Ent => ((lookF objs g.ft g.fs r).1, (0 : Int), y)) (Prod.ext hnm.symm rfl)
      rw [hE]
      simp only [ht] at hsea
      refine (find_some B.bt _ _ _ _ _ _ _ _ _ _ _ n _ ((lookF objs g.ft g.fs r).2.2[idxK (lookF objs g.ft g.fs r).2.2 n]) w heq hpar (fun W hb => (hlook0 W hb).mono ?_) hname hsea ?_ hst).mono ?_
      · rintro en w' ⟨v, rfl, hb', tg', m, hW, hs⟩
        obtain ⟨gb, cp, rfl⟩ := slice_of_owns hs.1 (by omega)
        exact ⟨gb, _, cp, rfl, hb', tg', m, hW, hs⟩
      · rintro gb ln cp W w3 ⟨_, tg', m, hW, hs⟩
        have hln : ln = (lookF objs g.ft g.fs r).2.2.length := by
          rcases hs.1.2 with ⟨e, _⟩ | ⟨g', c', _, e, _⟩
          · cases e
          · cases e; rfl
        subst hln
        obtain ⟨c0, c1, c2⟩ := row_at (b := gb) (fun j u hu => by have := owns_cells hs.1 j u hu; rwa [Nat.zero_add] at this) hix
        exact ⟨ownsRow_lt hs.1 rfl, hix, l3, c0, c1, c2⟩
      · rintro en w' ⟨rfl, v, W, w3, hb, hz, ⟨_, hR⟩, hg⟩
        exact ⟨rfl, fin v W w3 hb hz hR hg⟩
  · have hE : findF objs g.ft g.fs (n :: r) = ((lookF objs g.ft g.fs r).1, (lookF objs g.ft g.fs r).2.1, zE) := by
      rw [findF_cons, if_pos h0]
    rw [hE]
    refine (find_err B.bt _ _ _ _ _ _ _ _ _ _ _ (lookF objs g.ft g.fs r).2.1 (by simpa using h0) w heq hpar hlook hst).mono ?_
    rintro en w' ⟨rfl, v, W, w3, hb, hz, ⟨_, hR⟩, hg⟩
    exact ⟨rfl, fin v W w3 hb hz hR hg⟩

theorem find_all : ∀ r : List ByteArray, FindC s i p B objs r
  | [] => find_nil
  | n :: r => find_cons n r (look_of r (find_all r))
theorem look_all (r : List ByteArray) : LookC s i p B objs r := look_of r (find_all r)
end

end Go.Proofs.YtajopoddmfdejaaGreat
