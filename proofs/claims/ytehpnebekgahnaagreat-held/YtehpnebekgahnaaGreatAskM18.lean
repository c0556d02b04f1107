/-
  What is proved here: 'find', walked: the way to a path, where something stands there. 'look', walked: what is in the directory at a path, over whatever 'find' and 'entries' answer. 'entries', 'find' and 'look' of a workspace's tree: what they answer, what they fetch, and that all else stays.
-/
import Derived.Test.YtehpnebekgahnaaGreatAskM17
namespace Go.Proofs.YtehpnebekgahnaaGreat
open Go.RowKit Go.Sort Go.Shelf
set_option linter.unusedVariables false

set_option maxRecDepth 100000 in
set_option maxHeartbeats 1000000 in
theorem find_some (t : Nat) (s0 s1 s2 s3 s4 r0 r1 r2 r3 r4 : ByteArray) (R : Value → World → World → Prop) (x : ByteArray) (k : Nat) (y : Ent) (w : World)
    (heq : ∀ W, (Op.equalIn 10000 67 (.agg #[.string s0, .string s1, .string s2, .string s3, .string s4]) (.agg #[.string ⟨#[]⟩, .string ⟨#[]⟩, .string ⟨#[]⟩, .string ⟨#[]⟩, .string ⟨#[]⟩])).run Tryz.prog W = .ok false W)
    (hpar : ∀ W, Calls Tryz.prog 56 #[.agg #[.string s0, .string s1, .string s2, .string s3, .string s4]] W fun e w' => e = .returned (.agg #[.string r0, .string r1, .string r2, .string r3, .string r4]) ∧ Below W.heap.size W w')
    (hlook : ∀ W, Below w.heap.size w W → Calls Tryz.prog 55 #[.pointer (some ⟨t, 0, none⟩), .agg #[.string r0, .string r1, .string r2, .string r3, .string r4]] W fun e w' => ∃ gb ln cp, e = .returned (.tuple #[.slice (some ⟨gb, 0, none⟩) ln cp, .int .i64 0]) ∧ R (.slice (some ⟨gb, 0, none⟩) ln cp) W w')
    (hname : ∀ W, Calls Tryz.prog 58 #[.agg #[.string s0, .string s1, .string s2, .string s3, .string s4]] W fun e w' => e = .returned (.string x) ∧ Below W.heap.size W w')
    (hsea : ∀ v W w3, R v W w3 → ∀ W2, Below w3.heap.size w3 W2 → Calls Tryz.prog 57 #[v, .string x] W2 fun e w' => e = .returned (.tuple #[.int .i64 (k : Int), .bool true]) ∧ Below W2.heap.size W2 w')
    (hcell : ∀ gb ln cp W w3, R (.slice (some ⟨gb, 0, none⟩) ln cp) W w3 → gb < w3.heap.size ∧ k < ln ∧ ln ≤ 16 ∧ w3.cell? ⟨gb, k * 3, none⟩ = some (.string y.1) ∧ w3.cell? ⟨gb, k * 3 + 1, none⟩ = some (.int .i64 y.2.1) ∧ w3.cell? ⟨gb, k * 3 + 2, none⟩ = some (.int .i64 y.2.2))
    (hst : ∀ v W w3, R v W w3 → Stays w W w3) :
    Calls Tryz.prog 62 #[.pointer (some ⟨t, 0, none⟩), .agg #[.string s0, .string s1, .string s2, .string s3, .string s4]] w fun e w' => e = .returned (.tuple #[.agg #[.string y.1, .int .i64 y.2.1, .int .i64 y.2.2], .int .i64 0]) ∧ ∃ v W w3, Below w.heap.size w W ∧ w.heap.size + 1 < W.heap.size ∧ R v W w3 ∧ w3.grownBy w' (some (w.heap.size + 1)) := by
  have hroot := fun W => root_any W
  unfold pathV pathA at hroot
  simp only [List.getD_nil] at hroot
  go_enter Tryz.func62, Tryz.ntmps62
  go_wp2
  go_region_with (go_at_call 49; refine (hroot _).mono ?_; rintro e w1 ⟨rfl, hb1⟩; obtain ⟨hc1, hf1⟩ := bcell hb1; obtain ⟨hz0, hz1⟩ := two_size hb1)
  all_goals
    have h1 : Below w.heap.size w w1 := below_via (below_drew (((Below.refl _ _).alloc (Nat.le_refl _) _).alloc (by simp) _)) hb1
    go_wp2_with (first
      | (go_at_call 56; refine (hpar _).mono ?_; rintro e w2 ⟨rfl, hb2⟩; obtain ⟨hc2, hf2⟩ := bcell hb2; have hz2 : w.heap.size + 1 < w2.heap.size := Nat.lt_of_lt_of_le hz1 hb2.size; have hz3 : w.heap.size < w2.heap.size := Nat.lt_of_lt_of_le hz0 hb2.size)
      | (go_at_call 55; refine (hlook _ (below_via h1 hb2)).mono ?_; rintro e w3 ⟨gb, ln, cp, rfl, hR⟩; have hS := hst _ _ _ hR; obtain ⟨hgl, hkl, hl16, y0, y1, y2⟩ := hcell _ _ _ _ _ hR; have k0 := hS.cell (Nat.le_refl _) hz3; have k1 := hS.cell (b := w.heap.size + 1) (by omega) hz2; have k2 := hS.frozen (b := w.heap.size + 1) (by omega) hz2; have HR : Hid _ := hR; have hz4 : w.heap.size < w3.heap.size := Nat.lt_of_lt_of_le hz3 hS.1; have hz5 : w.heap.size + 1 < w3.heap.size := Nat.lt_of_lt_of_le hz2 hS.1; clear hR hS)
      | (go_at_call 58; refine (hname _).mono ?_; rintro e w4 ⟨rfl, hb4⟩; obtain ⟨hc4, hf4⟩ := bcell hb4; have hz6 : w.heap.size + 1 < w4.heap.size := Nat.lt_of_lt_of_le hz5 hb4.size; have hz7 : gb < w4.heap.size := Nat.lt_of_lt_of_le hgl hb4.size)
      | (go_at_call 57; refine (hsea _ _ _ HR.out _ hb4).mono ?_; rintro e w5 ⟨rfl, hb5⟩; obtain ⟨hc5, hf5⟩ := bcell hb5))
    exact bodyPost_ret (v := .tuple #[.agg #[.string y.1, .int .i64 y.2.1, .int .i64 y.2.2], .int .i64 0]) (by simp [results, Tryz.results62, go_sem, hc1, hc2, k1, hc4, hc5, hz1, hz5, hz6]) rfl ⟨rfl, _, w2, w3, below_via h1 hb2, hz2, HR.out, by
      refine grown_below (below_via hb4 hb5) ?_
      repeat (first | exact grown_refl _ _ | (refine grown_set ?_))⟩

end Go.Proofs.YtehpnebekgahnaaGreat

namespace Go.Proofs.YtehpnebekgahnaaGreat
open Go.RowKit Go.Sort Go.Shelf
set_option linter.unusedVariables false

set_option maxRecDepth 100000 in
set_option maxHeartbeats 400000 in
theorem look_err (t : Nat) (s0 s1 s2 s3 s4 a : ByteArray) (k id er : Int) (R : World → World → Prop) (w : World) (her : (er == 0) = false)
    (hfind : ∀ W, Below w.heap.size w W → Calls Tryz.prog 62 #[.pointer (some ⟨t, 0, none⟩), .agg #[.string s0, .string s1, .string s2, .string s3, .string s4]] W fun e w' => e = .returned (.tuple #[.agg #[.string a, .int .i64 k, .int .i64 id], .int .i64 er]) ∧ R W w') :
    Calls Tryz.prog 55 #[.pointer (some ⟨t, 0, none⟩), .agg #[.string s0, .string s1, .string s2, .string s3, .string s4]] w fun e w' => e = .returned (.tuple #[.slice none 0 0, .int .i64 er]) ∧ ∃ W w3, Below w.heap.size w W ∧ R W w3 ∧ Below w3.heap.size w3 w' := by
  have hf := hfind _ ((Below.refl w.heap.size w).alloc (Nat.le_refl _) (.cells #[.string s0, .string s1, .string s2, .string s3, .string s4] 67))
  clear hfind
  go_enter Tryz.func55, Tryz.ntmps55
  go_wp2_with (go_at_call 62; refine hf.mono ?_; rintro e w3 ⟨rfl, hR⟩; have HR : Hid _ := hR; clear hR)
  go_ret2
  exact ⟨rfl, _, w3, (Below.refl w.heap.size w).alloc (Nat.le_refl _) _, HR.out, by repeat (first | exact Below.refl _ _ | (refine Below.alloc ?_ (by simp) _) | (refine Below.setCell ?_ (by simp) _))⟩

set_option maxRecDepth 100000 in
set_option maxHeartbeats 400000 in
theorem look_ok (t : Nat) (s0 s1 s2 s3 s4 a : ByteArray) (k id : Int) (R : World → World → Prop) (S : Value → Int → World → World → Prop) (w : World)
    (hfind : ∀ W, Below w.heap.size w W → Calls Tryz.prog 62 #[.pointer (some ⟨t, 0, none⟩), .agg #[.string s0, .string s1, .string s2, .string s3, .string s4]] W fun e w' => e = .returned (.tuple #[.agg #[.string a, .int .i64 k, .int .i64 id], .int .i64 0]) ∧ R W w')
    (hents : ∀ W w3, R W w3 → ∀ W2, Below w3.heap.size w3 W2 → Calls Tryz.prog 91 #[.pointer (some ⟨t, 0, none⟩), .agg #[.string s0, .string s1, .string s2, .string s3, .string s4], .agg #[.string a, .int .i64 k, .int .i64 id]] W2 fun e w' => ∃ v er, e = .returned (.tuple #[v, .int .i64 er]) ∧ S v er W2 w')
    (hst : ∀ W w3, R W w3 → Stays w W w3) :
    Calls Tryz.prog 55 #[.pointer (some ⟨t, 0, none⟩), .agg #[.string s0, .string s1, .string s2, .string s3, .string s4]] w fun e w' => ∃ v er W w3 W2, Below w.heap.size w W ∧ R W w3 ∧ Below w3.heap.size w3 W2 ∧ e = .returned (.tuple #[v, .int .i64 er]) ∧ S v er W2 w' := by
  have hf := hfind _ ((Below.refl w.heap.size w).alloc (Nat.le_refl _) (.cells #[.string s0, .string s1, .string s2, .string s3, .string s4] 67))
  clear hfind
  go_enter Tryz.func55, Tryz.ntmps55
  go_wp2_with (first
    | (go_at_call 62; refine hf.mono ?_; rintro e w3 ⟨rfl, hR⟩; have hS := hst _ _ hR; have k0 := hS.cell (Nat.le_refl _) (by simp); have hz : w.heap.size < w3.heap.size := Nat.lt_of_lt_of_le (by simp) hS.1; have HR : Hid _ := hR; clear hR hS)
    | (go_at_call 91; refine (hents _ _ HR.out _ (by repeat (first | exact Below.refl _ _ | (refine Below.alloc ?_ (by simp) _) | (refine Below.setCell ?_ (by simp) _)))).mono ?_; rintro e w4 ⟨v, er, rfl, hS⟩; have HS : Hid _ := hS; clear hS))
  go_ret2
  exact ⟨v, er, _, w3, _, (Below.refl w.heap.size w).alloc (Nat.le_refl _) _, HR.out, by repeat (first | exact Below.refl _ _ | (refine Below.alloc ?_ (by simp) _) | (refine Below.setCell ?_ (by simp) _)), rfl, HS.out⟩

end Go.Proofs.YtehpnebekgahnaaGreat

namespace Go.Proofs.YtehpnebekgahnaaGreat
open Go.RowKit Go.Sort Go.Shelf
set_option linter.unusedVariables false

/-- A slice of entries that the tree has, or a shelf. -/
def Slc (tg : Tags) (w : World) (i : Nat) (v : Value) (es : List Ent) : Prop := w.ownsRow 0 61 3 v es.length (flat es) ∧ ∀ g, v.ownBlock = some g → tg g = (i, 3) ∨ tg g = (i, 5)

theorem nil_row (w : World) : w.ownsRow 0 61 3 (.slice none 0 0) ([] : List Ent).length (flat []) := ⟨rfl, .inl ⟨rfl, rfl⟩⟩
theorem Slc.nil (tg : Tags) (w : World) (i : Nat) : Slc tg w i (.slice none 0 0) [] := ⟨nil_row w, fun g hg => by simp [Value.ownBlock] at hg⟩
theorem Slc.below {tg : Tags} {w w' : World} {i : Nat} {v : Value} {es : List Ent} (h : Slc tg w i v es) (hb : Below w.heap.size w w') : Slc tg w' i v es := ⟨ownsRow_keep h.1 (fun g hg => hb.block g (ownsRow_lt h.1 hg)), h.2⟩
theorem Slc.shape {tg : Tags} {w : World} {i : Nat} {v : Value} {es : List Ent} (h : Slc tg w i v es) : ∃ la n c, v = .slice la n c := by
  rcases h.1.2 with ⟨e, _⟩ | ⟨g', c', _, e, _⟩
  · exact ⟨_, _, _, e⟩
  · exact ⟨_, _, _, e⟩

section
variable {tg : Tags} {w : World} {s i p : Nat} {B : WB} {objs : List Ob} {g : WG} {lim : Nat}

theorem OwnDV.look {od : List ByteArray → Option (List Ent)} {vD : List ByteArray → Value} (h : OwnDV tg w i B od lim vD) {q : List ByteArray} (hq : Good q) {W : World} (hb : Below w.heap.size w W) :
    (Instr.lookup 126 (.map (some B.oD)) (.agg (pathA q)) false).run Tryz.prog W = .ok (((od q).map fun _ => vD q).getD (.slice none 0 0)) W := by
  obtain ⟨n, _, M, hV, hM, _⟩ := h.map
  have := (hV.keep (w' := W) (hb.block _ hV.lt)).look lawP Tryz.underlying126 (zeroEs W) (keyVP hq)
  rw [hM q hq] at this
  exact this

/-- A call of the workspace's, behind memory of the call's own. -/
theorem call_moves {P : Nat × Nat → Prop} {tg tg' : Tags} {w W w' : World} (hb : Below w.heap.size w W) (m : Moves P tg tg' W w') : Moves P tg tg' w w' := (Moves.of_below hb).trans m

theorem entries_any (h : WInv tg w s i p B objs g lim) (hl : lim < 1099511627776) {q : List ByteArray} (hq : Good q) {e : Ent} (he : EntOk objs e) :
    Calls Tryz.prog 91 #[.pointer (some ⟨B.bt, 0, none⟩), .agg (pathA q), .agg #[.string e.1, .int .i64 e.2.1, .int .i64 e.2.2]] w fun en w' => ∃ v, en = .returned (.tuple #[v, .int .i64 (entsF objs g.ft g.fs q e).2.1]) ∧
      ∃ tg', Moves (Fetches i) tg tg' w w' ∧ WInv tg' w' s i p B objs { g with fs := (entsF objs g.ft g.fs q e).1 } (lim + 1) ∧ Slc tg' w' i v (entsF objs g.ft g.fs q e).2.2 := by
  obtain ⟨nm, k, id⟩ := e
  have hlt : B.bt < w.heap.size := (Array.getElem?_eq_some_iff.1 h.wp.tree.ht).1
  by_cases hk : k = 2
  · subst hk
    by_cases hid : id = 0
    · subst hid
      have hE : entsF objs g.ft g.fs q (nm, 2, 0) = (g.fs, 0, (g.ft.od q).getD []) := rfl
      rw [hE]
      obtain ⟨vD, hD⟩ := h.wp.ownD
      have c8 : w.cell? ⟨B.bt, 8, none⟩ = some (.map (some B.oD)) := by simp [World.cell?, h.wp.tree.ht]
      refine (ents_own B.bt B.oD _ _ _ _ _ nm _ w hlt c8 (fun W hb => hD.look hq hb)).mono ?_
      rintro en w' ⟨rfl, hb⟩
      refine ⟨_, rfl, tg, Moves.of_below hb, (h.below hb).mono (Nat.le_succ _), ?_⟩
      cases ho : g.ft.od q with
      | none => exact Slc.nil _ _ _
      | some es =>
        have hr := hD.row q es ho
        exact Slc.below ⟨hr.1, fun g' hg' => .inr (hr.2 g' hg')⟩ hb
    · have hko := he.2 hid
      have c2 : w.cell? ⟨B.bt, 2, none⟩ = some (.pointer (some ⟨B.sD, 0, none⟩)) := by simp [World.cell?, h.wp.tree.ht, ptr]
      have hE : entsF objs g.ft g.fs q (nm, 2, id) = if (g.fs.dirG id).2 then ((g.fs.dirG id).1, 0, entsOf objs id) else ((g.fs.dirG id).1, 14, []) := by
        unfold entsF
        rw [if_neg (show ¬ ((nm, (2 : Int), id) : Ent).2.1 ≠ 2 from fun h => h rfl), if_neg hid]
      refine (ents_get B.bt B.sD _ _ _ _ _ nm id (fun v er W w' => er = (if (g.fs.dirG id).2 then 0 else 14) ∧ ∃ tg', Moves (Fetches i) tg tg' W w' ∧ WInv tg' w' s i p B objs { g with fs := (g.fs.dirG id).1 } (lim + 1) ∧ (if (g.fs.dirG id).2 then RowT tg' w' (i, 3) v (entsOf objs id) else v = .slice none 0 0)) w hlt c2 hid (fun W hb => (shelfD (h.below hb) hl hko).mono ?_)).mono ?_
      · rintro en w' ⟨v, rfl, tg', m, hW, hr⟩
        exact ⟨v, _, rfl, rfl, tg', m, hW, hr⟩
      · rintro en w' ⟨v, er, W, hb, rfl, rfl, tg', m, hW, hr⟩
        rw [hE]
        by_cases hG : (g.fs.dirG id).2 = true
        · rw [if_pos hG] at hr ⊢
          rw [if_pos hG]
          exact ⟨v, rfl, tg', call_moves hb m, hW, hr.1, fun g' hg' => .inl (hr.2 g' hg')⟩
        · rw [if_neg hG] at hr ⊢
          rw [if_neg hG]
          subst hr
          exact ⟨_, rfl, tg', call_moves hb m, hW, Slc.nil _ _ _⟩
  · have hE : entsF objs g.ft g.fs q (nm, k, id) = (g.fs, 5, []) := by unfold entsF; rw [if_pos hk]
    rw [hE]
    refine (ents_not B.bt _ _ _ _ _ nm k id w hk).mono ?_
    rintro en w' ⟨rfl, hb⟩
    exact ⟨_, rfl, tg, Moves.of_below hb, (h.below hb).mono (Nat.le_succ _), Slc.nil _ _ _⟩

/-- What is found is an entry that may be; what is looked into is by rising names. -/
theorem find_entOk (hS : Sound objs) {ft : FT} (hok : FtOk objs ft) (hr : ∀ p es, ft.od p = some es → RisingK es ∧ es.length ≤ 16) (fs : FS) : ∀ r, ((findF objs ft fs r).2.1 = 0 → EntOk objs (findF objs ft fs r).2.2) ∧ (∀ e ∈ (lookF objs ft fs r).2.2, EntOk objs e) ∧ RisingK (lookF objs ft fs r).2.2 ∧ (lookF objs ft fs r).2.2.length ≤ 16 := by
  have key : ∀ r, ((findF objs ft fs r).2.1 = 0 → EntOk objs (findF objs ft fs r).2.2) → (∀ e ∈ (lookF objs ft fs r).2.2, EntOk objs e) ∧ RisingK (lookF objs ft fs r).2.2 ∧ (lookF objs ft fs r).2.2.length ≤ 16 := by
    intro r hf
    unfold lookF
    by_cases h0 : (findF objs ft fs r).2.1 ≠ 0
    · simp only [if_pos h0]; exact ⟨by simp, List.Pairwise.nil, by simp⟩
    · simp only [if_neg h0]
      have he := hf (Decidable.not_not.1 h0)
      unfold entsF
      by_cases hk : (findF objs ft fs r).2.2.2.1 ≠ 2
      · rw [if_pos hk]; exact ⟨by simp, List.Pairwise.nil, by simp⟩
      · rw [if_neg hk]
        by_cases hid : (findF objs ft fs r).2.2.2.2 = 0
        · rw [if_pos hid]
          cases ho : ft.od r.reverse with
          | none => exact ⟨by simp, List.Pairwise.nil, by simp⟩
          | some es => exact ⟨hok.od _ es ho, (hr _ es ho).1, (hr _ es ho).2⟩
        · rw [if_neg hid]
          by_cases hG : ((findF objs ft fs r).1.dirG (findF objs ft fs r).2.2.2.2).2 = true
          · rw [if_pos hG]
            obtain ⟨s1, s2, s3⟩ := hS.2 _ ((he.2 hid).trans (Decidable.not_not.1 hk))
            exact ⟨fun e he => ⟨(s3 e he).2.1, fun _ => (s3 e he).2.2.1⟩, s1, s2⟩
          · rw [if_neg hG]; exact ⟨by simp, List.Pairwise.nil, by simp⟩
  have find : ∀ r, (findF objs ft fs r).2.1 = 0 → EntOk objs (findF objs ft fs r).2.2 := by
    intro r
    induction r with
    | nil => exact fun _ => ⟨.inr rfl, hok.root⟩
    | cons n r ih =>
      intro h0
      rw [findF_cons] at h0 ⊢
      by_cases hl : (lookF objs ft fs r).2.1 ≠ 0
      · rw [if_pos hl] at h0; exact absurd h0 hl
      · rw [if_neg hl] at h0 ⊢
        cases hg : getK (lookF objs ft fs r).2.2 n with
        | none => rw [hg] at h0; simp at h0
        | some c =>
          simp only
          have hmem : (n, c) ∈ (lookF objs ft fs r).2.2 := by
            unfold getK at hg
            cases hf : (lookF objs ft fs r).2.2.find? (fun x => decide (x.1 = n)) with
            | none => rw [hf] at hg; simp at hg
            | some x =>
              rw [hf] at hg
              have h1 := List.find?_some hf
              have h2 := List.mem_of_find?_eq_some hf
              simp only [decide_eq_true_eq] at h1
              simp only [Option.map_some, Option.some.injEq] at hg
              rw [← h1, ← hg]; exact h2
          exact (key r ih).1 _ hmem
  exact fun r => ⟨find r, key r (find r)⟩
end

end Go.Proofs.YtehpnebekgahnaaGreat
