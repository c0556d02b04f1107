/-
  What is proved here: the law's step GetDir.
-/
import Derived.Test.YtogeefmegegnnaaGreatLawL
namespace Go.Proofs.YtogeefmegegnnaaGreat
open Go.RowKit Go.Sort Go.Shelf
set_option linter.unusedVariables false
variable {ft : PTail}

theorem eqlRun {t : TypeId} (P : Program) (W : World) (x y : Ent) (h : (binOp .eql t (.agg #[.string x.1, .int .i64 x.2.1, .int .i64 x.2.2]) (.agg #[.string y.1, .int .i64 y.2.1, .int .i64 y.2.2])).run P W = (if x.fst.toList = y.fst.toList then
      if x.snd.fst = y.snd.fst then
        if x.snd.snd = y.snd.snd then Result.ok (Value.bool true) W else Result.ok (Value.bool false) W
      else Result.ok (Value.bool false) W
    else Result.ok (Value.bool false) W)) : (binOp .eql t (.agg #[.string x.1, .int .i64 x.2.1, .int .i64 x.2.2]) (.agg #[.string y.1, .int .i64 y.2.1, .int .i64 y.2.2])).run P W = .ok (.bool (decide (x = y))) W := by
  rw [h]
  by_cases e : x = y
  · subst e; simp
  · rw [decide_eq_false e]
    split
    · next h1 =>
      split
      · next h2 =>
        split
        · next h3 => exact absurd (Prod.ext (bytes_eq h1) (Prod.ext h2 h3)) e
        · rfl
      · rfl
    · rfl
set_option maxRecDepth 100000 in
theorem eqlEntry (W : World) (x y : Ent) : (binOp .eql 112 (.agg #[.string x.1, .int .i64 x.2.1, .int .i64 x.2.2]) (.agg #[.string y.1, .int .i64 y.2.1, .int .i64 y.2.2])).run Tryz.prog W = .ok (.bool (decide (x = y))) W := by
  refine eqlRun _ W x y ?_
  go_simp

section
variable {FL FR FS FH : Nat → Prop} {w : World} {W s r : Nat} {objs ros : List Ob} {c5 c6 c7 c8 c9 c10 c11 : Value} {ea : Option Addr} {ec q : Nat} {hs : List HeldL}

theorem w3_learn (h : W3 ft FL FR FS w W s r objs ros c5 c6 c7 c8 c9 c10 c11) (j : Nat) (hj : j < objs.length) :
    Calls Tryz.prog 76 #[.pointer (some ⟨W, 0, none⟩), .int .i64 (j : Int), .int .i64 ((j : Int) + 1)] w fun e w' => e = .returned (.bool true) ∧ W3 ft (NewF FL w w') FR FS w' W s r objs ros c5 c6 c7 c8 c9 c10 c11 ∧ Keeps FL w w' := by
  have hsep := h.sep
  have sep' : ∀ w' : World, Keeps FL w w' → Sep w' (NewF FL w w') FR FS := fun w' hk => ⟨fun k hk' => by rcases hk' with h | h; exact Nat.lt_of_lt_of_le (hsep.ll k h) hk.size; exact h.2,
      fun k hk' => ⟨Nat.lt_of_lt_of_le (hsep.rl k hk').1 hk.size, fun h => by rcases h with h | h; exact (hsep.rl k hk').2 h; have := (hsep.rl k hk').1; omega⟩,
      fun k hk' => ⟨Nat.lt_of_lt_of_le (hsep.sl k hk').1 hk.size, fun h => by rcases h with h | h; exact (hsep.sl k hk').2 h; have := (hsep.sl k hk').1; omega⟩, hsep.rs⟩
  exact (learns_known h.law h.ref hsep.rl h.twin.1.symm h.at_ j hj).mono fun e w' ⟨he, hls, hk⟩ => ⟨he, ⟨hls, ref_stays h.ref hsep.rl hk, Inv.keep h.sto (fun _ h => h) (fun k hk' => hk.block k (hsep.sl k hk').1 (hsep.sl k hk').2), h.twin, h.at_, sep' w' hk⟩, hk⟩

theorem getDir_no {F : Nat → Prop} (h : Inv ft F w s objs) (x : Int) (hk : kindOf objs x ≠ 2) :
    Calls Tryz.prog 74 #[.pointer (some ⟨s, 0, none⟩), .int .i64 x] w fun e w' => e = .returned (.tuple #[.slice none 0 0, .int .i64 13]) ∧ Below w.heap.size w w' := by
  refine (storeGetDir h x).mono fun e w' ⟨hf, hb⟩ => ⟨?_, hb⟩
  rcases hf with ⟨_, h1⟩ | ⟨j, hj, he, h2, _⟩
  · exact h1
  · rw [he, kindOf_in hj] at hk; exact absurd h2 hk

/-- No directory: where, and of what kind. -/
theorem w3_where (W s r : Nat) (objs ros : List Ob) (c5 c6 c7 c8 c9 c10 c11 : Value) (x : Int) (hx : kindOf objs x ≠ 2) : ∃ pz kz : Int, kz ≠ 2 ∧ ∀ {FL FR FS : Nat → Prop} (w : World), W3 ft FL FR FS w W s r objs ros c5 c6 c7 c8 c9 c10 c11 →
    Calls Tryz.prog 80 #[.pointer (some ⟨W, 0, none⟩), .int .i64 x] w (fun e w' => e = .returned (.int .i64 pz) ∧ w' = w) ∧ Calls Tryz.prog 81 #[.pointer (some ⟨W, 0, none⟩), .int .i64 pz] w (fun e w' => e = .returned (.int .i64 kz) ∧ w' = w) := by
  by_cases hN : x < 1 ∨ (objs.length : Int) < x
  · exact ⟨-1, 0, by decide, fun w h => ⟨w3_noplace h x hN, wkind_neg (-1) (by decide)⟩⟩
  · obtain ⟨j, rfl⟩ : ∃ j : Nat, x = (j : Int) + 1 := ⟨(x - 1).toNat, by omega⟩
    have hj : j < objs.length := by omega
    rw [kindOf_in hj] at hx
    exact ⟨j, objs[j].kind, hx, fun w h => ⟨w3_place h j hj, w3_kind h j hj⟩⟩

set_option maxRecDepth 100000 in
set_option maxHeartbeats 4000000 in
theorem getDir_none (h : W3 ft FL FR FS w W s r objs ros c5 c6 c7 c8 (.slice ea (4 * q) ec) c10 c11) (hh : Held FH w ea ec q hs) (hap : ∀ k, FH k → ¬ F3 FL FR FS k) (hq : 4 * q ≤ 1000000000) (a1 N a3 : Int) (S T : ByteArray) (la : Option Addr) (lm lc : Nat) (hN : kindOf objs N ≠ 2) :
    Calls Tryz.prog 45 #[.pointer (some ⟨W, 0, none⟩), .agg #[.int .i64 4, .int .i64 a1, .int .i64 N, .int .i64 a3, .string S, .string T, .slice la lm lc]] w fun e w' => e = .returned (.bool true) ∧ Played ft FL FR FS FH w w' W s r (q + 1) c5 c6 c7 c8 c10 c11 := by
  obtain ⟨k0, k1, hWl, hFW⟩ := h.law.cells
  obtain ⟨b0, b1', b2, b3, b4, hW⟩ := h.block
  have b1 : ∀ B, Below w.heap.size w (w.alloc B) := fun B => (Below.refl _ _).alloc (Nat.le_refl _) _
  have bb : ∀ B W2, Below (w.alloc B).heap.size (w.alloc B) W2 → Below w.heap.size w W2 := fun B W2 hb => (b1 B).trans (hb.mono (by simp))
  have hid := fun B => w3_id (h.below (b1 B)) N
  have hget := fun B => getDir_no (h.below (b1 B)).sto N hN
  obtain ⟨pz, kz, hkz, hwh⟩ := w3_where W s r objs ros c5 c6 c7 c8 (.slice ea (4 * q) ec) c10 c11 N hN
  have hpl := fun B W2 (hb : Below (w.alloc B).heap.size (w.alloc B) W2) => (hwh W2 (h.below (bb B W2 hb))).1
  have hkd := fun B W2 (hb : Below (w.alloc B).heap.size (w.alloc B) W2) => (hwh W2 (h.below (bb B W2 hb))).2
  have hnum := fun (e : Int) (W' : World) => num_any e W'
  have hke := fun B W2 (hb : Below (w.alloc B).heap.size (w.alloc B) W2) => keepEntries_any W q #[b0, b1', b2, b3, b4, c5, c6, c7, c8, .slice ea (4 * q) ec, c10, c11] ea ec 0 none hs W2 (((bb B W2 hb).block W hWl).trans hW) rfl hh.len hq (ownsRow_keep hh.row (fun g hg => (bb B W2 hb).block g (ownsRow_lt hh.row hg))) (by omega) ⟨fun _ => rfl, fun b h => by cases h⟩
  have HF : Hid (∀ B W2 W3', Below (w.alloc B).heap.size (w.alloc B) W2 → KeptOne W2 W3' W q #[b0, b1', b2, b3, b4, c5, c6, c7, c8, .slice ea (4 * q) ec, c10, c11] ea ec none 0 hs → Played ft FL FR FS FH w W3' W s r (q + 1) c5 c6 c7 c8 c10 c11) := fun B W2 W3' hb hk => by
    have hbw := bb B W2 hb
    obtain ⟨FH', ea', ec', hs', n1, n2, n3, n4, n5⟩ := kept_next (h.below hbw) (hh.keep (fun k hk => hbw.block k (hh.lt k hk)) hbw.size) hap (Nat.zero_le _) (fun g hg => by cases hg) (fun _ => rfl) ((hbw.block W hWl).trans hW) hk
    refine ⟨FL, FR, FS, FH', objs, ros, ea', ec', hs', n1, n2, n3, fun k hk => ?_, ⟨n5.os.trans hbw.os, n5.tape.trans hbw.tape, n5.output.trans hbw.output, Nat.le_trans hbw.size n5.size, fun k hk hn => ?_⟩⟩
    · rcases hk with e | e
      · exact .inl (.inl e)
      · rcases n4 k e with e | e | e
        · exact .inl (.inr e)
        · exact .inr (Nat.le_trans hbw.size e)
        · cases e
    · rw [n5.block k (Nat.lt_of_lt_of_le hk hbw.size) ?_]
      · exact hbw.block k hk
      · rintro (e | e | e)
        · exact hn (.inl (.inl (e ▸ hFW)))
        · exact hn (.inr e)
        · cases e
  have hkz' : (kz == 2) = false := by simpa using hkz
  have HI : Hid _ := hid
  have HG : Hid _ := hget
  have HP : Hid _ := hpl
  have HK : Hid _ := hkd
  have HN : Hid _ := hnum
  have HE : Hid _ := hke
  clear hid hget hpl hkd hnum h hh hap hwh hke hW hN hkz
  go_enter Tryz.func45, Tryz.ntmps45
  go_wp2_with (first
    | (go_at_call 78; refine Calls.mono (HI.out _) ?_; rintro _ _ ⟨rfl, rfl⟩)
    | (go_at_call 74; refine Calls.mono (HG.out _) ?_; rintro _ w2 ⟨rfl, hb2⟩; have hWl2 := Nat.lt_of_lt_of_le hWl (bb _ _ hb2).size)
    | (go_at_call 80; refine Calls.mono (HP.out _ _ hb2) ?_; rintro _ _ ⟨rfl, rfl⟩)
    | (go_at_call 81; refine Calls.mono (HK.out _ _ hb2) ?_; rintro _ _ ⟨rfl, rfl⟩)
    | (go_at_call 46; refine Calls.mono (HN.out _ _) ?_; rintro _ _ ⟨rfl, rfl⟩)
    | (go_at_call 82; refine Calls.mono (HE.out _ _ hb2) ?_; rintro _ w4 ⟨rfl, hk4⟩; have HK4 := HF.out _ _ _ hb2 hk4; clear hk4; have HK5 : Hid _ := HK4; clear HK4))
  go_ret
  exact ⟨rfl, HK5.out⟩

/-- Where the items of a document's directory lie. -/
theorem W3.items (h : W3 ft FL FR FS w W s r objs ros c5 c6 c7 c8 c9 c10 c11) (j : Nat) (hj : j < objs.length) (hk : objs[j].kind = 2) : ∃ g cap ia ic, w.cell? ⟨r, 0, none⟩ = some (.slice (some ⟨g, 0, none⟩) objs.length cap) ∧ r < w.heap.size ∧ g < w.heap.size ∧
    w.cell? ⟨g, j * 4 + 2, none⟩ = some (.slice ia objs[j].ents.length ic) ∧ w.ownsRow 0 159 3 (.slice ia objs[j].ents.length ic) objs[j].ents.length (flat (objs[j].ents.map toItem)) := by
  have hf := h.few
  have hx := (h.twin.2.1 j hj (by omega)).ents hk
  obtain ⟨a, cap, hr⟩ := h.ref
  have hjr : j < ros.length := by omega
  obtain ⟨g, rfl, hg, q0, q1, q2, q3⟩ := row_obs hr.row rfl hjr
  have hob := hr.obs _ (List.getElem_mem hjr)
  have hle : objs[j].ents.length = ros[j].el := by rw [← hob.len, hx, List.length_map]
  refine ⟨g, cap, ros[j].ea, ros[j].ec, ?_, hr.lt, hg, ?_, ?_⟩
  · rw [← hf.2]; exact hr.c0
  · rw [hle]; exact q2
  · rw [hle, ← hx]; exact hob.row

theorem W3.few16 (h : W3 ft FL FR FS w W s r objs ros c5 c6 c7 c8 c9 c10 c11) (j : Nat) (hj : j < objs.length) (hk : objs[j].kind = 2) : objs[j].ents.length ≤ 16 ∧ ∀ e ∈ objs[j].ents, 1 ≤ e.2.2 ∧ e.2.2 ≤ (j : Int) := by
  have hf := h.few
  have hx := (h.twin.2.1 j hj (by omega)).ents hk
  have hat := h.at_ j (by omega)
  obtain ⟨a, cap, hr⟩ := h.ref
  have hjr : j < ros.length := by omega
  have hob := hr.obs _ (List.getElem_mem hjr)
  have hle : objs[j].ents.length = ros[j].el := by rw [← hob.len, hx, List.length_map]
  refine ⟨by rw [hle]; exact hob.few, fun e he => ?_⟩
  rw [hx] at hat
  have : 0 ≤ e.2.2 - 1 ∧ e.2.2 - 1 < (j : Int) := hat (toItem e) (List.mem_map_of_mem he)
  omega

/-- The IDs' row. -/
theorem W3.ids (h : W3 ft FL FR FS w W s r objs ros c5 c6 c7 c8 c9 c10 c11) (i : Nat) (hi : i < objs.length) : ∃ g c, w.cell? ⟨W, 2, none⟩ = some (.slice (some ⟨g, 0, none⟩) objs.length c) ∧ g < w.heap.size ∧ w.cell? ⟨g, i, none⟩ = some (.int .i64 ((i : Int) + 1)) := by
  obtain ⟨ia, _, _, ic, _, _, _, hl, _⟩ := h.law
  obtain ⟨g, rfl, hgl, cc, _⟩ := row_one hl.rowI (i := i) (v := .int .i64 ((i : Int) + 1)) (by simp [encI, idsN_get hi])
  refine ⟨g, ic, ?_, hgl, cc⟩
  have := hl.c2
  rw [idsN_len] at this
  exact this
end
end Go.Proofs.YtogeefmegegnnaaGreat
