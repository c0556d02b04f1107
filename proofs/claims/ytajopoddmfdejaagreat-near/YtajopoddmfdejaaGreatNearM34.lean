/-
  What is proved here: a workspace between two steps; what Mkdir, Remove, Rename and Open of a workspace do there, in the words of the model. canopykeep's path, as a function of its number. canopykeep's put and do, in the words of the model. canopykeep's steps in a workspace, call by call: Mkdir, Remove, Rename, and a file opened for writing.
-/
import Derived.Test.YtajopoddmfdejaaGreatNearM33
import Derived.Test.YtajopoddmfdejaaGreatNearM09
import Derived.Deep.RegionHeld3
namespace Go.Proofs.YtajopoddmfdejaaGreat
open Go.RowKit Go.Sort Go.Shelf
set_option linter.unusedVariables false

/-- A workspace between two steps: no file is open. -/
structure QInv (tg : Tags) (w : World) (s i p : Nat) (B : WB) (objs : List Ob) (g : WG) (lim : Nat) (t : LT) : Prop where
  inv : WInv tg w s i p B objs g lim
  flat : Flat objs t g.ft
  ok : LTok objs 5 t
  fl : FlOk objs g.fl
  op : ∀ k, g.op k = none

/-- What a call leaves, of which R holds. -/
def QTo (s i p : Nat) (B : WB) (objs : List Ob) (tg : Tags) (w w' : World) (lim : Nat) (R : WG → LT → Prop) : Prop := ∃ tg' g' t', Moves (Mine i) tg tg' w w' ∧ QInv tg' w' s i p B objs g' lim t' ∧ R g' t'

/-- The tree and the fetches are so, the rest is as it was. -/
def TreeTo (g : WG) (fs' : FS) (tn : LT) (g' : WG) (t' : LT) : Prop := t' = tn ∧ g'.fs = fs' ∧ g'.fl = g.fl ∧ g'.base = g.base

section
variable {s i p : Nat} {B : WB} {objs : List Ob}

theorem QInv.ws {tg : Tags} {w : World} {g : WG} {lim : Nat} {t : LT} (h : QInv tg w s i p B objs g lim t) : B.wb < w.heap.size ∧ w.cell? ⟨B.wb, 0, none⟩ = some (.pointer (some ⟨B.bt, 0, none⟩)) ∧ TabAt w B.wb (fun _ => none) := by
  obtain ⟨h1, h2⟩ := h.inv.wp.opens.tab
  refine ⟨h1.1, h2, h1.1, fun k hk => ?_, h1.2.2⟩
  rw [h1.2.1 k hk]
  show some (Value.pointer (Option.map _ (Option.map _ (g.op k)))) = _
  rw [h.op k]; rfl
theorem QInv.mono {tg : Tags} {w : World} {g : WG} {lim lim' : Nat} {t : LT} (h : QInv tg w s i p B objs g lim t) (hl : lim ≤ lim') : QInv tg w s i p B objs g lim' t := ⟨h.inv.mono hl, h.flat, h.ok, h.fl, h.op⟩
theorem QInv.below {tg : Tags} {w w' : World} {g : WG} {lim : Nat} {t : LT} (h : QInv tg w s i p B objs g lim t) (hb : Below w.heap.size w w') : QInv tg w' s i p B objs g lim t := ⟨h.inv.below hb, h.flat, h.ok, h.fl, h.op⟩
theorem QTo.of {tg : Tags} {w w' : World} {g : WG} {lim lim' : Nat} {t : LT} (h : QInv tg w s i p B objs g lim t) {fs' : FS} {t' : LT} (hL : Left s i p B objs tg w w' g fs' t' lim') : QTo s i p B objs tg w w' lim' (TreeTo g fs' t') := by
  obtain ⟨tg', ft', m, hW, hF, hO⟩ := hL
  exact ⟨tg', _, t', m, ⟨hW, hF, hO, h.fl, h.op⟩, rfl, rfl, rfl, rfl⟩
theorem QTo.mono {tg : Tags} {w w' : World} {lim lim' : Nat} {R : WG → LT → Prop} (h : QTo s i p B objs tg w w' lim R) (hl : lim ≤ lim') : QTo s i p B objs tg w w' lim' R := by
  obtain ⟨tg', g', t', m, hK, hR⟩ := h
  exact ⟨tg', g', t', m, hK.mono hl, hR⟩
theorem QTo.imp {tg : Tags} {w w' : World} {lim : Nat} {R R' : WG → LT → Prop} (h : QTo s i p B objs tg w w' lim R) (hR : ∀ g t, R g t → R' g t) : QTo s i p B objs tg w w' lim R' := by
  obtain ⟨tg', g', t', m, hK, hr⟩ := h
  exact ⟨tg', g', t', m, hK, hR _ _ hr⟩
theorem QTo.via {tg : Tags} {w W w' : World} {lim : Nat} {R : WG → LT → Prop} (hb : Below w.heap.size w W) (h : QTo s i p B objs tg W w' lim R) : QTo s i p B objs tg w w' lim R := by
  obtain ⟨tg', g', t', m, hK, hr⟩ := h
  exact ⟨tg', g', t', call_moves hb m, hK, hr⟩
theorem lleft_via {tg : Tags} {w W w' : World} {g : WG} {fs' : FS} {t' : LT} {lim : Nat} (hb : Below w.heap.size w W) (h : Left s i p B objs tg W w' g fs' t' lim) : Left s i p B objs tg w w' g fs' t' lim := by
  obtain ⟨tg', ft', m, hW, hF, hO⟩ := h
  exact ⟨tg', ft', call_moves hb m, hW, hF, hO⟩

theorem qmkdir {tg : Tags} {w : World} {g : WG} {lim : Nat} {t : LT} (h : QInv tg w s i p B objs g lim t) (hl : lim + 1000 < 1099511627776) {n : ByteArray} {r : List ByteArray} (hL : Good (r.reverse ++ [n])) :
    Calls Tryz.prog 23 #[.pointer (some ⟨B.wb, 0, none⟩), .string (joinB (r.reverse ++ [n]))] w fun e w' => e = .returned (.int .i64 (mkdirR objs t g.fs (n :: r)).2.1) ∧ QTo s i p B objs tg w w' (lim + 400) (TreeTo g (mkdirR objs t g.fs (n :: r)).1 (mkdirR objs t g.fs (n :: r)).2.2) := by
  obtain ⟨hwb, c0, _⟩ := h.ws
  refine (mkdir_ws B.wb B.bt _ hL _ _ w hwb c0 (fun W hb => (mkdir_walk (h.inv.below hb) (by omega) h.flat h.ok hL).mono fun e w' ⟨h1, h2⟩ => ⟨h1, lleft_via hb h2⟩)).mono ?_
  rintro e w' ⟨h1, h2⟩
  exact ⟨h1, (QTo.of h h2).mono (by omega)⟩
theorem qremove {tg : Tags} {w : World} {g : WG} {lim : Nat} {t : LT} (h : QInv tg w s i p B objs g lim t) (hl : lim + 1000 < 1099511627776) {n : ByteArray} {r : List ByteArray} (hL : Good (r.reverse ++ [n])) :
    Calls Tryz.prog 25 #[.pointer (some ⟨B.wb, 0, none⟩), .string (joinB (r.reverse ++ [n]))] w fun e w' => e = .returned (.int .i64 (removeR objs t g.fs (n :: r)).2.1) ∧ QTo s i p B objs tg w w' (lim + 400) (TreeTo g (removeR objs t g.fs (n :: r)).1 (removeR objs t g.fs (n :: r)).2.2) := by
  obtain ⟨hwb, c0, _⟩ := h.ws
  refine (remove_ws B.wb B.bt _ hL _ _ w hwb c0 (fun W hb => (remove_walk (h.inv.below hb) (by omega) h.flat h.ok hL).mono fun e w' ⟨h1, h2⟩ => ⟨h1, lleft_via hb h2⟩)).mono ?_
  rintro e w' ⟨h1, h2⟩
  exact ⟨h1, (QTo.of h h2).mono (by omega)⟩
theorem qrename {tg : Tags} {w : World} {g : WG} {lim : Nat} {t : LT} (h : QInv tg w s i p B objs g lim t) (hl : lim + 1000 < 1099511627776) {n n' : ByteArray} {r r' : List ByteArray} (hL : Good (r.reverse ++ [n])) (hM : Good (r'.reverse ++ [n'])) :
    Calls Tryz.prog 24 #[.pointer (some ⟨B.wb, 0, none⟩), .string (joinB (r.reverse ++ [n])), .string (joinB (r'.reverse ++ [n']))] w fun e w' => e = .returned (.int .i64 (renameR objs t g.fs (n :: r) (n' :: r')).2.1) ∧ QTo s i p B objs tg w w' (lim + 400) (TreeTo g (renameR objs t g.fs (n :: r) (n' :: r')).1 (renameR objs t g.fs (n :: r) (n' :: r')).2.2) := by
  obtain ⟨hwb, c0, _⟩ := h.ws
  refine (rename_ws B.wb B.bt _ _ hL hM _ _ w hwb c0 (fun W hb => (rename_walk (h.inv.below hb) (by omega) h.flat h.ok hL hM).mono fun e w' ⟨h1, h2⟩ => ⟨h1, lleft_via hb h2⟩)).mono ?_
  rintro e w' ⟨h1, h2⟩
  exact ⟨h1, (QTo.of h h2).mono (by omega)⟩

theorem flOk_upd' {fl : Nat → Option (Int × ByteArray)} (h : FlOk objs fl) (f : Nat) (d : ByteArray) : FlOk objs (updN fl f (some (0, d))) := by
  intro f' id d' hf hid
  by_cases e : f' = f
  · subst e; rw [updN_same] at hf; cases hf; exact absurd rfl hid
  · rw [updN_other e] at hf; exact h f' id d' hf hid

/-- Which file a path is opened as for writing anew, and what has become of the tree. -/
def HeldTo (objs : List Ob) (fl : Nat → Option (Int × ByteArray)) (ks : Kids) (t : LT) (q : List ByteArray) (n : ByteArray) (f : Nat) (t' : LT) : Prop :=
  (pickK ks n = some (.held f) ∧ t' = t) ∨ ((pickK ks n = none ∨ ∃ id, pickK ks n = some (.file id)) ∧ fl f = none ∧ t' = modG objs (fun ks => putK ks n (.held f)) q t)

/-- A file has been opened for writing; d is in it. -/
def QOpen (s i p : Nat) (B : WB) (objs : List Ob) (tg : Tags) (w w' : World) (lim : Nat) (g : WG) (fs' : FS) (ks : Kids) (t : LT) (q : List ByteArray) (n : ByteArray) (d : ByteArray) : Prop :=
  ∃ tg' g' t' b f pl, Moves (Mine i) tg tg' w w' ∧ WInv tg' w' s i p B objs g' lim ∧ Flat objs t' g'.ft ∧ LTok objs 5 t' ∧ FlOk objs g'.fl ∧ g'.op = updN (fun _ => none) 0 (some (b, f, 22, pl)) ∧ (d = ⟨#[]⟩ → pl = 0) ∧ g'.fl f = some (0, d) ∧ (∀ x, x ≠ f → g'.fl x = g.fl x) ∧ g'.fs = fs' ∧ g'.base = g.base ∧ HeldTo objs g.fl ks t q n f t'

theorem qopen {tg : Tags} {w : World} {g : WG} {lim : Nat} {t : LT} (h : QInv tg w s i p B objs g lim t) (hl : lim + 1000 < 1099511627776) {n : ByteArray} {r : List ByteArray} (hL : Good (r.reverse ++ [n])) {fs' : FS} {er : Int} {ks : Kids} (hlk : lookR objs t g.fs r = (fs', er, ks)) :
    Calls Tryz.prog 50 #[.pointer (some ⟨B.wb, 0, none⟩), .string (joinB (r.reverse ++ [n])), .int .i64 22] w fun e w' =>
      (er ≠ 0 ∧ e = .returned (.tuple #[.int .i64 0, .int .i64 er]) ∧ QTo s i p B objs tg w w' (lim + 400) (TreeTo g fs' t)) ∨
      (er = 0 ∧ openE ks n false true ≠ 0 ∧ e = .returned (.tuple #[.int .i64 0, .int .i64 (openE ks n false true)]) ∧ QTo s i p B objs tg w w' (lim + 400) (TreeTo g fs' t)) ∨
      (er = 0 ∧ openE ks n false true = 0 ∧ e = .returned (.tuple #[.int .i64 0, .int .i64 0]) ∧ QOpen s i p B objs tg w w' (lim + 400) g fs' ks t r.reverse n ⟨#[]⟩) := by
  have hi := h.inv.two
  obtain ⟨hwb, c0, htab⟩ := h.ws
  have hop := fun W (hb : Below w.heap.size w W) => open_walk (h.inv.below hb) (by omega) h.flat h.ok hL 22 false true true (by decide) (by decide) (by decide)
  rw [hlk] at hop
  simp only at hop
  have herr : ∀ er', er' ≠ 0 → (∀ W, Below w.heap.size w W → Calls Tryz.prog 92 #[.pointer (some ⟨B.bt, 0, none⟩), .agg (pathA (r.reverse ++ [n])), .int .i64 22] W fun e w' => e = .returned (.tuple #[.pointer none, .int .i64 er']) ∧ Left s i p B objs tg w w' g fs' t (lim + 300)) →
      Calls Tryz.prog 50 #[.pointer (some ⟨B.wb, 0, none⟩), .string (joinB (r.reverse ++ [n])), .int .i64 22] w fun e w' => e = .returned (.tuple #[.int .i64 0, .int .i64 er']) ∧ QTo s i p B objs tg w w' (lim + 400) (TreeTo g fs' t) := by
    intro er' hne hc
    refine (open_ws_err B.wb B.bt 0 _ 22 _ hL er' hne _ w htab c0 (by decide) rfl (fun j hj => by omega) valid_22 hc).mono ?_
    rintro e w' ⟨h1, h2⟩
    exact ⟨h1, (QTo.of h h2).mono (by omega)⟩
  have hfresh : ∀ W, Below w.heap.size w W → ∀ f, W.heap.size ≤ f → g.fl f = none := by
    intro W hb f hf
    cases hx : g.fl f with
    | none => rfl
    | some x =>
      obtain ⟨id, d⟩ := x
      have := (Array.getElem?_eq_some_iff.1 (h.inv.wp.files f id d hx).2.1).1
      have := hb.size
      omega
  by_cases her : er = 0
  · by_cases hoe : openE ks n false true = 0
    · refine (open_ws_ok B.wb B.bt 0 (fun _ => none) 22 _ hL (fun f w' => ∃ tg' ft' fl' t', Moves (Mine i) tg tg' w w' ∧ WInv tg' w' s i p B objs { g with fs := fs', ft := ft', fl := fl' } (lim + 300) ∧ Flat objs t' ft' ∧ LTok objs 5 t' ∧ FlOk objs fl' ∧ fl' f = some (0, ⟨#[]⟩) ∧ (∀ x, x ≠ f → fl' x = g.fl x) ∧ HeldTo objs g.fl ks t r.reverse n f t') w htab c0 (by decide) rfl (fun j hj => by omega) valid_22 (fun W hb => (hop W hb).mono ?_) ?_).mono ?_
      · rintro e w' (⟨hx, _⟩ | ⟨_, hx, _⟩ | ⟨_, _, f, tg', ft', fl', t', he, m, hW, hF, hO, hT⟩)
        · exact absurd her hx
        · exact absurd hoe hx
        · refine ⟨f, he, tg', ft', fl', t', call_moves hb m, hW, hF, hO, ?_⟩
          rcases hT with ⟨h1, h2, rfl, rfl⟩ | ⟨h1, rfl, rfl⟩ | ⟨id, h1, h2, rfl, rfl⟩
          · exact ⟨flOk_upd' h.fl _ _, updN_same _ _ _, fun x hx => updN_other hx _, .inr ⟨.inl h1, hfresh W hb f h2, rfl⟩⟩
          · rw [if_pos rfl]; exact ⟨flOk_upd' h.fl _ _, updN_same _ _ _, fun x hx => updN_other hx _, .inl ⟨h1, rfl⟩⟩
          · rw [if_pos rfl]
            refine ⟨?_, updN_same _ _ _, fun x hx => by rw [updN_other hx, updN_other hx], .inr ⟨.inr ⟨id, h1⟩, hfresh W hb f h2, rfl⟩⟩
            intro f' id' d' hf hid
            by_cases e : f' = f
            · subst e; rw [updN_same] at hf; cases hf; exact absurd rfl hid
            · rw [updN_other e, updN_other e] at hf; exact h.fl f' id' d' hf hid
      · rintro f w' ⟨tg', ft', fl', t', m, hW, _⟩
        obtain ⟨h1, h2⟩ := hW.wp.opens.tab
        refine ⟨h1.1, fun k hk => ?_, h1.2.2⟩
        rw [h1.2.1 k hk]
        show some (Value.pointer (Option.map _ (Option.map _ (g.op k)))) = _
        rw [h.op k]; rfl
      · rintro e w' ⟨he, f, w1, ⟨tg1, ft1, fl1, t1, m1, hW1, hF1, hO1, hL1, hf1, hx1, hh1⟩, rfl⟩
        obtain ⟨m2, hW2⟩ := hW1.open_at (k := 0) (f := f) (fg := 22) (by decide) hf1 (by decide) (by decide)
        refine .inr (.inr ⟨her, hoe, he, _, _, t1, w1.heap.size, f, 0, m1.trans (m2.mono (fun x hx => .inr (by rw [hx]))), hW2.mono (by omega), hF1, hO1, hL1, ?_, fun _ => rfl, hf1, hx1, rfl, rfl, hh1⟩)
        show updN g.op 0 _ = _
        rw [show g.op = fun _ => none from funext h.op]
    · refine (herr _ hoe (fun W hb => (hop W hb).mono ?_)).mono (fun e w' ⟨h1, h2⟩ => .inr (.inl ⟨her, hoe, h1, h2⟩))
      rintro e w' (⟨hx, _⟩ | ⟨_, _, h1, h2⟩ | ⟨_, hx, _⟩)
      · exact absurd her hx
      · exact ⟨h1, lleft_via hb h2⟩
      · exact absurd hx hoe
  · refine (herr er her (fun W hb => (hop W hb).mono ?_)).mono (fun e w' ⟨h1, h2⟩ => .inl ⟨her, h1, h2⟩)
    rintro e w' (⟨_, h1, h2⟩ | ⟨hx, _⟩ | ⟨hx, _⟩)
    · exact ⟨h1, lleft_via hb h2⟩
    · exact absurd hx her
    · exact absurd hx her
end
end Go.Proofs.YtajopoddmfdejaaGreat

namespace Go.Proofs.YtajopoddmfdejaaGreat
open Go.RowKit Go.Sort Go.Shelf
set_option linter.unusedVariables false

/-- A path of at most n names, by its number. -/
def pathG : Nat → Int → List ByteArray
  | 0, _ => []
  | n + 1, x => (⟨#[97, 98, 99, 100]⟩ : ByteArray).extract (x % 4).toNat (x % 4 + 1).toNat :: (if x / 4 - 1 < 0 then [] else pathG n (x / 4 - 1))
theorem pathG_end {n : Nat} {x : Int} (h : x / 4 - 1 < 0) : pathG (n + 1) x = [(⟨#[97, 98, 99, 100]⟩ : ByteArray).extract (x % 4).toNat (x % 4 + 1).toNat] := by rw [pathG, if_pos h]
theorem pathG_more {n : Nat} {x : Int} (h : ¬ x / 4 - 1 < 0) : pathG (n + 1) x = (⟨#[97, 98, 99, 100]⟩ : ByteArray).extract (x % 4).toNat (x % 4 + 1).toNat :: pathG n (x / 4 - 1) := by rw [pathG, if_neg h]
def pathL (c : Int) : List ByteArray := pathG 3 (pickN c 84)

theorem pathG_letters : ∀ (n : Nat) (x : Int), (∀ y ∈ pathG n x, y ∈ letters) ∧ (pathG n x).length ≤ n
  | 0, _ => ⟨fun y hy => by simp [pathG] at hy, by simp [pathG]⟩
  | n + 1, x => by
    have hl := letter_at (i := x % 4) (by omega) (by omega)
    by_cases h : x / 4 - 1 < 0
    · rw [pathG_end h]
      exact ⟨fun y hy => by rw [List.mem_singleton.1 hy]; exact hl, by simp⟩
    · rw [pathG_more h]
      obtain ⟨i1, i2⟩ := pathG_letters n (x / 4 - 1)
      refine ⟨fun y hy => ?_, by simp; omega⟩
      rcases List.mem_cons.1 hy with h | h
      · rw [h]; exact hl
      · exact i1 y h
theorem pathL_letters (c : Int) : Letters (pathL c) := by
  obtain ⟨h1, h2⟩ := pathG_letters 3 (pickN c 84)
  refine ⟨h1, ?_, h2⟩
  unfold pathL
  by_cases h : pickN c 84 / 4 - 1 < 0
  · rw [pathG_end h]; simp
  · rw [pathG_more h]; simp

set_option maxRecDepth 100000 in
set_option maxHeartbeats 1000000 in
theorem path_exact (c : Int) (w : World) (hc : -9223372036854775808 ≤ c ∧ c ≤ 9223372036854775807) :
    Calls Tryz.prog 16 #[.int .i64 c] w fun e w' => e = .returned (.string (joinB (pathL c))) ∧ w' = w := by
  unfold pathL
  have hpk := kpick_any c 84 w hc (by decide) (by decide)
  obtain ⟨hp0, hp1⟩ := pickN_range (c := c) (n := 84) (by decide)
  generalize pickN c 84 = c0 at hpk hp0 hp1
  go_enter Tryz.func16, Tryz.ntmps16
  go_wp2_with (go_at_call 18; refine hpk.mono ?_; rintro e w1 ⟨rfl, rfl⟩)
  go_loopw [0, 3] (fun cv sv wr => ∃ (x : Int) (l : List ByteArray), cv = .int .i64 x ∧ sv = .string (joinB l) ∧ wr = w1 ∧ (∀ y ∈ l, y ∈ letters) ∧ 0 ≤ x ∧ ((l = [] ∧ x < 84) ∨ (l.length = 1 ∧ x < 20) ∨ (l.length = 2 ∧ x < 4)) ∧ Hid (l ++ pathG (3 - l.length) x = pathG 3 c0)) (fun cv _ _ => (intOf cv).toNat)
  case atStart => exact ⟨c0, [], rfl, rfl, rfl, by simp, hp0, .inl ⟨rfl, hp1⟩, by show [] ++ pathG 3 c0 = _; rfl⟩
  case round =>
    obtain ⟨x, l, rfl, rfl, rfl, hl, hx0, hxx, HP⟩ := hrel
    have h84 : x < 84 := by rcases hxx with h | h | h <;> omega
    have t1 : Int.tmod x 4 = x % 4 := Int.tmod_eq_emod_of_nonneg hx0
    have t2 : Int.tdiv x 4 = x / 4 := Int.tdiv_eq_ediv_of_nonneg hx0
    obtain ⟨i, hi⟩ : ∃ i, i = x % 4 := ⟨_, rfl⟩
    have hi0 : 0 ≤ i := by omega
    have hi1 : i < 4 := by omega
    rw [← hi] at t1
    have HI : Hid _ := hi
    have hw1 : IntKind.i64.wrap i = i := by rw [IntKind.wrap_i64] <;> omega
    have hw2 : IntKind.i64.wrap (i + 1) = i + 1 := by rw [IntKind.wrap_i64] <;> omega
    have hw3 : IntKind.i64.wrap (x / 4) = x / 4 := by rw [IntKind.wrap_i64] <;> omega
    have hw4 : IntKind.i64.wrap (x / 4 - 1) = x / 4 - 1 := by rw [IntKind.wrap_i64] <;> omega
    have hlt := letter_at hi0 hi1
    clear hi
    generalize hxl : (⟨#[97, 98, 99, 100]⟩ : ByteArray).extract i.toNat (i + 1).toNat = xl at hlt
    have HX : Hid _ := hxl
    have hxs : xl.size = 1 := by
      simp only [letters, List.mem_cons, List.not_mem_nil, or_false] at hlt
      rcases hlt with rfl | rfl | rfl | rfl <;> rfl
    by_cases hl0 : l = []
    · subst hl0
      rw [joinB_nil]
      by_cases hend : x / 4 - 1 < 0
      · go_wp2
        go_ret
        have hg : pathG 3 c0 = [xl] := by rw [← HP.out]; show [] ++ pathG 3 x = _; rw [pathG_end hend, ← HI.out, HX.out]; rfl
        refine ⟨?_, rfl⟩
        rw [hg, ← nil_snoc]
        rfl
      · go_wp2
        go_roundw
        case rel => exact ⟨x / 4 - 1, [xl], rfl, by rw [← nil_snoc], trivial, by simpa using hlt, by omega, .inr (.inl ⟨rfl, by omega⟩), by show [xl] ++ pathG 2 (x / 4 - 1) = _; rw [← HP.out]; show _ = [] ++ pathG 3 x; rw [pathG_more hend, ← HI.out, HX.out]; rfl⟩
        case measure => simp [intOf]; omega
    · have hne := join_ne hl0 hl
      have hne1 : ((joinB l).toList == []) = false := by simpa using hne
      have hne2 : (!(joinB l).toList.isEmpty) = true := by
        cases h : (joinB l).toList with
        | nil => exact absurd h hne
        | cons a b => rfl
      have hjs : (joinB l).size ≤ 26 := by
        have h1 := join_size (l := l) (fun x hx => (letter_valid (hl x hx)).1)
        rcases hxx with h | h | h
        · exact absurd h.1 hl0
        · omega
        · omega
      generalize hjl : joinB l = jl at hne hne1 hne2 hjs ⊢
      have HJ : Hid _ := hjl
      clear hjl
      by_cases hend : x / 4 - 1 < 0
      · go_wp2
        go_ret
        have hg : pathG 3 c0 = l ++ [xl] := by
          rw [← HP.out]
          have h3 : ∃ m, 3 - l.length = m + 1 := by
            rcases hxx with h | h | h
            · exact absurd h.1 hl0
            · exact ⟨1, by omega⟩
            · exact ⟨0, by omega⟩
          obtain ⟨m, hm⟩ := h3
          rw [hm, pathG_end hend, ← HI.out, HX.out]
        refine ⟨?_, rfl⟩
        rw [hg, ← joinB_snoc hl0, HJ.out]; rfl
      · go_wp2
        go_roundw
        case rel =>
          rcases hxx with h | h | h
          · exact absurd h.1 hl0
          · refine ⟨x / 4 - 1, l ++ [xl], rfl, by rw [← joinB_snoc hl0, HJ.out], trivial, fun y hy => ?_, by omega, .inr (.inr ⟨by simp; omega, by omega⟩), ?_⟩
            · rcases List.mem_append.1 hy with h | h
              · exact hl y h
              · simp at h; rw [h]; exact hlt
            · show (l ++ [xl]) ++ pathG (3 - (l ++ [xl]).length) (x / 4 - 1) = _
              have e1 : 3 - (l ++ [xl]).length = 1 := by simp; omega
              have e2 : 3 - l.length = 1 + 1 := by omega
              have hp := HP.out
              rw [e2, pathG_more hend, ← HI.out, HX.out] at hp
              rw [e1, ← hp, List.append_assoc]; rfl
          · omega
        case measure => simp [intOf]; omega
end Go.Proofs.YtajopoddmfdejaaGreat

namespace Go.Proofs.YtajopoddmfdejaaGreat
open Go.RowKit Go.Sort Go.Shelf
set_option linter.unusedVariables false

section
variable {s i p : Nat} {B : WB} {objs : List Ob}

theorem opens_cell {tg : Tags} {w : World} {g : WG} {lim b f k : Nat} {fg pl : Int} (h : WInv tg w s i p B objs g lim) (hk : k < 8) (ho : g.op k = some (b, f, fg, pl)) : B.wb < w.heap.size ∧ w.cell? ⟨B.wb, 1 + k, none⟩ = some (.pointer (some ⟨b, 0, none⟩)) ∧ w.frozen? ⟨B.wb, 1 + k, none⟩ = false := by
  obtain ⟨h1, _⟩ := h.wp.opens.tab
  refine ⟨h1.1, ?_, h1.2.2 _⟩
  rw [h1.2.1 k hk]
  show some (Value.pointer (Option.map _ (Option.map _ (g.op k)))) = _
  rw [ho]; rfl

theorem write_new (d : ByteArray) : writeB ⟨#[]⟩ d 0 = d := by
  unfold writeB writeL
  simp

theorem qwrite {tg0 : Tags} {w0 w : World} {lim : Nat} {g0 : WG} {fs' : FS} {ks : Kids} {t0 : LT} {q : List ByteArray} {n : ByteArray} (hl : lim + 10 < 1099511627776) (h : QOpen s i p B objs tg0 w0 w lim g0 fs' ks t0 q n ⟨#[]⟩) {d : ByteArray} (hd : d.size ≤ 256) :
    Calls Tryz.prog 51 #[.pointer (some ⟨B.wb, 0, none⟩), .int .i64 0, .string d] w fun e w' => e = .returned (.int .i64 0) ∧ QOpen s i p B objs tg0 w0 w' (lim + 2) g0 fs' ks t0 q n d := by
  obtain ⟨tg, g, t, b, f, pl, m, hW, hF, hO, hL, hop, hpl, hf, hx, hfs, hba, hh⟩ := h
  obtain rfl := hpl rfl
  have ho : g.op 0 = some (b, f, 22, 0) := by rw [hop]; exact updN_same _ _ _
  obtain ⟨_, c1, _⟩ := opens_cell hW (by decide) ho
  by_cases h0 : d.size = 0
  · have hde : d = ⟨#[]⟩ := by
      apply toL_inj
      have h1 := toL_len d
      rw [h0] at h1
      exact List.length_eq_zero_iff.1 h1
    subst hde
    obtain ⟨_, _, e1, _, _⟩ := opened_cells hW ho
    refine (write_ws B.wb 0 b _ 0 _ w c1 (by decide) (write_none b 22 w e1 (by decide))).mono ?_
    rintro e w' ⟨he, rfl⟩
    exact ⟨he, tg, g, t, b, f, 0, m, hW.mono (by omega), hF, hO, hL, hop, fun _ => rfl, hf, hx, hfs, hba, hh⟩
  · have hby : bytesG objs g.fl g.fs f = (g.fs, 0, ⟨#[]⟩) := by unfold bytesG; rw [hf]; rfl
    refine (write_ws B.wb 0 b _ 0 _ w c1 (by decide) (write_gen hW (by omega) hL ho (a := 0) (by decide) (by omega) (by decide) (by show (0 : Int) + _ ≤ 256; omega) hby rfl (by omega))).mono ?_
    rintro e w' ⟨he, tg', m', hW'⟩
    refine ⟨he, tg', _, t, b, f, ((0 : Nat) : Int) + d.size, m.trans m', hW', hF, hO, flOk_upd' hL _ _, ?_, fun e => ?_, ?_, fun x hxf => ?_, hfs, hba, hh⟩
    · show updN g.op 0 _ = _
      rw [hop]
      funext x
      by_cases e : x = 0
      · subst e; rw [updN_same, updN_same]
      · rw [updN_other e, updN_other e, updN_other e]
    · exact absurd (by rw [e]; rfl) h0
    · show updN g.fl f _ f = _
      rw [updN_same, write_new]
    · show updN g.fl f _ x = _
      rw [updN_other hxf]; exact hx x hxf

theorem qclose {tg0 : Tags} {w0 w : World} {lim : Nat} {g0 : WG} {fs' : FS} {ks : Kids} {t0 : LT} {q : List ByteArray} {n d : ByteArray} (h : QOpen s i p B objs tg0 w0 w lim g0 fs' ks t0 q n d) :
    Calls Tryz.prog 52 #[.pointer (some ⟨B.wb, 0, none⟩), .int .i64 0] w fun e w' => e = .returned (.int .i64 0) ∧ QTo s i p B objs tg0 w0 w' lim (fun g' t' => g'.fs = fs' ∧ g'.base = g0.base ∧ ∃ f, g'.fl f = some (0, d) ∧ (∀ x, x ≠ f → g'.fl x = g0.fl x) ∧ HeldTo objs g0.fl ks t0 q n f t') := by
  obtain ⟨tg, g, t, b, f, pl, m, hW, hF, hO, hL, hop, hpl, hf, hx, hfs, hba, hh⟩ := h
  have ho : g.op 0 = some (b, f, 22, pl) := by rw [hop]; exact updN_same _ _ _
  obtain ⟨c0, c1, c2⟩ := opens_cell hW (by decide) ho
  refine (close_ws B.wb 0 b w c0 c1 c2 (by decide)).mono ?_
  rintro e w' ⟨he, rfl⟩
  obtain ⟨m2, hW2⟩ := hW.close (k := 0) (by decide)
  refine ⟨he, tg, _, t, m.trans (m2.mono (fun x hx => .inr (by rw [hx]))), ⟨hW2, hF, hO, hL, fun k => ?_⟩, hfs, hba, f, hf, hx, hh⟩
  show updN g.op 0 none k = none
  rw [hop]
  by_cases e : k = 0
  · subst e; exact updN_same _ _ _
  · rw [updN_other e, updN_other e]

/-- What put does. -/
def PutTo (objs : List Ob) (g : WG) (t : LT) (n : ByteArray) (r : List ByteArray) (d : ByteArray) (er : Int) (g' : WG) (t' : LT) : Prop :=
  g'.fs = (lookR objs t g.fs r).1 ∧ g'.base = g.base ∧
  (((lookR objs t g.fs r).2.1 ≠ 0 ∧ er = (lookR objs t g.fs r).2.1 ∧ t' = t ∧ g'.fl = g.fl) ∨
   ((lookR objs t g.fs r).2.1 = 0 ∧ openE (lookR objs t g.fs r).2.2 n false true ≠ 0 ∧ er = openE (lookR objs t g.fs r).2.2 n false true ∧ t' = t ∧ g'.fl = g.fl) ∨
   ((lookR objs t g.fs r).2.1 = 0 ∧ openE (lookR objs t g.fs r).2.2 n false true = 0 ∧ er = 0 ∧ ∃ f, g'.fl f = some (0, d) ∧ (∀ x, x ≠ f → g'.fl x = g.fl x) ∧ HeldTo objs g.fl (lookR objs t g.fs r).2.2 t r.reverse n f t'))

set_option maxRecDepth 100000 in
set_option maxHeartbeats 1000000 in
theorem qput {tg : Tags} {w : World} {g : WG} {lim : Nat} {t : LT} (h : QInv tg w s i p B objs g lim t) (hl : lim + 1000 < 1099511627776) {n : ByteArray} {r : List ByteArray} (hL : Good (r.reverse ++ [n])) (d : ByteArray) (hd : d.size ≤ maxLen) :
    Calls Tryz.prog 26 #[.pointer (some ⟨B.wb, 0, none⟩), .string (joinB (r.reverse ++ [n])), .string d] w fun e w' => ∃ er, e = .returned (.int .i64 er) ∧ QTo s i p B objs tg w w' (lim + 500) (PutTo objs g t n r (shortB d) er) := by
  obtain ⟨fs', er, ks, hlk⟩ : ∃ fs' er ks, lookR objs t g.fs r = (fs', er, ks) := ⟨_, _, _, rfl⟩
  have hop := qopen h hl hL hlk
  have hsh := fun W => short_any d W hd
  have hss := short_size d
  generalize shortB d = sd at hsh hss
  unfold PutTo
  rw [hlk]
  obtain ⟨P1, hP1⟩ : ∃ P1 : World → Prop, ∀ W, P1 W ↔ QOpen s i p B objs tg w W (lim + 400) g fs' ks t r.reverse n ⟨#[]⟩ := ⟨_, fun W => Iff.rfl⟩
  obtain ⟨P2, hP2⟩ : ∃ P2 : World → Prop, ∀ W, P2 W ↔ QOpen s i p B objs tg w W (lim + 402) g fs' ks t r.reverse n sd := ⟨_, fun W => Iff.rfl⟩
  have hwr : ∀ W, P1 W → Calls Tryz.prog 51 #[.pointer (some ⟨B.wb, 0, none⟩), .int .i64 0, .string sd] W fun e w' => e = .returned (.int .i64 0) ∧ P2 w' := fun W hk => (qwrite (by omega) ((hP1 W).1 hk) hss).mono (fun e w' ⟨h1, h2⟩ => ⟨h1, (hP2 w').2 h2⟩)
  have hcl := fun W (hk : P2 W) => qclose ((hP2 W).1 hk)
  have hop' := hop.mono (R' := fun e w' => (er ≠ 0 ∧ e = .returned (.tuple #[.int .i64 0, .int .i64 er]) ∧ QTo s i p B objs tg w w' (lim + 400) (TreeTo g fs' t)) ∨ (er = 0 ∧ openE ks n false true ≠ 0 ∧ e = .returned (.tuple #[.int .i64 0, .int .i64 (openE ks n false true)]) ∧ QTo s i p B objs tg w w' (lim + 400) (TreeTo g fs' t)) ∨ (er = 0 ∧ openE ks n false true = 0 ∧ e = .returned (.tuple #[.int .i64 0, .int .i64 0]) ∧ P1 w')) (by
    rintro e w' (h | h | ⟨h1, h2, h3, h4⟩)
    · exact .inl h
    · exact .inr (.inl h)
    · exact .inr (.inr ⟨h1, h2, h3, (hP1 w').2 h4⟩))
  have HOP : Hid _ := hop'
  have HWR : Hid _ := hwr
  have HCL : Hid _ := hcl
  clear hop' hP1 hP2
  clear h hop hwr hcl hL hd hlk
  generalize joinB (r.reverse ++ [n]) = tx at HOP ⊢
  go_enter Tryz.func26, Tryz.ntmps26
  go_wp2_with fail
  refine Calls.mono HOP.out ?_
  rintro e w1 (⟨her, rfl, hK⟩ | ⟨her, hoe, rfl, hK⟩ | ⟨her, hoe, rfl, hK⟩)
  · have her' : (er == 0) = false := by simpa using her
    have HK : Hid _ := hK
    have HER : Hid _ := her
    clear hK her
    go_wp2
    go_ret
    exact ⟨er, rfl, QTo.imp (QTo.mono HK.out (by omega)) (fun g' t' ⟨h1, h2, h3, h4⟩ => ⟨h2, h4, .inl ⟨HER.out, rfl, h1, h3⟩⟩)⟩
  · have hoe' : (openE ks n false true == 0) = false := by simpa using hoe
    have HK : Hid _ := hK
    have HER : Hid _ := And.intro her hoe
    clear hK her hoe
    obtain ⟨oe, hoo⟩ : ∃ oe, oe = openE ks n false true := ⟨_, rfl⟩
    rw [← hoo] at hoe' ⊢
    have HOO : Hid _ := hoo
    clear hoo
    go_wp2
    go_ret
    obtain rfl := HOO.out
    exact ⟨_, rfl, QTo.imp (QTo.mono HK.out (by omega)) (fun g' t' ⟨h1, h2, h3, h4⟩ => ⟨h2, h4, .inr (.inl ⟨HER.out.1, HER.out.2, rfl, h1, h3⟩)⟩)⟩
  · have HK : Hid _ := hK
    have HER : Hid _ := And.intro her hoe
    clear hK her hoe
    go_wp2_with (first
      | (go_at_call 19; refine Calls.mono (hsh _) ?_; rintro e w2 ⟨rfl, rfl⟩)
      | (go_at_call 51; refine Calls.mono (HWR.out _ HK.out) ?_; rintro e w3 ⟨rfl, hK3⟩; have HK3 : Hid _ := hK3; clear hK3)
      | (go_at_call 52; refine Calls.mono (HCL.out _ HK3.out) ?_; rintro e w4 ⟨rfl, hK4⟩; have HK4 : Hid _ := hK4; clear hK4))
    go_ret
    exact ⟨0, rfl, QTo.imp (QTo.mono HK4.out (by omega)) (fun g' t' ⟨h1, h2, f, h3, h4, h5⟩ => ⟨h1, h2, .inr (.inr ⟨HER.out.1, HER.out.2, rfl, f, h3, h4, h5⟩)⟩)⟩

end
end Go.Proofs.YtajopoddmfdejaaGreat

namespace Go.Proofs.YtajopoddmfdejaaGreat
open Go.RowKit Go.Sort Go.Shelf
set_option linter.unusedVariables false

/-- A workspace between two steps. -/
structure KInv (tg : Tags) (w : World) (s i p : Nat) (B : WB) (objs : List Ob) (g : WG) (lim : Nat) (t : LT) : Prop where
  inv : WInv tg w s i p B objs g lim
  flat : Flat objs t g.ft
  ok : LTok objs 5 t
  root : RootOk objs t
  fl : FlOk objs g.fl
  op : ∀ k, g.op k = none
  brk : g.fs.brk = false
  kF : ∀ x, g.fs.kF x = false

def KLeft (s i p : Nat) (B : WB) (objs : List Ob) (tg : Tags) (w w' : World) (lim : Nat) : Prop := ∃ tg' g' t', Moves (Mine i) tg tg' w w' ∧ KInv tg' w' s i p B objs g' lim t'

section
variable {s i p : Nat} {B : WB} {objs : List Ob}

theorem KInv.ws {tg : Tags} {w : World} {g : WG} {lim : Nat} {t : LT} (h : KInv tg w s i p B objs g lim t) : B.wb < w.heap.size ∧ w.cell? ⟨B.wb, 0, none⟩ = some (.pointer (some ⟨B.bt, 0, none⟩)) ∧ TabAt w B.wb (fun _ => none) := by
  obtain ⟨h1, h2⟩ := h.inv.wp.opens.tab
  refine ⟨h1.1, h2, h1.1, fun k hk => ?_, h1.2.2⟩
  rw [h1.2.1 k hk]
  show some (Value.pointer (Option.map _ (Option.map _ (g.op k)))) = _
  rw [h.op k]; rfl
theorem KInv.mono {tg : Tags} {w : World} {g : WG} {lim lim' : Nat} {t : LT} (h : KInv tg w s i p B objs g lim t) (hl : lim ≤ lim') : KInv tg w s i p B objs g lim' t := ⟨h.inv.mono hl, h.flat, h.ok, h.root, h.fl, h.op, h.brk, h.kF⟩
theorem KInv.below {tg : Tags} {w w' : World} {g : WG} {lim : Nat} {t : LT} (h : KInv tg w s i p B objs g lim t) (hb : Below w.heap.size w w') : KInv tg w' s i p B objs g lim t := ⟨h.inv.below hb, h.flat, h.ok, h.root, h.fl, h.op, h.brk, h.kF⟩
theorem KLeft.of {tg : Tags} {w w' : World} {g : WG} {lim lim' : Nat} {t : LT} (h : KInv tg w s i p B objs g lim t) {fs' : FS} {t' : LT} (hL : Left s i p B objs tg w w' g fs' t' lim') (hr : RootOk objs t') (hq : g.fs.Q fs') : KLeft s i p B objs tg w w' lim' := by
  obtain ⟨tg', ft', m, hW, hF, hO⟩ := hL
  exact ⟨tg', _, t', m, hW, hF, hO, hr, h.fl, h.op, hq.2 h.brk, fun x => by show fs'.kF x = false; rw [hq.1]; exact h.kF x⟩
end
end Go.Proofs.YtajopoddmfdejaaGreat
