/-
  What is proved here: canopykeep's do, in the words of the model. what a commit puts into a store: objects behind those that are there, each of which is new and may be put; which object a thing of the tree is then. how many things stand in a tree, and that a step makes them at most one more. what a script's steps keep: e at the root, no file under two paths, how many things there are. objects of one store that are each there once; what reads the same is the same object. a tree that reads as a stored one does is that object, whatever of it is the tree's own. what is renamed to a free path can be renamed back, and then all reads as it did.
-/
import Derived.Test.YtajopoddmfdejaaGreatLazyM32
import Derived.Deep.RegionHeld3
import Derived.Test.YtajopoddmfdejaaGreatLazyM15
import Derived.Test.YtajopoddmfdejaaGreatLazyM26
import Derived.Test.YtajopoddmfdejaaGreatLazyM16
namespace Go.Proofs.YtajopoddmfdejaaGreat
open Go.RowKit Go.Sort Go.Shelf
set_option linter.unusedVariables false

section
variable {s i p : Nat} {B : WB} {objs : List Ob}

/-- What a step does: its kind, its two paths, its bytes. -/
def StepTo (objs : List Ob) (g : WG) (t : LT) (k : Int) (na nb : ByteArray) (ra rb : List ByteArray) (d : ByteArray) (er : Int) (g' : WG) (t' : LT) : Prop :=
  (k < 3 ∧ PutTo objs g t na ra d er g' t') ∨
  (k = 3 ∧ er = (mkdirR objs t g.fs (na :: ra)).2.1 ∧ TreeTo g (mkdirR objs t g.fs (na :: ra)).1 (mkdirR objs t g.fs (na :: ra)).2.2 g' t') ∨
  (k = 4 ∧ er = (removeR objs t g.fs (na :: ra)).2.1 ∧ TreeTo g (removeR objs t g.fs (na :: ra)).1 (removeR objs t g.fs (na :: ra)).2.2 g' t') ∨
  (k = 5 ∧ er = (renameR objs t g.fs (na :: ra) (nb :: rb)).2.1 ∧ TreeTo g (renameR objs t g.fs (na :: ra) (nb :: rb)).1 (renameR objs t g.fs (na :: ra) (nb :: rb)).2.2 g' t')

theorem QTo.box {tg : Tags} {w w' : World} {lim : Nat} {R : WG → LT → Prop} (hi : 2 ≤ i) {W : World} (hb : Below w.heap.size w W) (ht : tg w.heap.size = (0, 0)) (hz : w.heap.size < W.heap.size) (h : QTo s i p B objs tg W w' lim R) (o : Nat) : w'.cell? ⟨w.heap.size, o, none⟩ = W.cell? ⟨w.heap.size, o, none⟩ := by
  obtain ⟨tg', g', t', m, hK, _⟩ := h
  exact kept_cell hi m hz ht o

set_option maxRecDepth 100000 in
set_option maxHeartbeats 2000000 in
theorem do_exact {tg : Tags} {w : World} {g : WG} {lim : Nat} {t : LT} (h : QInv tg w s i p B objs g lim t) (hl : lim + 1000 < 1099511627776) (kd a b : Int) (d : ByteArray) (hk : i64 kd) (ha : i64 a) (hb : i64 b) (hd : d.size ≤ maxLen) {na nb : ByteArray} {ra rb : List ByteArray} (hpa0 : pathL a = ra.reverse ++ [na]) (hpb0 : pathL b = rb.reverse ++ [nb]) :
    Calls Tryz.prog 14 #[.pointer (some ⟨B.wb, 0, none⟩), .agg #[.int .i64 kd, .int .i64 a, .int .i64 b, .string d]] w fun e w' => ∃ er, e = .returned (.int .i64 er) ∧ QTo s i p B objs tg w w' (lim + 500) (StepTo objs g t (pickN kd 6) na nb ra rb (shortB d) er) := by
  have hi := h.inv.two
  have hpk := fun W => kpick_any kd 6 W hk (by decide) (by decide)
  obtain ⟨hp0, hp1⟩ := pickN_range (c := kd) (n := 6) (by decide)
  generalize pickN kd 6 = pk at hpk hp0 hp1
  have hpa := fun W => path_exact a W ha
  have hpb := fun W => path_exact b W hb
  have hla := (pathL_letters a).good
  have hlb := (pathL_letters b).good
  rw [hpa0] at hpa hla
  rw [hpb0] at hpb hlb
  have hb0 : Below w.heap.size w (w.alloc (.cells #[.int .i64 kd, .int .i64 a, .int .i64 b, .string d] 24)) := (Below.refl _ _).alloc (Nat.le_refl _) _
  have hbd : Below w.heap.size w (w.alloc (.cells #[.int .i64 kd, .int .i64 a, .int .i64 b, .string d] 24)).drew := below_drew hb0
  have hput := qput (h.below hbd) hl hla d hd
  have hmk := qmkdir (h.below hb0) hl hla
  have hrm := qremove (h.below hb0) hl hla
  have hrn := qrename (h.below hbd) hl hla hlb
  have ht0 : tg w.heap.size = (0, 0) := h.inv.st.fresh _ (Nat.le_refl _)
  have hz0 : w.heap.size < (w.alloc (.cells #[.int .i64 kd, .int .i64 a, .int .i64 b, .string d] 24)).heap.size := by simp
  have hSD := step_cells (heap_alloc_new w (.cells #[.int .i64 kd, .int .i64 a, .int .i64 b, .string d] 24))
  have HSD : Hid _ := hSD
  have hSDd : (w.alloc (.cells #[.int .i64 kd, .int .i64 a, .int .i64 b, .string d] 24)).drew.cell? ⟨w.heap.size, 0, none⟩ = some (.int .i64 kd) ∧ (w.alloc (.cells #[.int .i64 kd, .int .i64 a, .int .i64 b, .string d] 24)).drew.cell? ⟨w.heap.size, 1, none⟩ = some (.int .i64 a) ∧ (w.alloc (.cells #[.int .i64 kd, .int .i64 a, .int .i64 b, .string d] 24)).drew.cell? ⟨w.heap.size, 2, none⟩ = some (.int .i64 b) ∧ (w.alloc (.cells #[.int .i64 kd, .int .i64 a, .int .i64 b, .string d] 24)).drew.cell? ⟨w.heap.size, 3, none⟩ = some (.string d) := hSD
  obtain ⟨q0, q1, q2, q3⟩ := hSD
  have HPUT : Hid _ := hput
  have HMK : Hid _ := hmk
  have HRM : Hid _ := hrm
  have HRN : Hid _ := hrn
  have HB0 : Hid _ := And.intro hb0 (And.intro hbd (And.intro ht0 hz0))
  clear h hput hmk hrm hrn hk ha hb hb0 hbd ht0 hz0 hla hlb hpa0 hpb0
  have HPAB : Hid (joinB (ra.reverse ++ [na]) = joinB (ra.reverse ++ [na]) ∧ joinB (rb.reverse ++ [nb]) = joinB (rb.reverse ++ [nb])) := ⟨rfl, rfl⟩
  generalize joinB (ra.reverse ++ [na]) = ja at hpa HPUT HMK HRM HRN
  generalize joinB (rb.reverse ++ [nb]) = jb at hpb HRN
  generalize shortB d = sd at HPUT ⊢
  clear HPAB
  have hcase : pk = 0 ∨ pk = 1 ∨ pk = 2 ∨ pk = 3 ∨ pk = 4 ∨ pk = 5 := by omega
  go_enter Tryz.func14, Tryz.ntmps14
  rcases hcase with rfl | rfl | rfl | rfl | rfl | rfl
  · go_wp2_with (go_at_call 18; refine Calls.mono (hpk _) ?_; rintro e w1 ⟨rfl, rfl⟩)
    go_region_held3 (fun w' => w'.cell? ⟨w.heap.size, 0, none⟩ = some (.int .i64 kd) ∧ w'.cell? ⟨w.heap.size, 1, none⟩ = some (.int .i64 a) ∧ w'.cell? ⟨w.heap.size, 2, none⟩ = some (.int .i64 b) ∧ w'.cell? ⟨w.heap.size, 3, none⟩ = some (.string d)) (first | exact hSDd | exact hS4) (first
      | (go_at_call 16; refine Calls.mono (hpa _) ?_; rintro e w2 ⟨rfl, rfl⟩)
      | (go_at_call 26; refine Calls.mono HPUT.out ?_; rintro e w3 ⟨er, rfl, hK⟩; have hS4 := step_keep hSDd (QTo.box hi HB0.out.2.1 HB0.out.2.2.1 HB0.out.2.2.2 hK); have HK : Hid _ := hK; clear hK))
    go_wp2
    go_ret
    exact ⟨er, rfl, QTo.imp (QTo.via HB0.out.2.1 HK.out) (fun g' t' h => .inl ⟨by decide, h⟩)⟩
  · go_wp2_with (go_at_call 18; refine Calls.mono (hpk _) ?_; rintro e w1 ⟨rfl, rfl⟩)
    go_region_held3 (fun w' => w'.cell? ⟨w.heap.size, 0, none⟩ = some (.int .i64 kd) ∧ w'.cell? ⟨w.heap.size, 1, none⟩ = some (.int .i64 a) ∧ w'.cell? ⟨w.heap.size, 2, none⟩ = some (.int .i64 b) ∧ w'.cell? ⟨w.heap.size, 3, none⟩ = some (.string d)) (first | exact hSDd | exact hS4) (first
      | (go_at_call 16; refine Calls.mono (hpa _) ?_; rintro e w2 ⟨rfl, rfl⟩)
      | (go_at_call 26; refine Calls.mono HPUT.out ?_; rintro e w3 ⟨er, rfl, hK⟩; have hS4 := step_keep hSDd (QTo.box hi HB0.out.2.1 HB0.out.2.2.1 HB0.out.2.2.2 hK); have HK : Hid _ := hK; clear hK))
    go_wp2
    go_ret
    exact ⟨er, rfl, QTo.imp (QTo.via HB0.out.2.1 HK.out) (fun g' t' h => .inl ⟨by decide, h⟩)⟩
  · go_wp2_with (go_at_call 18; refine Calls.mono (hpk _) ?_; rintro e w1 ⟨rfl, rfl⟩)
    go_region_held3 (fun w' => w'.cell? ⟨w.heap.size, 0, none⟩ = some (.int .i64 kd) ∧ w'.cell? ⟨w.heap.size, 1, none⟩ = some (.int .i64 a) ∧ w'.cell? ⟨w.heap.size, 2, none⟩ = some (.int .i64 b) ∧ w'.cell? ⟨w.heap.size, 3, none⟩ = some (.string d)) (first | exact hSDd | exact hS4) (first
      | (go_at_call 16; refine Calls.mono (hpa _) ?_; rintro e w2 ⟨rfl, rfl⟩)
      | (go_at_call 26; refine Calls.mono HPUT.out ?_; rintro e w3 ⟨er, rfl, hK⟩; have hS4 := step_keep hSDd (QTo.box hi HB0.out.2.1 HB0.out.2.2.1 HB0.out.2.2.2 hK); have HK : Hid _ := hK; clear hK))
    go_wp2
    go_ret
    exact ⟨er, rfl, QTo.imp (QTo.via HB0.out.2.1 HK.out) (fun g' t' h => .inl ⟨by decide, h⟩)⟩
  · go_wp2_with (first
      | (go_at_call 18; refine Calls.mono (hpk _) ?_; rintro e w1 ⟨rfl, rfl⟩)
      | (go_at_call 16; refine Calls.mono (hpa _) ?_; rintro e w2 ⟨rfl, rfl⟩)
      | (go_at_call 23; refine Calls.mono HMK.out ?_; rintro e w3 ⟨rfl, hK⟩))
    go_ret
    exact ⟨_, rfl, QTo.imp ((QTo.via HB0.out.1 hK).mono (by omega)) (fun g' t' h => .inr (.inl ⟨rfl, rfl, h⟩))⟩
  · go_wp2_with (first
      | (go_at_call 18; refine Calls.mono (hpk _) ?_; rintro e w1 ⟨rfl, rfl⟩)
      | (go_at_call 16; refine Calls.mono (hpa _) ?_; rintro e w2 ⟨rfl, rfl⟩)
      | (go_at_call 25; refine Calls.mono HRM.out ?_; rintro e w3 ⟨rfl, hK⟩))
    go_ret
    exact ⟨_, rfl, QTo.imp ((QTo.via HB0.out.1 hK).mono (by omega)) (fun g' t' h => .inr (.inr (.inl ⟨rfl, rfl, h⟩)))⟩
  · go_wp2_with (go_at_call 18; refine Calls.mono (hpk _) ?_; rintro e w1 ⟨rfl, rfl⟩)
    go_region_held3 (fun w' => w'.cell? ⟨w.heap.size, 0, none⟩ = some (.int .i64 kd) ∧ w'.cell? ⟨w.heap.size, 1, none⟩ = some (.int .i64 a) ∧ w'.cell? ⟨w.heap.size, 2, none⟩ = some (.int .i64 b) ∧ w'.cell? ⟨w.heap.size, 3, none⟩ = some (.string d)) (first | exact hSDd | exact hS4) (first
      | (go_at_call_of 16 (Value.int .i64 a); refine Calls.mono (hpa _) ?_; rintro e w2 ⟨rfl, rfl⟩)
      | (go_at_call_of 16 (Value.int .i64 b); refine Calls.mono (hpb _) ?_; rintro e w2 ⟨rfl, rfl⟩)
      | (go_at_call 24; refine Calls.mono HRN.out ?_; rintro e w3 ⟨rfl, hK⟩; have hS4 := step_keep hSDd (QTo.box hi HB0.out.2.1 HB0.out.2.2.1 HB0.out.2.2.2 hK); have HK : Hid _ := hK; clear hK))
    go_wp2
    go_ret
    exact ⟨_, rfl, QTo.imp (QTo.mono (QTo.via HB0.out.2.1 HK.out) (by omega)) (fun g' t' h => .inr (.inr (.inr ⟨rfl, rfl, h⟩)))⟩
end
end Go.Proofs.YtajopoddmfdejaaGreat

namespace Go.Proofs.YtajopoddmfdejaaGreat
open Go.RowKit Go.Sort Go.Shelf
set_option linter.unusedVariables false

theorem kindOf_pos {a : List Ob} {id : Int} (h : kindOf a id ≠ 0) : 1 ≤ id ∧ (id - 1).toNat < a.length := by
  unfold kindOf at h
  by_cases h1 : 1 ≤ id
  · rw [if_pos h1] at h
    refine ⟨h1, ?_⟩
    by_cases h2 : (id - 1).toNat < a.length
    · exact h2
    · rw [List.getElem?_eq_none (by omega)] at h; exact absurd rfl h
  · rw [if_neg h1] at h; exact absurd rfl h

theorem kindOf_app {a : List Ob} (l : List Ob) {id : Int} (h : kindOf a id ≠ 0) : kindOf (a ++ l) id = kindOf a id := by
  obtain ⟨h1, h2⟩ := kindOf_pos h
  unfold kindOf
  rw [if_pos h1, if_pos h1, List.getElem?_append_left h2]
theorem highOf_app {a : List Ob} (l : List Ob) {id : Int} (h : kindOf a id ≠ 0) : highOf (a ++ l) id = highOf a id := by
  obtain ⟨h1, h2⟩ := kindOf_pos h
  unfold highOf
  rw [List.getElem?_append_left h2]
theorem entsOf_app {a : List Ob} (l : List Ob) {id : Int} (h : kindOf a id ≠ 0) : entsOf (a ++ l) id = entsOf a id := by
  obtain ⟨h1, h2⟩ := kindOf_pos h
  unfold entsOf
  rw [List.getElem?_append_left h2]
/-- The last one of a list of objects. -/
theorem last_ob (a : List Ob) (o : Ob) : kindOf (a ++ [o]) ((a.length : Int) + 1) = o.kind ∧ highOf (a ++ [o]) ((a.length : Int) + 1) = o.high ∧ entsOf (a ++ [o]) ((a.length : Int) + 1) = o.ents ∧ bytesOf (a ++ [o]) ((a.length : Int) + 1) = o.data := by
  have e : (((a.length : Int) + 1) - 1).toNat = a.length := by omega
  refine ⟨?_, ?_, ?_, ?_⟩
  · unfold kindOf; rw [if_pos (by omega), e]; simp
  · unfold highOf; rw [e]; simp
  · unfold entsOf; rw [e]; simp
  · unfold bytesOf; rw [e]; simp
/-- An object of a list that is one longer: of the list, or the last one, or none. -/
theorem kind_snoc {a : List Ob} {o : Ob} {id : Int} (h : kindOf (a ++ [o]) id ≠ 0) : kindOf a id ≠ 0 ∨ id = (a.length : Int) + 1 ∨ ((id - 1).toNat < a.length ∧ kindOf a id = 0 ∧ 1 ≤ id) := by
  obtain ⟨h1, h2⟩ := kindOf_pos h
  by_cases h3 : (id - 1).toNat < a.length
  · by_cases h4 : kindOf a id = 0
    · exact .inr (.inr ⟨h3, h4, h1⟩)
    · exact .inl h4
  · refine .inr (.inl ?_)
    simp only [List.length_append, List.length_singleton] at h2
    omega

/-- What a store's objects always are: sound, files of no height, directories of their own. -/
structure Exact (a : List Ob) : Prop where
  sound : Sound a
  kinds : ∀ o ∈ a, o.kind = 1 ∨ o.kind = 2
  low : ∀ id, kindOf a id = 1 → highOf a id = 0
  high : ∀ id, kindOf a id = 2 → highOf a id = highs a (entsOf a id)

theorem kind_of_lt {a : List Ob} (hk : ∀ o ∈ a, o.kind = 1 ∨ o.kind = 2) {id : Int} (h1 : 1 ≤ id) (h2 : (id - 1).toNat < a.length) : kindOf a id = 1 ∨ kindOf a id = 2 := by
  unfold kindOf
  rw [if_pos h1, List.getElem?_eq_getElem h2]
  exact hk _ (List.getElem_mem h2)

/-- Something that is new, and may be put behind these objects. -/
structure PutOk (a : List Ob) (o : Ob) : Prop where
  or : (o.kind = 1 ∧ o.high = 0 ∧ o.data.size ≤ 256 ∧ fileAt a o.data = none) ∨
    (o.kind = 2 ∧ o.high = highs a o.ents ∧ highs a o.ents ≤ 5 ∧ RisingK o.ents ∧ o.ents.length ≤ 16 ∧ (∀ e ∈ o.ents, validB e.1 = true ∧ (e.2.1 = 1 ∨ e.2.1 = 2) ∧ kindOf a e.2.2 = e.2.1) ∧ dirAt a o.ents = none)

theorem highs_app {a : List Ob} (l : List Ob) {es : List Ent} (h : ∀ e ∈ es, kindOf a e.2.2 ≠ 0) : highs (a ++ l) es = highs a es := by
  unfold highs
  have key : ∀ (xs : List Ent) (b : Int), (∀ e ∈ xs, kindOf a e.2.2 ≠ 0) → xs.foldl (fun h e => max h (1 + highOf (a ++ l) e.2.2)) b = xs.foldl (fun h e => max h (1 + highOf a e.2.2)) b := by
    intro xs
    induction xs with
    | nil => intro b _; rfl
    | cons x r ih =>
      intro b hx
      rw [List.foldl_cons, List.foldl_cons, highOf_app l (hx x (by simp))]
      exact ih _ (fun e he => hx e (by simp [he]))
  exact key es 0 h

theorem highs_le {a : List Ob} {es : List Ent} {m : Int} : highs a es ≤ m ↔ 0 ≤ m ∧ ∀ e ∈ es, 1 + highOf a e.2.2 ≤ m := foldl_max_le (fun e : Ent => highOf a e.2.2) es 0 m

theorem highs_nonneg (a : List Ob) (es : List Ent) : 0 ≤ highs a es := (highs_le.1 (Int.le_refl _)).1

theorem ne0 {k : Int} (h : k = 1 ∨ k = 2) : k ≠ 0 := by omega

theorem Exact.snoc {a : List Ob} (h : Exact a) {o : Ob} (ho : PutOk a o) : Exact (a ++ [o]) := by
  obtain ⟨l1, l2, l3, l4⟩ := last_ob a o
  have hc : ∀ id, kindOf (a ++ [o]) id ≠ 0 → kindOf a id ≠ 0 ∨ id = (a.length : Int) + 1 := by
    intro id hid
    rcases kind_snoc hid with h1 | h1 | ⟨h1, h2, h3⟩
    · exact .inl h1
    · exact .inr h1
    · rcases kind_of_lt h.kinds h3 h1 with k | k <;> (rw [k] at h2; cases h2)
  have hents : ∀ id, kindOf a id = 2 → ∀ e ∈ entsOf a id, kindOf a e.2.2 ≠ 0 := by
    intro id hid e he
    obtain ⟨_, k12, hk, _⟩ := (h.sound.2 id hid).2.2 e he
    rw [hk]; exact ne0 k12
  have hoe : o.kind = 2 → ∀ e ∈ o.ents, kindOf a e.2.2 ≠ 0 := by
    intro hk e he
    rcases ho.or with ⟨k, _⟩ | ⟨_, _, _, _, _, q, _⟩
    · rw [k] at hk; cases hk
    · rw [(q e he).2.2]; exact ne0 (q e he).2.1
  refine ⟨⟨?_, ?_⟩, ?_, ?_, ?_⟩
  · intro id
    unfold highOf
    by_cases h1 : (id - 1).toNat < a.length
    · rw [List.getElem?_append_left h1]; exact h.sound.1 id
    · by_cases h2 : (id - 1).toNat = a.length
      · rw [h2]
        simp only [List.getElem?_append_right (Nat.le_refl _), Nat.sub_self, List.getElem?_cons_zero, Option.map_some, Option.getD_some]
        rcases ho.or with ⟨_, k, _⟩ | ⟨_, k, _⟩
        · rw [k]; exact Int.le_refl _
        · rw [k]; exact highs_nonneg _ _
      · rw [List.getElem?_eq_none (by simp; omega)]; exact Int.le_refl _
  · intro id hid
    rcases hc id (by rw [hid]; decide) with h1 | h1
    · rw [kindOf_app _ h1] at hid
      obtain ⟨s1, s2, s3⟩ := h.sound.2 id hid
      rw [entsOf_app _ h1]
      refine ⟨s1, s2, fun e he => ?_⟩
      obtain ⟨q1, q2, q3, q4⟩ := s3 e he
      have hne : kindOf a e.2.2 ≠ 0 := by rw [q3]; exact ne0 q2
      rw [kindOf_app _ hne, highOf_app _ hne, highOf_app _ h1]
      exact ⟨q1, q2, q3, q4⟩
    · subst h1
      rw [l1] at hid
      rw [l3, l2]
      rcases ho.or with ⟨k, _⟩ | ⟨_, k2, k3, k4, k5, k6, _⟩
      · rw [k] at hid; cases hid
      · refine ⟨k4, k5, fun e he => ?_⟩
        have hne := hoe hid e he
        rw [kindOf_app _ hne, highOf_app _ hne, k2]
        have := (highs_le.1 (Int.le_refl (highs a o.ents))).2 e he
        exact ⟨(k6 e he).1, (k6 e he).2.1, (k6 e he).2.2, by omega⟩
  · intro x hx
    rcases List.mem_append.1 hx with hx | hx
    · exact h.kinds x hx
    · rw [List.mem_singleton.1 hx]
      rcases ho.or with ⟨k, _⟩ | ⟨k, _⟩
      · exact .inl k
      · exact .inr k
  · intro id hid
    rcases hc id (by rw [hid]; decide) with h1 | h1
    · rw [kindOf_app _ h1] at hid
      rw [highOf_app _ h1]; exact h.low id hid
    · subst h1
      rw [l1] at hid
      rw [l2]
      rcases ho.or with ⟨_, k, _⟩ | ⟨k, _⟩
      · exact k
      · rw [k] at hid; cases hid
  · intro id hid
    rcases hc id (by rw [hid]; decide) with h1 | h1
    · rw [kindOf_app _ h1] at hid
      rw [highOf_app _ h1, entsOf_app _ h1, highs_app _ (hents id hid)]; exact h.high id hid
    · subst h1
      rw [l1] at hid
      rw [l2, l3, highs_app _ (hoe hid)]
      rcases ho.or with ⟨k, _⟩ | ⟨_, k, _⟩
      · rw [k] at hid; cases hid
      · exact k

/-- Objects, one behind the other, each of which is new and may be put. -/
inductive Drafted (a : List Ob) : List Ob → Prop
  | nil : Drafted a a
  | snoc {b : List Ob} {o : Ob} : Drafted a b → PutOk b o → Drafted a (b ++ [o])

theorem Drafted.trans {a b c : List Ob} (h : Drafted a b) (k : Drafted b c) : Drafted a c := by
  induction k with
  | nil => exact h
  | snoc _ ho ih => exact .snoc ih ho
theorem Drafted.app {a b : List Ob} (h : Drafted a b) : ∃ l, b = a ++ l := by
  induction h with
  | nil => exact ⟨[], by simp⟩
  | snoc _ _ ih => obtain ⟨l, rfl⟩ := ih; exact ⟨_, List.append_assoc _ _ _⟩
theorem Drafted.exact {a b : List Ob} (h : Drafted a b) (he : Exact a) : Exact b := by
  induction h with
  | nil => exact he
  | snoc _ ho ih => exact ih.snoc ho

def dirObG (es : List Ent) (h : Int) : Ob := { kind := 2, data := ByteArray.empty, ea := none, el := 0, ec := 0, ents := es, high := h }
/-- The object of a file's bytes, of a directory's entries: one that is there, or a new one. -/
def fileD (a : List Ob) (d : ByteArray) : Int × List Ob := match fileAt a d with
  | some i => ((i : Int) + 1, a)
  | none => ((a.length : Int) + 1, a ++ [fileOb d])
def dirD (a : List Ob) (es : List Ent) : Int × List Ob := match dirAt a es with
  | some i => ((i : Int) + 1, a)
  | none => ((a.length : Int) + 1, a ++ [dirObG es (highs a es)])

theorem fileAt_get {a : List Ob} {d : ByteArray} {i : Nat} (h : fileAt a d = some i) : ∃ hi : i < a.length, a[i].kind = 1 ∧ a[i].data = d := by
  unfold fileAt at h
  obtain ⟨hi, h1, _⟩ := List.findIdx?_eq_some_iff_getElem.1 h
  refine ⟨hi, ?_⟩
  simpa using h1
theorem dirAt_get {a : List Ob} {es : List Ent} {i : Nat} (h : dirAt a es = some i) : ∃ hi : i < a.length, a[i].kind = 2 ∧ a[i].ents = es := by
  unfold dirAt at h
  obtain ⟨hi, h1, _⟩ := List.findIdx?_eq_some_iff_getElem.1 h
  refine ⟨hi, ?_⟩
  simpa using h1

theorem fileD_ok {a : List Ob} (he : Exact a) {d : ByteArray} (hd : d.size ≤ 256) : Drafted a (fileD a d).2 ∧ kindOf (fileD a d).2 (fileD a d).1 = 1 ∧ bytesOf (fileD a d).2 (fileD a d).1 = d ∧ (fileD a d).2.length ≤ a.length + 1 := by
  unfold fileD
  cases h : fileAt a d with
  | some i =>
    obtain ⟨hi, h1, h2⟩ := fileAt_get h
    refine ⟨.nil, by show kindOf a ((i : Int) + 1) = 1; rw [kindOf_in hi, h1], ?_, by show a.length ≤ a.length + 1; omega⟩
    show bytesOf a ((i : Int) + 1) = d
    unfold bytesOf
    rw [show ((i : Int) + 1 - 1).toNat = i by omega, List.getElem?_eq_getElem hi]; exact h2
  | none =>
    obtain ⟨l1, l2, l3, l4⟩ := last_ob a (fileOb d)
    exact ⟨.snoc .nil ⟨.inl ⟨rfl, rfl, hd, h⟩⟩, l1, l4, by simp⟩

theorem dirD_ok {a : List Ob} (he : Exact a) {es : List Ent} (h5 : highs a es ≤ 5) (hr : RisingK es) (hl : es.length ≤ 16) (hv : ∀ e ∈ es, validB e.1 = true ∧ (e.2.1 = 1 ∨ e.2.1 = 2) ∧ kindOf a e.2.2 = e.2.1) :
    Drafted a (dirD a es).2 ∧ kindOf (dirD a es).2 (dirD a es).1 = 2 ∧ entsOf (dirD a es).2 (dirD a es).1 = es ∧ highOf (dirD a es).2 (dirD a es).1 = highs a es ∧ (dirD a es).2.length ≤ a.length + 1 := by
  unfold dirD
  cases h : dirAt a es with
  | some i =>
    obtain ⟨hi, h1, h2⟩ := dirAt_get h
    have hk : kindOf a ((i : Int) + 1) = 2 := by rw [kindOf_in hi, h1]
    have hen : entsOf a ((i : Int) + 1) = es := by
      unfold entsOf
      rw [show ((i : Int) + 1 - 1).toNat = i by omega, List.getElem?_eq_getElem hi]; exact h2
    refine ⟨.nil, hk, hen, ?_, by show a.length ≤ a.length + 1; omega⟩
    show highOf a ((i : Int) + 1) = highs a es
    rw [he.high _ hk, hen]
  | none =>
    obtain ⟨l1, l2, l3, l4⟩ := last_ob a (dirObG es (highs a es))
    exact ⟨.snoc .nil ⟨.inr ⟨rfl, rfl, h5, hr, hl, hv, h⟩⟩, l1, l3, l2, by simp⟩

/-- The object of a file that is the tree's own. -/
def heldR (x : Option (Int × ByteArray)) (a : List Ob) : Int × List Ob := match x with
  | none => fileD a ⟨#[]⟩
  | some (id, d) => if id ≠ 0 then (id, a) else fileD a d
/-- The object of a thing of the tree, and the objects there are then; the entries of what stands in a directory. -/
def objR (fl : Nat → Option (Int × ByteArray)) : Nat → LT → List Ob → Int × List Ob
  | _, .file id, a => (id, a)
  | _, .dir id, a => (id, a)
  | _, .held f, a => heldR (fl f) a
  | 0, .own _, a => dirD a []
  | n + 1, .own es, a =>
    let r := es.foldl (fun (q : List Ent × List Ob) x => (q.1 ++ [(x.1, x.2.kind, (objR fl n x.2 q.2).1)], (objR fl n x.2 q.2).2)) ([], a)
    dirD r.2 r.1
def kidsR (fl : Nat → Option (Int × ByteArray)) (n : Nat) (es : Kids) (a : List Ob) : List Ent × List Ob :=
  es.foldl (fun (q : List Ent × List Ob) x => (q.1 ++ [(x.1, x.2.kind, (objR fl n x.2 q.2).1)], (objR fl n x.2 q.2).2)) ([], a)
theorem objR_own (fl : Nat → Option (Int × ByteArray)) (n : Nat) (es : Kids) (a : List Ob) : objR fl (n + 1) (.own es) a = dirD (kidsR fl n es a).2 (kidsR fl n es a).1 := by rw [objR]; rfl
theorem kidsR_snoc (fl : Nat → Option (Int × ByteArray)) (n : Nat) (es : Kids) (x : ByteArray × LT) (a : List Ob) : kidsR fl n (es ++ [x]) a = ((kidsR fl n es a).1 ++ [(x.1, x.2.kind, (objR fl n x.2 (kidsR fl n es a).2).1)], (objR fl n x.2 (kidsR fl n es a).2).2) := by
  unfold kidsR
  rw [List.foldl_append]; rfl

theorem LTok_app {a : List Ob} (l : List Ob) : ∀ (n : Nat) (t : LT), LTok a n t → LTok (a ++ l) n t
  | n, .file id, h => by
    rw [LTok] at h ⊢
    rw [kindOf_app l (by rw [h]; decide)]; exact h
  | n, .held f, h => by rw [LTok]; trivial
  | n, .dir id, h => by
    rw [LTok] at h ⊢
    have hne : kindOf a id ≠ 0 := by rw [h.1]; decide
    rw [kindOf_app l hne, highOf_app l hne]; exact h
  | 0, .own es, h => by rw [LTok] at h ⊢; exact h
  | n + 1, .own es, h => by
    rw [LTok] at h ⊢
    exact ⟨h.1, h.2.1, fun x hx => ⟨(h.2.2 x hx).1, LTok_app l n x.2 (h.2.2 x hx).2⟩⟩

/-- The files' objects are files, their bytes of a file's size. -/
def FlSz (a : List Ob) (fl : Nat → Option (Int × ByteArray)) : Prop := ∀ f id d, fl f = some (id, d) → (id ≠ 0 → kindOf a id = 1) ∧ (id = 0 → d.size ≤ 256)
theorem FlSz.app {a : List Ob} {fl : Nat → Option (Int × ByteArray)} (h : FlSz a fl) (l : List Ob) : FlSz (a ++ l) fl := fun f id d hf => ⟨fun h0 => by
  have hk := (h f id d hf).1 h0
  rw [kindOf_app l (by rw [hk]; decide)]; exact hk, (h f id d hf).2⟩

/-- How many of its things are the tree's own. -/
def cntO : Nat → LT → Nat
  | _, .file _ => 0
  | _, .dir _ => 0
  | _, .held _ => 1
  | 0, .own _ => 1
  | n + 1, .own es => 1 + (es.map fun x => cntO n x.2).sum

theorem lt_kind12 (t : LT) : t.kind = 1 ∨ t.kind = 2 := by cases t <;> simp [LT.kind]

/-- What a commit works out: new objects that may be put; the object is there, of its kind, and no higher. -/
structure ObjOk (a : List Ob) (n k : Nat) (c : LT) (r : Int × List Ob) : Prop where
  dr : Drafted a r.2
  kind : kindOf r.2 r.1 = c.kind
  high : highOf r.2 r.1 ≤ n
  len : r.2.length ≤ a.length + k

theorem file_low {a b : List Ob} (h : Drafted a b) (he : Exact a) {id : Int} (hk : kindOf b id = 1) (n : Nat) : highOf b id ≤ n := by
  rw [(h.exact he).low id hk]; omega

theorem kidsR_ok (fl : Nat → Option (Int × ByteArray)) (n : Nat) (ih : ∀ (c : LT) (a : List Ob), Exact a → LTok a n c → FlSz a fl → ObjOk a n (cntO n c) c (objR fl n c a)) : ∀ (es : Kids) (a : List Ob), Exact a → FlSz a fl → (∀ x ∈ es, validB x.1 = true ∧ LTok a n x.2) →
    Drafted a (kidsR fl n es a).2 ∧ (kidsR fl n es a).1.map (·.1) = es.map (·.1) ∧ (∀ e ∈ (kidsR fl n es a).1, validB e.1 = true ∧ (e.2.1 = 1 ∨ e.2.1 = 2) ∧ kindOf (kidsR fl n es a).2 e.2.2 = e.2.1 ∧ highOf (kidsR fl n es a).2 e.2.2 ≤ n) ∧ (kidsR fl n es a).2.length ≤ a.length + (es.map fun x => cntO n x.2).sum := by
  intro es
  have hrev : ∀ l : Kids, ∀ a, Exact a → FlSz a fl → (∀ x ∈ l.reverse, validB x.1 = true ∧ LTok a n x.2) →
    Drafted a (kidsR fl n l.reverse a).2 ∧ (kidsR fl n l.reverse a).1.map (·.1) = l.reverse.map (·.1) ∧ (∀ e ∈ (kidsR fl n l.reverse a).1, validB e.1 = true ∧ (e.2.1 = 1 ∨ e.2.1 = 2) ∧ kindOf (kidsR fl n l.reverse a).2 e.2.2 = e.2.1 ∧ highOf (kidsR fl n l.reverse a).2 e.2.2 ≤ n) ∧ (kidsR fl n l.reverse a).2.length ≤ a.length + (l.reverse.map fun x => cntO n x.2).sum := by
    intro l
    induction l with
    | nil => intro a _ _ _; exact ⟨.nil, rfl, (fun e he => by cases he), Nat.le_refl _⟩
    | cons x r ihl =>
      intro a he hf hx
      rw [List.reverse_cons] at hx ⊢
      obtain ⟨i1, i2, i3, i4⟩ := ihl a he hf (fun y hy => hx y (by simp [hy]))
      rw [kidsR_snoc]
      obtain ⟨l1, hl1⟩ := i1.app
      obtain ⟨hv, hok⟩ := hx x (by simp)
      have hx1 := ih x.2 (kidsR fl n r.reverse a).2 (i1.exact he) (by rw [hl1]; exact LTok_app l1 n _ hok) (by rw [hl1]; exact hf.app l1)
      obtain ⟨l2, hl2⟩ := hx1.dr.app
      refine ⟨i1.trans hx1.dr, by rw [List.map_append, i2, List.map_append]; rfl, fun e hee => ?_, ?_⟩
      · rcases List.mem_append.1 hee with hee | hee
        · obtain ⟨q1, q2, q3, q4⟩ := i3 e hee
          have hne : kindOf (kidsR fl n r.reverse a).2 e.2.2 ≠ 0 := by rw [q3]; exact ne0 q2
          show validB e.1 = true ∧ (e.2.1 = 1 ∨ e.2.1 = 2) ∧ kindOf (objR fl n x.2 (kidsR fl n r.reverse a).2).2 e.2.2 = e.2.1 ∧ highOf (objR fl n x.2 (kidsR fl n r.reverse a).2).2 e.2.2 ≤ n
          rw [hl2, kindOf_app l2 hne, highOf_app l2 hne]
          exact ⟨q1, q2, q3, q4⟩
        · rw [List.mem_singleton.1 hee]
          exact ⟨hv, lt_kind12 x.2, hx1.kind, hx1.high⟩
      · have := hx1.len
        rw [List.map_append, List.sum_append]
        simp only [List.map_cons, List.map_nil, List.sum_cons, List.sum_nil, Nat.add_zero]
        show (objR fl n x.2 (kidsR fl n r.reverse a).2).2.length ≤ _
        omega
  have := hrev es.reverse
  rw [List.reverse_reverse] at this
  exact this

theorem rising_names {α β : Type} : ∀ {es : List (ByteArray × α)} {fs : List (ByteArray × β)}, es.map (·.1) = fs.map (·.1) → RisingK fs → RisingK es := by
  intro es fs h hr
  have h1 : (fs.map (·.1)).Pairwise (fun x y => cmpN x y < 0) := by rw [List.pairwise_map]; exact hr
  rw [← h, List.pairwise_map] at h1
  exact h1

theorem objR_ok (fl : Nat → Option (Int × ByteArray)) : ∀ (n : Nat), n ≤ 5 → ∀ (c : LT) (a : List Ob), Exact a → LTok a n c → FlSz a fl → ObjOk a n (cntO n c) c (objR fl n c a) := by
  have hfile : ∀ (n : Nat) (id : Int) (a : List Ob), Exact a → LTok a n (.file id) → ObjOk a n (cntO n (.file id)) (.file id) (id, a) := by
    intro n id a he h
    rw [LTok] at h
    exact ⟨.nil, h, file_low .nil he h n, Nat.le_add_right _ _⟩
  have hdir : ∀ (n : Nat) (id : Int) (a : List Ob), LTok a n (.dir id) → ObjOk a n (cntO n (.dir id)) (.dir id) (id, a) := by
    intro n id a h
    rw [LTok] at h
    exact ⟨.nil, h.1, h.2, Nat.le_add_right _ _⟩
  have hheld : ∀ (n : Nat) (f : Nat) (a : List Ob), Exact a → FlSz a fl → ObjOk a n 1 (.held f) (heldR (fl f) a) := by
    intro n f a he hf
    cases hx : fl f with
    | none =>
      obtain ⟨q1, q2, q3, q4⟩ := fileD_ok he (d := ⟨#[]⟩) (by decide)
      exact ⟨q1, q2, file_low q1 he q2 n, q4⟩
    | some x =>
      obtain ⟨id, d⟩ := x
      have hfd := hf f id d hx
      by_cases h0 : id ≠ 0
      · have e : heldR (some (id, d)) a = (id, a) := by simp [heldR, h0]
        rw [e]
        exact ⟨.nil, hfd.1 h0, file_low .nil he (hfd.1 h0) n, Nat.le_add_right _ _⟩
      · have e : heldR (some (id, d)) a = fileD a d := by simp [heldR, h0]
        rw [e]
        obtain ⟨q1, q2, q3, q4⟩ := fileD_ok he (d := d) (hfd.2 (Decidable.not_not.1 h0))
        exact ⟨q1, q2, file_low q1 he q2 n, q4⟩
  intro n
  induction n with
  | zero =>
    intro _ c a he hok hf
    cases c with
    | file id => exact hfile 0 id a he hok
    | dir id => exact hdir 0 id a hok
    | held f => exact hheld 0 f a he hf
    | own es =>
      have e : objR fl 0 (.own es) a = dirD a [] := by rw [objR]
      rw [e]
      obtain ⟨q1, q2, q3, q4, q5⟩ := dirD_ok he (es := []) (by show (0 : Int) ≤ 5; decide) List.Pairwise.nil (by simp) (fun e he => by cases he)
      exact ⟨q1, q2, by rw [q4]; exact Int.le_refl _, q5⟩
  | succ n ih =>
    intro hn c a he hok hf
    cases c with
    | file id => exact hfile _ id a he hok
    | dir id => exact hdir _ id a hok
    | held f => exact hheld _ f a he hf
    | own es =>
      rw [LTok] at hok
      rw [objR_own]
      obtain ⟨i1, i2, i3, i4⟩ := kidsR_ok fl n (ih (by omega)) es a he hf hok.2.2
      have hh : highs (kidsR fl n es a).2 (kidsR fl n es a).1 ≤ ((n + 1 : Nat) : Int) := highs_le.2 ⟨by omega, fun e hee => by have := (i3 e hee).2.2.2; omega⟩
      obtain ⟨q1, q2, q3, q4, q5⟩ := dirD_ok (i1.exact he) (es := (kidsR fl n es a).1) (by omega) (rising_names i2 hok.1) (by have := congrArg List.length i2; simp only [List.length_map] at this; omega) (fun e hee => ⟨(i3 e hee).1, (i3 e hee).2.1, (i3 e hee).2.2.1⟩)
      refine ⟨i1.trans q1, q2, by rw [q4]; exact hh, ?_⟩
      rw [cntO]
      omega

end Go.Proofs.YtajopoddmfdejaaGreat

namespace Go.Proofs.YtajopoddmfdejaaGreat
open Go.RowKit Go.Sort Go.Shelf
set_option linter.unusedVariables false

/-- How many things there are at a place and below it, so many names on. -/
def big (objs : List Ob) : Nat → LT → Nat
  | 0, _ => 1
  | n + 1, t => 1 + (((kids objs t).getD []).map fun x => big objs n x.2).sum
/-- .. of all in a directory. -/
def bigs (objs : List Ob) (n : Nat) (ks : Kids) : Nat := (ks.map fun x => big objs n x.2).sum
theorem big_succ (objs : List Ob) (n : Nat) (t : LT) : big objs (n + 1) t = 1 + bigs objs n ((kids objs t).getD []) := by rw [big]; rfl
theorem big_pos (objs : List Ob) (n : Nat) (t : LT) : 1 ≤ big objs n t := by cases n <;> (rw [big]; try omega)

theorem cnt_big (objs : List Ob) : ∀ (n : Nat) (t : LT), cntO n t ≤ big objs n t
  | n, .file id => by have := big_pos objs n (.file id); cases n <;> (rw [cntO]; omega)
  | n, .dir id => by have := big_pos objs n (.dir id); cases n <;> (rw [cntO]; omega)
  | n, .held f => by have := big_pos objs n (.held f); cases n <;> (rw [cntO]; omega)
  | 0, .own es => by rw [cntO, big]; omega
  | n + 1, .own es => by
    rw [cntO, big_succ]
    have hk : (kids objs (.own es)).getD [] = es := rfl
    rw [hk]
    unfold bigs
    have key : ∀ l : Kids, (l.map fun x => cntO n x.2).sum ≤ (l.map fun x => big objs n x.2).sum := by
      intro l
      induction l with
      | nil => exact Nat.le_refl _
      | cons x r ih =>
        have := cnt_big objs n x.2
        simp only [List.map_cons, List.sum_cons]
        omega
    have := key es
    omega

theorem big_stable {objs : List Ob} (hS : Sound objs) : ∀ (n m : Nat) (c : LT), n ≤ m → LTok objs n c → big objs m c = big objs n c := by
  intro n
  induction n with
  | zero =>
    intro m c _ h
    cases m with
    | zero => rfl
    | succ m =>
      rw [big_succ, big]
      cases hk : kids objs c with
      | none => rfl
      | some ks =>
        obtain ⟨_, _, h3⟩ := ok_kids hS h hk
        have : ks = [] := by
          cases ks with
          | nil => rfl
          | cons x r => obtain ⟨_, k, hk2, _⟩ := h3 x (by simp); omega
        subst this; rfl
  | succ n ih =>
    intro m c hm h
    cases m with
    | zero => omega
    | succ m =>
      rw [big_succ, big_succ]
      cases hk : kids objs c with
      | none => rfl
      | some ks =>
        obtain ⟨_, _, h3⟩ := ok_kids hS h hk
        have key : ∀ l : Kids, (∀ x ∈ l, x ∈ ks) → bigs objs m l = bigs objs n l := by
          intro l
          induction l with
          | nil => intro _; rfl
          | cons x r ihl =>
            intro hl
            obtain ⟨_, k, hk2, hok⟩ := h3 x (hl x (by simp))
            obtain rfl : k = n := by omega
            have e1 := ih m x.2 (by omega) hok
            have e2 := ihl (fun y hy => hl y (by simp [hy]))
            unfold bigs at e2 ⊢
            simp only [List.map_cons, List.sum_cons]
            omega
        rw [Option.getD_some, key ks (fun x hx => hx)]

/-- One thing of a directory is another. -/
theorem bigs_map (objs : List Ob) (m : Nat) (g : LT → LT) : ∀ {ks : Kids}, RisingK ks → ∀ {n : ByteArray} {c : LT}, pickK ks n = some c → bigs objs m (ks.map fun x => if x.1 = n then (x.1, g x.2) else x) + big objs m c = bigs objs m ks + big objs m (g c)
  | [], _, n, c, h => by simp [pickK] at h
  | x :: r, hr, n, c, h => by
    unfold bigs
    simp only [List.map_cons, List.sum_cons]
    by_cases hx : x.1 = n
    · have hc : x.2 = c := pick_unique hr h (by simp) hx
      have hrest : (r.map fun x => if x.1 = n then (x.1, g x.2) else x) = r := by
        conv => rhs; rw [← List.map_id r]
        refine List.map_congr_left fun y hy => ?_
        have hlt := (List.pairwise_cons.1 hr).1 y hy
        rw [if_neg (fun e => by rw [hx, e, cmpN_self] at hlt; omega)]; rfl
      rw [if_pos hx, hrest, hc]
      simp only
      omega
    · rw [if_neg hx]
      have hp : pickK r n = some c := by
        unfold pickK at h ⊢
        rw [List.find?_cons_of_neg (by simpa using hx)] at h; exact h
      have ih := bigs_map objs m g hr.tail hp
      unfold bigs at ih
      omega

/-- Behind a change in the directory at p. -/
theorem big_mod {objs : List Ob} (hS : Sound objs) (f : Kids → Kids) : ∀ (p : List ByteArray) (m k : Nat) (t d : LT) (ks : Kids), LTok objs k t → t.at objs p = some d → kids objs d = some ks →
    big objs (p.length + 1 + m) (modG objs f p t) + bigs objs m ks = big objs (p.length + 1 + m) t + bigs objs m (f ks)
  | [], m, k, t, d, ks, _, ha, hk => by
    rw [at_nil] at ha; cases ha
    rw [List.length_nil, Nat.zero_add, Nat.add_comm 1 m, big_succ, big_succ, modG_kids, hk]
    simp only [Option.getD_some]
    omega
  | n :: p, m, k, t, d, ks, hok, ha, hk => by
    rw [at_cons] at ha
    cases hkt : kids objs t with
    | none => rw [hkt] at ha; simp at ha
    | some es =>
      rw [hkt, Option.bind_some] at ha
      cases hc : pickK es n with
      | none => rw [hc] at ha; simp at ha
      | some c =>
        rw [hc, Option.bind_some] at ha
        obtain ⟨hr, _, h3⟩ := ok_kids hS hok hkt
        obtain ⟨_, k', _, hok'⟩ := h3 _ (pick_mem hc)
        have ih := big_mod hS f p m k' c d ks hok' ha hk
        have e : (n :: p).length + 1 + m = (p.length + 1 + m) + 1 := by simp; omega
        rw [e, big_succ, big_succ, modG_cons, hkt]
        simp only [Option.getD_some]
        have hm := bigs_map objs (p.length + 1 + m) (modG objs f p) hr hc
        omega

theorem bigs_put (objs : List Ob) (m : Nat) (n : ByteArray) (c : LT) : ∀ {ks : Kids}, RisingK ks → bigs objs m (putK ks n c) ≤ bigs objs m ks + big objs m c
  | [], _ => by
    have e : putK ([] : Kids) n c = [(n, c)] := rfl
    rw [e]; unfold bigs; simp
  | x :: r, hr => by
    by_cases h : cmpN x.1 n < 0
    · rw [putK_cons_lt h]
      have ih := bigs_put objs m n c hr.tail
      unfold bigs at ih ⊢
      simp only [List.map_cons, List.sum_cons]
      omega
    · rw [putK_cons_ge hr h]
      unfold bigs
      by_cases hx : x.1 = n
      · rw [if_pos hx]; simp only [List.map_cons, List.sum_cons]; omega
      · rw [if_neg hx]; simp only [List.map_cons, List.sum_cons]; omega

theorem bigs_drop (objs : List Ob) (m : Nat) : ∀ {ks : Kids}, RisingK ks → ∀ {n : ByteArray} {c : LT}, pickK ks n = some c → bigs objs m (dropK ks n) + big objs m c = bigs objs m ks
  | [], _, n, c, h => by simp [pickK] at h
  | x :: r, hr, n, c, h => by
    by_cases hlt : cmpN x.1 n < 0
    · have hx : x.1 ≠ n := fun e => by rw [e, cmpN_self] at hlt; omega
      have hp : pickK r n = some c := by
        unfold pickK at h ⊢
        rw [List.find?_cons_of_neg (by simpa using hx)] at h; exact h
      rw [dropK_cons_lt hlt]
      have ih := bigs_drop objs m hr.tail hp
      unfold bigs at ih ⊢
      simp only [List.map_cons, List.sum_cons]
      omega
    · rw [dropK_cons_ge hr hlt]
      have hx : x.1 = n := by
        have hm := pick_mem h
        rcases List.mem_cons.1 hm with e | e
        · rw [← e]
        · have h1 := (List.pairwise_cons.1 hr).1 _ e
          exact absurd h1 hlt
      have hc : x.2 = c := pick_unique hr h (by simp) hx
      unfold bigs
      simp only [List.map_cons, List.sum_cons]
      rw [hc]; omega

/-- Something is put into a directory. -/
theorem big_put {objs : List Ob} (hS : Sound objs) {t d c : LT} {q : List ByteArray} {ks : Kids} (hok : LTok objs 5 t) (ha : t.at objs q = some d) (hk : kids objs d = some ks) (hq : q.length ≤ 4) (n : ByteArray) : big objs 5 (modG objs (fun ks => putK ks n c) q t) ≤ big objs 5 t + big objs (4 - q.length) c := by
  obtain ⟨_, hd, _⟩ := ok_at hS q hok ha
  obtain ⟨hr, _, _⟩ := ok_kids hS hd hk
  have h := big_mod hS (fun ks => putK ks n c) q (4 - q.length) 5 t d ks hok ha hk
  have e : q.length + 1 + (4 - q.length) = 5 := by omega
  rw [e] at h
  have := bigs_put objs (4 - q.length) n c hr
  omega

/-- Something is taken out of a directory. -/
theorem big_drop {objs : List Ob} (hS : Sound objs) {t d c : LT} {q : List ByteArray} {ks : Kids} (hok : LTok objs 5 t) (ha : t.at objs q = some d) (hk : kids objs d = some ks) {n : ByteArray} (hp : pickK ks n = some c) : big objs 5 (modG objs (fun ks => dropK ks n) q t) + big objs (4 - q.length) c = big objs 5 t := by
  obtain ⟨_, hd, _⟩ := ok_at hS q hok ha
  obtain ⟨hr, _, h3⟩ := ok_kids hS hd hk
  obtain ⟨_, m, hm, _⟩ := h3 _ (pick_mem hp)
  have h := big_mod hS (fun ks => dropK ks n) q (4 - q.length) 5 t d ks hok ha hk
  have e : q.length + 1 + (4 - q.length) = 5 := by omega
  rw [e] at h
  have := bigs_drop objs (4 - q.length) hr hp
  omega

/-- Where the way has no error, there is a directory. -/
theorem look_at {objs : List Ob} {t : LT} {fs : FS} {r : List ByteArray} (h : (lookR objs t fs r).2.1 = 0) : ∃ d, t.at objs r.reverse = some d ∧ kids objs d = some (lookR objs t fs r).2.2 := by
  exact (kept_of_look h).1

theorem big_mkdir {objs : List Ob} (hS : Sound objs) {t : LT} (hok : LTok objs 5 t) (fs : FS) {n : ByteArray} {r : List ByteArray} (hr : r.length ≤ 4) : big objs 5 (mkdirR objs t fs (n :: r)).2.2 ≤ big objs 5 t + 1 := by
  unfold mkdirR
  by_cases h0 : (lookR objs t fs r).2.1 ≠ 0
  · simp only [if_pos h0]; omega
  · simp only [if_neg h0]
    by_cases h1 : (pickK (lookR objs t fs r).2.2 n).isSome
    · simp only [if_pos h1]; omega
    · simp only [if_neg h1]
      by_cases h2 : 16 ≤ (lookR objs t fs r).2.2.length
      · simp only [if_pos h2]; omega
      · simp only [if_neg h2]
        obtain ⟨d, ha, hk⟩ := look_at (Decidable.not_not.1 h0)
        have hq : r.reverse.length ≤ 4 := by simpa using hr
        have hb : ∀ k, big objs k (.own []) = 1 := by intro k; cases k <;> (rw [big]; try rfl)
        have := big_put hS (c := .own []) hok ha hk hq n
        rw [hb] at this
        exact this

theorem big_remove {objs : List Ob} (hS : Sound objs) {t : LT} (hok : LTok objs 5 t) (fs : FS) {n : ByteArray} {r : List ByteArray} : big objs 5 (removeR objs t fs (n :: r)).2.2 ≤ big objs 5 t := by
  unfold removeR
  by_cases h0 : (findR objs t fs (n :: r)).2.1 ≠ 0
  · simp only [if_pos h0]; omega
  · simp only [if_neg h0]
    by_cases h1 : (vacantG objs (findR objs t fs (n :: r)).1 (findR objs t fs (n :: r)).2.2).2 ≠ 0
    · simp only [if_pos h1]; omega
    · simp only [if_neg h1]
      obtain ⟨ha, _⟩ := kept_of_find (Decidable.not_not.1 h0)
      rw [List.reverse_cons] at ha
      obtain ⟨d, ks, ha, hk, hp⟩ := at_snoc ha
      have := big_drop hS hok ha hk hp
      omega

theorem big_rename {objs : List Ob} (hS : Sound objs) {t : LT} (hok : LTok objs 5 t) (fs : FS) {n m : ByteArray} {r q : List ByteArray} (hq : q.length ≤ 4) : big objs 5 (renameR objs t fs (n :: r) (m :: q)).2.2 ≤ big objs 5 t := by
  have hle := Nat.le_refl (big objs 5 t)
  unfold renameR
  by_cases h0 : (findR objs t fs (n :: r)).2.1 ≠ 0
  · simp only [if_pos h0]; exact hle
  simp only [if_neg h0]
  by_cases h1 : (n :: r).reverse <+: (m :: q).reverse ∧ n :: r ≠ m :: q
  · rw [if_pos h1]; exact hle
  rw [if_neg h1]
  by_cases h2 : (lookR objs t (findR objs t fs (n :: r)).1 q).2.1 ≠ 0 ∨ n :: r = m :: q
  · rw [if_pos h2]; exact hle
  rw [if_neg h2]
  by_cases h3 : (roomG objs (lookR objs t (findR objs t fs (n :: r)).1 q).1 (decide (r = q)) (lookR objs t (findR objs t fs (n :: r)).1 q).2.2 m (findR objs t fs (n :: r)).2.2).2 ≠ 0
  · rw [if_pos h3]; exact hle
  rw [if_neg h3]
  by_cases h4 : 5 < ((q.length + 1 : Nat) : Int) + hgt objs 5 (findR objs t fs (n :: r)).2.2
  · rw [if_pos h4]; exact hle
  rw [if_neg h4]
  obtain ⟨ha, _⟩ := kept_of_find (Decidable.not_not.1 h0)
  have ha0 := ha
  rw [List.reverse_cons] at ha
  generalize (findR objs t fs (n :: r)).2.2 = c at ha ha0 h4 ⊢
  obtain ⟨df, kf, haf, hkf, hpf⟩ := at_snoc ha
  have hne : (lookR objs t (findR objs t fs (n :: r)).1 q).2.1 = 0 := Decidable.not_not.1 (fun h => h2 (.inl h))
  obtain ⟨dt, hat, hkt⟩ := look_at hne
  generalize (lookR objs t (findR objs t fs (n :: r)).1 q).2.2 = kt at hkt
  obtain ⟨_, hdf, _⟩ := ok_at hS _ hok haf
  obtain ⟨hrf, _, _⟩ := ok_kids hS hdf hkf
  have hth : thereK kf n = true := by rw [← pick_there hrf]; rw [hpf]; rfl
  have hokd := drop_ok hS hok haf hkf n
  have hD := big_drop hS hok haf hkf hpf
  have hnp : ¬ (r.reverse ++ [n]) <+: q.reverse := by
    intro h
    refine h1 ⟨?_, fun e => h2 (.inr e)⟩
    rw [List.reverse_cons, List.reverse_cons]
    exact h.trans (List.prefix_append _ _)
  obtain ⟨dt', kt', hat', hkt', _⟩ := drop_dir hrf haf hkf hth hat hkt hnp
  have hP := big_put hS (c := c) hokd hat' hkt' (by simpa using hq) m
  have hcok := ok_at hS _ hok ha
  have hle2 : big objs (4 - q.reverse.length) c = big objs (4 - r.reverse.length) c := by
    have hr5 : r.reverse.length + 1 ≤ 5 := by have := hcok.1; simp at this ⊢; omega
    have hok5 : LTok objs (4 - r.reverse.length) c := by
      have := hcok.2.1
      rw [show 5 - (r.reverse ++ [n]).length = 4 - r.reverse.length by simp] at this; exact this
    have hokm : LTok objs (4 - q.reverse.length) c := ok_hgt hS _ hok5 (by
      have h5 : hgt objs 5 c = hgt objs (4 - r.reverse.length) c := hgt_stable _ _ c (by omega) hok5
      simp only [List.length_reverse] at *
      omega)
    rcases Nat.le_total (4 - q.reverse.length) (4 - r.reverse.length) with hx | hx
    · exact (big_stable hS _ _ c hx hokm).symm
    · exact big_stable hS _ _ c hx hok5
  simp only
  omega

end Go.Proofs.YtajopoddmfdejaaGreat

namespace Go.Proofs.YtajopoddmfdejaaGreat
open Go.RowKit Go.Sort Go.Shelf
set_option linter.unusedVariables false

/-- e stands at the root, and is ce; beside it are only names of paths. -/
def RootQ (objs : List Ob) (ce t : LT) : Prop := ∃ ks, kids objs t = some ks ∧ pickK ks nameE = some ce ∧ ∀ x ∈ ks, x.1 ∈ letters ∨ x.1 = nameE

theorem rootq_mod {objs : List Ob} {ce : LT} {t : LT} (h : RootQ objs ce t) (f : Kids → Kids) (q : List ByteArray) (hf : q = [] → ∀ ks, kids objs t = some ks → pickK ks nameE = some ce → (∀ x ∈ ks, x.1 ∈ letters ∨ x.1 = nameE) → pickK (f ks) nameE = some ce ∧ ∀ x ∈ f ks, x.1 ∈ letters ∨ x.1 = nameE) (hq : ∀ m r, q = m :: r → m ≠ nameE) : RootQ objs ce (modG objs f q t) := by
  obtain ⟨ks, h1, h2, h3⟩ := h
  cases q with
  | nil =>
    obtain ⟨a, b⟩ := hf rfl ks h1 h2 h3
    exact ⟨f ks, by rw [modG_kids, h1]; rfl, a, b⟩
  | cons m r =>
    refine ⟨_, modG_cons objs f m r t, ?_, fun x hx => ?_⟩
    · rw [h1, Option.getD_some, pick_map, if_neg (fun e => hq m r rfl e.symm)]
      exact h2
    · rw [h1, Option.getD_some] at hx
      obtain ⟨y, hy, rfl⟩ := List.mem_map.1 hx
      by_cases e : y.1 = m
      · rw [if_pos e]; exact h3 y hy
      · rw [if_neg e]; exact h3 y hy

theorem rootq_put {objs : List Ob} {ce : LT} (hS : Sound objs) {k : Nat} {t : LT} (hok : LTok objs k t) (h : RootQ objs ce t) {q : List ByteArray} {n : ByteArray} (hl : ∀ x ∈ q ++ [n], x ∈ letters) (c : LT) : RootQ objs ce (modG objs (fun ks => putK ks n c) q t) := by
  have hn := letter_valid (hl n (by simp))
  refine rootq_mod h _ q (fun _ ks hk he hx => ?_) (fun m r e => (letter_valid (hl m (by rw [e]; simp))).2.1)
  have hr := (ok_kids hS hok hk).1
  refine ⟨by rw [pick_put hr, if_neg (fun e => hn.2.1 e.symm)]; exact he, fun x hx' => ?_⟩
  rcases mapK_mem hx' with rfl | hx'
  · exact .inl (hl n (by simp))
  · exact hx x hx'
theorem rootq_drop {objs : List Ob} {ce : LT} (hS : Sound objs) {k : Nat} {t : LT} (hok : LTok objs k t) (h : RootQ objs ce t) {q : List ByteArray} {n : ByteArray} (hl : ∀ x ∈ q ++ [n], x ∈ letters) (hth : q = [] → ∀ ks, kids objs t = some ks → thereK ks n = true) : RootQ objs ce (modG objs (fun ks => dropK ks n) q t) := by
  have hn := letter_valid (hl n (by simp))
  refine rootq_mod h _ q (fun hq ks hk he hx => ?_) (fun m r e => (letter_valid (hl m (by rw [e]; simp))).2.1)
  have hr := (ok_kids hS hok hk).1
  exact ⟨by rw [pick_drop hr (hth hq ks hk), if_neg (fun e => hn.2.1 e.symm)]; exact he, fun x hx' => hx x (dropK_mem hx')⟩

theorem rootq_mkdir {objs : List Ob} {ce : LT} (hS : Sound objs) {t : LT} (hok : LTok objs 5 t) (h : RootQ objs ce t) (fs : FS) {n : ByteArray} {r : List ByteArray} (hl : ∀ x ∈ r.reverse ++ [n], x ∈ letters) : RootQ objs ce (mkdirR objs t fs (n :: r)).2.2 := by
  unfold mkdirR
  simp only
  split
  · exact h
  · split
    · exact h
    · split
      · exact h
      · exact rootq_put hS hok h hl _
theorem rootq_remove {objs : List Ob} {ce : LT} (hS : Sound objs) {t : LT} (hok : LTok objs 5 t) (h : RootQ objs ce t) (fs : FS) {n : ByteArray} {r : List ByteArray} (hl : ∀ x ∈ r.reverse ++ [n], x ∈ letters) : RootQ objs ce (removeR objs t fs (n :: r)).2.2 := by
  unfold removeR
  simp only
  split
  · exact h
  · rename_i hf
    split
    · exact h
    · obtain ⟨a, _, _, d, ks, h1, h2, h3⟩ := find_way (objs := objs) (t := t) (fs := fs) (n := n) (r := r) (fs' := (findR objs t fs (n :: r)).1) (c := (findR objs t fs (n :: r)).2.2) (by rw [← Decidable.not_not.1 hf])
      refine rootq_drop hS hok h hl (fun hq ks' hk' => ?_)
      rw [hq, at_nil] at h1
      cases h1
      rw [hk'] at h2
      cases h2
      rw [← pick_there (ok_kids hS hok hk').1, h3]; rfl
theorem rootq_rename {objs : List Ob} {ce : LT} (hS : Sound objs) {t : LT} (hok : LTok objs 5 t) (h : RootQ objs ce t) (fs : FS) {n m : ByteArray} {r q : List ByteArray} (hl : ∀ x ∈ r.reverse ++ [n], x ∈ letters) (hm : ∀ x ∈ q.reverse ++ [m], x ∈ letters) : RootQ objs ce (renameR objs t fs (n :: r) (m :: q)).2.2 := by
  unfold renameR
  simp only
  split
  · exact h
  · rename_i hf
    split
    · exact h
    · split
      · exact h
      · split
        · exact h
        · split
          · exact h
          · obtain ⟨a, _, _, d, ks, h1, h2, h3⟩ := find_way (objs := objs) (t := t) (fs := fs) (n := n) (r := r) (fs' := (findR objs t fs (n :: r)).1) (c := (findR objs t fs (n :: r)).2.2) (by rw [← Decidable.not_not.1 hf])
            refine rootq_put hS (drop_ok hS hok h1 h2 n) (rootq_drop hS hok h hl (fun hq ks' hk' => ?_)) hm _
            rw [hq, at_nil] at h1
            cases h1
            rw [hk'] at h2
            cases h2
            rw [← pick_there (ok_kids hS hok hk').1, h3]; rfl

theorem RootQ.at_ {objs : List Ob} {ce t : LT} (h : RootQ objs ce t) : t.at objs [nameE] = some ce := by
  obtain ⟨ks, h1, h2, _⟩ := h
  rw [at_cons, h1, Option.bind_some, h2, Option.bind_some, at_nil]

/-- No file stands under two paths. -/
def HeldInj (objs : List Ob) (t : LT) : Prop := ∀ x y b, t.at objs x = some (.held b) → t.at objs y = some (.held b) → x = y

theorem at_kid {objs : List Ob} {t d : LT} {q : List ByteArray} {ks : Kids} (ha : t.at objs q = some d) (hk : kids objs d = some ks) (m : ByteArray) (r : List ByteArray) : t.at objs (q ++ m :: r) = (pickK ks m).bind fun c => c.at objs r := by
  rw [at_append, ha, Option.bind_some, at_cons, hk, Option.bind_some]

theorem drop_held {objs : List Ob} {t d : LT} {q : List ByteArray} {ks : Kids} {n : ByteArray} (hr : RisingK ks) (ha : t.at objs q = some d) (hk : kids objs d = some ks) (ht : thereK ks n = true) {x : List ByteArray} {b : Nat} (h : (modG objs (fun ks => dropK ks n) q t).at objs x = some (.held b)) : t.at objs x = some (.held b) ∧ ¬ q ++ [n] <+: x := by
  rcases held_mod _ ha hk h with ⟨m, r, rfl, h1⟩ | ⟨h1, h2⟩
  · rw [pick_drop hr ht] at h1
    by_cases e : m = n
    · rw [if_pos e] at h1; simp at h1
    · rw [if_neg e] at h1
      refine ⟨by rw [at_kid ha hk]; exact h1, ?_⟩
      rintro ⟨l, hl⟩
      rw [List.append_assoc] at hl
      have := List.append_cancel_left hl
      simp at this
      exact e this.1.symm
  · exact ⟨h2, fun hp => h1 ((List.prefix_append _ _).trans hp)⟩

theorem put_held {objs : List Ob} {t d c : LT} {q : List ByteArray} {ks : Kids} {n : ByteArray} (hr : RisingK ks) (ha : t.at objs q = some d) (hk : kids objs d = some ks) {x : List ByteArray} {b : Nat} (h : (modG objs (fun ks => putK ks n c) q t).at objs x = some (.held b)) : (∃ r, x = q ++ n :: r ∧ c.at objs r = some (.held b)) ∨ (t.at objs x = some (.held b) ∧ ¬ q ++ [n] <+: x) := by
  rcases held_mod _ ha hk h with ⟨m, r, rfl, h1⟩ | ⟨h1, h2⟩
  · rw [pick_put hr] at h1
    by_cases e : m = n
    · rw [if_pos e, Option.bind_some] at h1
      subst e
      exact .inl ⟨r, rfl, h1⟩
    · rw [if_neg e] at h1
      refine .inr ⟨by rw [at_kid ha hk]; exact h1, ?_⟩
      rintro ⟨l, hl⟩
      rw [List.append_assoc] at hl
      have := List.append_cancel_left hl
      simp at this
      exact e this.1.symm
  · exact .inr ⟨h2, fun hp => h1 ((List.prefix_append _ _).trans hp)⟩

theorem inj_put {objs : List Ob} {t d c : LT} {q : List ByteArray} {ks : Kids} {n : ByteArray} (hi : HeldInj objs t) (hr : RisingK ks) (ha : t.at objs q = some d) (hk : kids objs d = some ks) (hc : HeldInj objs c) (hf : ∀ r b y, c.at objs r = some (.held b) → t.at objs y = some (.held b) → q ++ [n] <+: y) : HeldInj objs (modG objs (fun ks => putK ks n c) q t) := by
  intro x y b hx hy
  rcases put_held hr ha hk hx with ⟨r, rfl, h1⟩ | ⟨h1, h2⟩ <;> rcases put_held hr ha hk hy with ⟨r', rfl, k1⟩ | ⟨k1, k2⟩
  · rw [hc r r' b h1 k1]
  · exact absurd (hf r b y h1 k1) k2
  · exact absurd (hf r' b x k1 h1) h2
  · exact hi x y b h1 k1

theorem inj_drop {objs : List Ob} {t d : LT} {q : List ByteArray} {ks : Kids} {n : ByteArray} (hi : HeldInj objs t) (hr : RisingK ks) (ha : t.at objs q = some d) (hk : kids objs d = some ks) (ht : thereK ks n = true) : HeldInj objs (modG objs (fun ks => dropK ks n) q t) := fun x y b hx hy => hi x y b (drop_held hr ha hk ht hx).1 (drop_held hr ha hk ht hy).1

theorem own_none (objs : List Ob) (r : List ByteArray) (b : Nat) : (LT.own []).at objs r ≠ some (.held b) := by
  cases r with
  | nil => rw [at_nil]; intro h; cases h
  | cons m r => rw [at_cons]; simp [kids, pickK]

theorem inj_mkdir {objs : List Ob} (hS : Sound objs) {t : LT} (hok : LTok objs 5 t) (hi : HeldInj objs t) (fs : FS) (n : ByteArray) (r : List ByteArray) : HeldInj objs (mkdirR objs t fs (n :: r)).2.2 := by
  unfold mkdirR
  simp only
  split
  · exact hi
  · rename_i h0
    split
    · exact hi
    · split
      · exact hi
      · obtain ⟨d, ha, hk⟩ := look_at (Decidable.not_not.1 h0)
        obtain ⟨_, hd, _⟩ := ok_at hS _ hok ha
        exact inj_put hi (ok_kids hS hd hk).1 ha hk (fun x y b hx => absurd hx (own_none objs x b)) (fun r b y h => absurd h (own_none objs r b))

theorem inj_remove {objs : List Ob} (hS : Sound objs) {t : LT} (hok : LTok objs 5 t) (hi : HeldInj objs t) (fs : FS) (n : ByteArray) (r : List ByteArray) : HeldInj objs (removeR objs t fs (n :: r)).2.2 := by
  unfold removeR
  simp only
  split
  · exact hi
  · rename_i hf
    split
    · exact hi
    · obtain ⟨a, _, _, d, ks, h1, h2, h3⟩ := find_way (objs := objs) (t := t) (fs := fs) (n := n) (r := r) (fs' := (findR objs t fs (n :: r)).1) (c := (findR objs t fs (n :: r)).2.2) (by rw [← Decidable.not_not.1 hf])
      obtain ⟨_, hd, _⟩ := ok_at hS _ hok h1
      have hr := (ok_kids hS hd h2).1
      exact inj_drop hi hr h1 h2 (by rw [← pick_there hr, h3]; rfl)

theorem inj_rename {objs : List Ob} (hS : Sound objs) {t : LT} (hok : LTok objs 5 t) (hi : HeldInj objs t) (fs : FS) (n m : ByteArray) (r q : List ByteArray) : HeldInj objs (renameR objs t fs (n :: r) (m :: q)).2.2 := by
  unfold renameR
  simp only
  split
  · exact hi
  · rename_i hf
    split
    · exact hi
    · rename_i hpre
      split
      · exact hi
      · rename_i hlk
        split
        · exact hi
        · split
          · exact hi
          · obtain ⟨a, _, _, d, ks, h1, h2, h3⟩ := find_way (objs := objs) (t := t) (fs := fs) (n := n) (r := r) (fs' := (findR objs t fs (n :: r)).1) (c := (findR objs t fs (n :: r)).2.2) (by rw [← Decidable.not_not.1 hf])
            generalize (findR objs t fs (n :: r)).2.2 = c at a h3 ⊢
            obtain ⟨_, hd, _⟩ := ok_at hS _ hok h1
            have hr := (ok_kids hS hd h2).1
            have hth : thereK ks n = true := by rw [← pick_there hr, h3]; rfl
            have hac : t.at objs (r.reverse ++ [n]) = some c := by rw [at_kid h1 h2, h3, Option.bind_some, at_nil]
            have hsub : ∀ x b, c.at objs x = some (.held b) → t.at objs ((r.reverse ++ [n]) ++ x) = some (.held b) := fun x b hx => by rw [at_append, hac, Option.bind_some]; exact hx
            have hlk0 : (lookR objs t (findR objs t fs (n :: r)).1 q).2.1 = 0 := Decidable.not_not.1 (fun h => hlk (.inl h))
            obtain ⟨dt, hat, hkt⟩ := look_at hlk0
            have hnp : ¬ (r.reverse ++ [n]) <+: q.reverse := by
              intro h
              refine hpre ⟨?_, fun e => hlk (.inr e)⟩
              rw [List.reverse_cons, List.reverse_cons]
              exact h.trans (List.prefix_append _ _)
            obtain ⟨d1, k1, hat1, hkt1, _⟩ := drop_dir hr h1 h2 hth hat hkt hnp
            have hok1 := drop_ok hS hok h1 h2 n
            obtain ⟨_, hd1, _⟩ := ok_at hS _ hok1 hat1
            refine inj_put (inj_drop hi hr h1 h2 hth) (ok_kids hS hd1 hkt1).1 hat1 hkt1 (fun x y b hx hy => ?_) (fun x b y hx hy => ?_)
            · exact List.append_cancel_left (hi _ _ b (hsub x b hx) (hsub y b hy))
            · obtain ⟨hy1, hy2⟩ := drop_held hr h1 h2 hth hy
              have := hi _ _ b (hsub x b hx) hy1
              exact absurd ⟨x, this⟩ hy2

def oneB : ByteArray := ⟨#[49]⟩
/-- What a script keeps: e, of one byte, at the root; no file under two paths; at most N things. -/
structure MadeT (objs : List Ob) (N fE : Nat) (t : LT) (fl : Nat → Option (Int × ByteArray)) : Prop where
  root : RootQ objs (.held fE) t
  data : fl fE = some (0, oneB)
  inj : HeldInj objs t
  few : big objs 5 t ≤ N

theorem made_step {objs : List Ob} (hS : Sound objs) {t t' : LT} {g g' : WG} (hok : LTok objs 5 t) (hheld : ∀ x f, t.at objs x = some (.held f) → ∃ y, g.fl f = some y) {N fE : Nat} (h : MadeT objs N fE t g.fl) {k : Int} {na nb : ByteArray} {ra rb : List ByteArray} {d : ByteArray} {er : Int} (ha : Letters (ra.reverse ++ [na])) (hb : Letters (rb.reverse ++ [nb])) (hs : StepTo objs g t k na nb ra rb d er g' t') : MadeT objs (N + 1) fE t' g'.fl := by
  have hra : ra.length ≤ 4 := by have := ha.len; simp at this; omega
  have hrb : rb.length ≤ 4 := by have := hb.len; simp at this; omega
  have same : ∀ {fl'}, fl' = g.fl → t' = t → MadeT objs (N + 1) fE t' fl' := fun h1 h2 => by rw [h1, h2]; exact ⟨h.root, h.data, h.inj, Nat.le_succ_of_le h.few⟩
  rcases hs with ⟨_, _, _, ⟨_, _, h2, h3⟩ | ⟨_, _, _, h2, h3⟩ | ⟨h0, _, _, f, hf, hx, hh⟩⟩ | ⟨_, _, h1, _, h3, _⟩ | ⟨_, _, h1, _, h3, _⟩ | ⟨_, _, h1, _, h3, _⟩
  · exact same h3 h2
  · exact same h3 h2
  · obtain ⟨dd, had, hkd⟩ := look_at h0
    obtain ⟨_, hdd, _⟩ := ok_at hS _ hok had
    have hr := (ok_kids hS hdd hkd).1
    rcases hh with ⟨hp, rfl⟩ | ⟨_, hfn, rfl⟩
    · have hfe : fE ≠ f := by
        rintro rfl
        have h1 : t'.at objs (ra.reverse ++ [na]) = some (.held fE) := by rw [at_kid had hkd, hp, Option.bind_some, at_nil]
        have := h.inj _ _ _ h.root.at_ h1
        have hm : nameE ∈ ra.reverse ++ [na] := by rw [← this]; simp
        exact (letter_valid (ha.all _ hm)).2.1 rfl
      exact ⟨h.root, by rw [hx fE hfe]; exact h.data, h.inj, Nat.le_succ_of_le h.few⟩
    · have hfe : fE ≠ f := by
        rintro rfl
        rw [h.data] at hfn; cases hfn
      have hheld0 : ∀ r b, (LT.held f).at objs r = some (.held b) → r = [] ∧ b = f := by
        intro r b hr
        cases r with
        | nil => rw [at_nil] at hr; cases hr; exact ⟨rfl, rfl⟩
        | cons m r => rw [at_cons] at hr; simp [kids] at hr
      refine ⟨rootq_put hS hok h.root ha.all _, by rw [hx fE hfe]; exact h.data, inj_put h.inj hr had hkd (fun x y b h1 h2 => by rw [(hheld0 x b h1).1, (hheld0 y b h2).1]) (fun r b y h1 h2 => ?_), ?_⟩
      · obtain ⟨_, rfl⟩ := hheld0 r b h1
        obtain ⟨z, hz⟩ := hheld y b h2
        rw [hfn] at hz; cases hz
      · have hb1 : ∀ k, big objs k (.held f) = 1 := by intro k; cases k <;> (rw [big]; try rfl)
        have := big_put hS (c := .held f) hok had hkd (by simpa using hra) na
        rw [hb1] at this
        have := h.few
        omega
  · rw [h1, h3]
    exact ⟨rootq_mkdir hS hok h.root _ ha.all, h.data, inj_mkdir hS hok h.inj _ _ _, by have := big_mkdir hS hok g.fs (n := na) hra; have := h.few; omega⟩
  · rw [h1, h3]
    exact ⟨rootq_remove hS hok h.root _ ha.all, h.data, inj_remove hS hok h.inj _ _ _, by have := big_remove hS hok g.fs (n := na) (r := ra); have := h.few; omega⟩
  · rw [h1, h3]
    exact ⟨rootq_rename hS hok h.root _ ha.all hb.all, h.data, inj_rename hS hok h.inj _ _ _ _ _, by have := big_rename hS hok g.fs (n := na) (m := nb) (r := ra) hrb; have := h.few; omega⟩

end Go.Proofs.YtajopoddmfdejaaGreat

namespace Go.Proofs.YtajopoddmfdejaaGreat
open Go.RowKit Go.Sort Go.Shelf
set_option linter.unusedVariables false

/-- Each object is there once. -/
structure Once (a : List Ob) : Prop where
  file : ∀ i (h : i < a.length), a[i].kind = 1 → fileAt a a[i].data = some i
  dir : ∀ i (h : i < a.length), a[i].kind = 2 → dirAt a a[i].ents = some i

theorem Once.snoc {a : List Ob} (h : Once a) {o : Ob} (ho : PutOk a o) : Once (a ++ [o]) := by
  refine ⟨fun i hi hk => ?_, fun i hi hk => ?_⟩
  · rw [fileAt_snoc]
    by_cases h1 : i < a.length
    · rw [List.getElem_append_left h1] at hk ⊢
      rw [h.file i h1 hk]; rfl
    · have h2 : i = a.length := by simp at hi; omega
      subst h2
      simp only [List.getElem_concat_length] at hk ⊢
      rcases ho.or with ⟨_, _, _, hf⟩ | ⟨hk2, _⟩
      · rw [hf, if_pos ⟨hk, trivial⟩]; rfl
      · rw [hk] at hk2; cases hk2
  · rw [dirAt_snoc]
    by_cases h1 : i < a.length
    · rw [List.getElem_append_left h1] at hk ⊢
      rw [h.dir i h1 hk]; rfl
    · have h2 : i = a.length := by simp at hi; omega
      subst h2
      simp only [List.getElem_concat_length] at hk ⊢
      rcases ho.or with ⟨hk2, _⟩ | ⟨_, _, _, _, _, _, hf⟩
      · rw [hk] at hk2; cases hk2
      · rw [hf, if_pos ⟨hk, trivial⟩]; rfl
theorem Drafted.once {a b : List Ob} (h : Drafted a b) (ho : Once a) : Once b := by
  induction h with
  | nil => exact ho
  | snoc _ hp ih => exact ih.snoc hp

theorem Once.fileAt_id {a : List Ob} (h : Once a) {id : Int} (hk : kindOf a id = 1) : fileAt a (bytesOf a id) = some (id - 1).toNat ∧ (((id - 1).toNat : Nat) : Int) + 1 = id := by
  obtain ⟨h1, h2⟩ := kindOf_pos (by rw [hk]; decide)
  unfold kindOf at hk
  rw [if_pos h1, List.getElem?_eq_getElem h2] at hk
  refine ⟨?_, by omega⟩
  unfold bytesOf
  rw [List.getElem?_eq_getElem h2]
  exact h.file _ h2 hk
theorem Once.dirAt_id {a : List Ob} (h : Once a) {id : Int} (hk : kindOf a id = 2) : dirAt a (entsOf a id) = some (id - 1).toNat ∧ (((id - 1).toNat : Nat) : Int) + 1 = id := by
  obtain ⟨h1, h2⟩ := kindOf_pos (by rw [hk]; decide)
  unfold kindOf at hk
  rw [if_pos h1, List.getElem?_eq_getElem h2] at hk
  refine ⟨?_, by omega⟩
  unfold entsOf
  rw [List.getElem?_eq_getElem h2]
  exact h.dir _ h2 hk
theorem Once.fileD_id {a : List Ob} (h : Once a) {id : Int} (hk : kindOf a id = 1) : fileD a (bytesOf a id) = (id, a) := by
  obtain ⟨h1, h2⟩ := h.fileAt_id hk
  unfold fileD
  rw [h1]
  simp only [h2]
theorem Once.dirD_id {a : List Ob} (h : Once a) {id : Int} (hk : kindOf a id = 2) : dirD a (entsOf a id) = (id, a) := by
  obtain ⟨h1, h2⟩ := h.dirAt_id hk
  unfold dirD
  rw [h1]
  simp only [h2]
theorem Once.file_inj {a : List Ob} (h : Once a) {i j : Int} (hi : kindOf a i = 1) (hj : kindOf a j = 1) (he : bytesOf a i = bytesOf a j) : i = j := by
  have h1 := h.fileD_id hi
  have h2 := h.fileD_id hj
  rw [he, h2] at h1
  exact (congrArg Prod.fst h1).symm
theorem Once.dir_inj {a : List Ob} (h : Once a) {i j : Int} (hi : kindOf a i = 2) (hj : kindOf a j = 2) (he : entsOf a i = entsOf a j) : i = j := by
  have h1 := h.dirD_id hi
  have h2 := h.dirD_id hj
  rw [he, h2] at h1
  exact (congrArg Prod.fst h1).symm

/-- Lists by rising names with the same names. -/
theorem names_eq : ∀ {xs ys : Kids}, RisingK xs → RisingK ys → (∀ n, (pickK xs n).isSome = (pickK ys n).isSome) → xs.map (·.1) = ys.map (·.1) := by
  have mem : ∀ (l : Kids) (n : ByteArray), (pickK l n).isSome = true ↔ n ∈ l.map (·.1) := by
    intro l n
    unfold pickK
    rw [Option.isSome_map, List.find?_isSome, List.mem_map]
    constructor
    · rintro ⟨x, hx, hn⟩; exact ⟨x, hx, of_decide_eq_true hn⟩
    · rintro ⟨x, hx, hn⟩; exact ⟨x, hx, decide_eq_true hn⟩
  have key : ∀ (xs ys : List ByteArray), xs.Pairwise (fun x y => cmpN x y < 0) → ys.Pairwise (fun x y => cmpN x y < 0) → (∀ n, n ∈ xs ↔ n ∈ ys) → xs = ys := by
    intro xs
    induction xs with
    | nil =>
      intro ys _ _ h
      cases ys with
      | nil => rfl
      | cons y r => exact absurd ((h y).2 (by simp)) (by simp)
    | cons x xs ih =>
      intro ys hx hy h
      cases ys with
      | nil => exact absurd ((h x).1 (by simp)) (by simp)
      | cons y ys =>
        obtain ⟨x1, x2⟩ := List.pairwise_cons.1 hx
        obtain ⟨y1, y2⟩ := List.pairwise_cons.1 hy
        have hxy : x = y := by
          rcases List.mem_cons.1 ((h x).1 (by simp)) with e | e
          · exact e
          · rcases List.mem_cons.1 ((h y).2 (by simp)) with e' | e'
            · exact e'.symm
            · have := cmpN_trans (y1 x e) (x1 y e')
              rw [cmpN_self] at this; omega
        subst hxy
        rw [ih ys x2 y2 (fun n => ?_)]
        have hn := h n
        constructor
        · intro hm
          rcases List.mem_cons.1 (hn.1 (by simp [hm])) with e | e
          · subst e; have := x1 n hm; rw [cmpN_self] at this; omega
          · exact e
        · intro hm
          rcases List.mem_cons.1 (hn.2 (by simp [hm])) with e | e
          · subst e; have := y1 n hm; rw [cmpN_self] at this; omega
          · exact e
  intro xs ys hx hy h
  refine key _ _ (by rw [List.pairwise_map]; exact hx) (by rw [List.pairwise_map]; exact hy) (fun n => ?_)
  rw [← mem, ← mem, h n]

theorem pick_getK {ks : Kids} (hr : RisingK ks) {k : Nat} (hk : k < ks.length) : pickK ks (ks[k]).1 = some (ks[k]).2 := by
  cases h : pickK ks (ks[k]).1 with
  | none =>
    exfalso
    unfold pickK at h
    rw [Option.map_eq_none_iff, List.find?_eq_none] at h
    exact h _ (List.getElem_mem hk) (by simp)
  | some c => rw [pick_unique hr h (List.getElem_mem hk) rfl]

end Go.Proofs.YtajopoddmfdejaaGreat

namespace Go.Proofs.YtajopoddmfdejaaGreat
open Go.RowKit Go.Sort Go.Shelf
set_option linter.unusedVariables false

/-- The bytes of a file of the tree's own. -/
def fcOf (a : List Ob) (fl : Nat → Option (Int × ByteArray)) : FileC := fun f => match fl f with
  | none => ⟨#[]⟩
  | some (id, d) => if id ≠ 0 then bytesOf a id else d

theorem kid_sem {a : List Ob} {fc : FileC} {t u : LT} {ks ku : Kids} (h : ∀ q, sem a fc t q = sem a fc u q) (hk : kids a t = some ks) (hu : kids a u = some ku) (rk : RisingK ks) (ru : RisingK ku) :
    ks.map (·.1) = ku.map (·.1) ∧ ∀ k (h1 : k < ks.length) (h2 : k < ku.length), ∀ q, sem a fc (ks[k]).2 q = sem a fc (ku[k]).2 q := by
  have hn : ∀ n r, ((pickK ks n).bind fun c => sem a fc c r) = ((pickK ku n).bind fun c => sem a fc c r) := by
    intro n r
    have := h (n :: r)
    rw [sem_cons, sem_cons, hk, hu, Option.bind_some, Option.bind_some] at this
    exact this
  have hnames : ks.map (·.1) = ku.map (·.1) := by
    refine names_eq rk ru (fun n => ?_)
    have := hn n []
    cases h1 : pickK ks n <;> cases h2 : pickK ku n <;> rw [h1, h2] at this <;> simp [sem_nil] at this ⊢
  refine ⟨hnames, fun k h1 h2 q => ?_⟩
  have he : (ks[k]).1 = (ku[k]).1 := by
    have := congrArg (fun l => l[k]?) hnames
    simp only [List.getElem?_map, List.getElem?_eq_getElem h1, List.getElem?_eq_getElem h2, Option.map_some, Option.some.injEq] at this
    exact this
  have := hn (ks[k]).1 q
  rw [pick_getK rk h1, he, pick_getK ru h2, Option.bind_some, Option.bind_some] at this
  exact this

theorem stored_kid (e : Ent) : (∃ i, (kidOf e).2 = .file i) ∨ ∃ i, (kidOf e).2 = .dir i := by
  unfold kidOf ltOf
  by_cases h : e.2.1 = 2
  · exact .inr ⟨e.2.2, by simp [h]⟩
  · exact .inl ⟨e.2.2, by simp [h]⟩

theorem kidOf_id (e : Ent) : (kidOf e).2.id = e.2.2 := by
  unfold kidOf ltOf
  by_cases h : e.2.1 = 2 <;> simp [h, LT.id]
theorem kidOf_kind {e : Ent} (h : e.2.1 = 1 ∨ e.2.1 = 2) : (kidOf e).2.kind = e.2.1 := by
  unfold kidOf ltOf
  rcases h with h | h <;> simp [h, LT.kind]

theorem sem_kind {a : List Ob} {fc : FileC} {t u : LT} (h : sem a fc t [] = sem a fc u []) : t.kind = u.kind := by
  rw [sem_nil, sem_nil] at h
  have h := Option.some.inj h
  cases t <;> cases u <;> simp [nd, LT.kind] at h ⊢

theorem objR_sem {a : List Ob} (hX : Exact a) (hO : Once a) {fl : Nat → Option (Int × ByteArray)} (hfl : FlSz a fl) : ∀ (n : Nat) (t u : LT), LTok a n t → LTok a n u → ((∃ i, u = .file i) ∨ ∃ i, u = .dir i) → (∀ q, sem a (fcOf a fl) t q = sem a (fcOf a fl) u q) → objR fl n t a = (u.id, a) := by
  have hS := hX.sound
  -- files
  have hfile : ∀ (n : Nat) (t : LT) (id : Int), t.kind = 1 → LTok a n t → kindOf a id = 1 → nd a (fcOf a fl) t = .file (bytesOf a id) → objR fl n t a = (id, a) := by
    intro n t id hk hok hid hnd
    cases t with
    | file i =>
      have hi : kindOf a i = 1 := by cases n <;> simpa [LTok] using hok
      have : bytesOf a i = bytesOf a id := by simpa [nd] using hnd
      have e := hO.file_inj hi hid this
      cases n <;> (rw [objR, e])
    | held f =>
      have hob : objR fl n (.held f) a = heldR (fl f) a := by cases n <;> rw [objR]
      rw [hob]
      have hb : fcOf a fl f = bytesOf a id := by simpa [nd] using hnd
      unfold fcOf at hb
      cases hf : fl f with
      | none =>
        rw [hf] at hb
        show fileD a ⟨#[]⟩ = _
        have hb' : (⟨#[]⟩ : ByteArray) = bytesOf a id := hb
        rw [hb']; exact hO.fileD_id hid
      | some x =>
        obtain ⟨i, d⟩ := x
        rw [hf] at hb
        by_cases h0 : i ≠ 0
        · have hb' : bytesOf a i = bytesOf a id := by simpa [h0] using hb
          have e := hO.file_inj ((hfl f i d hf).1 h0) hid hb'
          show (if i ≠ 0 then (i, a) else fileD a d) = _
          rw [if_pos h0, e]
        · have hb' : d = bytesOf a id := by simpa [h0] using hb
          show (if i ≠ 0 then (i, a) else fileD a d) = _
          rw [if_neg h0, hb']; exact hO.fileD_id hid
    | dir i => cases hk
    | own es => cases hk
  have hent : ∀ (id : Int), kindOf a id = 2 → ∀ e ∈ entsOf a id, (e.2.1 = 1 ∨ e.2.1 = 2) := fun id hk e he => ((hS.2 id hk).2.2 e he).2.1
  intro n
  induction n with
  | zero =>
    intro t u hok huk hu hsem
    have hkind := sem_kind (hsem [])
    rcases hu with ⟨id, rfl⟩ | ⟨id, rfl⟩
    · have hid : kindOf a id = 1 := by simpa [LTok] using huk
      refine hfile 0 t id hkind hok hid ?_
      have := hsem []
      rw [sem_nil, sem_nil] at this
      exact Option.some.inj this
    · have hid : kindOf a id = 2 ∧ highOf a id ≤ 0 := by simpa [LTok] using huk
      have hnone : ∀ j, kindOf a j = 2 → highOf a j ≤ 0 → entsOf a j = [] := by
        intro j hj hh
        cases he : entsOf a j with
        | nil => rfl
        | cons e r =>
          have h1 := ((hS.2 j hj).2.2 e (by rw [he]; simp)).2.2.2
          have h2 := hS.1 e.2.2
          omega
      cases t with
      | file i => cases hkind
      | held f => cases hkind
      | dir i =>
        have hi : kindOf a i = 2 ∧ highOf a i ≤ 0 := by simpa [LTok] using hok
        have e := hO.dir_inj hi.1 hid.1 (by rw [hnone i hi.1 hi.2, hnone id hid.1 hid.2])
        rw [objR, e]; rfl
      | own es =>
        rw [objR]
        have := hO.dirD_id hid.1
        rw [hnone id hid.1 hid.2] at this
        exact this
  | succ n ih =>
    intro t u hok huk hu hsem
    have hkind := sem_kind (hsem [])
    rcases hu with ⟨id, rfl⟩ | ⟨id, rfl⟩
    · have hid : kindOf a id = 1 := by simpa [LTok] using huk
      refine hfile _ t id hkind hok hid ?_
      have := hsem []
      rw [sem_nil, sem_nil] at this
      exact Option.some.inj this
    · have hid : kindOf a id = 2 := by rw [LTok] at huk; exact huk.1
      obtain ⟨ru, _, u3⟩ := ok_kids hS huk (ks := (entsOf a id).map kidOf) rfl
      -- what stands in t is, one by one, what stands in the stored directory
      have hkids : ∀ (ks : Kids), kids a t = some ks → ks.length = (entsOf a id).length ∧ ∀ k (h1 : k < ks.length) (h2 : k < (entsOf a id).length), (ks[k]).1 = ((entsOf a id)[k]).1 ∧ (ks[k]).2.kind = ((entsOf a id)[k]).2.1 ∧ objR fl n (ks[k]).2 a = (((entsOf a id)[k]).2.2, a) := by
        intro ks hks
        obtain ⟨rk, _, k3⟩ := ok_kids hS hok hks
        obtain ⟨hnm, hsm⟩ := kid_sem hsem hks (show kids a (.dir id) = some ((entsOf a id).map kidOf) from rfl) rk ru
        have hl : ks.length = (entsOf a id).length := by have := congrArg List.length hnm; simpa using this
        refine ⟨hl, fun k h1 h2 => ?_⟩
        have h2' : k < ((entsOf a id).map kidOf).length := by simpa using h2
        have hs := hsm k h1 h2'
        rw [List.getElem_map] at hs
        obtain ⟨_, m, hm, hokk⟩ := k3 _ (List.getElem_mem h1)
        obtain rfl : m = n := by omega
        have hu3 := u3 _ (List.getElem_mem h2')
        rw [List.getElem_map] at hu3
        obtain ⟨_, m', hm', hoku⟩ := hu3
        obtain rfl : m' = m := by omega
        have hih := ih (ks[k]).2 (kidOf (entsOf a id)[k]).2 hokk hoku (stored_kid _) hs
        rw [kidOf_id] at hih
        refine ⟨?_, ?_, hih⟩
        · have := congrArg (fun l => l[k]?) hnm
          simp only [List.getElem?_map, List.getElem?_eq_getElem h1, List.getElem?_eq_getElem h2, Option.map_some, Option.some.injEq] at this
          exact this
        · rw [sem_kind (hs []), kidOf_kind (hent id hid _ (List.getElem_mem h2))]
      cases t with
      | file i => cases hkind
      | held f => cases hkind
      | dir i =>
        have hi : kindOf a i = 2 := by rw [LTok] at hok; exact hok.1
        obtain ⟨hl, hk⟩ := hkids _ rfl
        have hee : entsOf a i = entsOf a id := by
          apply List.ext_getElem
          · simpa using hl
          · intro k h1 h2
            obtain ⟨q1, q2, q3⟩ := hk k (by simpa using h1) h2
            rw [List.getElem_map] at q1 q2 q3
            have hst : objR fl n (kidOf (entsOf a i)[k]).2 a = ((kidOf (entsOf a i)[k]).2.id, a) := by
              rcases stored_kid (entsOf a i)[k] with ⟨j, hj⟩ | ⟨j, hj⟩ <;> rw [hj] <;> cases n <;> (rw [objR]; rfl)
            rw [hst, kidOf_id] at q3
            rw [kidOf_kind (hent i hi _ (List.getElem_mem h1))] at q2
            exact Prod.ext q1 (Prod.ext q2 (congrArg Prod.fst q3))
        rw [objR, hO.dir_inj hi hid hee]; rfl
      | own es =>
        obtain ⟨hl, hk⟩ := hkids es rfl
        have hpre : ∀ k, k ≤ es.length → kidsR fl n (es.take k) a = ((entsOf a id).take k, a) := by
          intro k
          induction k with
          | zero => intro _; simp [kidsR]
          | succ k ihk =>
            intro hkl
            have h1 : k < es.length := by omega
            have h2 : k < (entsOf a id).length := by omega
            obtain ⟨q1, q2, q3⟩ := hk k h1 h2
            rw [List.take_succ_eq_append_getElem h1, kidsR_snoc, ihk (by omega), List.take_succ_eq_append_getElem h2]
            simp only [q3, q1, q2]
        have hall := hpre es.length (Nat.le_refl _)
        rw [List.take_length, hl, List.take_length] at hall
        rw [objR_own, hall]
        exact hO.dirD_id hid

end Go.Proofs.YtajopoddmfdejaaGreat

namespace Go.Proofs.YtajopoddmfdejaaGreat
open Go.RowKit Go.Sort Go.Shelf
set_option linter.unusedVariables false

/-! ### no fetch fails -/
theorem find_nobrk {objs : List Ob} {t : LT} {fs : FS} (h : fs.brk = false) (r : List ByteArray) : (findR objs t fs r).2 = findE objs t r := by
  rcases findR_cases objs t fs r with ⟨_, h2, _⟩ | ⟨h1, _⟩
  · exact h2
  · rw [h1.1] at h; cases h
/-- What a rename that answers OK, to a path where nothing was, found and did. -/
structure Ren (objs : List Ob) (t : LT) (nc nd : ByteArray) (rc rd : List ByteArray) (df dt c : LT) (kf kt : Kids) (t1 : LT) : Prop where
  af : t.at objs rc.reverse = some df
  kkf : kids objs df = some kf
  pf : pickK kf nc = some c
  at_ : t.at objs rd.reverse = some dt
  kkt : kids objs dt = some kt
  pt : pickK kt nd = none
  np : ¬ (rc.reverse ++ [nc]) <+: (rd.reverse ++ [nd])
  pn : ¬ (rd.reverse ++ [nd]) <+: (rc.reverse ++ [nc])
  eq : t1 = modG objs (fun ks => putK ks nd c) rd.reverse (modG objs (fun ks => dropK ks nc) rc.reverse t)

/-! ### how much of it is the tree's own -/
def cs (n : Nat) (ks : Kids) : Nat := (ks.map fun x => cntO n x.2).sum
end Go.Proofs.YtajopoddmfdejaaGreat
