/-
  What is proved here: GetDir of the objects' pool: no such directory, or a new list of its entries.
-/
import Derived.Test.YtogeefmegegnnaaGreatMeasure
namespace Go.Proofs.YtogeefmegegnnaaGreat
open Go.RowKit Go.Sort Go.Shelf
set_option linter.unusedVariables false
variable {ft : PTail}

set_option maxRecDepth 100000 in
set_option maxHeartbeats 400000 in
theorem dir_not (p : Nat) (a : Option Addr) (n cap bf bd : Nat) (objs : List Ob) (id : Int) (w : World) (h : Pooled ft w p a n cap bf bd objs) (hk : kindOf objs id ≠ 2) :
    Calls Tryz.prog 138 #[.pointer (some ⟨p, 0, none⟩), .int .i64 id] w fun e w' => e = .returned (.tuple #[.slice none 0 0, .int .i64 13]) ∧ Below w.heap.size w w' := by
  have hcon := kind_any p a n cap bf bd objs id w h
  obtain ⟨q, hq⟩ : ∃ q, q = kindOf objs id := ⟨_, rfl⟩
  rw [← hq] at hcon hk
  have hk' : (q == 2) = false := by simpa using hk
  clear hq hk
  go_enter Tryz.func138, Tryz.ntmps138
  go_wp2_with (go_at_call 96; refine hcon.mono ?_; rintro e w' ⟨rfl, hb⟩)
  go_ret2
  exact ⟨rfl, hb⟩

theorem made_block {w : World} {g m : Nat} {xs : List Value} (h : w.ownsRow 0 112 3 (.slice (some ⟨g, 0, none⟩) m m) m xs) : ∃ cur, Hid (w.heap[g]? = some (.cells cur 112 (0, 0))) ∧ Hid (cur.size = m * 3) := by
  rcases h.2 with ⟨h0, _⟩ | ⟨g', cap', cur, hv, _, hg, _, _, hcur, _⟩
  · cases h0
  · cases hv; exact ⟨cur, hg, hcur⟩

theorem grown_none {w w2 w3 : World} (hb : Below w.heap.size w w2) (hg : w2.grownBy w3 none) : Hid (Below w.heap.size w w3) := hb.grown hg hb.size (fun k h => by cases h)

theorem src_cells {w w3 : World} {g : Nat} {es : List Ent} (hb : Below w.heap.size w w3) (hgl : g < w.heap.size) (hc : ∀ j u, (flat es)[j]? = some u → w.cell? ⟨g, 0 + j, none⟩ = some u) : ∀ j v, (flat es)[j]? = some v → w3.cell? ((⟨g, 0, none⟩ : Addr).add j) = some v := by
  intro j v h
  have h2 : (⟨g, 0, none⟩ : Addr).add j = ⟨g, 0 + j, none⟩ := by unfold Addr.add; split <;> simp_all
  rw [h2, hb.cell (p := ⟨g, 0 + j, none⟩) hgl, hc j v h]

set_option maxRecDepth 100000 in
set_option maxHeartbeats 800000 in
theorem dir_some (p : Nat) (a : Option Addr) (n cap bf bd : Nat) (objs : List Ob) (j g m c : Nat) (es : List Ent) (hj : j < objs.length) (w : World) (h : Pooled ft w p a n cap bf bd objs) (hk : objs[j].kind = 2)
    (hea : objs[j].ea = some ⟨g, 0, none⟩) (hel : objs[j].el = m) (hec : objs[j].ec = c) (hm : m ≤ 16) (hl : es.length = m) (hgl : g < w.heap.size) (hc : ∀ j u, (flat es)[j]? = some u → w.cell? ⟨g, 0 + j, none⟩ = some u) :
    Calls Tryz.prog 138 #[.pointer (some ⟨p, 0, none⟩), .int .i64 ((j : Int) + 1)] w fun e w' => ∃ g', e = .returned (.tuple #[.slice (some ⟨g', 0, none⟩) m m, .int .i64 0]) ∧ w'.ownsRow w.heap.size 112 3 (.slice (some ⟨g', 0, none⟩) m m) m (flat es) ∧ Below w.heap.size w w' := by
  have hcon := kind_any p a n cap bf bd objs ((j : Int) + 1) w h
  rw [kindOf_in hj, hk] at hcon
  have hat := fun (W : World) (hW : Below w.heap.size w W) => at_in p a n cap bf bd objs j hj W (h.below hW)
  rw [hea, hel, hec] at hat
  have f2 := fld2
  obtain ⟨i0, hi, hz0, hz1, hz2⟩ := info_parts info34
  have HC : Hid (∀ j u, (flat es)[j]? = some u → w.cell? ⟨g, 0 + j, none⟩ = some u) := hc
  have HL : Hid (es.length = m) := hl
  clear hc hl hea hel hec hk
  go_enter Tryz.func138, Tryz.ntmps138
  go_wp2_with (first
    | (go_at_call 96; refine hcon.mono ?_; rintro e w1 ⟨rfl, hb1⟩)
    | (go_at_call 165; refine (hat _ hb1).mono ?_; rintro e w2 ⟨rfl, hb2⟩)
    | (at_make; refine wpList_make_full _ rfl _ _ 91 rfl 0 112 i0 _ 3 Tryz.underlying91 hi hz0 hz1 .i64 .i64 _ _ m rfl rfl rfl rfl ?_ ?_ (Nat.zero_le _) ?_; go_must (rw [hz2]; omega); go_must (unfold maxLen; omega); intro w3 hown3 hg3; obtain ⟨cur, HB, HCS⟩ := made_block hown3; have hbw := hb1.trans (hb2.mono hb1.size); have HB3 := grown_none hbw hg3)
    | (refine wpList_copyK rfl (.tmp 19) (.tmp 20) 91 91 rfl 112 Tryz.underlying91 3 info34s w2.heap.size 0 m m ⟨g, 0, none⟩ m c rfl rfl cur 112 HB.out (flat es) ?_ ?_ ?_ (flat_one es) (flat es).toArray ?_ ?_; go_must (rw [flat_len, HL.out]; exact congrArg (· * 3) (Nat.min_self m).symm); go_must (exact src_cells (HB3.out) hgl HC.out); go_must (rw [flat_len, HL.out, HCS.out]; omega); go_must (simp only [List.take_zero, List.nil_append, Nat.zero_add]; rw [List.drop_eq_nil_of_le (by rw [flat_len, HL.out, Array.length_toList, HCS.out]; exact Nat.le_refl _), List.append_nil]); intro w4 H4 hg4))
  go_ret2
  have hsz2 := hbw.size
  refine ⟨w2.heap.size, rfl, ⟨by rw [flat_len, HL.out], .inr ⟨w2.heap.size, m, (flat es).toArray, rfl, hsz2, H4.out, Nat.le_refl _, by unfold maxLen; omega, by simp [flat_len, HL.out], ?_⟩⟩, ?_⟩
  · simp only
    exact List.take_of_length_le (by rw [flat_len, HL.out]; exact Nat.le_refl _)
  · exact HB3.out.grown hg4 HB3.out.size (fun k h => by cases h; exact hsz2)
end Go.Proofs.YtogeefmegegnnaaGreat
