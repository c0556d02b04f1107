/-
  What is proved here: 'measure' over a pool and a list of entries: no such object, too deep, or how much stands one below the other.
-/
import Derived.Test.YtogeefmegegnnaaGreatPool
namespace Go.Proofs.YtogeefmegegnnaaGreat
open Go.RowKit Go.Sort Go.Shelf
set_option linter.unusedVariables false
variable {ft : PTail}

/-- Is the object of an entry there, and of its kind? -/
def goodE (objs : List Ob) (e : Ent) : Bool := !(kindOf objs e.2.2 == 0) && (kindOf objs e.2.2 == e.2.1)
def highs (objs : List Ob) (es : List Ent) : Int := es.foldl (fun h e => max h (1 + highOf objs e.2.2)) 0

theorem highs_snoc (objs : List Ob) (es : List Ent) (e : Ent) : highs objs (es ++ [e]) = max (highs objs es) (1 + highOf objs e.2.2) := by
  simp only [highs, List.foldl_append, List.foldl_cons, List.foldl_nil]

/-- What 'measure' answers. -/
def Measured (w w' : World) (objs : List Ob) (es : List Ent) (e : Ending) : Prop :=
    Below w.heap.size w w' ∧
      (((∃ x ∈ es, goodE objs x = false) ∧ e = .returned (.tuple #[.int .i64 0, .int .i64 13])) ∨
       ((∀ x ∈ es, goodE objs x = true) ∧ 5 < highs objs es ∧ e = .returned (.tuple #[.int .i64 0, .int .i64 11])) ∨
       ((∀ x ∈ es, goodE objs x = true) ∧ highs objs es ≤ 5 ∧ 0 ≤ highs objs es ∧ e = .returned (.tuple #[.int .i64 (highs objs es), .int .i64 0])))

set_option maxRecDepth 100000 in
set_option maxHeartbeats 1000000 in
theorem measure_some (p g cap' : Nat) (a : Option Addr) (n cap bf bd m : Nat) (objs : List Ob) (es : List Ent) (w : World) (h : Pooled ft w p a n cap bf bd objs) (hl : es.length = m) (hm : m ≤ 16) (hgl : g < w.heap.size)
    (hc : ∀ j u, (flat es)[j]? = some u → w.cell? ⟨g, 0 + j, none⟩ = some u) (hh : ∀ o ∈ objs, 0 ≤ o.high ∧ o.high ≤ 5) :
    Calls Tryz.prog 132 #[.pointer (some ⟨p, 0, none⟩), .slice (some ⟨g, 0, none⟩) m cap'] w fun e w' => Measured w w' objs es e := by
  have HC : Hid (∀ j u, (flat es)[j]? = some u → w.cell? ⟨g, 0 + j, none⟩ = some u) := hc
  have HL : Hid (es.length = m) := hl
  have HH : Hid (∀ o ∈ objs, 0 ≤ o.high ∧ o.high ≤ 5) := hh
  clear hc hl hh
  go_enter Tryz.func132, Tryz.ntmps132
  go_wp2
  go_loopw [6, 12] (fun t i wr => ∃ k : Nat, k ≤ m ∧ i = .int .i64 k ∧ t = .int .i64 (highs objs (es.take k)) ∧ 0 ≤ highs objs (es.take k) ∧ highs objs (es.take k) ≤ 6 ∧ Below w.heap.size w wr ∧ Hid (∀ j (hj : j < es.length), j < k → goodE objs es[j] = true)) (fun _ i _ => m - (intOf i).toNat)
  case atStart => exact ⟨0, Nat.zero_le _, rfl, rfl, Int.le_refl _, by show (0 : Int) ≤ 6; decide, Below.refl _ _, fun j hj h => by omega⟩
  case round =>
    obtain ⟨k, hk, rfl, rfl, h0, h6, hb, HV⟩ := hrel
    by_cases hlt : k < m
    · have hk' : k < es.length := by rw [HL.out]; exact hlt
      obtain ⟨c0, c1, c2⟩ := row_cells HC.out hk'
      rw [Nat.zero_add] at c0 c1 c2
      have d0 := (hb.cell (p := ⟨g, k * 3, none⟩) hgl).trans c0
      have d1 := (hb.cell (p := ⟨g, k * 3 + 1, none⟩) hgl).trans c1
      have d2 := (hb.cell (p := ⟨g, k * 3 + 2, none⟩) hgl).trans c2
      have hgl' : g < wr.heap.size := Nat.lt_of_lt_of_le hgl hb.size
      clear c0 c1 c2
      have hkind := fun (W : World) (hW : Below w.heap.size w W) => kind_any p a n cap bf bd objs es[k].2.2 W (h.below hW)
      obtain ⟨q, hq⟩ : ∃ q, q = kindOf objs es[k].2.2 := ⟨_, rfl⟩
      have HQ : Hid (q = kindOf objs es[k].2.2) := hq
      rw [← hq] at hkind
      clear hq
      have box := fun (W1 : World) (X : Obj) (hW : Below (wr.alloc X).heap.size (wr.alloc X) W1) (o : Nat) => hW.cell (p := ⟨wr.heap.size, o, none⟩) (by simp)
      cases hg1 : (q == 0) with
      | true =>
        have HG : Hid (goodE objs es[k] = false) := by
          show goodE objs es[k] = false
          unfold goodE
          rw [← HQ.out, hg1]; rfl
        go_wp2_with (go_at_call 96; refine (hkind _ (hb.alloc hb.size _)).mono ?_; rintro e w1 ⟨rfl, hb1⟩)
        go_ret2
        exact ⟨(hb.alloc hb.size _).trans (hb1.mono (by simp; have := hb.size; omega)), .inl ⟨⟨es[k], List.getElem_mem hk', HG.out⟩, rfl⟩⟩
      | false =>
        cases hg2 : (q == es[k].2.1) with
        | false =>
          have HG : Hid (goodE objs es[k] = false) := by
            show goodE objs es[k] = false
            unfold goodE
            rw [← HQ.out, hg1, hg2]; rfl
          go_wp2_with (go_at_call 96; refine (hkind _ (hb.alloc hb.size _)).mono ?_; rintro e w1 ⟨rfl, hb1⟩; have b1 := box _ _ hb1 1; simp at b1)
          go_ret2
          exact ⟨(hb.alloc hb.size _).trans (hb1.mono (by simp; have := hb.size; omega)), .inl ⟨⟨es[k], List.getElem_mem hk', HG.out⟩, rfl⟩⟩
        | true =>
          have HG : Hid (goodE objs es[k] = true) := by
            show goodE objs es[k] = true
            unfold goodE
            rw [← HQ.out, hg1, hg2]; rfl
          obtain ⟨j, hj, he⟩ : ∃ j : Nat, j < objs.length ∧ es[k].2.2 = (j : Int) + 1 := by
            by_cases hid : es[k].2.2 < 1 ∨ (objs.length : Int) < es[k].2.2
            · have := HQ.out; rw [kindOf_out hid] at this; simp [this] at hg1
            · exact ⟨(es[k].2.2 - 1).toNat, by omega, by omega⟩
          have HJ : Hid (highOf objs es[k].2.2 = objs[j].high) := by
            show highOf objs es[k].2.2 = objs[j].high
            rw [he]; exact highOf_in hj
          have hat := fun (W : World) (hW : Below w.heap.size w W) => height_in p a n cap bf bd objs j hj W (h.below hW)
          rw [← he] at hat
          obtain ⟨hj0, hj5⟩ := HH.out objs[j] (List.getElem_mem hj)
          have f3 := fld3
          clear he
          go_wp2_with (first
            | (go_at_call 96; refine (hkind _ (hb.alloc hb.size _)).mono ?_; rintro e w1 ⟨rfl, hb1⟩; have b1 := box _ _ hb1 1; have b2 := box _ _ hb1 2; simp at b1 b2; have hbw := (hb.alloc hb.size _).trans (hb1.mono (by simp; have := hb.size; omega)))
            | (go_at_call 184; refine (hat _ hbw).mono ?_; rintro e w2 ⟨rfl, hb2⟩))
          have hst : highs objs (es.take (k + 1)) = max (highs objs (es.take k)) (1 + objs[j].high) := by
            rw [List.take_succ_eq_append_getElem hk', highs_snoc, HJ.out]
          go_roundw
          case rel =>
            refine ⟨k + 1, by omega, by go_num, by rw [hst], by rw [hst]; omega, by rw [hst]; omega, hbw.trans (hb2.mono hbw.size), ?_⟩
            intro i hi hik
            by_cases e : i = k
            · subst e; exact HG.out
            · exact HV.out i hi (by omega)
          case measure => simp [intOf]; omega
    · have hkm : k = m := by omega
      have HVA : Hid (∀ x ∈ es, goodE objs x = true) := by
        intro x hx
        obtain ⟨j, hj, rfl⟩ := List.getElem_of_mem hx
        exact HV.out j hj (by rw [hkm, ← HL.out]; exact hj)
      have HT : Hid (es.take k = es) := List.take_of_length_le (by rw [HL.out]; omega)
      rw [HT.out] at h0 h6 ⊢
      by_cases h5 : 5 < highs objs es
      · go_wp2
        go_ret2
        exact ⟨hb, .inr (.inl ⟨HVA.out, h5, rfl⟩)⟩
      · go_wp2
        go_ret2
        exact ⟨hb, .inr (.inr ⟨HVA.out, by omega, h0, rfl⟩)⟩
end Go.Proofs.YtogeefmegegnnaaGreat
