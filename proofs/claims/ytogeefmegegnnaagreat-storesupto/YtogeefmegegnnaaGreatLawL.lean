/-
  What is proved here: what is held beside the three worlds ('Held'), one list more.
-/
import Derived.Test.YtogeefmegegnnaaGreatLawK
namespace Go.Proofs.YtogeefmegegnnaaGreat
open Go.RowKit Go.Sort Go.Shelf
set_option linter.unusedVariables false
variable {ft : PTail}

theorem mkQ_mark (i : Nat) : mkQ (i / 4) = markE i := rfl

/-- The lists that came out so far: four times each, full of marks. -/
structure Held (FH : Nat → Prop) (w : World) (ea : Option Addr) (ec q : Nat) (hs : List HeldL) : Prop where
  len : hs.length = 4 * q
  row : w.ownsRow 0 91 1 (.slice ea (4 * q) ec) (4 * q) (hs.map encH)
  own : ∀ g, (Value.slice ea (4 * q) ec).ownBlock = some g → FH g
  lists : ∀ i (hi : i < hs.length), hs[i].2.1 ≤ 19 ∧ ((hs[i].1 = none ∧ hs[i].2.1 = 0) ∨ ∃ g, hs[i].1 = some ⟨g, 0, none⟩ ∧ FH g ∧ w.ownsRow 0 112 3 (encH hs[i]) hs[i].2.1 (flat (List.replicate hs[i].2.1 (mkQ (i / 4)))))
  lt : ∀ k, FH k → k < w.heap.size

theorem Held.keep {FH : Nat → Prop} {w w' : World} {ea : Option Addr} {ec q : Nat} {hs : List HeldL} (h : Held FH w ea ec q hs) (hk : ∀ k, FH k → w'.heap[k]? = w.heap[k]?) (hz : w.heap.size ≤ w'.heap.size) : Held FH w' ea ec q hs :=
  ⟨h.len, ownsRow_keep h.row (fun g hg => hk g (h.own g hg)), h.own, fun i hi => ⟨(h.lists i hi).1, by
    rcases (h.lists i hi).2 with e | ⟨g, e1, e2, e3⟩
    · exact .inl e
    · exact .inr ⟨g, e1, e2, ownsRow_keep e3 (fun x hx => by
        have : x = g := by unfold encH at hx; rw [e1] at hx; exact (Option.some.inj hx).symm
        rw [this]; exact hk g e2)⟩⟩, fun k hk' => Nat.lt_of_lt_of_le (h.lt k hk') hz⟩

theorem Held.full {FH : Nat → Prop} {w : World} {ea : Option Addr} {ec q : Nat} {hs : List HeldL} (h : Held FH w ea ec q hs) : ∀ i (hi : i < hs.length), Full w i hs[i] := by
  intro i hi j hj
  rcases (h.lists i hi).2 with ⟨_, e⟩ | ⟨g, e1, _, e3⟩
  · omega
  · unfold encH at e3
    rw [e1] at e3
    obtain ⟨p0, p1, p2⟩ := row_cells (off := 0) (owns_cells e3) (i := j) (by simpa using hj)
    rw [Nat.zero_add, List.getElem_replicate, mkQ_mark] at p0 p1 p2
    exact ⟨g, e1, p0, p1, p2⟩

section
variable {FL FR FS FH : Nat → Prop} {w : World} {W s r : Nat} {objs ros : List Ob} {c5 c6 c7 c8 c9 c10 c11 : Value} {ea : Option Addr} {ec q : Nat} {hs : List HeldL}

/-- The law's block. -/
theorem W3.block (h : W3 ft FL FR FS w W s r objs ros c5 c6 c7 c8 c9 c10 c11) : ∃ a0 a1 a2 a3 a4, w.heap[W]? = some (.cells #[a0, a1, a2, a3, a4, c5, c6, c7, c8, c9, c10, c11] 106 (0, 0)) := by
  obtain ⟨_, _, _, _, _, _, _, hl, _⟩ := h.law
  exact ⟨_, _, _, _, _, hl.hW⟩

/-- One list more is held. -/
theorem kept_next {w' : World} {a0 a1 a2 a3 a4 : Value} {la : Option Addr} {m : Nat} (h : W3 ft FL FR FS w W s r objs ros c5 c6 c7 c8 (.slice ea (4 * q) ec) c10 c11) (hh : Held FH w ea ec q hs) (hap : ∀ k, FH k → ¬ F3 FL FR FS k) (hm : m ≤ 16)
    (hla : ∀ g, (Value.slice la m m).ownBlock = some g → ¬ F3 FL FR FS g ∧ ¬ FH g ∧ g < w.heap.size) (hnil : la = none → m = 0) (hW : w.heap[W]? = some (.cells #[a0, a1, a2, a3, a4, c5, c6, c7, c8, .slice ea (4 * q) ec, c10, c11] 106 (0, 0)))
    (hk : KeptOne w w' W q #[a0, a1, a2, a3, a4, c5, c6, c7, c8, .slice ea (4 * q) ec, c10, c11] ea ec la m hs) :
    ∃ FH' ea' ec' hs', W3 ft FL FR FS w' W s r objs ros c5 c6 c7 c8 (.slice ea' (4 * (q + 1)) ec') c10 c11 ∧ Held FH' w' ea' ec' (q + 1) hs' ∧ (∀ k, FH' k → ¬ F3 FL FR FS k) ∧ (∀ k, FH' k → FH k ∨ w.heap.size ≤ k ∨ some k = (Value.slice la m m).ownBlock) ∧
      Keeps (fun k => k = W ∨ FH k ∨ some k = (Value.slice la m m).ownBlock) w w' := by
  obtain ⟨g4, c4, ga, ca, gb, cb, gc, cc, k1, k2, k3, k4, k5, k6, k7, k8⟩ := hk
  have z := k8.size
  have fW : FL W := by obtain ⟨_, _, _, _, _, _, _, hl, _⟩ := h.law; exact hl.fw
  have keep : ∀ k, k < w.heap.size → k ≠ W → ¬ FH k → (∀ g, (Value.slice la m m).ownBlock = some g → k ≠ g) → w'.heap[k]? = w.heap[k]? := fun k hk1 hk2 hk3 hk4 => k8.block k hk1 (by
    rintro (e | e | e)
    · exact hk2 e
    · exact hk3 (hh.own k e.symm)
    · exact hk4 k e.symm rfl)
  have n3 : ∀ k, F3 FL FR FS k → ¬ FH k := fun k hk hf => hap k hf hk
  have nla : ∀ k, F3 FL FR FS k → ∀ g, (Value.slice la m m).ownBlock = some g → k ≠ g := fun k hk g hg e => (hla g hg).1 (e ▸ hk)
  have law' : LawS FL w' W s r objs.length c5 c6 c7 c8 (.slice (some ⟨g4, 0, none⟩) (4 * (q + 1)) c4) c10 c11 := by
    obtain ⟨ia, ka, pa, ic, kc, pc, paths, hl, hp⟩ := h.law
    have row : ∀ {t : TypeId} {v : Value} {n : Nat} {xs : List Value}, w.ownsRow 0 t 1 v n xs → 106 ≠ t → (∀ g, v.ownBlock = some g → FL g) → w'.ownsRow 0 t 1 v n xs := fun hr ht hf => ownsRow_keep hr (fun g hg => keep g (ownsRow_lt hr hg) (fun e => owns_ne_cells hr hl.hW ht (by rw [← e]; exact hg.symm)) (n3 g (.inl (hf g hg))) (nla g (.inl (hf g hg))))
    refine ⟨ia, ka, pa, ic, kc, pc, paths, ⟨hl.fw, ?_, row hl.rowI (by decide) hl.fi, row hl.rowK (by decide) hl.fk, row hl.rowP (by decide) hl.fp, hl.fi, hl.fk, hl.fp⟩, hp⟩
    have e := hW.symm.trans hl.hW
    simp only [Option.some.injEq, Obj.cells.injEq, Array.mk.injEq, List.cons.injEq, and_true] at e
    obtain ⟨e0, e1, e2, e3, e4⟩ := e
    rw [k1, e0, e1, e2, e3, e4]
    rfl
  have nW : ∀ k, FR k ∨ FS k → k ≠ W := fun k hk e => by
    rcases hk with h1 | h1
    · exact (h.sep.rl k h1).2 (e ▸ fW)
    · exact (h.sep.sl k h1).2 (e ▸ fW)
  refine ⟨fun k => FH k ∨ (some k = (Value.slice la m m).ownBlock) ∨ (w.heap.size ≤ k ∧ k < w'.heap.size), some ⟨g4, 0, none⟩, c4, _, ⟨law', h.ref.keep (fun _ h => h) (fun k hk => keep k (h.sep.rl k hk).1 (nW k (.inl hk)) (n3 k (.inr (.inl hk))) (nla k (.inr (.inl hk)))), Inv.keep h.sto (fun _ h => h) (fun k hk => keep k (h.sep.sl k hk).1 (nW k (.inr hk)) (n3 k (.inr (.inr hk))) (nla k (.inr (.inr hk)))), h.twin, h.at_, h.sep.below z⟩,
    ⟨?_, k2, ?_, ?_, ?_⟩, ?_, ?_, ⟨k8.os, k8.tape, k8.output, k8.size, fun k hk1 hn => k8.block k hk1 (by rintro (e | e | e); exact hn (.inl e); exact hn (.inr (.inl (hh.own k e.symm))); exact hn (.inr (.inr e)))⟩⟩
  · simp [hh.len]; omega
  · intro g hg
    simp only [Value.ownBlock, Option.some.injEq] at hg
    subst hg
    rcases k7 with e | e
    · exact .inl (hh.own _ e.symm)
    · exact .inr (.inr ⟨e, ownsRow_lt k2 rfl⟩)
  · intro i hi
    by_cases hlt : i < hs.length
    · rw [List.getElem_append_left hlt]
      refine ⟨(hh.lists i hlt).1, ?_⟩
      rcases (hh.lists i hlt).2 with e | ⟨g, e1, e2, e3⟩
      · exact .inl e
      · refine .inr ⟨g, e1, .inl e2, ownsRow_keep e3 (fun x hx => ?_)⟩
        have hxg : x = g := by unfold encH at hx; rw [e1] at hx; exact (Option.some.inj hx).symm
        subst hxg
        refine k8.block x (hh.lt x e2) ?_
        rintro (e | e | e)
        · subst e; exact hap _ e2 (.inl fW)
        · exact rows_apart e3 hh.row (by decide) hx e
        · exact (hla x e.symm).2.1 e2
    · obtain ⟨d, rfl⟩ : ∃ d, i = hs.length + d := ⟨i - hs.length, by omega⟩
      have hd : d < 4 := by simp at hi; omega
      rw [List.getElem_append_right (by omega)]
      have hq : (hs.length + d) / 4 = q := by rw [hh.len]; omega
      simp only [Nat.add_sub_cancel_left, hq]
      have new : ∀ {g n c : Nat}, w'.ownsRow w.heap.size 112 3 (.slice (some ⟨g, 0, none⟩) n c) n (flat (List.replicate n (mkQ q))) → ∃ g', (some ⟨g, 0, none⟩ : Option Addr) = some ⟨g', 0, none⟩ ∧ (FH g' ∨ (some g' = (Value.slice la m m).ownBlock) ∨ (w.heap.size ≤ g' ∧ g' < w'.heap.size)) ∧ w'.ownsRow 0 112 3 (.slice (some ⟨g, 0, none⟩) n c) n (flat (List.replicate n (mkQ q))) := fun {g n c} hr => ⟨g, rfl, .inr (.inr (hr.lt g rfl)), owns_mono hr (Nat.zero_le _)⟩
      match d, hd with
      | 0, _ =>
        refine ⟨show m ≤ 19 by omega, ?_⟩
        cases la with
        | none => exact .inl ⟨rfl, hnil rfl⟩
        | some b =>
          obtain ⟨g, rfl, hr⟩ := k3 b rfl
          exact .inr ⟨g, rfl, .inr (.inl rfl), hr⟩
      | 1, _ => exact ⟨show m + 1 ≤ 19 by omega, .inr (new k4)⟩
      | 2, _ => exact ⟨show m + 2 ≤ 19 by omega, .inr (new k5)⟩
      | 3, _ => exact ⟨show m + 3 ≤ 19 by omega, .inr (new k6)⟩
  · rintro k (hk | hk | hk)
    · exact Nat.lt_of_lt_of_le (hh.lt k hk) z
    · exact Nat.lt_of_lt_of_le (hla k hk.symm).2.2 z
    · exact hk.2
  · rintro k (hk | hk | hk) hf
    · exact hap k hk hf
    · exact (hla k hk.symm).1 hf
    · have : k < w.heap.size := by
        rcases hf with h1 | h1 | h1
        · exact h.sep.ll k h1
        · exact (h.sep.rl k h1).1
        · exact (h.sep.sl k h1).1
      omega
  · rintro k (hk | hk | hk)
    · exact .inl hk
    · exact .inr (.inr hk)
    · exact .inr (.inl hk.1)

/-- What a step leaves: all three, what is held; only what is theirs has turned. -/
def Played (ft : PTail) (FL FR FS FH : Nat → Prop) (w w' : World) (W s r q : Nat) (c5 c6 c7 c8 c10 c11 : Value) : Prop :=
  ∃ FL' FR' FS' FH' objs' ros' ea' ec' hs', W3 ft FL' FR' FS' w' W s r objs' ros' c5 c6 c7 c8 (.slice ea' (4 * q) ec') c10 c11 ∧ Held FH' w' ea' ec' q hs' ∧ (∀ k, FH' k → ¬ F3 FL' FR' FS' k) ∧
    (∀ k, F3 FL' FR' FS' k ∨ FH' k → (F3 FL FR FS k ∨ FH k) ∨ w.heap.size ≤ k) ∧ Keeps (fun k => F3 FL FR FS k ∨ FH k) w w'

theorem played_of_stepped {w' : World} (h : W3 ft FL FR FS w W s r objs ros c5 c6 c7 c8 (.slice ea (4 * q) ec) c10 c11) (hh : Held FH w ea ec q hs) (hap : ∀ k, FH k → ¬ F3 FL FR FS k) (hs' : Stepped ft FL FR FS w w' W s r c5 c6 c7 c8 (.slice ea (4 * q) ec) c10 c11) : Played ft FL FR FS FH w w' W s r q c5 c6 c7 c8 c10 c11 := by
  obtain ⟨FL', FR', FS', objs', ros', h3, hsub, hk⟩ := hs'
  refine ⟨FL', FR', FS', FH, objs', ros', ea, ec, hs, h3, hh.keep (fun k hf => hk.block k (hh.lt k hf) (hap k hf)) hk.size, fun k hf h3' => ?_, fun k hk' => ?_, ⟨hk.os, hk.tape, hk.output, hk.size, fun k hk1 hn => hk.block k hk1 (fun h => hn (.inl h))⟩⟩
  · rcases hsub k h3' with e | e
    · exact hap k hf e
    · have := hh.lt k hf; omega
  · rcases hk' with e | e
    · rcases hsub k e with e | e
      · exact .inl (.inl e)
      · exact .inr e
    · exact .inl (.inr e)
end
end Go.Proofs.YtogeefmegegnnaaGreat
