/-
  What is proved here: a script that came in, as it lies in memory.
-/
import Derived.Test.YtogeefmegegnnaaGreatLawT
import Derived.Test.YtogeefmegegnnaaGreatRows
import Derived.Deep.Slices
import Derived.Deep.Strs
namespace Go.Proofs.YtogeefmegegnnaaGreat
open Go.RowKit Go.Sort Go.Shelf Go.ChangeShapes Go.WideShapes Go.Deep
set_option linter.unusedVariables false

theorem nE : Tryz.prog.cellsOf 112 = 3 := by kernel_rfl
theorem nOp : Tryz.prog.cellsOf 93 = 7 := by kernel_rfl
theorem nStr : Tryz.prog.cellsOf 9 = 1 := by kernel_rfl
theorem nInt : Tryz.prog.cellsOf 3 = 1 := by kernel_rfl
theorem nID : Tryz.prog.cellsOf 58 = 1 := by kernel_rfl
theorem nEs : Tryz.prog.cellsOf 91 = 1 := by kernel_rfl

/-! ### The bulk -/
theorem bulk_pos {H : Type} (d : DataW H) : 1 ≤ Rows.uptoBulk d := by
  cases d with
  | lit l => cases l <;> simp [Rows.uptoBulk]
  | _ => simp [Rows.uptoBulk]
theorem bulk_of_mem {H : Type} {d : DataW H} : ∀ {l : List (DataW H)}, d ∈ l → Rows.uptoBulk d ≤ Rows.uptoBulkAll l
  | x :: r, h => by
    simp only [Rows.uptoBulkAll]
    rcases List.mem_cons.1 h with e | e
    · rw [e]; omega
    · have := bulk_of_mem e; omega
theorem bulk_many {H : Type} : ∀ (l : List (DataW H)), l.length ≤ Rows.uptoBulkAll l
  | [] => Nat.zero_le _
  | x :: r => by
    have := bulk_many r
    have := bulk_pos x
    simp only [Rows.uptoBulkAll, List.length_cons]; omega
theorem bulk_slice {H : Type} (es sp : List (DataW H)) : es.length ≤ Rows.uptoBulk (.slice es sp) ∧ ∀ d ∈ es, Rows.uptoBulk d ≤ Rows.uptoBulk (.slice es sp) := by
  have h1 := bulk_many es
  simp only [Rows.uptoBulk]
  exact ⟨by omega, fun d hd => by have := bulk_of_mem hd; omega⟩
theorem bulk_agg {H : Type} (ps : List (DataW H)) : ∀ d ∈ ps, Rows.uptoBulk d ≤ Rows.uptoBulk (.agg ps) := fun d hd => by
  have := bulk_of_mem hd
  simp only [Rows.uptoBulk]
  omega

theorem addr_cell {w : World} {a : Addr} {i : Nat} {v : Value} (hs : a.spot = none) (h : w.cell? (a.add i) = some v) : w.cell? ⟨a.block, a.off + i, none⟩ = some v := by
  obtain ⟨b, o, sp⟩ := a
  simp only at hs
  subst hs
  rw [add_flat] at h
  exact h

theorem add_block (a : Addr) (n : Nat) : (a.add n).block = a.block := by unfold Addr.add; split <;> rfl

section
variable {H : Type} {enc : TypeId × Value → H} {w : World} {base : Nat} {sp : Nat → Bool} {held : Bool}

set_option maxRecDepth 100000 in
theorem open_ent {n : Nat} {cs : List Value} {x : DataW H × List MemPlace} (h : DataW.trod enc Tryz.prog w base sp held n 112 cs = some x) : ∃ e : Ent, cs = encE e ∧ e.1.size ≤ maxLen := by
  obtain ⟨y0, y1, y2, n', _, hl, h0, h1, h2⟩ := trod_struct3 Tryz.underlying112 h
  rw [nE] at hl
  match cs, hl with
  | [v0, v1, v2], _ =>
    simp only [nStr, nInt, nID, List.drop_zero, List.drop_succ_cons, List.take_succ_cons, List.take_zero] at h0 h1 h2
    obtain ⟨s, e0, _, hs⟩ := DataW.trod_string Tryz.underlying9 h0
    obtain ⟨k, e1, _, _⟩ := DataW.trod_int Tryz.underlying3 h1
    obtain ⟨i, e2, _, _⟩ := DataW.trod_int Tryz.underlying58 h2
    simp only [List.cons.injEq, and_true] at e0 e1 e2
    subst e0; subst e1; subst e2
    exact ⟨(s, k, i), rfl, hs⟩

theorem listed_mk {a : Addr} {len : Nat} (f : Nat → Ent) (hs : 0 < len → a.spot = none ∧ a.block < w.heap.size) (hc : ∀ i, i < len → ∀ j, j < 3 → w.cell? ⟨a.block, a.off + (i * 3 + j), none⟩ = (encE (f i))[j]?) : Listed w (some a) len ((List.range len).map f) := by
  refine ⟨by simp, fun hp => ⟨a.block, a.off, ?_, (hs hp).2, fun j u hu => ?_⟩⟩
  · have := (hs hp).1
    obtain ⟨b, o, s⟩ := a
    simp only at this
    subst this; rfl
  · have hj : j < len * 3 := by
      have := (List.getElem?_eq_some_iff.1 hu).1
      rw [flat_len] at this
      simpa using this
    have hi : j / 3 < len := by omega
    have e : j = j / 3 * 3 + j % 3 := by omega
    rw [e] at hu ⊢
    rw [flat_get _ (j / 3) (j % 3) (by simpa using hi) (by omega)] at hu
    rw [hc (j / 3) hi (j % 3) (by omega), ← hu]
    simp

theorem open_ents {n : Nat} {v : Value} {x : DataW H × List MemPlace} (h : DataW.trod enc Tryz.prog w base sp held n 91 [v] = some x) :
    ∃ la lm lc es, v = .slice la lm lc ∧ Listed w la lm es ∧ (∀ e ∈ es, e.1.size ≤ maxLen) ∧ lm ≤ Rows.uptoBulk x.1 := by
  rcases open_slice Tryz.underlying91 h with ⟨hc, hx⟩ | ⟨a, len, cap, m, n', D, Pl, hc, hb, hl, hm, hmm, hx, hall⟩
  · simp only [List.cons.injEq, and_true] at hc
    exact ⟨none, 0, 0, [], hc, ⟨rfl, fun h => absurd h (Nat.lt_irrefl _)⟩, (fun e he => by cases he), Nat.zero_le _⟩
  · simp only [List.cons.injEq, and_true] at hc
    have hlm : len ≤ m := by rw [hmm]; split <;> omega
    rw [nE] at hall
    have hsp0 : ∀ i, i < len → a.spot = none := fun i hi => by
      obtain ⟨cs, h1, h2⟩ := hall 0 (by omega)
      obtain ⟨e, rfl, _⟩ := open_ent h2
      obtain ⟨_, _, hcell⟩ := World.cells?_some h1
      have := World.cell?_spot (v := .string e.1) (by rw [hcell 0 (by omega)]; rfl)
      simpa [Addr.add] using this
    have each : ∀ i, i < len → ∃ e : Ent, e.1.size ≤ maxLen ∧ a.spot = none ∧ a.block < w.heap.size ∧ ∀ j, j < 3 → w.cell? ⟨a.block, a.off + (i * 3 + j), none⟩ = (encE e)[j]? := fun i hi => by
      obtain ⟨cs, h1, h2⟩ := hall i (by omega)
      obtain ⟨e, rfl, hes⟩ := open_ent h2
      obtain ⟨_, _, hcell⟩ := World.cells?_some h1
      have hbl : a.block < w.heap.size := by
        have := World.cells?_block h1 (by omega)
        rw [add_block] at this; exact this
      have hsp := hsp0 i hi
      refine ⟨e, hes, hsp, hbl, fun j hj => ?_⟩
      have hj' : j < (encE e).length := by simpa [encE] using hj
      have := hcell j hj
      rw [add_add, List.getElem?_eq_getElem hj'] at this
      rw [List.getElem?_eq_getElem hj']
      exact addr_cell hsp this
    obtain ⟨f, hf⟩ := choose_lt each
    refine ⟨some a, len, cap, (List.range len).map f, hc, listed_mk f (fun hp => ⟨(hf 0 hp).2.1, (hf 0 hp).2.2.1⟩) (fun i hi => (hf i hi).2.2.2), fun e he => ?_, ?_⟩
    · obtain ⟨i, hi, rfl⟩ := List.mem_map.1 he
      exact (hf i (List.mem_range.1 hi)).1
    · rw [hx]
      have := (bulk_slice ((List.range len).map D) ((List.range (m - len)).map fun j => D (len + j))).1
      simpa using this

instance : Inhabited Step := ⟨⟨0, 0, 0, 0, ByteArray.empty, ByteArray.empty, none, 0, 0, []⟩⟩

def Step.cells (o : Step) : List Value := [.int .i64 o.kind, .int .i64 o.a1, .int .i64 o.a2, .int .i64 o.a3, .string o.S, .string o.T, .slice o.la o.lm o.lc]

theorem trod_struct7 {P : Program} {t : TypeId} {f0 f1 f2 f3 f4 f5 f6 : Field} {fuel : Nat} {cs : List Value} {x : DataW H × List MemPlace} (ht : P.underlying t = some (.struct #[f0, f1, f2, f3, f4, f5, f6])) (h : DataW.trod enc P w base sp held fuel t cs = some x) :
    ∃ y0 y1 y2 y3 y4 y5 y6 n, x.1 = .agg [y0.1, y1.1, y2.1, y3.1, y4.1, y5.1, y6.1] ∧ cs.length = P.cellsOf t ∧ DataW.trod enc P w base sp held n f0.type ((cs.drop f0.offset).take (P.cellsOf f0.type)) = some y0 ∧ DataW.trod enc P w base sp held n f1.type ((cs.drop f1.offset).take (P.cellsOf f1.type)) = some y1 ∧
      DataW.trod enc P w base sp held n f2.type ((cs.drop f2.offset).take (P.cellsOf f2.type)) = some y2 ∧ DataW.trod enc P w base sp held n f3.type ((cs.drop f3.offset).take (P.cellsOf f3.type)) = some y3 ∧ DataW.trod enc P w base sp held n f4.type ((cs.drop f4.offset).take (P.cellsOf f4.type)) = some y4 ∧
      DataW.trod enc P w base sp held n f5.type ((cs.drop f5.offset).take (P.cellsOf f5.type)) = some y5 ∧ DataW.trod enc P w base sp held n f6.type ((cs.drop f6.offset).take (P.cellsOf f6.type)) = some y6 := by
  obtain ⟨xs, n, _, rfl, hl, hlen, hf⟩ := DataW.trod_struct ht h
  match xs, hlen with
  | [y0, y1, y2, y3, y4, y5, y6], _ => exact ⟨y0, y1, y2, y3, y4, y5, y6, n, by simp, hl, by simpa using hf 0 f0 rfl, by simpa using hf 1 f1 rfl, by simpa using hf 2 f2 rfl, by simpa using hf 3 f3 rfl, by simpa using hf 4 f4 rfl, by simpa using hf 5 f5 rfl, by simpa using hf 6 f6 rfl⟩

set_option maxRecDepth 100000 in
theorem open_op {n : Nat} {cs : List Value} {x : DataW H × List MemPlace} (h : DataW.trod enc Tryz.prog w base sp held n 93 cs = some x) (hx : Rows.uptoBulk x.1 ≤ 1048576) : ∃ o : Step, cs = o.cells ∧ o.Fits w := by
  obtain ⟨y0, y1, y2, y3, y4, y5, y6, n', hxx, hl, g0, g1, g2, g3, g4, g5, g6⟩ := trod_struct7 Tryz.underlying93 h
  rw [nOp] at hl
  match cs, hl with
  | [v0, v1, v2, v3, v4, v5, v6], _ =>
    simp only [nStr, nInt, nEs, List.drop_zero, List.drop_succ_cons, List.take_succ_cons, List.take_zero] at g0 g1 g2 g3 g4 g5 g6
    obtain ⟨i0, e0, _, _⟩ := DataW.trod_int Tryz.underlying3 g0
    obtain ⟨i1, e1, _, _⟩ := DataW.trod_int Tryz.underlying3 g1
    obtain ⟨i2, e2, _, _⟩ := DataW.trod_int Tryz.underlying3 g2
    obtain ⟨i3, e3, _, _⟩ := DataW.trod_int Tryz.underlying3 g3
    obtain ⟨s4, e4, _, hs4⟩ := DataW.trod_string Tryz.underlying9 g4
    obtain ⟨s5, e5, _, hs5⟩ := DataW.trod_string Tryz.underlying9 g5
    obtain ⟨la, lm, lc, es, e6, hL, hS, hB⟩ := open_ents g6
    simp only [List.cons.injEq, and_true] at e0 e1 e2 e3 e4 e5
    subst e0; subst e1; subst e2; subst e3; subst e4; subst e5; subst e6
    refine ⟨⟨i0, i1, i2, i3, s4, s5, la, lm, lc, es⟩, rfl, ⟨hs4, hL, ?_, hS⟩⟩
    have h6 : Rows.uptoBulk y6.1 ≤ Rows.uptoBulk x.1 := by
      rw [hxx]
      exact bulk_agg _ _ (by simp)
    show lm ≤ 2097152
    omega

/-- The script. -/
theorem open_script {n : Nat} {v : Value} {x : DataW H × List MemPlace} (h : DataW.trod enc Tryz.prog w base sp held n 22 [v] = some x) (hx : Rows.uptoBulk x.1 ≤ 1048576) : ∃ a len c ops, v = .slice a len c ∧ Scripted w a len ops := by
  rcases open_slice Tryz.underlying22 h with ⟨hc, _⟩ | ⟨a, len, cap, m, n', D, Pl, hc, hb, hl, hm, hmm, hxx, hall⟩
  · simp only [List.cons.injEq, and_true] at hc
    exact ⟨none, 0, 0, [], hc, ⟨rfl, Nat.zero_le _, (fun i hi => by cases hi), (fun o ho => by cases ho)⟩⟩
  · simp only [List.cons.injEq, and_true] at hc
    have hlm : len ≤ m := by rw [hmm]; split <;> omega
    rw [nOp] at hall
    have hbk := bulk_slice ((List.range len).map D) ((List.range (m - len)).map fun j => D (len + j))
    rw [hxx] at hx
    have hlen : len ≤ 2097152 := by
      have := hbk.1
      simp only [List.length_map, List.length_range] at this
      have h2 : Rows.uptoBulk (DataW.slice ((List.range len).map D) ((List.range (m - len)).map fun j => D (len + j))) ≤ 1048576 := hx
      omega
    have hsp0 : ∀ i, i < len → a.spot = none := fun i hi => by
      obtain ⟨cs, h1, h2⟩ := hall 0 (by omega)
      obtain ⟨o, rfl, _⟩ := open_op h2 (Nat.le_trans (hbk.2 (D 0) (List.mem_map_of_mem (List.mem_range.2 (by omega)))) hx)
      obtain ⟨_, _, hcell⟩ := World.cells?_some h1
      have := World.cell?_spot (v := .int .i64 o.kind) (by rw [hcell 0 (by omega)]; rfl)
      simpa [Addr.add] using this
    have each : ∀ i, i < len → ∃ o : Step, o.Fits w ∧ a.spot = none ∧ a.block < w.heap.size ∧ ∀ j, j < 7 → w.cell? ⟨a.block, a.off + (i * 7 + j), none⟩ = (o.cells)[j]? := fun i hi => by
      obtain ⟨cs, h1, h2⟩ := hall i (by omega)
      obtain ⟨o, rfl, hfit⟩ := open_op h2 (Nat.le_trans (hbk.2 (D i) (List.mem_map_of_mem (List.mem_range.2 hi))) hx)
      obtain ⟨_, _, hcell⟩ := World.cells?_some h1
      have hbl : a.block < w.heap.size := by
        have := World.cells?_block h1 (by omega)
        rw [add_block] at this; exact this
      have hsp := hsp0 i hi
      refine ⟨o, hfit, hsp, hbl, fun j hj => ?_⟩
      have hj' : j < (o.cells).length := by simpa [Step.cells] using hj
      have := hcell j hj
      rw [add_add, List.getElem?_eq_getElem hj'] at this
      rw [List.getElem?_eq_getElem hj']
      exact addr_cell hsp this
    obtain ⟨f, hf⟩ := choose_lt each
    refine ⟨some a, len, cap, (List.range len).map f, hc, ⟨by simp, hlen, fun i hi => ?_, fun o ho => ?_⟩⟩
    · have hi' : i < len := by simpa using hi
      obtain ⟨_, hsp, hbl, hcl⟩ := hf i hi'
      have ha : a = ⟨a.block, a.off, none⟩ := by
        obtain ⟨b, o, s⟩ := a
        simp only at hsp
        subst hsp; rfl
      have hg : ((List.range len).map f)[i] = f i := by simp
      rw [hg]
      exact ⟨a.block, a.off, by rw [← ha], hbl, hcl 0 (by omega), hcl 1 (by omega), hcl 2 (by omega), hcl 3 (by omega), hcl 4 (by omega), hcl 5 (by omega), hcl 6 (by omega)⟩
    · obtain ⟨i, hi, rfl⟩ := List.mem_map.1 ho
      exact (hf i (List.mem_range.1 hi)).1
end
end Go.Proofs.YtogeefmegegnnaaGreat
