/-
  What is proved here: a directory's listing can be a map's key, and two listings are one key just if they have the same entries.
-/
import Derived.Test.YtogeefmegegnnaaGreatList
import Derived.DeepKeys4
namespace Go.Proofs.YtogeefmegegnnaaGreat
open Go.RowKit Go.Sort Go.Shelf
set_option linter.unusedVariables false

theorem laidOut : laidOutB Tryz.prog = true := by kernel_rfl
theorem row58 : 221 < Tryz.prog.types.size := of_decide_eq_true (by kernel_rfl)
theorem law58 : Maps.Keyed Tryz.prog 221 := Maps.Keyed.of_law (deep_law_laid laidOut (m := 9) (by omega) row58 (by kernel_rfl) (by rw [Tryz.underlying221]))

theorem cells58 : Tryz.prog.cellsOf 221 = 48 := by kernel_rfl
theorem cells34 : Tryz.prog.cellsOf 112 = 3 := by kernel_rfl
theorem cells9 : Tryz.prog.cellsOf 9 = 1 := by kernel_rfl
theorem cells3 : Tryz.prog.cellsOf 3 = 1 := by kernel_rfl
theorem cells25 : Tryz.prog.cellsOf 58 = 1 := by kernel_rfl
theorem keyT58 : Tryz.prog.keyType 221 = true := by kernel_rfl

/-- An entry whose name and numbers fit. -/
def Fits (e : Ent) : Prop := e.1.size ≤ maxLen ∧ (Lit.int .i64 e.2.1).wf = true ∧ (Lit.int .i64 e.2.2).wf = true

theorem lits34 (d : Nat) (e : Ent) (h : Fits e) : ∃ ls, Tryz.prog.keyLits (d + 2) 112 (encE e) = some ls := by
  obtain ⟨h1, h2, h3⟩ := h
  have a1 : Tryz.prog.keyLits (d + 1) 9 [.string e.1] = some [.string e.1.data.toList] := by unfold Program.keyLits; simp [Tryz.underlying9, h1]
  have a2 : Tryz.prog.keyLits (d + 1) 3 [.int .i64 e.2.1] = some [.int .i64 e.2.1] := by unfold Program.keyLits; simp [Tryz.underlying3, h2]
  have a3 : Tryz.prog.keyLits (d + 1) 58 [.int .i64 e.2.2] = some [.int .i64 e.2.2] := by unfold Program.keyLits; simp [Tryz.underlying58, h3]
  unfold Program.keyLits
  simp [Tryz.underlying112, encE, cells34, cells9, cells3, cells25, a1, a2, a3]

theorem mapM_some {α β : Type} (f : α → Option β) : ∀ l : List α, (∀ x ∈ l, ∃ y, f x = some y) → ∃ ys, l.mapM f = some ys
  | [], _ => ⟨[], rfl⟩
  | x :: r, h => by
    obtain ⟨y, hy⟩ := h x (by simp)
    obtain ⟨ys, hys⟩ := mapM_some f r (fun z hz => h z (by simp [hz]))
    exact ⟨y :: ys, by simp [List.mapM_cons, hy, hys]⟩

/-- The i-th place of a listing. -/
theorem listing_place (es : List Ent) (h16 : es.length ≤ 16) (i : Nat) (hi : i < 16) : ((listing es).toList.drop (i * 3)).take 3 = encE ((es[i]?).getD (ByteArray.empty, 0, 0)) := by
  have hfl := flat_len es
  apply List.ext_getElem?
  intro j
  by_cases hj : j < 3
  · rw [List.getElem?_take_of_lt hj, List.getElem?_drop]
    simp only [listing]
    by_cases hi2 : i < es.length
    · rw [List.getElem?_append_left (by rw [hfl]; omega), flat_get es i j hi2 hj, List.getElem?_eq_getElem hi2]; rfl
    · rw [List.getElem?_append_right (by rw [hfl]; omega), List.getElem?_drop, hfl, List.getElem?_eq_none (l := es) (by omega)]
      have e1 : es.length * 3 + (i * 3 + j - es.length * 3) = i * 3 + j := by omega
      rw [e1]
      have hz := flat_get (List.replicate 16 (ByteArray.empty, 0, 0)) i j (by simp; omega) hj
      rw [List.getElem_replicate] at hz
      exact hz
  · rw [List.getElem?_take_eq_none (by omega), List.getElem?_eq_none (by rw [encE_len]; omega)]

theorem lits58 (d : Nat) (es : List Ent) (h16 : es.length ≤ 16) (hf : ∀ e ∈ es, Fits e) : ∃ ls, Tryz.prog.keyLits (d + 3) 221 (listing es).toList = some ls := by
  have hl : (listing es).toList.length = 48 := by simp [listing_size h16]
  obtain ⟨ys, hys⟩ := mapM_some (fun i => Tryz.prog.keyLits (d + 2) 112 (((listing es).toList.drop (i * 3)).take 3)) (List.range 16) (by
    intro i hi
    rw [List.mem_range] at hi
    rw [listing_place es h16 i hi]
    refine lits34 d _ ?_
    by_cases h : i < es.length
    · rw [List.getElem?_eq_getElem h]; exact hf _ (List.getElem_mem h)
    · rw [List.getElem?_eq_none (by omega)]; exact ⟨by decide, by decide, by decide⟩)
  refine ⟨ys.flatten, ?_⟩
  unfold Program.keyLits
  simp only [Tryz.underlying221, cells58, hl, if_true, cells34, hys, Option.map_some]

/-- What a listing is as a key. -/
def keyFor (P : Program) (es : List Ent) : Lit := (keyOf P 221 (.agg (listing es))).getD .nil

theorem keyOf_listing (es : List Ent) (h16 : es.length ≤ 16) (hf : ∀ e ∈ es, Fits e) : keyOf Tryz.prog 221 (.agg (listing es)) = some (keyFor Tryz.prog es) := by
  have hx : ∃ k, keyOf Tryz.prog 221 (.agg (listing es)) = some k := by
    have hfo : Value.formed Tryz.prog 221 (.agg (listing es)) = true := by
      unfold Value.formed
      rw [Tryz.underlying221]
      simp [cells58, listing_size h16]
    obtain ⟨n, hn⟩ : ∃ n, Tryz.prog.types.size + 1 = n + 3 := ⟨Tryz.prog.types.size - 2, by have := row58; omega⟩
    obtain ⟨ls, hls⟩ := lits58 n es h16 hf
    unfold keyOf
    rw [Tryz.underlying221]
    simp only [keyT58, hfo, Bool.and_self, if_true, Value.cells, hn, hls, Option.map_some]
    exact ⟨_, rfl⟩
  obtain ⟨k, hk⟩ := hx
  unfold keyFor
  rw [hk]; rfl


/-- Two listings of entries that have names are one just if the entries are. -/
theorem listing_inj {es fs : List Ent} (h1 : es.length ≤ 16) (h2 : fs.length ≤ 16) (n1 : ∀ e ∈ es, 1 ≤ e.1.size) (n2 : ∀ e ∈ fs, 1 ≤ e.1.size) (h : listing es = listing fs) : es = fs := by
  have key : ∀ i, i < 16 → (es[i]?).getD (ByteArray.empty, 0, 0) = (fs[i]?).getD (ByteArray.empty, 0, 0) := by
    intro i hi
    have a := listing_place es h1 i hi
    rw [h, listing_place fs h2 i hi] at a
    simp only [encE, List.cons.injEq, Value.string.injEq, Value.int.injEq, true_and, and_true] at a
    exact (Prod.ext a.1 (Prod.ext a.2.1 a.2.2)).symm
  have e0 : ByteArray.empty.size = 0 := rfl
  apply List.ext_getElem?
  intro i
  by_cases hi : i < 16
  · have k := key i hi
    cases ha : es[i]? with
    | none =>
      cases hb : fs[i]? with
      | none => rfl
      | some y =>
        rw [ha, hb] at k
        simp only [Option.getD_none, Option.getD_some] at k
        have := n2 y (List.mem_of_getElem? hb)
        rw [← k, e0] at this; omega
    | some x =>
      cases hb : fs[i]? with
      | none =>
        rw [ha, hb] at k
        simp only [Option.getD_none, Option.getD_some] at k
        have := n1 x (List.mem_of_getElem? ha)
        rw [k, e0] at this; omega
      | some y =>
        rw [ha, hb] at k
        simp only [Option.getD_some] at k
        rw [k]
  · rw [List.getElem?_eq_none (by omega), List.getElem?_eq_none (by omega)]

theorem keyFor_inj {es fs : List Ent} (h1 : es.length ≤ 16) (h2 : fs.length ≤ 16) (f1 : ∀ e ∈ es, Fits e) (f2 : ∀ e ∈ fs, Fits e) (n1 : ∀ e ∈ es, 1 ≤ e.1.size) (n2 : ∀ e ∈ fs, 1 ≤ e.1.size)
    (h : keyFor Tryz.prog es = keyFor Tryz.prog fs) : es = fs := by
  have a := keyOf_listing es h1 f1
  have b := keyOf_listing fs h2 f2
  rw [← h] at b
  have := law58.inj a b
  exact listing_inj h1 h2 n1 n2 (by simpa using this)

end Go.Proofs.YtogeefmegegnnaaGreat
