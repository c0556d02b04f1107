/-
  What is proved here: kind, at and measure over a pool that holds a list of objects.
-/
import Derived.Test.YtogeefmegegnnaaGreatKey
namespace Go.Proofs.YtogeefmegegnnaaGreat
open Go.RowKit Go.Sort Go.Shelf
set_option linter.unusedVariables false
variable {ft : PTail}

/-- An object as the pool holds it: its kind, a file's bytes, the list of a directory (its memory, and its entries), how much stands one below the other in it. -/
structure Ob where
  kind : Int
  data : ByteArray
  ea : Option Addr
  el : Nat
  ec : Nat
  ents : List Ent
  high : Int

def Ob.cells (o : Ob) : List Value := [.int .i64 o.kind, .string o.data, .slice o.ea o.el o.ec, .int .i64 o.high]
def obCells (objs : List Ob) : List Value := objs.flatMap Ob.cells

theorem obCells_len (objs : List Ob) : (obCells objs).length = objs.length * 4 := by
  induction objs with
  | nil => rfl
  | cons e r ih => simp only [obCells, List.flatMap_cons, List.length_append, List.length_cons] at *; rw [ih]; simp only [Ob.cells, List.length_cons, List.length_nil]; omega

theorem obCells_get : ∀ (es : List Ob) (i j : Nat) (hi : i < es.length), j < 4 → (obCells es)[i * 4 + j]? = (es[i].cells)[j]?
  | [], i, j, hi, _ => by simp at hi
  | e :: r, 0, j, _, hj => by
    simp only [obCells, List.flatMap_cons, Nat.zero_mul, Nat.zero_add, List.getElem_cons_zero]
    rw [List.getElem?_append_left (by simpa [Ob.cells] using hj)]
  | e :: r, i + 1, j, hi, hj => by
    have ih := obCells_get r i j (by simpa using hi) hj
    have h4 : e.cells.length = 4 := rfl
    simp only [obCells, List.flatMap_cons, List.getElem_cons_succ] at ih ⊢
    rw [List.getElem?_append_right (by rw [h4]; omega), h4, ← ih]
    congr 1; omega

/-- The pool at block p, its row of objects. -/
structure Pooled (ft : PTail) (w : World) (p : Nat) (a : Option Addr) (n cap bf bd : Nat) (objs : List Ob) : Prop where
  at_ : PoolAt ft w p a n cap bf bd
  row : w.ownsRow 0 226 4 (.slice a n cap) n (obCells objs)
  len : objs.length = n
  many : n ≤ 400

theorem Pooled.below {w w' : World} {p : Nat} {a : Option Addr} {n cap bf bd : Nat} {objs : List Ob} (h : Pooled ft w p a n cap bf bd objs) (hb : Below w.heap.size w w') : Pooled ft w' p a n cap bf bd objs :=
  ⟨h.at_.below hb, ownsRow_keep h.row (fun g hg => hb.block g (ownsRow_lt h.row hg)), h.len, h.many⟩

theorem Pooled.cells {w : World} {p : Nat} {a : Option Addr} {n cap bf bd : Nat} {objs : List Ob} (h : Pooled ft w p a n cap bf bd objs) {i : Nat} (hi : i < objs.length) :
    ∃ g, a = some ⟨g, 0, none⟩ ∧ g < w.heap.size ∧ w.cell? ⟨g, i * 4, none⟩ = some (.int .i64 objs[i].kind) ∧ w.cell? ⟨g, i * 4 + 1, none⟩ = some (.string objs[i].data) ∧
      w.cell? ⟨g, i * 4 + 2, none⟩ = some (.slice objs[i].ea objs[i].el objs[i].ec) ∧ w.cell? ⟨g, i * 4 + 3, none⟩ = some (.int .i64 objs[i].high) := by
  have hn : i < n := by rw [← h.len]; exact hi
  rcases h.row.2 with ⟨_, h0⟩ | ⟨g, cap', cur, hv, _, hg, _, _, hcur, ht⟩
  · omega
  · cases hv
    have key : ∀ j u, j < 4 → (objs[i].cells)[j]? = some u → w.cell? ⟨g, i * 4 + j, none⟩ = some u := by
      intro j u hj hu
      rw [← obCells_get objs i j hi hj, ← ht, List.getElem?_take_of_lt (by omega), Array.getElem?_toList] at hu
      simp [World.cell?, hg, hu]
    exact ⟨g, rfl, (Array.getElem?_eq_some_iff.1 hg).1, key 0 _ (by omega) rfl, key 1 _ (by omega) rfl, key 2 _ (by omega) rfl, key 3 _ (by omega) rfl⟩

/-- The kind of the object of an ID; 0: there is none. -/
def kindOf (objs : List Ob) (id : Int) : Int := if 1 ≤ id then ((objs[(id - 1).toNat]?).map (·.kind)).getD 0 else 0
def highOf (objs : List Ob) (id : Int) : Int := ((objs[(id - 1).toNat]?).map (·.high)).getD 0

theorem kindOf_in {objs : List Ob} {j : Nat} (hj : j < objs.length) : kindOf objs ((j : Int) + 1) = objs[j].kind := by
  unfold kindOf
  rw [if_pos (by omega), show ((j : Int) + 1 - 1).toNat = j by omega, List.getElem?_eq_getElem hj]; rfl
theorem highOf_in {objs : List Ob} {j : Nat} (hj : j < objs.length) : highOf objs ((j : Int) + 1) = objs[j].high := by
  unfold highOf
  rw [show ((j : Int) + 1 - 1).toNat = j by omega, List.getElem?_eq_getElem hj]; rfl
theorem kindOf_out {objs : List Ob} {id : Int} (h : id < 1 ∨ (objs.length : Int) < id) : kindOf objs id = 0 := by
  unfold kindOf
  rcases h with h | h
  · rw [if_neg (by omega)]
  · rw [if_pos (by omega), List.getElem?_eq_none (by omega)]; rfl

theorem kind_any (p : Nat) (a : Option Addr) (n cap bf bd : Nat) (objs : List Ob) (id : Int) (w : World) (h : Pooled ft w p a n cap bf bd objs) :
    Calls Tryz.prog 96 #[.pointer (some ⟨p, 0, none⟩), .int .i64 id] w fun e w' => e = .returned (.int .i64 (kindOf objs id)) ∧ Below w.heap.size w w' := by
  by_cases hid : id < 1 ∨ (n : Int) < id
  · rw [kindOf_out (by rw [h.len]; exact hid)]
    exact (kind_none p n cap a id w h.at_.c0 h.many hid).mono fun e w' ⟨he, hw⟩ => ⟨he, by rw [hw]; exact Below.refl _ _⟩
  · obtain ⟨j, rfl⟩ : ∃ j : Nat, id = (j : Int) + 1 := ⟨(id - 1).toNat, by omega⟩
    have hj : j < objs.length := by rw [h.len]; omega
    obtain ⟨g, rfl, hg, c0, c1, c2, c3⟩ := h.cells hj
    rw [kindOf_in hj]
    exact (kind_some p g n cap j _ _ _ _ _ _ w h.at_.lt hg h.at_.c0 (by omega) h.many c0 c1 c2 c3).mono fun e w' ⟨he, hw⟩ => ⟨he, by rw [hw]; exact (Below.refl _ _).alloc (Nat.le_refl _) _⟩

theorem at_in (p : Nat) (a : Option Addr) (n cap bf bd : Nat) (objs : List Ob) (j : Nat) (hj : j < objs.length) (w : World) (h : Pooled ft w p a n cap bf bd objs) :
    Calls Tryz.prog 165 #[.pointer (some ⟨p, 0, none⟩), .int .i64 ((j : Int) + 1)] w fun e w' => e = .returned (.agg #[.int .i64 objs[j].kind, .string objs[j].data, .slice objs[j].ea objs[j].el objs[j].ec, .int .i64 objs[j].high]) ∧ Below w.heap.size w w' := by
  obtain ⟨g, rfl, hg, c0, c1, c2, c3⟩ := h.cells hj
  exact (at_any p g n cap j _ _ _ _ _ _ w h.at_.lt hg h.at_.c0 (by rw [← h.len]; exact hj) h.many c0 c1 c2 c3).mono fun e w' ⟨he, hw⟩ => ⟨he, by rw [hw]; exact (Below.refl _ _).alloc (Nat.le_refl _) _⟩

set_option maxRecDepth 100000 in
set_option maxHeartbeats 400000 in
theorem height_in (p : Nat) (a : Option Addr) (n cap bf bd : Nat) (objs : List Ob) (j : Nat) (hj : j < objs.length) (w : World) (h : Pooled ft w p a n cap bf bd objs) :
    Calls Tryz.prog 184 #[.pointer (some ⟨p, 0, none⟩), .int .i64 ((j : Int) + 1)] w fun e w' => e = .returned (.int .i64 objs[j].high) ∧ Below w.heap.size w w' := by
  have hcon := at_in p a n cap bf bd objs j hj w h
  have f3 := fld3
  go_enter Tryz.func184, Tryz.ntmps184
  go_wp2_with (go_at_call 165; refine hcon.mono ?_; rintro e w' ⟨rfl, hb⟩)
  go_ret
  exact ⟨rfl, hb⟩

/-- GetFile's answer. -/
theorem file_any (p : Nat) (a : Option Addr) (n cap bf bd : Nat) (objs : List Ob) (id : Int) (w : World) (h : Pooled ft w p a n cap bf bd objs) :
    Calls Tryz.prog 145 #[.pointer (some ⟨p, 0, none⟩), .int .i64 id] w fun e w' => Below w.heap.size w w' ∧
      ((kindOf objs id ≠ 1 ∧ e = .returned (.tuple #[.string ByteArray.empty, .int .i64 13])) ∨ ∃ j, ∃ hj : j < objs.length, id = (j : Int) + 1 ∧ objs[j].kind = 1 ∧ e = .returned (.tuple #[.string objs[j].data, .int .i64 0])) := by
  by_cases hid : id < 1 ∨ (n : Int) < id
  · exact (file_not p n cap a id w h.at_.c0 h.many hid).mono fun e w' ⟨he, hw⟩ => ⟨by rw [hw]; exact Below.refl _ _, .inl ⟨by rw [kindOf_out (by rw [h.len]; exact hid)]; decide, he⟩⟩
  · obtain ⟨j, rfl⟩ : ∃ j : Nat, id = (j : Int) + 1 := ⟨(id - 1).toNat, by omega⟩
    have hj : j < objs.length := by rw [h.len]; omega
    obtain ⟨g, rfl, hg, c0, c1, c2, c3⟩ := h.cells hj
    refine (file_some p g n cap j _ _ _ _ _ _ w h.at_.lt hg h.at_.c0 (by omega) h.many c0 c1 c2 c3).mono fun e w' ⟨he, hw⟩ => ⟨hw, ?_⟩
    by_cases hk : objs[j].kind = 1
    · rw [if_pos hk] at he; exact .inr ⟨j, hj, rfl, hk, he⟩
    · rw [if_neg hk] at he; exact .inl ⟨by rw [kindOf_in hj]; exact hk, he⟩

end Go.Proofs.YtogeefmegegnnaaGreat
