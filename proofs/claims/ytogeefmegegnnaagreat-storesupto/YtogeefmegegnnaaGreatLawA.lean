/-
  What is proved here: the law's world in memory ('LawAt'); 'id', 'place', 'kind'.
-/
import Derived.Test.YtogeefmegegnnaaGreatRefG
namespace Go.Proofs.YtogeefmegegnnaaGreat
open Go.RowKit Go.Sort Go.Shelf
set_option linter.unusedVariables false

def encI (xs : List Int) : List Value := xs.map (Value.int .i64)
def encB (xs : List Bool) : List Value := xs.map Value.bool

/-- The law's world at block W: the store's and the document's pointers, the three rows (what they hold), seven more cells. -/
structure LawAt (F : Nat → Prop) (w : World) (W s r : Nat) (ia ka pa : Option Addr) (ic kc pc : Nat) (ids : List Int) (known : List Bool) (paths : List Int) (c5 c6 c7 c8 c9 c10 c11 : Value) : Prop where
  fw : F W
  hW : w.heap[W]? = some (.cells #[.pointer (some ⟨s, 0, none⟩), .pointer (some ⟨r, 0, none⟩), .slice ia ids.length ic, .slice ka known.length kc, .slice pa paths.length pc, c5, c6, c7, c8, c9, c10, c11] 106 (0, 0))
  rowI : w.ownsRow 0 58 1 (.slice ia ids.length ic) ids.length (encI ids)
  rowK : w.ownsRow 0 4 1 (.slice ka known.length kc) known.length (encB known)
  rowP : w.ownsRow 0 3 1 (.slice pa paths.length pc) paths.length (encI paths)
  fi : ∀ g, (Value.slice ia ids.length ic).ownBlock = some g → F g
  fk : ∀ g, (Value.slice ka known.length kc).ownBlock = some g → F g
  fp : ∀ g, (Value.slice pa paths.length pc).ownBlock = some g → F g

section
variable {F : Nat → Prop} {w : World} {W s r : Nat} {ia ka pa : Option Addr} {ic kc pc : Nat} {ids : List Int} {known : List Bool} {paths : List Int} {c5 c6 c7 c8 c9 c10 c11 : Value}

theorem LawAt.keep {F' : Nat → Prop} {w' : World} (h : LawAt F w W s r ia ka pa ic kc pc ids known paths c5 c6 c7 c8 c9 c10 c11) (hF : ∀ k, F k → F' k) (hk : ∀ k, F k → w'.heap[k]? = w.heap[k]?) : LawAt F' w' W s r ia ka pa ic kc pc ids known paths c5 c6 c7 c8 c9 c10 c11 :=
  ⟨hF _ h.fw, (hk W h.fw).trans h.hW, ownsRow_keep h.rowI (fun g hg => hk g (h.fi g hg)), ownsRow_keep h.rowK (fun g hg => hk g (h.fk g hg)), ownsRow_keep h.rowP (fun g hg => hk g (h.fp g hg)), fun g hg => hF g (h.fi g hg), fun g hg => hF g (h.fk g hg), fun g hg => hF g (h.fp g hg)⟩

theorem LawAt.lt (h : LawAt F w W s r ia ka pa ic kc pc ids known paths c5 c6 c7 c8 c9 c10 c11) : W < w.heap.size := (Array.getElem?_eq_some_iff.1 h.hW).1

theorem LawAt.below {w' : World} (h : LawAt F w W s r ia ka pa ic kc pc ids known paths c5 c6 c7 c8 c9 c10 c11) (hb : Below w.heap.size w w') : LawAt F w' W s r ia ka pa ic kc pc ids known paths c5 c6 c7 c8 c9 c10 c11 :=
  ⟨h.fw, (hb.block W h.lt).trans h.hW, ownsRow_keep h.rowI (fun g hg => hb.block g (ownsRow_lt h.rowI hg)), ownsRow_keep h.rowK (fun g hg => hb.block g (ownsRow_lt h.rowK hg)), ownsRow_keep h.rowP (fun g hg => hb.block g (ownsRow_lt h.rowP hg)), h.fi, h.fk, h.fp⟩

theorem LawAt.c0 (h : LawAt F w W s r ia ka pa ic kc pc ids known paths c5 c6 c7 c8 c9 c10 c11) : w.cell? ⟨W, 0, none⟩ = some (.pointer (some ⟨s, 0, none⟩)) := by simp [World.cell?, h.hW]
theorem LawAt.c1 (h : LawAt F w W s r ia ka pa ic kc pc ids known paths c5 c6 c7 c8 c9 c10 c11) : w.cell? ⟨W, 1, none⟩ = some (.pointer (some ⟨r, 0, none⟩)) := by simp [World.cell?, h.hW]
theorem LawAt.c2 (h : LawAt F w W s r ia ka pa ic kc pc ids known paths c5 c6 c7 c8 c9 c10 c11) : w.cell? ⟨W, 2, none⟩ = some (.slice ia ids.length ic) := by simp [World.cell?, h.hW]
theorem LawAt.c3 (h : LawAt F w W s r ia ka pa ic kc pc ids known paths c5 c6 c7 c8 c9 c10 c11) : w.cell? ⟨W, 3, none⟩ = some (.slice ka known.length kc) := by simp [World.cell?, h.hW]
theorem LawAt.c4 (h : LawAt F w W s r ia ka pa ic kc pc ids known paths c5 c6 c7 c8 c9 c10 c11) : w.cell? ⟨W, 4, none⟩ = some (.slice pa paths.length pc) := by simp [World.cell?, h.hW]
theorem LawAt.fz (h : LawAt F w W s r ia ka pa ic kc pc ids known paths c5 c6 c7 c8 c9 c10 c11) (i : Nat) : w.frozen? ⟨W, i, none⟩ = false := by simp [World.frozen?, h.hW]

/-- A cell of a row of one-cell elements. -/
theorem row_one {w : World} {t : TypeId} {a : Option Addr} {n c : Nat} {xs : List Value} (h : w.ownsRow 0 t 1 (.slice a n c) n xs) {i : Nat} {v : Value} (hi : xs[i]? = some v) : ∃ g, a = some ⟨g, 0, none⟩ ∧ g < w.heap.size ∧ w.cell? ⟨g, i, none⟩ = some v ∧ i < n := by
  have hin : i < n := by have := (List.getElem?_eq_some_iff.1 hi).1; have := h.1; omega
  obtain ⟨g, cap, hv⟩ := slice_of_owns h (by omega)
  have ha := (Value.slice.inj hv).1
  subst ha
  refine ⟨g, rfl, ownsRow_lt h rfl, ?_, hin⟩
  have := h.cells (g := g) rfl i v hi
  rw [add_flat, Nat.zero_add] at this
  exact this

/-- The object of a raw number. -/
def idOf (ids : List Int) (n : Int) : Int := if 1 ≤ n ∧ n ≤ ids.length then ids.getD (n - 1).toNat 0 else n

set_option maxRecDepth 100000 in
set_option maxHeartbeats 2000000 in
theorem id_any (h : LawAt F w W s r ia ka pa ic kc pc ids known paths c5 c6 c7 c8 c9 c10 c11) (n : Int) (hlen : ids.length ≤ 400) :
    Calls Tryz.prog 78 #[.pointer (some ⟨W, 0, none⟩), .int .i64 n] w fun e w' => e = .returned (.int .i64 (idOf ids n)) ∧ w' = w := by
  have k2 := h.c2
  have hlt := h.lt
  by_cases h1 : 1 ≤ n
  · by_cases h2 : n ≤ (ids.length : Int)
    · obtain ⟨j, hj⟩ : ∃ j : Nat, n = (j : Int) + 1 := ⟨(n - 1).toNat, by omega⟩
      subst hj
      have hjl : j < ids.length := by omega
      obtain ⟨g, rfl, hgl, c, _⟩ := row_one h.rowI (i := j) (v := .int .i64 ids[j]) (by simp [encI, List.getElem?_eq_getElem hjl])
      have HE : Hid (idOf ids ((j : Int) + 1) = ids[j]) := by
        show _ = _
        unfold idOf
        rw [if_pos ⟨h1, h2⟩, show ((j : Int) + 1 - 1).toNat = j by omega]
        simp [hjl]
      have a1 : (j : Int) + 1 - 1 = j := by omega
      have a2 : (j : Int) < ids.length := by omega
      clear h
      go_enter Tryz.func78, Tryz.ntmps78
      go_wp2
      go_ret
      exact ⟨by rw [HE.out]; rfl, rfl⟩
    · have HE : Hid (idOf ids n = n) := by show _ = _; unfold idOf; rw [if_neg (fun h => h2 h.2)]
      have h2' : decide (n ≤ (ids.length : Int)) = false := decide_eq_false h2
      clear h
      go_enter Tryz.func78, Tryz.ntmps78
      go_wp2
      go_ret
      exact ⟨by rw [HE.out]; rfl, rfl⟩
  · have HE : Hid (idOf ids n = n) := by show _ = _; unfold idOf; rw [if_neg (fun h => h1 h.1)]
    have h1' : decide (1 ≤ n) = false := decide_eq_false h1
    clear h
    go_enter Tryz.func78, Tryz.ntmps78
    go_wp2
    go_ret
    exact ⟨by rw [HE.out]; rfl, rfl⟩

/-- Where an ID stands. -/
def placeOf (ids : List Int) (id : Int) : Option Nat := if 0 < id then ids.findIdx? (fun x => x == id) else none

set_option maxRecDepth 100000 in
set_option maxHeartbeats 2000000 in
theorem place_any (h : LawAt F w W s r ia ka pa ic kc pc ids known paths c5 c6 c7 c8 c9 c10 c11) (id : Int) (hlen : ids.length ≤ 400) :
    Calls Tryz.prog 80 #[.pointer (some ⟨W, 0, none⟩), .int .i64 id] w fun e w' => e = .returned (.int .i64 (placeI (placeOf ids id))) ∧ w' = w := by
  have k2 := h.c2
  have hlt := h.lt
  have HR : Hid (w.ownsRow 0 58 1 (.slice ia ids.length ic) ids.length (encI ids)) := h.rowI
  clear h
  go_enter Tryz.func80, Tryz.ntmps80
  go_wp2
  go_loopw [5] (fun i wr => ∃ k : Nat, k ≤ ids.length ∧ i = .int .i64 k ∧ wr = w ∧ Hid (∀ j (hj : j < ids.length), j < k → 0 < id → (ids[j] == id) = false)) (fun i _ => ids.length - (intOf i).toNat)
  case atStart => exact ⟨0, Nat.zero_le _, rfl, rfl, fun j hj h => by omega⟩
  case round =>
    obtain ⟨k, hk, rfl, rfl, HV⟩ := hrel
    by_cases hkl : k < ids.length
    · obtain ⟨g, rfl, hgl, c, _⟩ := row_one HR.out (i := k) (v := .int .i64 ids[k]) (by simp [encI, List.getElem?_eq_getElem hkl])
      cases he : (ids[k] == id) with
      | true =>
        have HE : Hid ((ids[k] == id) = true) := he
        by_cases hp : 0 < id
        · go_wp2
          go_ret
          refine ⟨?_, rfl⟩
          have e : placeOf ids id = some k := by
            unfold placeOf
            rw [if_pos hp]
            exact List.findIdx?_eq_some_iff_getElem.2 ⟨hkl, HE.out, fun j hj => by have := HV.out j (by omega) hj hp; simp [this]⟩
          rw [e]; rfl
        · have hp' : decide (0 < id) = false := decide_eq_false hp
          go_wp2
          go_roundw
          case rel => exact ⟨k + 1, by omega, by go_num, by trivial, fun j hj hjk h0 => absurd h0 hp⟩
          case measure => simp [intOf]; omega
      | false =>
        have HE : Hid ((ids[k] == id) = false) := he
        go_wp2
        go_roundw
        case rel =>
          refine ⟨k + 1, by omega, by go_num, by trivial, fun j hj hjk h0 => ?_⟩
          by_cases e : j = k
          · subst e; exact HE.out
          · exact HV.out j hj (by omega) h0
        case measure => simp [intOf]; omega
    · go_wp2
      go_ret
      refine ⟨?_, rfl⟩
      have e : placeOf ids id = none := by
        unfold placeOf
        split
        · next hp =>
          refine List.findIdx?_eq_none_iff.2 fun x hx => ?_
          obtain ⟨j, hj, rfl⟩ := List.getElem_of_mem hx
          exact HV.out j hj (by omega) hp
        · rfl
      rw [e]; rfl

set_option maxRecDepth 100000 in
set_option maxHeartbeats 2000000 in
theorem wkind_neg (at_ : Int) (hn : at_ < 0) : Calls Tryz.prog 81 #[.pointer (some ⟨W, 0, none⟩), .int .i64 at_] w fun e w' => e = .returned (.int .i64 0) ∧ w' = w := by
  go_enter Tryz.func81, Tryz.ntmps81
  go_wp2
  go_ret
  exact ⟨rfl, rfl⟩

set_option maxRecDepth 100000 in
set_option maxHeartbeats 2000000 in
theorem wkind_at {G : Nat → Prop} {ros : List Ob} (h : LawAt F w W s r ia ka pa ic kc pc ids known paths c5 c6 c7 c8 c9 c10 c11) (hr : RefInv G w r ros) (j : Nat) (hj : j < ros.length) :
    Calls Tryz.prog 81 #[.pointer (some ⟨W, 0, none⟩), .int .i64 (j : Int)] w fun e w' => e = .returned (.int .i64 ros[j].kind) ∧ w' = w := by
  have k1 := h.c1
  obtain ⟨a, cap, hra⟩ := hr
  have k2 := hra.c0
  have hm := hra.many
  obtain ⟨g, rfl, hgl, c0, _⟩ := row_obs hra.row rfl hj
  clear h hra
  go_enter Tryz.func81, Tryz.ntmps81
  go_wp2
  go_ret
  exact ⟨rfl, rfl⟩
end
end Go.Proofs.YtogeefmegegnnaaGreat
