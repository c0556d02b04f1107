/-
  What is proved here: 'num'; 'still': the held lists read as they were written.
-/
import Derived.Test.YtogeefmegegnnaaGreatLawF
namespace Go.Proofs.YtogeefmegegnnaaGreat
open Go.RowKit Go.Sort Go.Shelf
set_option linter.unusedVariables false

set_option maxRecDepth 100000 in
theorem num_any (e : Int) (w : World) : Calls Tryz.prog 46 #[.int .i64 e] w fun r w' => r = .returned (.int .i64 e) ∧ w' = w := by
  go_enter Tryz.func46, Tryz.ntmps46
  go_wp2
  go_ret
  exact ⟨rfl, rfl⟩

/-- A held list: where it lies, its length, its capacity. -/
abbrev HeldL := Option Addr × Nat × Nat
def encH (h : HeldL) : Value := .slice h.1 h.2.1 h.2.2
def markE (i : Nat) : Ent := (ByteArray.empty, -1000 - ((i / 4 : Nat) : Int), 0)
/-- The i-th of them is full of its mark. -/
def Full (w : World) (i : Nat) (h : HeldL) : Prop := ∀ j, j < h.2.1 → ∃ g, h.1 = some ⟨g, 0, none⟩ ∧ w.cell? ⟨g, j * 3, none⟩ = some (.string (markE i).1) ∧ w.cell? ⟨g, j * 3 + 1, none⟩ = some (.int .i64 (markE i).2.1) ∧ w.cell? ⟨g, j * 3 + 2, none⟩ = some (.int .i64 (markE i).2.2)

set_option maxRecDepth 100000 in
set_option maxHeartbeats 4000000 in
theorem still_any (W : Nat) (ea : Option Addr) (ec : Nat) (hs : List HeldL) (w : World) (hW : W < w.heap.size) (e8 : w.cell? ⟨W, 8, none⟩ = some (.slice none 0 0)) (e9 : w.cell? ⟨W, 9, none⟩ = some (.slice ea hs.length ec)) (e10 : w.cell? ⟨W, 10, none⟩ = some (.slice none 0 0)) (e11 : w.cell? ⟨W, 11, none⟩ = some (.slice none 0 0))
    (row : w.ownsRow 0 91 1 (.slice ea hs.length ec) hs.length (hs.map encH)) (hfull : ∀ i (hi : i < hs.length), Full w i hs[i]) (hlen : hs.length ≤ 1000000000) (hl : ∀ h ∈ hs, h.2.1 ≤ 1000000000) :
    Calls Tryz.prog 48 #[.pointer (some ⟨W, 8, none⟩)] w fun e w' => e = .returned (.bool true) ∧ w' = w := by
  have HR : Hid (w.ownsRow 0 91 1 (.slice ea hs.length ec) hs.length (hs.map encH)) := row
  have HF : Hid (∀ i (hi : i < hs.length), Full w i hs[i]) := hfull
  have HLs : Hid (∀ h ∈ hs, h.2.1 ≤ 1000000000) := hl
  obtain ⟨n, hn⟩ : ∃ n, n = hs.length := ⟨_, rfl⟩
  have HN : Hid (n = hs.length) := hn
  rw [← hn] at e9 hlen
  clear row hfull hl hn
  go_enter Tryz.func48, Tryz.ntmps48
  go_wp2
  go_loopw [3] (fun i wr => i = .int .i64 0 ∧ wr = w) (fun _ _ => 0)
  case atStart => exact ⟨rfl, rfl⟩
  case round =>
    obtain ⟨rfl, rfl⟩ := hrel
    go_wp2
    go_loopw [6] (fun i wq => ∃ k : Nat, k ≤ n ∧ i = .int .i64 (k : Int) ∧ wq = wr) (fun i _ => n - (intOf i).toNat)
    case atStart => exact ⟨0, Nat.zero_le _, rfl, rfl⟩
    case round =>
      obtain ⟨k, hk, rfl, rfl⟩ := hrel
      by_cases hlt : k < n
      · have hkl : k < hs.length := by rw [← HN.out]; exact hlt
        obtain ⟨⟨ha, hm, hc⟩, hh⟩ : ∃ h : HeldL, h = hs[k] := ⟨_, rfl⟩
        have hro := HR.out
        rw [← HN.out] at hro
        obtain ⟨ge, hea, hgel, ce, _⟩ := row_one hro (i := k) (v := .slice ha hm hc) (by rw [List.getElem?_map, List.getElem?_eq_getElem hkl, ← hh]; rfl)
        subst hea
        have hmb : hm ≤ 1000000000 := by have := HLs.out _ (List.getElem_mem hkl); rw [← hh] at this; exact this
        have HFk : Hid (Full wr k (ha, hm, hc)) := by have := HF.out k hkl; rw [← hh] at this; exact this
        have hkn : (k : Int) < (n : Int) := by omega
        have hk0 : (0 : Int) ≤ (k : Int) := by omega
        clear hh hro
        rename World => wz
        go_wp2
        go_loopw [7] (fun i wq => ∃ j : Nat, j ≤ hm ∧ i = .int .i64 (j : Int) ∧ wq = wz) (fun i _ => hm - (intOf i).toNat)
        case atStart => exact ⟨0, Nat.zero_le _, rfl, rfl⟩
        case round =>
          obtain ⟨j, hj, rfl, rfl⟩ := hrel
          by_cases hjl : j < hm
          · obtain ⟨g, hga, g0, g1, g2⟩ := HFk.out j hjl
            simp only at hga
            subst hga
            have hjm : (j : Int) < (hm : Int) := by omega
            have m1 : (markE k).1.toList = [] := by show ByteArray.empty.toList = []; simp only [ByteArray.toList_eq]; decide
            have m2 : (markE k).2.1 = -1000 - (k : Int) / 4 := by show -1000 - ((k / 4 : Nat) : Int) = _; omega
            have m3 : (markE k).2.2 = 0 := rfl
            go_wp2
            go_roundw
            case rel => exact ⟨j + 1, by omega, by go_num, by trivial⟩
            case measure => simp [intOf]; omega
          · go_wp2
            go_roundw
            case rel => exact ⟨k + 1, by omega, by go_num, by trivial⟩
            case measure => simp [intOf]; omega
      · rename World => wz
        go_wp2
        go_loopw [8] (fun i wq => i = .int .i64 0 ∧ wq = wz) (fun _ _ => 0)
        case atStart => exact ⟨rfl, rfl⟩
        case round =>
          obtain ⟨rfl, rfl⟩ := hrel
          rename World => wy
          go_wp2
          go_loopw [10] (fun i wq => i = .int .i64 0 ∧ wq = wy) (fun _ _ => 0)
          case atStart => exact ⟨rfl, rfl⟩
          case round =>
            obtain ⟨rfl, rfl⟩ := hrel
            go_wp2
            go_ret
            exact ⟨rfl, rfl⟩
end Go.Proofs.YtogeefmegegnnaaGreat
