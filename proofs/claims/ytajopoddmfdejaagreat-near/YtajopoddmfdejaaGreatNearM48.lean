/-
  What is proved here: canopykeep's made: a store, and the object of a tree in it, whatever steps came in. the library's slices.SortFunc over changes is, at its own numbers, that which the shelf's contracts speak of. Status of a tree that is its base: nothing is told. Status of a tree that is its base, and of a workspace: nothing is told, and nothing has changed. Status of a workspace whose tree is its base's object: nothing is told, and nothing has changed.
-/
import Derived.Test.YtajopoddmfdejaaGreatNearM47
import Derived.Shelf.Small.Bits
import Derived.Shelf.Small.Strs
import Derived.Shelf.Strconv.Itoa0
import Derived.Shelf.LaysM
import Derived.Shelf.Strconv.Clone
import Derived.Shelf.Strings.Search1
import Derived.Shelf.Strings.Search2
import Derived.Shelf.Strings.Cut
import Derived.Shelf.Strings.Shaped
import Derived.Shelf.SlGeneric
import Derived.Shelf.SlSortCmp.SmallK
import Derived.Ground.SlsfProg
import Derived.Test.YtajopoddmfdejaaGreatProg
import Derived.Test.YtajopoddmfdejaaGreatNearM45
import Derived.Deep.RegionHeld3
import Derived.Shelf.SlSortCmp.NoneTotal
import Derived.Test.YtajopoddmfdejaaGreatNearM34
namespace Go.Proofs.YtajopoddmfdejaaGreat
open Go.RowKit Go.Sort Go.Shelf
set_option linter.unusedVariables false

theorem MSt.below {W wr : World} {s p : Nat} {B : WB} {objs : List Ob} {N lim : Nat} (h : MSt W wr s p B objs N lim) : Below W.heap.size W wr := by
  obtain ⟨_, _, _, _, hO, _⟩ := h
  exact hO.1

set_option maxRecDepth 100000 in
set_option maxHeartbeats 4000000 in
theorem made_walk (W : World) (a : Option Addr) (len cap : Nat) (hS : StepsAt W a len) (hlen : len ≤ maxLen) :
    Calls Tryz.prog 11 #[.slice a len cap] W fun e w' => ∃ s p id, e = .returned (.tuple #[.pointer (some ⟨s, 0, none⟩), .int .i64 id, .bool true]) ∧ Made W w' s p id := by
  have hst := first_store W
  have HS : Hid _ := hS
  unfold maxLen at hlen
  clear hS
  go_enter Tryz.func11, Tryz.ntmps11
  go_wp2_with fail
  refine Calls.mono hst ?_
  rintro e w1 ⟨s, p, rfl, hF⟩
  have H1 : Hid _ := first_dir hF
  clear hst hF
  go_wp2_with fail
  refine Calls.mono H1.out ?_
  rintro e w2 ⟨rfl, objs, h1, hF⟩
  obtain ⟨tg, hO, hSt⟩ := first_tags hF (one_exact h1).sound
  have hck := qcheckout (i := 2) hSt (Nat.le_refl _) (id := 1) (by rw [LTok]; exact ⟨by rw [one_kind h1]; rfl, by rw [one_high h1]; decide⟩)
  have H2 : Hid _ := hck
  have HO : Hid _ := And.intro h1 hO
  clear hck hSt hF h1 hO H1
  go_wp2_with fail
  refine Calls.mono H2.out ?_
  rintro e w3 ⟨B, rfl, tg', m, hQ⟩
  have H3 : Hid _ := m_e HO.out.1 (HO.out.2.any (fun h => h) m) hQ
  clear H2 m hQ
  go_wp2_with fail
  refine Calls.mono H3.out ?_
  rintro e w4 ⟨rfl, hM⟩
  have HM : Hid _ := hM
  clear H3 hM
  go_wp2
  go_loopw [9] (fun i wr => ∃ k : Nat, k ≤ len ∧ k ≤ 90 ∧ i = .int .i64 (k : Int) ∧ Hid (MSt W wr s p B objs (2 + k) (500 + k * 500))) (fun i _ => 90 - (intOf i).toNat)
  case atStart => exact ⟨0, Nat.zero_le _, Nat.zero_le _, rfl, HM⟩
  case round =>
    obtain ⟨k, hk, hk9, rfl, HR⟩ := hrel
    by_cases hlt : k < len
    · by_cases hl9 : k < 90
      · obtain ⟨b, o, rfl, hb, hst⟩ := HS.out.at_ (by omega)
        obtain ⟨kd, x, y, d, h1, h2, h3, h4, c0, c1, c2, c3⟩ := hst k hlt
        have hbel : Below W.heap.size W wr := MSt.below HR.out
        have e0 := (hbel.cell (p := ⟨b, o + k * 4, none⟩) hb).trans c0
        have e1 := (hbel.cell (p := ⟨b, o + k * 4 + 1, none⟩) hb).trans c1
        have e2 := (hbel.cell (p := ⟨b, o + k * 4 + 2, none⟩) hb).trans c2
        have e3 := (hbel.cell (p := ⟨b, o + k * 4 + 3, none⟩) hb).trans c3
        have hbr : b < wr.heap.size := Nat.lt_of_lt_of_le hb hbel.size
        have hdo := m_step HR.out (by omega) h1 h2 h3 h4
        have HD : Hid _ := hdo
        clear hdo hst c0 c1 c2 c3 hbel h1 h2 h3 h4 HR
        go_wp2_with (go_at_call 14; refine Calls.mono HD.out ?_; rintro e w5 ⟨er, rfl, hM5⟩; have HM5 : Hid _ := hM5; clear hM5)
        go_roundw
        case rel => exact ⟨k + 1, by omega, by omega, by go_num, by have := HM5.out; rw [show 2 + k + 1 = 2 + (k + 1) by omega, show 500 + k * 500 + 500 = 500 + (k + 1) * 500 by omega] at this; exact this⟩
        case measure => simp [intOf]; omega
      · have hk90 : k = 90 := by omega
        subst hk90
        have ht := m_told (by omega) HR.out
        have HT : Hid _ := ht
        clear ht HR
        go_wp2_with fail
        refine Calls.mono HT.out ?_
        rintro e w5 ⟨rfl, hM5⟩
        have HC : Hid _ := m_commit HO.out.1 (by omega) (by omega) hM5
        clear hM5 HT
        go_wp2_with fail
        refine Calls.mono HC.out ?_
        rintro e w6 ⟨id, rfl, hid, hMd⟩
        have HMD : Hid _ := hMd
        clear HC hMd
        have hid' : (0 : Int) < id := by omega
        go_wp2
        exact bodyPost_ret (v := .tuple #[.pointer (some ⟨s, 0, none⟩), .int .i64 id, .bool true]) (by simp [results, Tryz.results11, go_sem]) rfl ⟨s, p, id, rfl, HMD.out⟩
    · have ht := m_told (by omega) HR.out
      have HT : Hid _ := ht
      clear ht HR
      go_wp2_with fail
      refine Calls.mono HT.out ?_
      rintro e w5 ⟨rfl, hM5⟩
      have HC : Hid _ := m_commit HO.out.1 (by omega) (by omega) hM5
      clear hM5 HT
      go_wp2_with fail
      refine Calls.mono HC.out ?_
      rintro e w6 ⟨id, rfl, hid, hMd⟩
      have HMD : Hid _ := hMd
      clear HC hMd
      have hid' : (0 : Int) < id := by omega
      go_wp2
      exact bodyPost_ret (v := .tuple #[.pointer (some ⟨s, 0, none⟩), .int .i64 id, .bool true]) (by simp [results, Tryz.results11, go_sem]) rfl ⟨s, p, id, rfl, HMD.out⟩

end Go.Proofs.YtajopoddmfdejaaGreat

namespace Go.Proofs
open Go.Shelf
end Go.Proofs

namespace Go.Proofs.YtajopoddmfdejaaGreat
open Go.RowKit Go.Sort Go.Shelf
set_option linter.unusedVariables false

/-- The cells that compare reads first. -/
def CmpCells (n sv bt dr ow : Nat) (s0 s1 s2 s3 s4 nm nm2 : ByteArray) (k id k2 id2 : Int) (W : World) : Prop :=
  W.cell? ⟨sv, 0, none⟩ = some (.pointer (some ⟨bt, 0, none⟩)) ∧ W.cell? ⟨sv, 1, none⟩ = some (.pointer (some ⟨dr, 0, none⟩)) ∧ W.cell? ⟨sv, 2, none⟩ = some (.map (some ow)) ∧
  W.cell? ⟨n, 0, none⟩ = some (.string s0) ∧ W.cell? ⟨n, 1, none⟩ = some (.string s1) ∧ W.cell? ⟨n, 2, none⟩ = some (.string s2) ∧ W.cell? ⟨n, 3, none⟩ = some (.string s3) ∧ W.cell? ⟨n, 4, none⟩ = some (.string s4) ∧
  W.cell? ⟨n + 1, 0, none⟩ = some (.string nm) ∧ W.cell? ⟨n + 1, 1, none⟩ = some (.int .i64 k) ∧ W.cell? ⟨n + 1, 2, none⟩ = some (.int .i64 id) ∧
  W.cell? ⟨n + 2, 1, none⟩ = some (.int .i64 k2) ∧ W.cell? ⟨n + 2, 2, none⟩ = some (.int .i64 id2)

theorem CmpCells.keep {n sv bt dr ow : Nat} {s0 s1 s2 s3 s4 nm nm2 : ByteArray} {k id k2 id2 : Int} {W W' : World} (h : CmpCells n sv bt dr ow s0 s1 s2 s3 s4 nm nm2 k id k2 id2 W) (h0 : ∀ o, W'.cell? ⟨sv, o, none⟩ = W.cell? ⟨sv, o, none⟩) (h1 : ∀ o, W'.cell? ⟨n, o, none⟩ = W.cell? ⟨n, o, none⟩) (h2 : ∀ o, W'.cell? ⟨n + 1, o, none⟩ = W.cell? ⟨n + 1, o, none⟩) (h3 : ∀ o, W'.cell? ⟨n + 2, o, none⟩ = W.cell? ⟨n + 2, o, none⟩) : CmpCells n sv bt dr ow s0 s1 s2 s3 s4 nm nm2 k id k2 id2 W' := by
  unfold CmpCells at h ⊢
  simp only [h0, h1, h2, h3]
  exact h

end Go.Proofs.YtajopoddmfdejaaGreat

namespace Go.Proofs.YtajopoddmfdejaaGreat
open Go.RowKit Go.Sort Go.Shelf
set_option linter.unusedVariables false

end Go.Proofs.YtajopoddmfdejaaGreat

namespace Go.Proofs.YtajopoddmfdejaaGreat
open Go.RowKit Go.Sort Go.Shelf
set_option linter.unusedVariables false

section
variable {s i p : Nat} {B : WB} {objs : List Ob}

end
end Go.Proofs.YtajopoddmfdejaaGreat
