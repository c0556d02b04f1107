/-
  What is proved here: what each small function of the objects' pool does to memory, said of its cells (Count, at, kind, File, NewPool, NewStore, add).
-/
import Derived.Test.YtogeefmegegnnaaGreatShelf
import Derived.WalkKit
import Derived.WalkSpells
import Derived.WalkLawsBesides
import Derived.Maps.OwnSet
import Derived.Maps.AppendAt
import Derived.Deep.RegionLawGrows
namespace Go.Proofs.YtogeefmegegnnaaGreat
open Go.RowKit
set_option linter.unusedVariables false

set_option maxRecDepth 100000 in
set_option maxHeartbeats 400000 in
theorem count_any (p : Nat) (a : Option Addr) (n cap : Nat) (w : World) (h0 : w.cell? ⟨p, 0, none⟩ = some (.slice a n cap)) :
    Calls Tryz.prog 70 #[.pointer (some ⟨p, 0, none⟩)] w fun e w' => e = .returned (.int .i64 n) ∧ w' = w := by
  go_enter Tryz.func70, Tryz.ntmps70
  go_wp2
  go_ret
  exact ⟨rfl, rfl⟩

theorem fld0 (c0 c1 c2 c3 : Value) (w : World) : (Instr.field 226 (.agg #[c0, c1, c2, c3]) 0).run Tryz.prog w = .ok c0 w := by kernel_rfl
theorem fld1 (c0 c1 c2 c3 : Value) (w : World) : (Instr.field 226 (.agg #[c0, c1, c2, c3]) 1).run Tryz.prog w = .ok c1 w := by kernel_rfl
theorem fld2 (c0 c1 c2 c3 : Value) (w : World) : (Instr.field 226 (.agg #[c0, c1, c2, c3]) 2).run Tryz.prog w = .ok c2 w := by kernel_rfl
theorem fld3 (c0 c1 c2 c3 : Value) (w : World) : (Instr.field 226 (.agg #[c0, c1, c2, c3]) 3).run Tryz.prog w = .ok c3 w := by kernel_rfl

set_option maxRecDepth 100000 in
set_option maxHeartbeats 400000 in
theorem at_any (p g n cap j : Nat) (k : Int) (d : ByteArray) (ea : Option Addr) (el ec : Nat) (h : Int) (w : World) (hp : p < w.heap.size) (hg : g < w.heap.size) (h0 : w.cell? ⟨p, 0, none⟩ = some (.slice (some ⟨g, 0, none⟩) n cap))
    (hn : j < n) (hm : n ≤ 400)
    (k0 : w.cell? ⟨g, j * 4, none⟩ = some (.int .i64 k)) (k1 : w.cell? ⟨g, j * 4 + 1, none⟩ = some (.string d)) (k2 : w.cell? ⟨g, j * 4 + 2, none⟩ = some (.slice ea el ec)) (k3 : w.cell? ⟨g, j * 4 + 3, none⟩ = some (.int .i64 h)) :
    Calls Tryz.prog 165 #[.pointer (some ⟨p, 0, none⟩), .int .i64 ((j : Int) + 1)] w fun e w' => e = .returned (.agg #[.int .i64 k, .string d, .slice ea el ec, .int .i64 h]) ∧ w' = w.alloc (.cells #[.int .i64 k, .string d, .slice ea el ec, .int .i64 h] 226) := by
  have e1 : ((j : Int) + 1 - 1) = j := by omega
  go_enter Tryz.func165, Tryz.ntmps165
  go_wp2
  exact bodyPost_ret (v := .agg #[.int .i64 k, .string d, .slice ea el ec, .int .i64 h]) (by simp [results, Tryz.results165, go_sem]) rfl ⟨rfl, rfl⟩

set_option maxRecDepth 100000 in
set_option maxHeartbeats 400000 in
/-- There is no such object. -/
theorem kind_none (p n cap : Nat) (a : Option Addr) (id : Int) (w : World) (h0 : w.cell? ⟨p, 0, none⟩ = some (.slice a n cap)) (hm : n ≤ 400) (hid : id < 1 ∨ (n : Int) < id) :
    Calls Tryz.prog 96 #[.pointer (some ⟨p, 0, none⟩), .int .i64 id] w fun e w' => e = .returned (.int .i64 0) ∧ w' = w := by
  by_cases h1 : id < 1
  · go_enter Tryz.func96, Tryz.ntmps96
    go_wp2
    go_ret
    exact ⟨rfl, rfl⟩
  · have h2 : (n : Int) < id := by omega
    go_enter Tryz.func96, Tryz.ntmps96
    go_wp2
    go_ret
    exact ⟨rfl, rfl⟩

set_option maxRecDepth 100000 in
set_option maxHeartbeats 400000 in
theorem kind_some (p g n cap j : Nat) (k : Int) (d : ByteArray) (ea : Option Addr) (el ec : Nat) (h : Int) (w : World) (hp : p < w.heap.size) (hg : g < w.heap.size) (h0 : w.cell? ⟨p, 0, none⟩ = some (.slice (some ⟨g, 0, none⟩) n cap))
    (hn : j < n) (hm : n ≤ 400)
    (k0 : w.cell? ⟨g, j * 4, none⟩ = some (.int .i64 k)) (k1 : w.cell? ⟨g, j * 4 + 1, none⟩ = some (.string d)) (k2 : w.cell? ⟨g, j * 4 + 2, none⟩ = some (.slice ea el ec)) (k3 : w.cell? ⟨g, j * 4 + 3, none⟩ = some (.int .i64 h)) :
    Calls Tryz.prog 96 #[.pointer (some ⟨p, 0, none⟩), .int .i64 ((j : Int) + 1)] w fun e w' => e = .returned (.int .i64 k) ∧ w' = w.alloc (.cells #[.int .i64 k, .string d, .slice ea el ec, .int .i64 h] 226) := by
  have hcon := fun W hp hg h0 k0 k1 k2 k3 => at_any p g n cap j k d ea el ec h W hp hg h0 hn hm k0 k1 k2 k3
  have t1 : ¬ ((j : Int) + 1 < 1) := by omega
  have f0 := fld0
  have t2 : ¬ ((n : Int) < (j : Int) + 1) := by omega
  go_enter Tryz.func96, Tryz.ntmps96
  go_wp2_with (go_at_call 165; refine (hcon _ hp hg h0 k0 k1 k2 k3).mono ?_; rintro e w' ⟨rfl, rfl⟩)
  go_ret
  exact ⟨rfl, rfl⟩

set_option maxRecDepth 100000 in
set_option maxHeartbeats 400000 in
theorem file_not (p n cap : Nat) (a : Option Addr) (id : Int) (w : World) (h0 : w.cell? ⟨p, 0, none⟩ = some (.slice a n cap)) (hm : n ≤ 400) (hid : id < 1 ∨ (n : Int) < id) :
    Calls Tryz.prog 145 #[.pointer (some ⟨p, 0, none⟩), .int .i64 id] w fun e w' => e = .returned (.tuple #[.string ByteArray.empty, .int .i64 13]) ∧ w' = w := by
  have hcon := kind_none p n cap a id w h0 hm hid
  go_enter Tryz.func145, Tryz.ntmps145
  go_wp2_with (go_at_call 96; refine hcon.mono ?_; rintro e w' ⟨rfl, rfl⟩)
  go_ret2
  exact ⟨rfl, rfl⟩

set_option maxRecDepth 100000 in
set_option maxHeartbeats 400000 in
theorem file_some (p g n cap j : Nat) (k : Int) (d : ByteArray) (ea : Option Addr) (el ec : Nat) (h : Int) (w : World) (hp : p < w.heap.size) (hg : g < w.heap.size) (h0 : w.cell? ⟨p, 0, none⟩ = some (.slice (some ⟨g, 0, none⟩) n cap))
    (hn : j < n) (hm : n ≤ 400)
    (k0 : w.cell? ⟨g, j * 4, none⟩ = some (.int .i64 k)) (k1 : w.cell? ⟨g, j * 4 + 1, none⟩ = some (.string d)) (k2 : w.cell? ⟨g, j * 4 + 2, none⟩ = some (.slice ea el ec)) (k3 : w.cell? ⟨g, j * 4 + 3, none⟩ = some (.int .i64 h)) :
    Calls Tryz.prog 145 #[.pointer (some ⟨p, 0, none⟩), .int .i64 ((j : Int) + 1)] w fun e w' => e = .returned (if k = 1 then .tuple #[.string d, .int .i64 0] else .tuple #[.string ByteArray.empty, .int .i64 13]) ∧ Below w.heap.size w w' := by
  have hkind := kind_some p g n cap j k d ea el ec h w hp hg h0 hn hm k0 k1 k2 k3
  have hcon := fun W hp hg h0 k0 k1 k2 k3 => at_any p g n cap j k d ea el ec h W hp hg h0 hn hm k0 k1 k2 k3
  by_cases hk : k = 1
  · subst hk
    rw [if_pos rfl]
    have hb : ∀ b o, b < w.heap.size → (w.alloc (.cells #[.int .i64 1, .string d, .slice ea el ec, .int .i64 h] 226)).cell? ⟨b, o, none⟩ = w.cell? ⟨b, o, none⟩ := fun b o hb => World.cell?_alloc_past _ _ _ hb
    have f1 := fld1
    go_enter Tryz.func145, Tryz.ntmps145
    go_wp2_with (first
      | (go_at_call 96; refine hkind.mono ?_; rintro e w' ⟨rfl, rfl⟩)
      | (go_at_call 165; refine (hcon _ (by simp; omega) (by simp; omega) (by rw [hb _ _ hp]; exact h0) (by rw [hb _ _ hg]; exact k0) (by rw [hb _ _ hg]; exact k1) (by rw [hb _ _ hg]; exact k2) (by rw [hb _ _ hg]; exact k3)).mono ?_; rintro e w' ⟨rfl, rfl⟩))
    go_ret2
    exact ⟨rfl, ((Below.refl _ _).alloc (Nat.le_refl _) _).alloc (by simp) _⟩
  · rw [if_neg hk]
    have hk' : (k == 1) = false := by simpa using hk
    go_enter Tryz.func145, Tryz.ntmps145
    go_wp2_with (go_at_call 96; refine hkind.mono ?_; rintro e w' ⟨rfl, rfl⟩)
    go_ret2
    exact ⟨rfl, ((Below.refl _ _).alloc (Nat.le_refl _) _)⟩

set_option maxRecDepth 100000 in
set_option maxHeartbeats 400000 in
theorem newPool_any (w : World) :
    Calls Tryz.prog 94 #[] w fun e w' => e = .returned (.pointer (some ⟨w.heap.size + 2, 0, none⟩)) ∧ w' = ((w.alloc (.map #[] 0)).alloc (.map #[] 0)).alloc (.cells #[.slice none 0 0, .map (some w.heap.size), .map (some (w.heap.size + 1)), .slice none 0 0, .bool false] 210) := by
  have hmm := @run_makeMap Tryz.prog
  go_enter Tryz.func94, Tryz.ntmps94
  go_wp2
  go_ret
  exact ⟨rfl, rfl⟩

set_option maxRecDepth 100000 in
set_option maxHeartbeats 400000 in
theorem newStore_any (w : World) :
    Calls Tryz.prog 49 #[] w fun e w' => e = .returned (.pointer (some ⟨w.heap.size + 3, 0, none⟩)) ∧ w' = (((w.alloc (.map #[] 0)).alloc (.map #[] 0)).alloc (.cells #[.slice none 0 0, .map (some w.heap.size), .map (some (w.heap.size + 1)), .slice none 0 0, .bool false] 210)).alloc (.cells #[.pointer (some ⟨w.heap.size + 2, 0, none⟩)] 141) := by
  go_enter Tryz.func49, Tryz.ntmps49
  go_wp2_with (go_at_call 94; refine (newPool_any _).mono ?_; rintro e w' ⟨rfl, rfl⟩)
  go_ret
  exact ⟨rfl, rfl⟩


theorem step_append_own_at {P : Program} {ops : Array Oper} {o : Oper} {a : Act} {w : World} {K : Act → World → Prop} {Q : Exit → Act → World → Prop} {E : Prop}
    (hg : o.guard = none) (s x : Operand) (t : TypeId) (hop : o.op = Op.call { callee := Callee.builtin Builtin.append, args := #[s, x], argTypes := #[t, t] })
    (base : Nat) (e : TypeId) (i : TypeInfo) (z : Value) (size bytes : Nat) (h1 : P.underlying t = some (.slice e)) (h2 : P.info? e = some i) (h3 : i.zero = some z) (h4 : i.size = size) (h5 : i.bytes = bytes) (h6 : z.cells.size = size) (h7 : 0 < size)
    (v : Value) (n : Nat) (olds : List Value) (hs : a.eval s = v) (hown : w.ownsRow base e size v n olds)
    (ad : Addr) (m c : Nat) (news : List Value) (hx : a.eval x = .slice (some ad) m c) (hn : news.length = m * size) (hc : ∀ j u, news[j]? = some u → w.cell? (ad.add j) = some u) (h1c : ∀ u ∈ news, u.oneCell' = true)
    (b1 : n + m ≤ maxLen) (b2 : (n + m) * bytes ≤ 140737488355328) (hbase : base ≤ w.heap.size)
    (hK : ∀ v' w', w'.ownsRow base e size v' (n + m) (olds ++ news) → w.grownBy w' v.ownBlock → (v'.ownBlock = v.ownBlock ∨ v'.ownBlock = some w.heap.size) → K (a.put o.dst v') w') :
    if Region.wanted o (yielded ops a.tmps) = true then Oper.wp P o a w K Q else E := by
  have hw : Region.wanted o (yielded ops a.tmps) = true := by simp [Region.wanted, hg]
  rw [if_pos hw]
  obtain ⟨v', w', hrun, r1, r2, _, r3⟩ := run_append_own_at (P := P) w base t o.type e i z size bytes h1 h2 h3 h4 h5 h6 h7 v n olds hown ad m c news hn hc h1c b1 b2 hbase
  unfold Oper.wp
  simp [execOp, hop, resolve, invoke, builtin, hs, hx, hrun, Result.andThen]
  exact hK v' w' r1 r2 r3

theorem info51 : (Tryz.prog.info? 226).map (fun i => (i.zero, i.size, i.bytes)) = some (some (.agg #[.int .i64 0, .string ByteArray.empty, .slice none 0 0, .int .i64 0]), 4, 56) := by kernel_rfl


theorem cells4 (w : World) (c0 c1 c2 c3 : Value) (t : TypeId) : ∀ j u, [c0, c1, c2, c3][j]? = some u → (w.alloc (.cells #[c0, c1, c2, c3] t)).drew.cell? ((⟨w.heap.size, 0, none⟩ : Addr).add j) = some u := by
  intro j u h
  match j, h with
  | 0, h => simpa [Addr.add] using h
  | 1, h => simpa [Addr.add] using h
  | 2, h => simpa [Addr.add] using h
  | 3, h => simpa [Addr.add] using h
  | j + 4, h => simp at h

theorem slice_of_owns {w : World} {base : Nat} {e : TypeId} {size : Nat} {v : Value} {n : Nat} {xs : List Value} (h : w.ownsRow base e size v n xs) (hn : 0 < n) : ∃ g cap, v = .slice (some ⟨g, 0, none⟩) n cap := by
  rcases h.2 with ⟨_, h0⟩ | ⟨g, cap, _, hv, _⟩
  · omega
  · exact ⟨g, cap, hv⟩

theorem grown_cell {w w1 : World} {o1 o2 : Obj} {r : Option Nat} (hg : ((w.alloc o1).alloc o2).drew.grownBy w1 r) {p : Nat} (hp : p < w.heap.size) (hr : some p ≠ r) {v : Value} {i : Nat} (h : w.cell? ⟨p, i, none⟩ = some v) : w1.cell? ⟨p, i, none⟩ = some v := by
  rw [World.cell?_of_block (a := ⟨p, i, none⟩) (hg.block p (by simp; omega) hr)]
  show ((w.alloc o1).alloc o2).cell? ⟨p, i, none⟩ = _
  rw [World.cell?_alloc_past _ _ _ (by simp; omega), World.cell?_alloc_past _ _ _ hp, h]

theorem grown_frozen {w w1 : World} {o1 o2 : Obj} {r : Option Nat} (hg : ((w.alloc o1).alloc o2).drew.grownBy w1 r) {p : Nat} (hp : p < w.heap.size) (hr : some p ≠ r) {i : Nat} (h : w.frozen? ⟨p, i, none⟩ = false) : w1.frozen? ⟨p, i, none⟩ = false := by
  rw [World.frozen?_of_block (a := ⟨p, i, none⟩) (hg.block p (by simp; omega) hr)]
  show ((w.alloc o1).alloc o2).frozen? ⟨p, i, none⟩ = _
  rw [World.frozen?_alloc_past _ _ _ (by simp; omega), World.frozen?_alloc_past _ _ _ hp, h]

/-- What 'add' leaves: the row of objects is one longer, and the pool's first cell leads to it. -/
def Added (w w' : World) (p : Nat) (a : Option Addr) (n cap : Nat) (xs news : List Value) : Prop :=
  ∃ g cap' w1, w1.ownsRow 0 226 4 (.slice (some ⟨g, 0, none⟩) (n + 1) cap') (n + 1) (xs ++ news) ∧ (∃ o1 o2, ((w.alloc o1).alloc o2).drew.grownBy w1 (Value.slice a n cap).ownBlock ∧ ((some g : Option Nat) = (Value.slice a n cap).ownBlock ∨ g = w.heap.size + 2)) ∧
    w' = w1.setCell ⟨p, 0, none⟩ (.slice (some ⟨g, 0, none⟩) (n + 1) cap')

set_option maxRecDepth 100000 in
set_option maxHeartbeats 800000 in
theorem add_some (p : Nat) (k h : Int) (d : ByteArray) (a : Option Addr) (n cap : Nat) (xs : List Value) (ea : Option Addr) (el ec : Nat) (w : World) (hp : p < w.heap.size) (hn : n < 400)
    (k0 : w.cell? ⟨p, 0, none⟩ = some (.slice a n cap)) (f0 : w.frozen? ⟨p, 0, none⟩ = false) (hown : w.ownsRow 0 226 4 (.slice a n cap) n xs) (hpa : some p ≠ (Value.slice a n cap).ownBlock) :
    Calls Tryz.prog 134 #[.pointer (some ⟨p, 0, none⟩), .agg #[.int .i64 k, .string d, .slice ea el ec, .int .i64 h]] w fun e w' => e = .returned (.tuple #[.int .i64 ((n : Int) + 1), .int .i64 0]) ∧ Added w w' p a n cap xs [.int .i64 k, .string d, .slice ea el ec, .int .i64 h] := by
  obtain ⟨i0, hi, hz0, hz1, hz2⟩ := info_parts info51
  have h1c : ∀ u ∈ [Value.int .i64 k, .string d, .slice ea el ec, .int .i64 h], u.oneCell' = true := by intro u hu; simp at hu; rcases hu with rfl | rfl | rfl | rfl <;> rfl
  have HO : Hid (w.ownsRow 0 226 4 (.slice a n cap) n xs) := hown
  have HP : Hid (some p ≠ (Value.slice a n cap).ownBlock) := hpa
  have H1 : Hid (∀ u ∈ [Value.int .i64 k, .string d, .slice ea el ec, .int .i64 h], u.oneCell' = true) := h1c
  clear hown hpa h1c
  go_enter Tryz.func134, Tryz.ntmps134
  go_wp2
  go_region_law (refine step_append_own_at rfl (.tmp 16) (.tmp 18) 206 rfl 0 226 i0 _ 4 56 Tryz.underlying206 hi hz0 hz1 hz2 rfl (by decide) (.slice a n cap) n xs (by simp [Act.eval]) ((HO.out.alloc _).alloc _) ⟨w.heap.size + 1, 0, none⟩ 1 1 [.int .i64 k, .string d, .slice ea el ec, .int .i64 h] (by simp [Act.eval]) rfl (by have q := cells4 (w.alloc (.cells #[.int .i64 k, .string d, .slice ea el ec, .int .i64 h] 226)) (.int .i64 k) (.string d) (.slice ea el ec) (.int .i64 h) 226; rw [World.size_alloc] at q; exact q) H1.out (by unfold maxLen; omega) (by omega) (Nat.zero_le _) ?_; intro v' w1 hown' hgrow hloc; obtain ⟨g, cap', rfl⟩ := slice_of_owns hown' (by omega); have k1' := grown_cell hgrow hp HP.out k0; have k2' := grown_frozen hgrow hp HP.out f0)
  all_goals (go_wp2; go_ret2; exact ⟨rfl, g, cap', w1, hown', ⟨_, _, hgrow, by simpa [Value.ownBlock] using hloc⟩, rfl⟩)

theorem Added.facts {w w' : World} {p : Nat} {a : Option Addr} {n cap : Nat} {xs news : List Value} (hA : Added w w' p a n cap xs news) {c1 c2 c3 c4 : Value} (hp : w.heap[p]? = some (.cells #[.slice a n cap, c1, c2, c3, c4] 210 (0, 0))) (hpa : some p ≠ (Value.slice a n cap).ownBlock) :
    ∃ g cap', w'.heap[p]? = some (.cells #[.slice (some ⟨g, 0, none⟩) (n + 1) cap', c1, c2, c3, c4] 210 (0, 0)) ∧ w'.ownsRow 0 226 4 (.slice (some ⟨g, 0, none⟩) (n + 1) cap') (n + 1) (xs ++ news) ∧ ((some g : Option Nat) = (Value.slice a n cap).ownBlock ∨ w.heap.size ≤ g) ∧
      w'.os = w.os ∧ w'.tape = w.tape ∧ w'.output = w.output ∧ w.heap.size ≤ w'.heap.size ∧ ∀ k, k < w.heap.size → k ≠ p → some k ≠ (Value.slice a n cap).ownBlock → w'.heap[k]? = w.heap[k]? := by
  obtain ⟨g, cap', w1, hown, ⟨o1, o2, hg, hloc⟩, rfl⟩ := hA
  have hlt : p < w.heap.size := (Array.getElem?_eq_some_iff.1 hp).1
  have hkeep : ∀ k, k < w.heap.size → some k ≠ (Value.slice a n cap).ownBlock → w1.heap[k]? = w.heap[k]? := by
    intro k hk hne
    rw [hg.block k (by simp; omega) hne]
    show ((w.alloc o1).alloc o2).heap[k]? = _
    rw [Below.heap_alloc _ _ _ (by simp; omega), Below.heap_alloc _ _ _ hk]
  have hw1 : w1.heap[p]? = some (.cells #[.slice a n cap, c1, c2, c3, c4] 210 (0, 0)) := by rw [hkeep p hlt hpa, hp]
  have hgp : g ≠ p := by
    rintro rfl
    rcases hloc with h | h
    · exact hpa h
    · omega
  have hs := hg.size
  simp at hs
  refine ⟨g, cap', ?_, ?_, ?_, ?_, ?_, ?_, ?_, ?_⟩
  · simp [World.setCell, Array.getElem?_modify, hw1]
  · obtain ⟨h1, h2⟩ := hown
    refine ⟨h1, ?_⟩
    rcases h2 with ⟨h, _⟩ | ⟨g0, cap0, cur, hv, hb, hh, r⟩
    · cases h
    · cases hv
      exact Or.inr ⟨g, cap', cur, rfl, hb, by rw [Below.heap_setCell _ _ _ _ hgp]; exact hh, r⟩
  · rcases hloc with h | h
    · exact Or.inl h
    · exact Or.inr (by omega)
  · exact hg.os
  · exact hg.tape
  · exact hg.output
  · simp; omega
  · intro k hk hkp hne
    rw [Below.heap_setCell _ _ _ _ hkp, hkeep k hk hne]

set_option maxRecDepth 100000 in
set_option maxHeartbeats 400000 in
theorem add_full (p : Nat) (k h : Int) (d : ByteArray) (a : Option Addr) (n cap : Nat) (ea : Option Addr) (el ec : Nat) (w : World) (hp : p < w.heap.size) (hn : 400 ≤ n)
    (k0 : w.cell? ⟨p, 0, none⟩ = some (.slice a n cap)) :
    Calls Tryz.prog 134 #[.pointer (some ⟨p, 0, none⟩), .agg #[.int .i64 k, .string d, .slice ea el ec, .int .i64 h]] w fun e w' => e = .returned (.tuple #[.int .i64 0, .int .i64 11]) ∧ w' = w.alloc (.cells #[.int .i64 k, .string d, .slice ea el ec, .int .i64 h] 226) := by
  go_enter Tryz.func134, Tryz.ntmps134
  go_wp2
  go_ret2
  exact ⟨rfl, rfl⟩

set_option maxRecDepth 100000 in
set_option maxHeartbeats 400000 in
theorem clone_any (s : ByteArray) (w : World) (hlim : s.size ≤ 281474976710656) :
    Calls Tryz.prog 101 #[.string s] w fun e w' => e = .returned (.string s) ∧ Below w.heap.size w w' := by
  have hcon := Tryz.stringslite_Clone s w hlim
  go_enter Tryz.func101, Tryz.ntmps101
  go_wp2_with (go_at_call 172; refine hcon.mono ?_; rintro e w' ⟨rfl, hb⟩)
  go_ret
  exact ⟨rfl, hb⟩

end Go.Proofs.YtogeefmegegnnaaGreat
