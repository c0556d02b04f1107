/-
  What is proved here: 'lent', 'kept': the caller's list, with others in its spare room.
-/
import Derived.Test.YtogeefmegegnnaaGreatLawE
namespace Go.Proofs.YtogeefmegegnnaaGreat
open Go.RowKit Go.Sort Go.Shelf
set_option linter.unusedVariables false

theorem stop_here {p : Prop} (h : Hid p) : p := h.out
def mk77 : Ent := (ByteArray.empty, -77, 0)

theorem infoE : (Tryz.prog.info? 112).map (fun i => (i.zero, i.size, i.bytes)) = some (some (.agg #[.string ByteArray.empty, .int .i64 0, .int .i64 0]), 3, 32) := by kernel_rfl
theorem infoE3 : (Tryz.prog.info? 112).map (·.size) = some 3 := by kernel_rfl

theorem set3 (pre : List Value) (a b c : Value) : ∀ (rest : List Value), 3 ≤ rest.length → (((pre ++ rest).set pre.length a).set (pre.length + 1) b).set (pre.length + 2) c = pre ++ [a, b, c] ++ rest.drop 3
  | [], h => by simp at h
  | [_], h => by simp at h
  | [_, _], h => by simp at h
  | r0 :: r1 :: r2 :: r', _ => by
    rw [List.set_append_right _ _ (Nat.le_refl _), Nat.sub_self, List.set_append_right _ _ (by omega), Nat.add_sub_cancel_left, List.set_append_right _ _ (by omega), Nat.add_sub_cancel_left]
    simp

/-- An entry written into a row of its own. -/
theorem put3 {w : World} {base : Nat} {t : TypeId} {g n N C : Nat} {A : List Ent} {rest : List Value} (h : w.ownsRow base t 3 (.slice (some ⟨g, 0, none⟩) N C) N (flat A ++ rest)) (hA : A.length = n) (hr : 3 ≤ rest.length) (e : Ent) :
    (((w.setCell ⟨g, n * 3, none⟩ (.string e.1)).setCell ⟨g, n * 3 + 1, none⟩ (.int .i64 e.2.1)).setCell ⟨g, n * 3 + 2, none⟩ (.int .i64 e.2.2)).ownsRow base t 3 (.slice (some ⟨g, 0, none⟩) N C) N (flat (A ++ [e]) ++ rest.drop 3) := by
  have h1 := (h.stored (n * 3) (.string e.1)).1
  have h2 := (h1.stored (n * 3 + 1) (.int .i64 e.2.1)).1
  have h3 := (h2.stored (n * 3 + 2) (.int .i64 e.2.2)).1
  have hl : (flat A).length = n * 3 := by rw [flat_len, hA]
  have e3 := set3 (flat A) (.string e.1) (.int .i64 e.2.1) (.int .i64 e.2.2) rest hr
  rw [hl] at e3
  rw [e3] at h3
  rw [flat_append, flat_one_item]
  exact h3

set_option maxRecDepth 100000 in
set_option maxHeartbeats 4000000 in
theorem lent_some (b off m c0 : Nat) (es : List Ent) (w : World) (hl : es.length = m) (hbl : b < w.heap.size) (hbig : (m + 3) * 32 ≤ 140737488355328) (hc : ∀ j u, (flat es)[j]? = some u → w.cell? ⟨b, off + j, none⟩ = some u) :
    Calls Tryz.prog 142 #[.slice (some ⟨b, off, none⟩) m c0] w fun e w' => ∃ g, e = .returned (.slice (some ⟨g, 0, none⟩) (m + 3) (m + 3)) ∧ w'.ownsRow w.heap.size 112 3 (.slice (some ⟨g, 0, none⟩) (m + 3) (m + 3)) (m + 3) (flat (es ++ List.replicate 3 mk77)) ∧ Below w.heap.size w w' := by
  obtain ⟨i0, hi, hz0, hz1, hz2⟩ := info_parts infoE
  have HC : Hid (∀ j u, (flat es)[j]? = some u → w.cell? ⟨b, off + j, none⟩ = some u) := hc
  have HL : Hid (es.length = m) := hl
  clear hc hl
  go_enter Tryz.func142, Tryz.ntmps142
  go_wp2_with (at_make; refine wpList_make_full _ rfl _ _ 91 rfl 0 112 i0 _ 3 Tryz.underlying91 hi hz0 hz1 .i64 .i64 _ _ (m + 3) rfl rfl rfl rfl ?_ ?_ (Nat.zero_le _) ?_; go_must (rw [hz2]; omega); go_must (unfold maxLen; omega); intro w3 hown3 hg3; obtain ⟨cur, HB, HCS⟩ := made_block hown3; have HB3 := grown_none (Below.refl w.heap.size w) hg3; refine stop_here ?_)
  refine (show Hid _ from (?_ : wpList _ _ _ _ _ _))
  clear hown3 hg3
  have c1 : Hid ((flat es).length = Nat.min m (m + 3) * 3) := by show _ = _; rw [flat_len, HL.out, show Nat.min m (m + 3) = m from Nat.min_eq_left (by omega)]
  have c2 : Hid (∀ j v, (flat es)[j]? = some v → w3.cell? ((⟨b, off, none⟩ : Addr).add j) = some v) := fun j v hv => by rw [add_flat, HB3.out.cell (p := ⟨b, off + j, none⟩) hbl]; exact HC.out j v hv
  have c3 : Hid (0 + (flat es).length ≤ cur.size) := by show _ ≤ _; rw [flat_len, HL.out, HCS.out]; omega
  have c4 : Hid ((flat es ++ cur.toList.drop (m * 3)).toArray.toList = cur.toList.take 0 ++ flat es ++ cur.toList.drop (0 + (flat es).length)) := by show _ = _; rw [flat_len, HL.out]; simp
  go_wp2_with (refine wpList_copyK rfl (.tmp 9) (.tmp 10) 91 91 rfl 112 Tryz.underlying91 3 infoE3 w.heap.size 0 (m + 3) (m + 3) ⟨b, off, none⟩ m c0 rfl rfl cur 112 HB.out (flat es) c1.out c2.out c3.out (flat_one es) (flat es ++ cur.toList.drop (m * 3)).toArray c4.out ?_; intro w4 H4 hg4)
  have hb4 : Below w.heap.size w w4 := HB3.out.grown hg4 HB3.out.size (fun k h => by cases h; exact Nat.le_refl _)
  have hrl : (cur.toList.drop (m * 3)).length = 9 := by rw [List.length_drop, Array.length_toList, HCS.out]; omega
  have hown4 : w4.ownsRow w.heap.size 112 3 (.slice (some ⟨w.heap.size, 0, none⟩) (m + 3) (m + 3)) (m + 3) (flat es ++ cur.toList.drop (m * 3)) := by
    refine ⟨by rw [List.length_append, flat_len, HL.out, hrl]; omega, .inr ⟨w.heap.size, m + 3, _, rfl, Nat.le_refl _, H4.out, Nat.le_refl _, by unfold maxLen; omega, ?_, ?_⟩⟩
    · simp only [List.size_toArray, List.length_append, flat_len, HL.out, hrl]; omega
    · simp only
      exact List.take_of_length_le (by rw [List.length_append, flat_len, HL.out, hrl]; omega)
  have HO4 : Hid (∃ rest : List Value, rest.length = 9 ∧ w4.ownsRow w.heap.size 112 3 (.slice (some ⟨w.heap.size, 0, none⟩) (m + 3) (m + 3)) (m + 3) (flat (es ++ List.replicate 0 mk77) ++ rest)) := ⟨_, hrl, by simpa using hown4⟩
  clear hown4 hrl c1 c2 c3 c4 HB HCS H4 hg4 HB3
  go_wp2
  go_loopw [4] (fun i wr => ∃ k : Nat, k ≤ 3 ∧ i = .int .i64 ((m : Int) + k) ∧ Below w.heap.size w wr ∧ Hid (∃ rest : List Value, rest.length = (3 - k) * 3 ∧ wr.ownsRow w.heap.size 112 3 (.slice (some ⟨w.heap.size, 0, none⟩) (m + 3) (m + 3)) (m + 3) (flat (es ++ List.replicate k mk77) ++ rest))) (fun i _ => m + 3 - (intOf i).toNat)
  case atStart => exact ⟨0, by omega, by simp, hb4, HO4.out⟩
  case round =>
    obtain ⟨k, hk, rfl, hb, HR⟩ := hrel
    obtain ⟨rest, hrl, hown⟩ := HR.out
    by_cases hlt : k < 3
    · have hfz := fun j => hown.frozenAt j
      obtain ⟨n, hn⟩ : ∃ n : Nat, n = m + k := ⟨_, rfl⟩
      have hni : (m : Int) + (k : Int) = (n : Int) := by omega
      have hcs : ∀ j, j < 3 → ∃ v, wr.cell? ⟨w.heap.size, n * 3 + j, none⟩ = some v := fun j hj => by
        rw [hown.cellAt (n * 3 + j) (by omega)]
        exact ⟨_, List.getElem?_eq_getElem (by rw [List.length_append, flat_len, List.length_append, HL.out, List.length_replicate, hrl]; omega)⟩
      obtain ⟨v0, e0⟩ := hcs 0 (by omega)
      obtain ⟨v1, e1⟩ := hcs 1 (by omega)
      obtain ⟨v2, e2⟩ := hcs 2 (by omega)
      rw [Nat.add_zero] at e0
      have hnm : (n : Int) < (m : Int) + 3 := by omega
      have hgl : w.heap.size < wr.heap.size := ownsRow_lt hown rfl
      have HN : Hid (n = m + k) := hn
      have HO : Hid _ := hown
      clear hcs hn HR hown
      rw [hni]
      go_wp2
      refine ⟨⟨k + 1, by omega, by have := HN.out; go_num, ((hb.setCell (Nat.le_refl _) _).setCell (Nat.le_refl _) _).setCell (Nat.le_refl _) _, rest.drop 3, by rw [List.length_drop, hrl]; omega, ?_⟩, by simp [intOf]; omega⟩
      have := put3 (n := n) HO.out (by rw [List.length_append, HL.out, List.length_replicate, HN.out]) (by omega) mk77
      rw [List.append_assoc, ← List.replicate_succ'] at this
      exact this
    · have hk3 : k = 3 := by omega
      subst hk3
      have hr0 : rest = [] := List.eq_nil_of_length_eq_zero (by omega)
      subst hr0
      rw [List.append_nil] at hown
      have HO : Hid _ := hown
      clear hown HR
      go_wp2
      go_ret
      exact ⟨_, rfl, HO.out, hb⟩
set_option maxRecDepth 100000 in
theorem copy_nil (w : World) (g n : Nat) : (Builtin.copy_ #[91, 91] 3 #[.slice (some ⟨g, 0, none⟩) n n, .slice none 0 0]).run Tryz.prog w = .ok (.int .i64 0) w := by
  have hu : Tryz.prog.underlying 91 = some (.slice 112) := Tryz.underlying91
  have hl := run_loadCells_list (P := Tryz.prog) w
  cases hq : Tryz.prog.info? 112 with
  | none => have := infoE3; simp [hq] at this
  | some i =>
    simp [Builtin.copy_, run_underlying hu, Builtin.lenOf, Builtin.firstCells, sizeOf, typeInfo, hq]
    rfl

set_option maxRecDepth 100000 in
set_option maxHeartbeats 4000000 in
theorem lent_nil (w : World) :
    Calls Tryz.prog 142 #[.slice none 0 0] w fun e w' => ∃ g, e = .returned (.slice (some ⟨g, 0, none⟩) 3 3) ∧ w'.ownsRow w.heap.size 112 3 (.slice (some ⟨g, 0, none⟩) 3 3) 3 (flat (List.replicate 3 mk77)) ∧ Below w.heap.size w w' := by
  obtain ⟨i0, hi, hz0, hz1, hz2⟩ := info_parts infoE
  go_enter Tryz.func142, Tryz.ntmps142
  go_wp2_with (at_make; refine wpList_make_full _ rfl _ _ 91 rfl 0 112 i0 _ 3 Tryz.underlying91 hi hz0 hz1 .i64 .i64 _ _ 3 rfl rfl rfl rfl ?_ ?_ (Nat.zero_le _) ?_; go_must (rw [hz2]; omega); go_must (unfold maxLen; omega); intro w3 hown3 hg3; refine stop_here ?_)
  refine (show Hid _ from (?_ : wpList _ _ _ _ _ _))
  have hb3 : Below w.heap.size w w3 := (grown_none (Below.refl w.heap.size w) hg3).out
  have hcp := copy_nil w3 w.heap.size 3
  have HO3 : Hid (∃ rest : List Value, rest.length = 9 ∧ w3.ownsRow w.heap.size 112 3 (.slice (some ⟨w.heap.size, 0, none⟩) 3 3) 3 (flat ([] ++ List.replicate 0 mk77) ++ rest)) := by
    obtain ⟨h1, h2⟩ := hown3
    exact ⟨_, h1, h1, by rcases h2 with ⟨h, _⟩ | ⟨g, c, cur, hv, _, r⟩; cases h; cases hv; exact .inr ⟨_, _, cur, rfl, Nat.le_refl _, r⟩⟩
  clear hown3 hg3
  go_wp2
  go_loopw [4] (fun i wr => ∃ k : Nat, k ≤ 3 ∧ i = .int .i64 (k : Int) ∧ Below w.heap.size w wr ∧ Hid (∃ rest : List Value, rest.length = (3 - k) * 3 ∧ wr.ownsRow w.heap.size 112 3 (.slice (some ⟨w.heap.size, 0, none⟩) 3 3) 3 (flat ([] ++ List.replicate k mk77) ++ rest))) (fun i _ => 3 - (intOf i).toNat)
  case atStart => exact ⟨0, by omega, by simp, hb3, HO3.out⟩
  case round =>
    obtain ⟨n, hk, rfl, hb, HR⟩ := hrel
    obtain ⟨rest, hrl, hown⟩ := HR.out
    by_cases hlt : n < 3
    · have hfz := fun j => hown.frozenAt j
      have hcs : ∀ j, j < 3 → ∃ v, wr.cell? ⟨w.heap.size, n * 3 + j, none⟩ = some v := fun j hj => by
        rw [hown.cellAt (n * 3 + j) (by omega)]
        exact ⟨_, List.getElem?_eq_getElem (by rw [List.length_append, flat_len, List.length_append, List.length_replicate, hrl]; simp; omega)⟩
      obtain ⟨v0, e0⟩ := hcs 0 (by omega)
      obtain ⟨v1, e1⟩ := hcs 1 (by omega)
      obtain ⟨v2, e2⟩ := hcs 2 (by omega)
      rw [Nat.add_zero] at e0
      have hnm : (n : Int) < 3 := by omega
      have hgl : w.heap.size < wr.heap.size := ownsRow_lt hown rfl
      have HO : Hid _ := hown
      clear hcs HR hown
      go_wp2
      refine ⟨⟨n + 1, by omega, by go_num, ((hb.setCell (Nat.le_refl _) _).setCell (Nat.le_refl _) _).setCell (Nat.le_refl _) _, rest.drop 3, by rw [List.length_drop, hrl]; omega, ?_⟩, by simp [intOf]; omega⟩
      have := put3 (n := n) HO.out (by simp) (by omega) mk77
      rw [List.append_assoc, ← List.replicate_succ'] at this
      exact this
    · have hk3 : n = 3 := by omega
      subst hk3
      have hr0 : rest = [] := List.eq_nil_of_length_eq_zero (by omega)
      subst hr0
      rw [List.append_nil, List.nil_append] at hown
      have HO : Hid _ := hown
      clear hown HR
      go_wp2
      go_ret
      exact ⟨_, rfl, HO.out, hb⟩

theorem lent_gen (a : Option Addr) (m c0 : Nat) (es : List Ent) (w : World) (hl : Listed w a m es) (hbig : (m + 3) * 32 ≤ 140737488355328) (hnil : m = 0 → a = none ∧ c0 = 0) :
    Calls Tryz.prog 142 #[.slice a m c0] w fun e w' => ∃ g, e = .returned (.slice (some ⟨g, 0, none⟩) (m + 3) (m + 3)) ∧ w'.ownsRow w.heap.size 112 3 (.slice (some ⟨g, 0, none⟩) (m + 3) (m + 3)) (m + 3) (flat (es ++ List.replicate 3 mk77)) ∧ Below w.heap.size w w' := by
  rcases Nat.eq_zero_or_pos m with rfl | hp
  · obtain ⟨rfl, rfl⟩ := hnil rfl
    have : es = [] := List.eq_nil_of_length_eq_zero hl.1
    subst this
    exact lent_nil w
  · obtain ⟨b, off, rfl, hbl, hc⟩ := hl.2 hp
    exact lent_some b off m c0 es w hl.1 hbl hbig hc
set_option maxRecDepth 100000 in
theorem ldE (W : World) (g o : Nat) (x : Ent) (c0 : W.cell? ⟨g, o, none⟩ = some (.string x.1)) (c1 : W.cell? ⟨g, o + 1, none⟩ = some (.int .i64 x.2.1)) (c2 : W.cell? ⟨g, o + 2, none⟩ = some (.int .i64 x.2.2)) : (loadVar 112 ⟨g, o, none⟩).run Tryz.prog W = .ok (.agg #[.string x.1, .int .i64 x.2.1, .int .i64 x.2.2]) W := by
  unfold loadVar
  go_simp
theorem guardE (op : BinOp) (W : World) (x y : Operand) (X Y : Array Value) : (eqGuard op 112 x y (.agg X) (.agg Y)).run Tryz.prog W = .ok () W := guardRun (by kernel_rfl) op W x y X Y

set_option maxRecDepth 100000 in
set_option maxHeartbeats 4000000 in
theorem kept_gen (g : Nat) (a : Option Addr) (m c0 : Nat) (es : List Ent) (w : World) (hl : Listed w a m es) (hbig : (m + 3) * 32 ≤ 140737488355328) (hnil : m = 0 → a = none ∧ c0 = 0) (b0 : Nat)
    (hin : w.ownsRow b0 112 3 (.slice (some ⟨g, 0, none⟩) (m + 3) (m + 3)) (m + 3) (flat (es ++ List.replicate 3 mk77))) :
    Calls Tryz.prog 144 #[.slice (some ⟨g, 0, none⟩) (m + 3) (m + 3), .slice a m c0] w fun e w' => e = .returned (.bool true) ∧ Below w.heap.size w w' := by
  have hlent := lent_gen a m c0 es w hl hbig hnil
  obtain ⟨ls, hls⟩ : ∃ ls, ls = es ++ List.replicate 3 mk77 := ⟨_, rfl⟩
  have HLL : Hid (ls.length = m + 3) := by rw [hls, List.length_append, hl.1, List.length_replicate]; rfl
  rw [← hls] at hin hlent
  have HI : Hid (w.ownsRow b0 112 3 (.slice (some ⟨g, 0, none⟩) (m + 3) (m + 3)) (m + 3) (flat ls)) := hin
  have hgl : g < w.heap.size := ownsRow_lt hin rfl
  clear hin hls hl hnil
  go_enter Tryz.func144, Tryz.ntmps144
  go_wp2_with fail
  refine hlent.mono ?_
  rintro e w1 ⟨gw, rfl, hown1, hb1⟩
  have HO : Hid (w1.ownsRow w.heap.size 112 3 (.slice (some ⟨gw, 0, none⟩) (m + 3) (m + 3)) (m + 3) (flat ls)) := hown1
  clear hlent hown1
  go_wp2
  go_loopw [6] (fun i wr => ∃ k : Nat, k ≤ m + 3 ∧ i = .int .i64 (k : Int) ∧ (∃ q, wr = w1.drewN q)) (fun i _ => m + 3 - (intOf i).toNat)
  case atStart => exact ⟨0, by omega, rfl, ⟨0, rfl⟩⟩
  case round =>
    obtain ⟨k, hk, rfl, ⟨q, rfl⟩⟩ := hrel
    by_cases hlt : k < m + 3
    · have hke : k < ls.length := by rw [HLL.out]; exact hlt
      obtain ⟨p0, p1, p2⟩ := row_cells (off := 0) (owns_cells HI.out) hke
      obtain ⟨q0, q1, q2⟩ := row_cells (off := 0) (owns_cells HO.out) hke
      rw [Nat.zero_add] at p0 p1 p2 q0 q1 q2
      obtain ⟨x, hx⟩ : ∃ x, x = ls[k] := ⟨_, rfl⟩
      rw [← hx] at p0 p1 p2 q0 q1 q2
      have HL1 : Hid (∀ q, (loadVar 112 ⟨g, k * 3, none⟩).run Tryz.prog (w1.drewN q) = .ok (.agg #[.string x.1, .int .i64 x.2.1, .int .i64 x.2.2]) (w1.drewN q)) := fun q => ldE _ g (k * 3) x ((hb1.cell (p := ⟨g, k * 3, none⟩) hgl).trans p0) ((hb1.cell (p := ⟨g, k * 3 + 1, none⟩) hgl).trans p1) ((hb1.cell (p := ⟨g, k * 3 + 2, none⟩) hgl).trans p2)
      have HL2 : Hid (∀ q, (loadVar 112 ⟨gw, k * 3, none⟩).run Tryz.prog (w1.drewN q) = .ok (.agg #[.string x.1, .int .i64 x.2.1, .int .i64 x.2.2]) (w1.drewN q)) := fun q => ldE _ gw (k * 3) x q0 q1 q2
      have hkm : (k : Int) < (m : Int) + 3 := by omega
      clear p0 p1 p2 q0 q1 q2 hx
      go_wp2
      refine wp_region_quiet_lit (by kernel_rfl) (by kernel_rfl) ?_
      iterate 3 quiet_step (fail)
      refine wpQuiet_load_at rfl 112 _ rfl ⟨g, k * 3, none⟩ rfl (.agg #[.string x.1, .int .i64 x.2.1, .int .i64 x.2.2]) (by rintro _ ⟨n, rfl⟩; rw [World.drewN_drewN]; exact HL1.out _) ?_
      go_frame
      iterate 3 quiet_step (fail)
      refine wpQuiet_load_at rfl 112 _ rfl ⟨gw, k * 3, none⟩ rfl (.agg #[.string x.1, .int .i64 x.2.1, .int .i64 x.2.2]) (by rintro _ ⟨n, rfl⟩; rw [World.drewN_drewN]; exact HL2.out _) ?_
      go_frame
      refine wpQuiet_bin rfl .neq 112 112 _ _ rfl (.agg #[.string x.1, .int .i64 x.2.1, .int .i64 x.2.2]) (.agg #[.string x.1, .int .i64 x.2.1, .int .i64 x.2.2]) (.bool (!(decide (x = x)))) rfl rfl (by rintro _ ⟨n, rfl⟩; exact guardE _ _ _ _ _ _) (by rintro _ ⟨n, rfl⟩; exact neqEntry _ x x) ?_
      go_frame
      refine wpQuiet_nil ?_
      rintro _ ⟨nq, rfl⟩
      simp only [decide_true, Bool.not_true]
      go_wp2
      go_roundw
      case rel => exact ⟨k + 1, by omega, by go_num, ⟨_, rfl⟩⟩
      case measure => simp [intOf]; omega
    · go_wp2
      go_ret
      exact ⟨rfl, below_drewN hb1 q⟩
end Go.Proofs.YtogeefmegegnnaaGreat
