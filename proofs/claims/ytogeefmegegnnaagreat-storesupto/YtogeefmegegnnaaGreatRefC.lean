/-
  What is proved here: the document's own answer: 'same', 'Find', 'put'.
-/
import Derived.Test.YtogeefmegegnnaaGreatRefB
import Derived.StillTailTactics
namespace Go.Proofs.YtogeefmegegnnaaGreat
open Go.RowKit Go.Sort Go.Shelf
set_option linter.unusedVariables false

theorem neqRun {t : TypeId} (P : Program) (W : World) (x y : Ent) (h : (binOp .neq t (.agg #[.string x.1, .int .i64 x.2.1, .int .i64 x.2.2]) (.agg #[.string y.1, .int .i64 y.2.1, .int .i64 y.2.2])).run P W = (if x.fst.toList = y.fst.toList then
      if x.snd.fst = y.snd.fst then
        if x.snd.snd = y.snd.snd then Result.ok (Value.bool false) W else Result.ok (Value.bool true) W
      else Result.ok (Value.bool true) W
    else Result.ok (Value.bool true) W)) : (binOp .neq t (.agg #[.string x.1, .int .i64 x.2.1, .int .i64 x.2.2]) (.agg #[.string y.1, .int .i64 y.2.1, .int .i64 y.2.2])).run P W = .ok (.bool (!(decide (x = y)))) W := by
  rw [h]
  by_cases e : x = y
  · subst e; simp
  · rw [decide_eq_false e]
    split
    · next h1 =>
      split
      · next h2 =>
        split
        · next h3 => exact absurd (Prod.ext (bytes_eq h1) (Prod.ext h2 h3)) e
        · rfl
      · rfl
    · rfl
set_option maxRecDepth 100000 in
theorem neqItem (W : World) (x y : Ent) : (binOp .neq 159 (.agg #[.string x.1, .int .i64 x.2.1, .int .i64 x.2.2]) (.agg #[.string y.1, .int .i64 y.2.1, .int .i64 y.2.2])).run Tryz.prog W = .ok (.bool (!(decide (x = y)))) W := by
  refine neqRun _ W x y ?_
  go_simp
set_option maxRecDepth 100000 in
theorem neqEntry (W : World) (x y : Ent) : (binOp .neq 112 (.agg #[.string x.1, .int .i64 x.2.1, .int .i64 x.2.2]) (.agg #[.string y.1, .int .i64 y.2.1, .int .i64 y.2.2])).run Tryz.prog W = .ok (.bool (!(decide (x = y)))) W := by
  refine neqRun _ W x y ?_
  go_simp

theorem wpQuiet_load_at {P : Program} {ops : Array Oper} {C : World → Prop} {Q : Act → Prop} {o : Oper} {rest : List Oper} {a : Act} (hg : o.guard = none) (ty : TypeId) (x : Operand) (h : o.op = .load ty x) (ad : Addr) (hx : a.eval x = .pointer (some ad))
    (cs : Value) (hC : ∀ w, C w → (loadVar ty ad).run P w = .ok cs w) (hk : wpQuiet P ops C Q rest (a.put o.dst cs)) : wpQuiet P ops C Q (o :: rest) a := by
  have hw : Region.wanted o (yielded ops a.tmps) = true := by simp [Region.wanted, hg]
  refine wpQuiet_step fun K hK => ?_
  rw [if_pos hw]
  refine ⟨_, fun w hw => ?_, hK _ hk⟩
  unfold Oper.quietAt execOp
  simp only [h, hx, Instr.loadAt, Instr.sureAddr, Sem.run_bind, Sem.run_pure, Result.andThen_ok, hC w hw]
  exact ⟨rfl, rfl⟩

theorem wpQuiet_bin {P : Program} {ops : Array Oper} {C : World → Prop} {Q : Act → Prop} {o : Oper} {rest : List Oper} {a : Act} (hg : o.guard = none) (op : BinOp) (t u : TypeId) (x y : Operand) (h : o.op = .binOp op t x y u) (X Y v : Value) (hx : a.eval x = X) (hy : a.eval y = Y)
    (hG : ∀ w, C w → (eqGuard op t x y X Y).run P w = .ok () w) (hC : ∀ w, C w → (binOp op t X Y).run P w = .ok v w) (hk : wpQuiet P ops C Q rest (a.put o.dst v)) : wpQuiet P ops C Q (o :: rest) a := by
  have hw : Region.wanted o (yielded ops a.tmps) = true := by simp [Region.wanted, hg]
  refine wpQuiet_step fun K hK => ?_
  rw [if_pos hw]
  refine ⟨_, fun w hw => ?_, hK _ hk⟩
  unfold Oper.quietAt execOp
  simp only [h, hx, hy, Sem.run_bind, Sem.run_pure, Result.andThen_ok, hG w hw, hC w hw]
  exact ⟨rfl, rfl⟩
theorem guardRun {P : Program} {t : TypeId} (hp : P.eqGuardType P.depth t = false) (op : BinOp) (W : World) (x y : Operand) (X Y : Array Value) : (eqGuard op t x y (.agg X) (.agg Y)).run P W = .ok () W := by
  have hr : (program).run P W = .ok P W := rfl
  unfold eqGuard
  cases op <;> simp [Sem.run_bind, hr, Result.andThen_ok, hp, Sem.run_pure]
set_option maxRecDepth 100000 in
theorem guardItem (W : World) (x y : Operand) (X Y : Array Value) : (eqGuard .neq 159 x y (.agg X) (.agg Y)).run Tryz.prog W = .ok () W := guardRun (by kernel_rfl) _ W x y X Y
set_option maxRecDepth 100000 in
theorem ld3 (W : World) (g o : Nat) (x : Ent) (c0 : W.cell? ⟨g, o, none⟩ = some (.string x.1)) (c1 : W.cell? ⟨g, o + 1, none⟩ = some (.int .i64 x.2.1)) (c2 : W.cell? ⟨g, o + 2, none⟩ = some (.int .i64 x.2.2)) : (loadVar 159 ⟨g, o, none⟩).run Tryz.prog W = .ok (.agg #[.string x.1, .int .i64 x.2.1, .int .i64 x.2.2]) W := by
  unfold loadVar
  go_simp

/-- An object of the document's store. -/
structure RObOk (F : Nat → Prop) (w : World) (o : Ob) : Prop where
  kind : o.kind = 1 ∨ o.kind = 2
  size : o.data.size ≤ 256
  len : o.ents.length = o.el
  few : o.el ≤ 16
  high0 : 0 ≤ o.high
  high5 : o.high ≤ 5
  row : w.ownsRow 0 159 3 (.slice o.ea o.el o.ec) o.el (flat o.ents)
  own : ∀ g, (Value.slice o.ea o.el o.ec).ownBlock = some g → F g

theorem RObOk.keep {F F' : Nat → Prop} {w w' : World} {o : Ob} (h : RObOk F w o) (hF : ∀ k, F k → F' k) (hk : ∀ k, F k → w'.heap[k]? = w.heap[k]?) : RObOk F' w' o :=
  ⟨h.kind, h.size, h.len, h.few, h.high0, h.high5, ownsRow_keep h.row (fun g hg => hk g (h.own g hg)), fun g hg => hF g (h.own g hg)⟩

def sameB (o1 o2 : Ob) : Bool := decide (o1.kind = o2.kind) && decide (o1.data = o2.data) && decide (o1.ents = o2.ents)

def oAgg (o : Ob) : Value := .agg #[.int .i64 o.kind, .string o.data, .slice o.ea o.el o.ec, .int .i64 o.high]

theorem two_boxes (w : World) (a b : Obj) : Below w.heap.size w ((w.alloc a).alloc b) := ((Below.refl _ _).alloc (Nat.le_refl _) _).alloc (by simp) _

set_option maxRecDepth 100000 in
set_option maxHeartbeats 2000000 in
theorem same_not (o1 o2 : Ob) (w : World) (z1 : o1.el ≤ 16) (z2 : o2.el ≤ 16)
    (h : (o1.kind != o2.kind) = true ∨ (o1.kind != o2.kind) = false ∧ ((o1.data.toList == o2.data.toList) = false ∨ (o1.data.toList == o2.data.toList) = true ∧ ((o1.el : Int) != (o2.el : Int)) = true)) :
    Calls Tryz.prog 238 #[oAgg o1, oAgg o2] w fun e w' => e = .returned (.bool false) ∧ Below w.heap.size w w' := by
  unfold oAgg
  rcases h with h | ⟨h0, h | ⟨h1, h⟩⟩
  all_goals
    go_enter Tryz.func238, Tryz.ntmps238
    go_wp2
    go_ret
    exact ⟨rfl, two_boxes _ _ _⟩

set_option maxRecDepth 100000 in
set_option maxHeartbeats 2000000 in
theorem same_loop (k1 k2 n1 n2 : Int) (d1 d2 : ByteArray) (ea1 ea2 : Option Addr) (c1 c2 m : Nat) (es1 es2 : List Ent) (w : World) (z1 : m ≤ 16) (l1 : es1.length = m) (l2 : es2.length = m)
    (r1 : w.ownsRow 0 159 3 (.slice ea1 m c1) m (flat es1)) (r2 : w.ownsRow 0 159 3 (.slice ea2 m c2) m (flat es2))
    (h0 : (k1 != k2) = false) (h1 : (d1.toList == d2.toList) = true) :
    Calls Tryz.prog 238 #[.agg #[.int .i64 k1, .string d1, .slice ea1 m c1, .int .i64 n1], .agg #[.int .i64 k2, .string d2, .slice ea2 m c2, .int .i64 n2]] w fun e w' => e = .returned (.bool (decide (es1 = es2))) ∧ Below w.heap.size w w' := by
  have h2 : ((m : Int) != (m : Int)) = false := by simp
  go_enter Tryz.func238, Tryz.ntmps238
  go_wp2
  go_loopw [5] (fun i wr => ∃ k : Nat, k ≤ m ∧ i = .int .i64 k ∧ (∃ q, wr = ((w.alloc (.cells #[.int .i64 k1, .string d1, .slice ea1 m c1, .int .i64 n1] 157)).alloc (.cells #[.int .i64 k2, .string d2, .slice ea2 m c2, .int .i64 n2] 157)).drewN q) ∧ Hid (es1.take k = es2.take k)) (fun i _ => m - (intOf i).toNat)
  case atStart => exact ⟨0, Nat.zero_le _, rfl, ⟨0, rfl⟩, rfl⟩
  case round =>
    obtain ⟨k, hk, rfl, ⟨q, rfl⟩, HT⟩ := hrel
    by_cases hlt : k < m
    · obtain ⟨g1, c1', hv1⟩ := slice_of_owns r1 (by omega)
      obtain ⟨g2, c2', hv2⟩ := slice_of_owns r2 (by omega)
      obtain ⟨rfl, _, _⟩ := Value.slice.inj hv1
      obtain ⟨rfl, _, _⟩ := Value.slice.inj hv2
      have k1' : k < es1.length := by omega
      have k2' : k < es2.length := by omega
      have gl1 : g1 < w.heap.size := ownsRow_lt r1 rfl
      have gl2 : g2 < w.heap.size := ownsRow_lt r2 rfl
      have hbw : ∀ a b : Obj, Below w.heap.size w (((w.alloc a).alloc b).drewN q) := fun a b => below_drewN (two_boxes w a b) q
      obtain ⟨a0, a1, a2⟩ := row_cells (off := 0) (owns_cells r1) k1'
      obtain ⟨b0, b1, b2⟩ := row_cells (off := 0) (owns_cells r2) k2'
      rw [Nat.zero_add] at a0 a1 a2 b0 b1 b2
      obtain ⟨x, hx⟩ : ∃ x, x = es1[k] := ⟨_, rfl⟩
      obtain ⟨y, hy⟩ : ∃ y, y = es2[k] := ⟨_, rfl⟩
      rw [← hx] at a0 a1 a2
      rw [← hy] at b0 b1 b2
      have p0 := fun a b : Obj => ((hbw a b).cell (p := ⟨g1, k * 3, none⟩) gl1).trans a0
      have p1 := fun a b : Obj => ((hbw a b).cell (p := ⟨g1, k * 3 + 1, none⟩) gl1).trans a1
      have p2 := fun a b : Obj => ((hbw a b).cell (p := ⟨g1, k * 3 + 2, none⟩) gl1).trans a2
      have q0 := fun a b : Obj => ((hbw a b).cell (p := ⟨g2, k * 3, none⟩) gl2).trans b0
      have q1 := fun a b : Obj => ((hbw a b).cell (p := ⟨g2, k * 3 + 1, none⟩) gl2).trans b1
      have q2 := fun a b : Obj => ((hbw a b).cell (p := ⟨g2, k * 3 + 2, none⟩) gl2).trans b2
      clear a0 a1 a2 b0 b1 b2
      have HX : Hid (x = es1[k]) := hx
      have HY : Hid (y = es2[k]) := hy
      clear hx hy
      go_wp2
      refine wp_region_quiet_lit (by kernel_rfl) (by kernel_rfl) ?_
      iterate 4 quiet_step (fail)
      refine wpQuiet_load_at rfl 159 _ rfl ⟨g1, k * 3, none⟩ rfl (.agg #[.string x.1, .int .i64 x.2.1, .int .i64 x.2.2]) (by rintro _ ⟨n, rfl⟩; exact ld3 _ g1 (k * 3) x (p0 _ _) (p1 _ _) (p2 _ _)) ?_
      go_frame
      iterate 4 quiet_step (fail)
      refine wpQuiet_load_at rfl 159 _ rfl ⟨g2, k * 3, none⟩ rfl (.agg #[.string y.1, .int .i64 y.2.1, .int .i64 y.2.2]) (by rintro _ ⟨n, rfl⟩; exact ld3 _ g2 (k * 3) y (q0 _ _) (q1 _ _) (q2 _ _)) ?_
      go_frame
      refine wpQuiet_bin rfl .neq 159 159 _ _ rfl (.agg #[.string x.1, .int .i64 x.2.1, .int .i64 x.2.2]) (.agg #[.string y.1, .int .i64 y.2.1, .int .i64 y.2.2]) (.bool (!(decide (x = y)))) rfl rfl (by rintro _ ⟨n, rfl⟩; exact guardItem _ _ _ _ _) (by rintro _ ⟨n, rfl⟩; exact neqItem _ x y) ?_
      go_frame
      refine wpQuiet_nil ?_
      rintro _ ⟨nq, rfl⟩
      by_cases hxy : x = y
      · have HD : Hid (x = y) := hxy
        rw [decide_eq_true hxy]
        clear hxy
        go_wp2
        go_roundw
        case rel =>
          refine ⟨k + 1, by omega, by go_num, ⟨q + nq, rfl⟩, ?_⟩
          show _ = _
          rw [List.take_succ_eq_append_getElem k1', List.take_succ_eq_append_getElem k2', HT.out, ← HX.out, ← HY.out, HD.out]
        case measure => simp [intOf]; omega
      · have HD : Hid (es1 ≠ es2) := fun h => hxy (by rw [HX.out, HY.out]; simp only [h])
        rw [decide_eq_false hxy]
        clear hxy
        go_wp2
        go_ret
        exact ⟨by rw [decide_eq_false HD.out]; rfl, below_drewN (below_drewN (two_boxes _ _ _) q) nq⟩
    · have hkm : k = m := by omega
      have HD : Hid (es1 = es2) := by
        have := HT.out
        rwa [hkm, List.take_of_length_le (by omega), List.take_of_length_le (by omega)] at this
      go_wp2
      go_ret
      exact ⟨by rw [decide_eq_true HD.out]; rfl, below_drewN (two_boxes _ _ _) q⟩

theorem same_any {F G : Nat → Prop} (o1 o2 : Ob) (w : World) (h1 : RObOk F w o1) (h2 : RObOk G w o2) :
    Calls Tryz.prog 238 #[oAgg o1, oAgg o2] w fun e w' => e = .returned (.bool (sameB o1 o2)) ∧ Below w.heap.size w w' := by
  by_cases hk : o1.kind = o2.kind
  · by_cases hd : o1.data = o2.data
    · by_cases hl : o1.el = o2.el
      · have := same_loop o1.kind o2.kind o1.high o2.high o1.data o2.data o1.ea o2.ea o1.ec o2.ec o1.el o1.ents o2.ents w h1.few h1.len (by rw [h2.len, hl]) h1.row (by have := h2.row; rwa [← hl] at this) (by rw [hk]; simp) (by rw [hd]; simp)
        have e : sameB o1 o2 = decide (o1.ents = o2.ents) := by unfold sameB; simp [hk, hd]
        rw [e]
        unfold oAgg
        rw [← hl]
        exact this
      · have e : sameB o1 o2 = false := by
          have : o1.ents ≠ o2.ents := fun h => hl (by rw [← h1.len, ← h2.len, h])
          unfold sameB; simp [this]
        rw [e]
        exact same_not o1 o2 w h1.few h2.few (.inr ⟨by rw [hk]; simp, .inr ⟨by rw [hd]; simp, by simp; omega⟩⟩)
    · have e : sameB o1 o2 = false := by unfold sameB; simp [hd]
      rw [e]
      exact same_not o1 o2 w h1.few h2.few (.inr ⟨by rw [hk]; simp, .inl (by simp; exact fun h => hd (bytes_eq h))⟩)
  · have e : sameB o1 o2 = false := by unfold sameB; simp [hk]
    rw [e]
    exact same_not o1 o2 w h1.few h2.few (.inl (by simpa using hk))
end Go.Proofs.YtogeefmegegnnaaGreat
