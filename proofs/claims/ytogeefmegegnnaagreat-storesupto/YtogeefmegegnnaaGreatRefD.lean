/-
  What is proved here: the document's own store in memory ('RefAt'); 'Find'.
-/
import Derived.Test.YtogeefmegegnnaaGreatRefC
namespace Go.Proofs.YtogeefmegegnnaaGreat
open Go.RowKit Go.Sort Go.Shelf
set_option linter.unusedVariables false

/-- The document's store at block r holds these objects; F: the blocks that are its own. -/
structure RefAt (F : Nat → Prop) (w : World) (r : Nat) (a : Option Addr) (cap : Nat) (ros : List Ob) : Prop where
  fr : F r
  fa : ∀ g, (Value.slice a ros.length cap).ownBlock = some g → F g
  hr : w.heap[r]? = some (.cells #[.slice a ros.length cap] 147 (0, 0))
  row : w.ownsRow 0 157 4 (.slice a ros.length cap) ros.length (obCells ros)
  many : ros.length ≤ 400
  obs : ∀ o ∈ ros, RObOk F w o

theorem RefAt.keep {F F' : Nat → Prop} {w w' : World} {r : Nat} {a : Option Addr} {cap : Nat} {ros : List Ob} (h : RefAt F w r a cap ros) (hF : ∀ k, F k → F' k) (hk : ∀ k, F k → w'.heap[k]? = w.heap[k]?) : RefAt F' w' r a cap ros :=
  ⟨hF _ h.fr, fun g hg => hF g (h.fa g hg), (hk r h.fr).trans h.hr, ownsRow_keep h.row (fun g hg => hk g (h.fa g hg)), h.many, fun o ho => (h.obs o ho).keep hF hk⟩

theorem RefAt.lt {F : Nat → Prop} {w : World} {r : Nat} {a : Option Addr} {cap : Nat} {ros : List Ob} (h : RefAt F w r a cap ros) : r < w.heap.size := (Array.getElem?_eq_some_iff.1 h.hr).1

theorem RefAt.c0 {F : Nat → Prop} {w : World} {r : Nat} {a : Option Addr} {cap : Nat} {ros : List Ob} (h : RefAt F w r a cap ros) : w.cell? ⟨r, 0, none⟩ = some (.slice a ros.length cap) := by simp [World.cell?, h.hr]
theorem RefAt.f0 {F : Nat → Prop} {w : World} {r : Nat} {a : Option Addr} {cap : Nat} {ros : List Ob} (h : RefAt F w r a cap ros) : w.frozen? ⟨r, 0, none⟩ = false := by simp [World.frozen?, h.hr]

theorem RObOk.below {F : Nat → Prop} {w w' : World} {o : Ob} (h : RObOk F w o) (hb : Below w.heap.size w w') : RObOk F w' o :=
  ⟨h.kind, h.size, h.len, h.few, h.high0, h.high5, ownsRow_keep h.row (fun g hg => hb.block g (ownsRow_lt h.row hg)), h.own⟩
theorem RefAt.below {F : Nat → Prop} {w w' : World} {r : Nat} {a : Option Addr} {cap : Nat} {ros : List Ob} (h : RefAt F w r a cap ros) (hb : Below w.heap.size w w') : RefAt F w' r a cap ros :=
  ⟨h.fr, h.fa, (hb.block r h.lt).trans h.hr, ownsRow_keep h.row (fun g hg => hb.block g (ownsRow_lt h.row hg)), h.many, fun o ho => (h.obs o ho).below hb⟩

/-- An object's four cells. -/
theorem row_obs {w : World} {t : TypeId} {a : Option Addr} {n cap : Nat} {ros : List Ob} (h : w.ownsRow 0 t 4 (.slice a n cap) n (obCells ros)) (hl : ros.length = n) {i : Nat} (hi : i < ros.length) :
    ∃ g, a = some ⟨g, 0, none⟩ ∧ g < w.heap.size ∧ w.cell? ⟨g, i * 4, none⟩ = some (.int .i64 ros[i].kind) ∧ w.cell? ⟨g, i * 4 + 1, none⟩ = some (.string ros[i].data) ∧
      w.cell? ⟨g, i * 4 + 2, none⟩ = some (.slice ros[i].ea ros[i].el ros[i].ec) ∧ w.cell? ⟨g, i * 4 + 3, none⟩ = some (.int .i64 ros[i].high) := by
  have hn : i < n := by rw [← hl]; exact hi
  rcases h.2 with ⟨_, h0⟩ | ⟨g, cap', cur, hv, _, hg, _, _, hcur, ht⟩
  · omega
  · cases hv
    have key : ∀ j u, j < 4 → (ros[i].cells)[j]? = some u → w.cell? ⟨g, i * 4 + j, none⟩ = some u := by
      intro j u hj hu
      rw [← obCells_get ros i j hi hj, ← ht, List.getElem?_take_of_lt (by omega), Array.getElem?_toList] at hu
      simp [World.cell?, hg, hu]
    exact ⟨g, rfl, (Array.getElem?_eq_some_iff.1 hg).1, key 0 _ (by omega) rfl, key 1 _ (by omega) rfl, key 2 _ (by omega) rfl, key 3 _ (by omega) rfl⟩

theorem wpStill_load_at {P : Program} {ops : Array Oper} {w : World} {Q : Act → Prop} {o : Oper} {rest : List Oper} {a : Act} (hg : o.guard = none) (ty : TypeId) (x : Operand) (h : o.op = .load ty x) (ad : Addr) (hx : a.eval x = .pointer (some ad))
    (cs : Value) (hrun : (loadVar ty ad).run P w = .ok cs w) (hk : wpStill P ops w Q rest (a.put o.dst cs)) : wpStill P ops w Q (o :: rest) a := by
  have hw : Region.wanted o (yielded ops a.tmps) = true := by simp [Region.wanted, hg]
  refine wpStill_step fun K hK => ?_
  rw [if_pos hw]
  unfold Oper.still execOp
  simp only [h, hx, Instr.loadAt, Instr.sureAddr, Sem.run_bind, Sem.run_pure, Result.andThen_ok, hrun]
  exact ⟨rfl, hK _ hk⟩

set_option maxRecDepth 100000 in
theorem ld4 (W : World) (g o : Nat) (x : Ob) (c0 : W.cell? ⟨g, o, none⟩ = some (.int .i64 x.kind)) (c1 : W.cell? ⟨g, o + 1, none⟩ = some (.string x.data)) (c2 : W.cell? ⟨g, o + 2, none⟩ = some (.slice x.ea x.el x.ec)) (c3 : W.cell? ⟨g, o + 3, none⟩ = some (.int .i64 x.high)) :
    (loadVar 157 ⟨g, o, none⟩).run Tryz.prog W = .ok (oAgg x) W := by
  unfold loadVar oAgg
  go_simp

/-- The place of an object that is the same. -/
def findAt (ros : List Ob) (o : Ob) : Option Nat := ros.findIdx? fun x => sameB x o
def placeI (p : Option Nat) : Int := match p with | some i => i | none => -1

set_option maxRecDepth 100000 in
set_option maxHeartbeats 2000000 in
theorem find_any {F G : Nat → Prop} (r : Nat) (a : Option Addr) (cap : Nat) (ros : List Ob) (o : Ob) (w : World) (h : RefAt F w r a cap ros) (ho : RObOk G w o) :
    Calls Tryz.prog 201 #[.pointer (some ⟨r, 0, none⟩), oAgg o] w fun e w' => e = .returned (.int .i64 (placeI (findAt ros o))) ∧ Below w.heap.size w w' := by
  unfold oAgg
  obtain ⟨n, hn⟩ : ∃ n, n = ros.length := ⟨_, rfl⟩
  have hmany : n ≤ 400 := by rw [hn]; exact h.many
  have HN : Hid (n = ros.length) := hn
  clear hn
  obtain ⟨B, hB⟩ : ∃ B : Obj, B = .cells #[.int .i64 o.kind, .string o.data, .slice o.ea o.el o.ec, .int .i64 o.high] 157 := ⟨_, rfl⟩
  go_enter Tryz.func201, Tryz.ntmps201
  go_wp2
  rw [← hB]
  go_loopw [5] (fun i wr => ∃ k : Nat, k ≤ n ∧ i = .int .i64 k ∧ Below (w.alloc B).heap.size (w.alloc B) wr ∧ Hid (∀ j (hj : j < ros.length), j < k → sameB ros[j] o = false)) (fun i _ => n - (intOf i).toNat)
  case atStart => exact ⟨0, Nat.zero_le _, rfl, Below.refl _ _, fun j hj h => by omega⟩
  case round =>
    obtain ⟨k, hk, rfl, hb, HV⟩ := hrel
    have hbw : Below w.heap.size w wr := ((Below.refl _ _).alloc (Nat.le_refl _) B).trans (hb.mono (by simp))
    have hc0 := (h.below hbw).c0
    rw [← HN.out] at hc0
    by_cases hlt : k < n
    · have hk' : k < ros.length := by rw [← HN.out]; exact hlt
      obtain ⟨g, hga, hgl, c0, c1, c2, c3⟩ := row_obs (h.below hbw).row rfl hk'
      rw [hga] at hc0
      have bx : ∀ j, j < 4 → wr.cell? ⟨w.heap.size, j, none⟩ = (oAgg o).cells[j]? := by
        intro j hj
        rw [hb.cell (p := ⟨w.heap.size, j, none⟩) (by simp)]
        subst hB
        match j, hj with
        | 0, _ => simp [oAgg, Value.cells]
        | 1, _ => simp [oAgg, Value.cells]
        | 2, _ => simp [oAgg, Value.cells]
        | 3, _ => simp [oAgg, Value.cells]
      have hl1 := ld4 wr g (k * 4) ros[k] c0 c1 c2 c3
      have hl2 := ld4 wr w.heap.size 0 o (bx 0 (by omega)) (bx 1 (by omega)) (bx 2 (by omega)) (bx 3 (by omega))
      have HL1 : Hid ((loadVar 157 ⟨g, k * 4, none⟩).run Tryz.prog wr.drew = .ok (oAgg ros[k]) wr.drew) := ld4 wr.drew g (k * 4) ros[k] c0 c1 c2 c3
      have HL2 : Hid ((loadVar 157 ⟨w.heap.size, 0, none⟩).run Tryz.prog wr.drew = .ok (oAgg o) wr.drew) := ld4 wr.drew w.heap.size 0 o (bx 0 (by omega)) (bx 1 (by omega)) (bx 2 (by omega)) (bx 3 (by omega))
      clear c0 c1 c2 c3 bx hl1 hl2
      have hsame := same_any ros[k] o wr.drew ((h.below (below_drewN hbw 1)).obs _ (List.getElem_mem hk')) (ho.below (below_drewN hbw 1))
      go_wp2
      refine wp_region_still_tail 8 (by kernel_rfl) (by kernel_rfl) ?_
      simp only [List.take_succ_cons, List.take_zero, List.drop_succ_cons, List.drop_zero]
      iterate 6 still_step
      refine wpStill_load_at rfl 157 _ rfl ⟨g, k * 4, none⟩ rfl (oAgg ros[k]) HL1.out ?_
      go_frame
      refine wpStill_load_at rfl 157 _ rfl ⟨w.heap.size, 0, none⟩ rfl (oAgg o) HL2.out ?_
      go_frame
      refine wpStill_nil ?_
      cases hsb : sameB ros[k] o with
      | true =>
        have HS : Hid (sameB ros[k] o = true) := hsb
        rw [hsb] at hsame
        clear hsb
        go_wp2_with fail
        refine hsame.mono ?_
        rintro e w1 ⟨rfl, hb1⟩
        go_wp2
        go_ret
        refine ⟨?_, hbw.trans ((below_drewN (Below.refl wr.heap.size wr) 1).trans hb1 |>.mono hbw.size)⟩
        have e : findAt ros o = some k := List.findIdx?_eq_some_iff_getElem.2 ⟨hk', HS.out, fun j hj => by have := HV.out j (by omega) hj; simp [this]⟩
        rw [e]; rfl
      | false =>
        have HS : Hid (sameB ros[k] o = false) := hsb
        rw [hsb] at hsame
        clear hsb
        go_wp2_with fail
        refine hsame.mono ?_
        rintro e w1 ⟨rfl, hb1⟩
        go_wp2
        go_roundw
        case rel =>
          refine ⟨k + 1, by omega, by go_num, hb.trans ((below_drewN (Below.refl wr.heap.size wr) 1).trans hb1 |>.mono hb.size), ?_⟩
          intro j hj hjk
          by_cases e : j = k
          · subst e; exact HS.out
          · exact HV.out j hj (by omega)
        case measure => simp [intOf]; omega
    · go_wp2
      go_ret
      refine ⟨?_, hbw⟩
      have e : findAt ros o = none := List.findIdx?_eq_none_iff.2 fun x hx => by
        obtain ⟨j, hj, rfl⟩ := List.getElem_of_mem hx
        exact HV.out j hj (by rw [← HN.out] at hj; omega)
      rw [e]; rfl
end Go.Proofs.YtogeefmegegnnaaGreat
