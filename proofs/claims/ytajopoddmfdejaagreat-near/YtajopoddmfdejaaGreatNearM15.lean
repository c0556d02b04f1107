/-
  What is proved here: slices.Delete of one entry: the row is one shorter, in the same memory. slices.Insert of one entry: at the end, in the row's own memory, or in new memory.
-/
import Derived.Test.YtajopoddmfdejaaGreatNearM14
import Derived.Shelf.RegionOpenPlain
import Derived.Deep.RegionLaw
import Derived.Lib.Overlaps
import Derived.Lib.AppendZerosOnto
import Derived.Laws.Externs
namespace Go.Proofs.YtajopoddmfdejaaGreat
open Go.RowKit Go.Sort Go.Shelf
set_option linter.unusedVariables false

/-- 'append' where there is room, in a row of its own, as one step of a region that draws. -/
theorem step_append_row {P : Program} {ops : Array Oper} {o : Oper} {a : Act} {w : World} {K : Act → World → Prop} {Q : Exit → Act → World → Prop} {E : Prop}
    (hg : o.guard = none) (s x : Operand) (t : TypeId) (hop : o.op = Op.call { callee := Callee.builtin Builtin.append, args := #[s, x], argTypes := #[t, t] })
    (e : TypeId) (i : TypeInfo) (size : Nat) (h1 : P.underlying t = some (.slice e)) (h2 : P.info? e = some i) (h4 : i.size = size)
    (g n cap : Nat) (cur : Array Value) (hs : a.eval s = .slice (some ⟨g, 0, none⟩) n cap) (hcur : w.heap[g]? = some (.cells cur e (0, 0)))
    (ad : Addr) (m c : Nat) (news : List Value) (hx : a.eval x = .slice (some ad) m c) (hn : news.length = m * size) (hc : ∀ j u, news[j]? = some u → w.cell? (ad.add j) = some u) (h1c : ∀ u ∈ news, u.oneCell' = true)
    (hroom : n + m ≤ cap) (hfit : n * size + news.length ≤ cur.size)
    (hK : K (a.put o.dst (.slice (some ⟨g, 0, none⟩) (n + m) cap)) (w.setRow g (cur.toList.take (n * size) ++ news ++ cur.toList.drop (n * size + news.length)).toArray)) :
    if Region.wanted o (yielded ops a.tmps) = true then Oper.wp P o a w K Q else E := by
  have hw : Region.wanted o (yielded ops a.tmps) = true := by simp [Region.wanted, hg]
  rw [if_pos hw]
  subst h4
  have hrun := run_append_room (P := P) w t o.type e i h1 h2 g n cap cur hcur ad m c news hn hc h1c hroom hfit
  unfold Oper.wp
  simp [execOp, hop, resolve, invoke, builtin, hs, hx, hrun, Result.andThen]
  rw [List.append_assoc] at hK
  exact hK

/-- 'clear' of one entry of a row. -/
theorem run_clear1 (w : World) (ty : TypeId) (g n c : Nat) (cur : Array Value) (hg : w.heap[g]? = some (.cells cur 76 (0, 0))) (hfit : n * 3 + 3 ≤ cur.size) :
    (Builtin.clear_ #[72] ty #[.slice (some ⟨g, n * 3, none⟩) 1 c]).run Tryz.prog w = .ok (.tuple #[]) (w.setRow g (cur.toList.take (n * 3) ++ encE (⟨#[]⟩, 0, 0) ++ cur.toList.drop (n * 3 + 3)).toArray) := by
  have hv : (zeroValue 76).run Tryz.prog w = .ok (.agg #[.string ⟨#[]⟩, .int .i64 0, .int .i64 0]) w := by kernel_rfl
  have hzc : (Builtin.zeroCells (Value.agg #[.string ⟨#[]⟩, .int .i64 0, .int .i64 0]).cells 1).toList = encE (⟨#[]⟩, 0, 0) := by kernel_rfl
  have hst := run_storeCells_at Tryz.prog g (n * 3) 76 (encE (⟨#[]⟩, 0, 0)) 0 cur w hg (by simpa [encE] using hfit) (encE_one _)
  simp only [Nat.add_zero] at hst
  simp [Builtin.clear_, run_underlying Tryz.underlying72, hv, hzc, hst]
  rfl

theorem flat_append (a b : List Ent) : flat (a ++ b) = flat a ++ flat b := by simp [flat]
theorem cells_take (es : List Ent) (k : Nat) (h : k ≤ es.length) : flat (es.take k) = (flat es).take (k * 3) := by
  have e : flat es = flat (es.take k) ++ flat (es.drop k) := by rw [← flat_append, List.take_append_drop]
  rw [e, List.take_left' (by rw [flat_len, List.length_take]; omega)]
theorem cells_drop (es : List Ent) (k : Nat) (h : k ≤ es.length) : flat (es.drop k) = (flat es).drop (k * 3) := by
  have e : flat es = flat (es.take k) ++ flat (es.drop k) := by rw [← flat_append, List.take_append_drop]
  rw [e, List.drop_left' (by rw [flat_len, List.length_take]; omega)]

set_option maxHeartbeats 4000000 in
set_option maxRecDepth 1000000 in
theorem del_walk (g n c k : Nat) (es : List Ent) (cur : Array Value) (w : World) (hg : w.heap[g]? = some (.cells cur 76 (0, 0))) (hn : es.length = n) (hk : k < n) (hnc : n ≤ c) (hcm : c ≤ maxLen) (hcs : cur.size = c * 3) (ht : cur.toList.take (n * 3) = flat es) :
    Calls Tryz.prog 127 #[.slice (some ⟨g, 0, none⟩) n c, .int .i64 (k : Int), .int .i64 ((k : Int) + 1)] w fun e w' => e = .returned (.slice (some ⟨g, 0, none⟩) (n - 1) c) ∧
      ∃ cur', w'.heap[g]? = some (.cells cur' 76 (0, 0)) ∧ cur'.size = c * 3 ∧ cur'.toList.take ((n - 1) * 3) = flat (es.eraseIdx k) ∧ w.grownBy w' (some g) ∧ w'.heap.size = w.heap.size := by
  obtain ⟨i0, hi, hz0, hz1, hz2⟩ := info_parts info34
  unfold maxLen at hcm
  have hk1 : k ≤ c := by omega
  have hk2 : k + 1 ≤ c := by omega
  obtain ⟨news, hnews⟩ : ∃ news, news = flat (es.drop (k + 1)) := ⟨_, rfl⟩
  have hlen : news.length = (n - (k + 1)) * 3 := by rw [hnews, flat_len, List.length_drop, hn]
  have hcell : ∀ j u, (flat es)[j]? = some u → w.cell? ⟨g, j, none⟩ = some u := fun j u hu => by
    rw [← ht, List.getElem?_take] at hu
    split at hu
    · simp [World.cell?, hg]; simpa using hu
    · cases hu
  obtain ⟨A, hA, hsrc⟩ : ∃ A : Addr, (if c = k + 1 then some (⟨g, 0, none⟩ : Addr) else some ⟨g, (k + 1) * 3, none⟩) = some A ∧ Hid (∀ t u, news[t]? = some u → w.drew.cell? (A.add t) = some u) := by
    by_cases h : c = k + 1
    · refine ⟨⟨g, 0, none⟩, by simp [h], fun t u hu => ?_⟩
      have h0 : news.length = 0 := by rw [hlen]; omega
      rw [List.length_eq_zero_iff.1 h0] at hu
      simp at hu
    · refine ⟨⟨g, (k + 1) * 3, none⟩, by simp [h], fun t u hu => ?_⟩
      rw [Addr.add_lit]
      show w.cell? _ = _
      refine hcell _ _ ?_
      rw [hnews, cells_drop es (k + 1) (by omega), List.getElem?_drop] at hu
      exact hu
  have s2 : Hid (∀ u ∈ news, u.oneCell' = true) := by
    intro u hu
    rw [hnews] at hu
    exact flat_one _ u hu
  have hfit : k * 3 + news.length ≤ cur.size := by rw [hlen, hcs]; omega
  obtain ⟨cur1, hcur1⟩ : ∃ cur1 : Array Value, cur1 = (cur.toList.take (k * 3) ++ news ++ cur.toList.drop (k * 3 + news.length)).toArray := ⟨_, rfl⟩
  have hsz1 : cur1.size = c * 3 := by
    rw [hcur1]
    simp only [List.size_toArray, List.length_append, List.length_take, List.length_drop, Array.length_toList]
    omega
  obtain ⟨W1, hW1⟩ : ∃ W1, W1 = w.drew.setRow g cur1 := ⟨_, rfl⟩
  have hg1 : W1.heap[g]? = some (.cells cur1 76 (0, 0)) := by rw [hW1]; exact setRow_heap w.drew g _ _ 76 _ hg
  have hcl : ∀ ty, (Builtin.clear_ #[72] ty #[.slice (some ⟨g, (n - 1) * 3, none⟩) 1 (c - (n - 1))]).run Tryz.prog W1 = .ok (.tuple #[]) (W1.setRow g (cur1.toList.take ((n - 1) * 3) ++ encE (⟨#[]⟩, 0, 0) ++ cur1.toList.drop ((n - 1) * 3 + 3)).toArray) :=
    fun ty => run_clear1 W1 ty g (n - 1) _ cur1 hg1 (by rw [hsz1]; omega)
  have hW : Hid (W1 = w.drew.setRow g cur1) := hW1
  have HC1 : Hid (cur1 = (cur.toList.take (k * 3) ++ news ++ cur.toList.drop (k * 3 + news.length)).toArray) := hcur1
  have HN : Hid (news = flat (es.drop (k + 1))) := hnews
  have HL : Hid (news.length = (n - (k + 1)) * 3) := hlen
  have HG : Hid (w.heap[g]? = some (.cells cur 76 (0, 0))) := hg
  have HG1 : Hid (W1.heap[g]? = some (.cells cur1 76 (0, 0))) := hg1
  have HF : Hid (k * 3 + news.length ≤ cur.size) := hfit
  have HT : Hid (cur.toList.take (n * 3) = flat es) := ht
  have HS1 : Hid (cur1.size = c * 3) := hsz1
  have HCS : Hid (cur.size = c * 3) := hcs
  have HES : Hid (es.length = n) := hn
  have c3 : (0 : Int) ≤ ↑k + 1 := by omega
  have c4 : (↑k + 1 : Int) ≤ ↑n := by omega
  clear hW1 hcur1 hnews hlen hg hg1 hfit ht hsz1 hcs hcell hn
  go_enter Tryz.func127, Tryz.ntmps127
  go_wp2_with fail
  go_region_law (refine step_append_row rfl (.tmp 22) (.tmp 25) 72 rfl 76 i0 3 Tryz.underlying72 hi hz1 g k c cur (by simp [Act.eval, Act.put]) HG.out A (n - (k + 1)) (c - (k + 1)) news (by simp [Act.eval, Act.put]) HL.out hsrc.out s2.out (by omega) HF.out ?_; rw [← HC1.out, ← hW.out])
  all_goals
    have e1 : k + (n - (k + 1)) = n - 1 := by omega
    have d1 : ((n - 1 : Nat) : Int) ≤ (n : Int) := by omega
    have d2 : n - (n - 1) = 1 := by omega
    have d3 : ¬ c = n - 1 := by omega
    have d4 : (0 : Int) ≤ ((n - 1 : Nat) : Int) := by omega
    have d5 : (n : Int) ≤ (c : Int) := by omega
    simp only [e1]
    clear e1
    go_wp2
    go_ret
    have hs1 := HS1.out
    have hcs := HCS.out
    have hes := HES.out
    have hl1 : (cur1.toList.take ((n - 1) * 3)).length = (n - 1) * 3 := by rw [List.length_take, Array.length_toList, hs1]; omega
    refine ⟨rfl, _, setRow_heap W1 g _ _ 76 _ HG1.out, ?_, ?_, ?_, ?_⟩
    · simp only [List.size_toArray, List.length_append, hl1, List.length_drop, Array.length_toList, hs1, encE_len]; omega
    · rw [List.take_left' hl1, HC1.out]
      have hk3 : cur.toList.take (k * 3) = flat (es.take k) := by
        rw [cells_take es k (by omega), ← HT.out, List.take_take, Nat.min_eq_left (by omega)]
      have hl2 : (cur.toList.take (k * 3) ++ news).length = (n - 1) * 3 := by
        rw [List.length_append, HL.out, List.length_take, Array.length_toList, hcs]; omega
      show List.take ((n - 1) * 3) (cur.toList.take (k * 3) ++ news ++ cur.toList.drop (k * 3 + news.length)) = _
      rw [List.take_left' hl2, hk3, HN.out, ← flat_append, List.eraseIdx_eq_take_drop_succ]
    · refine ⟨by rw [hW.out]; rfl, by rw [hW.out]; rfl, by rw [hW.out]; rfl, by rw [hW.out]; simp, fun x hx hne => ?_⟩
      have hxg : x ≠ g := fun e => hne (by rw [e])
      rw [setRow_other W1 g x _ hxg, hW.out, setRow_other w.drew g x _ hxg]; rfl
    · rw [hW.out]; simp

end Go.Proofs.YtajopoddmfdejaaGreat

namespace Go.Proofs.YtajopoddmfdejaaGreat
open Go.RowKit Go.Sort Go.Shelf
set_option linter.unusedVariables false

theorem wp_copy_row (w : World) {ops : Array Oper} {rest : List Oper} {o : Oper} {a : Act} {Q : Exit → Act → World → Prop} (hgd : o.guard = none) (d s : Operand) (t t' : TypeId)
    (ho : o.op = .call { callee := .builtin .copy, args := #[d, s], argTypes := #[t, t'] }) (v u : Value) (hd : a.eval d = v) (hs : a.eval s = u) {v' : Value} {w' : World}
    (hr : (Builtin.copy_ #[t, t'] o.type #[v, u]).run Tryz.prog w = .ok v' w') (h : wpList Tryz.prog ops Q rest (a.put o.dst v') w') : wpList Tryz.prog ops Q (o :: rest) a w := by
  refine wpList_plain hgd fun K hK => ?_
  unfold Oper.wp execOp
  simp only [ho, resolve, invoke, builtin, Sem.run_bind, Sem.run_pure, Result.andThen_ok, List.map_toArray, List.map_cons, List.map_nil, hd, hs, hr]
  exact hK _ _ h
theorem step_copy_row {ops : Array Oper} {o : Oper} {a : Act} {w : World} {K : Act → World → Prop} {Q : Exit → Act → World → Prop} {E : Prop}
    (hg : o.guard = none) (d x : Operand) (dT sT : TypeId) (hop : o.op = Op.call { callee := Callee.builtin Builtin.copy, args := #[d, x], argTypes := #[dT, sT] })
    (v u : Value) (hd : a.eval d = v) (hx : a.eval x = u) {v' : Value} {w' : World} (hr : (Builtin.copy_ #[dT, sT] o.type #[v, u]).run Tryz.prog w = .ok v' w') (hK : K (a.put o.dst v') w') :
    if Region.wanted o (yielded ops a.tmps) = true then Oper.wp Tryz.prog o a w K Q else E := by
  have hw : Region.wanted o (yielded ops a.tmps) = true := by simp [Region.wanted, hg]
  rw [if_pos hw]
  unfold Oper.wp
  simp [execOp, hop, resolve, invoke, builtin, hd, hx, hr, Result.andThen]
  exact hK

theorem infoE3 : (Tryz.prog.info? 76).map (·.size) = some 3 := by kernel_rfl

/-- What Insert leaves. -/
def Inserted (w w' : World) (own : Option Nat) (n : Nat) (es : List Ent) (e : Ending) : Prop :=
  ∃ g c, e = .returned (.slice (some ⟨g, 0, none⟩) (n + 1) c) ∧ w'.ownsRow 0 76 3 (.slice (some ⟨g, 0, none⟩) (n + 1) c) (n + 1) (flat es) ∧ w.grownBy w' own ∧ ((some g : Option Nat) = own ∨ w.heap.size ≤ g)

set_option maxHeartbeats 4000000 in
set_option maxRecDepth 1000000 in
theorem ins_shift (g n c k vb : Nat) (es : List Ent) (x : Ent) (cur : Array Value) (w : World) (hg : w.heap[g]? = some (.cells cur 76 (0, 0))) (hn : es.length = n) (hk : k < n) (hnc : n + 1 ≤ c) (hcm : c ≤ maxLen) (hcs : cur.size = c * 3) (ht : cur.toList.take (n * 3) = flat es)
    (hv : w.heap[vb]? = some (.cells #[.string x.1, .int .i64 x.2.1, .int .i64 x.2.2] 76 (0, 0))) (hvg : vb ≠ g) :
    Calls Tryz.prog 124 #[.slice (some ⟨g, 0, none⟩) n c, .int .i64 (k : Int), .slice (some ⟨vb, 0, none⟩) 1 1] w fun e w' => Inserted w w' (some g) n (es.take k ++ x :: es.drop k) e := by
  unfold maxLen at hcm
  have hcell : ∀ j u, (flat es)[j]? = some u → w.cell? ⟨g, j, none⟩ = some u := fun j u hu => by
    rw [← ht, List.getElem?_take] at hu
    split at hu
    · simp [World.cell?, hg]; simpa using hu
    · cases hu
  obtain ⟨n1, hn1⟩ : ∃ n1, n1 = flat (es.drop k) := ⟨_, rfl⟩
  have hl1 : n1.length = (n - k) * 3 := by rw [hn1, flat_len, List.length_drop, hn]
  have hov : ∀ lb cb, (callFunc 152 #[.slice (some ⟨vb, 0, none⟩) 1 1, .slice (some ⟨g, (k + 1) * 3, none⟩) lb cb]).run Tryz.prog w = .ok (.value (.bool false)) w := fun lb cb => by
    rw [run_callFunc_extern Tryz.func152 (by kernel_rfl) (by kernel_rfl) (by kernel_rfl) (e := Extern.SlicesOverlaps.overlaps #[72, 72] #[4]) (by kernel_rfl),
      Lib.run_overlaps_apart w 72 4 76 Tryz.underlying72 3 (fun w => sizeOf34 w) ⟨vb, 0, none⟩ ⟨g, (k + 1) * 3, none⟩ 1 1 lb cb hvg 76 76 3 cur.size (by simp [World.shape?, hv]) (by simp [World.shape?, hg]) (by rw [hcs]; omega) (by simp [World.frozen?, hv]) (by simp [World.frozen?, hv])]
    rfl
  obtain ⟨cur1, hcur1⟩ : ∃ cur1 : Array Value, cur1 = (cur.toList.take ((k + 1) * 3) ++ n1 ++ cur.toList.drop ((k + 1) * 3 + n1.length)).toArray := ⟨_, rfl⟩
  have hsz1 : cur1.size = c * 3 := by
    rw [hcur1]
    simp only [List.size_toArray, List.length_append, List.length_take, List.length_drop, Array.length_toList]
    omega
  obtain ⟨W1, hW1⟩ : ∃ W1, W1 = w.drew.setRow g cur1 := ⟨_, rfl⟩
  have hg1 : W1.heap[g]? = some (.cells cur1 76 (0, 0)) := by rw [hW1]; exact setRow_heap w.drew g _ _ 76 _ hg
  have hm1 : Nat.min (n + 1 - k) (n - k) = n - k := by simp only [Nat.min_def]; split <;> omega
  have hcp1 : ∀ ty dc sc, (Builtin.copy_ #[72, 72] ty #[.slice (some ⟨g, (k + 1) * 3, none⟩) (n - k) dc, .slice (some ⟨g, k * 3, none⟩) (n + 1 - k) sc]).run Tryz.prog w.drew = .ok (goInt ((n - k : Nat) : Int)) W1 := fun ty dc sc => by
    have := run_copyK (P := Tryz.prog) w.drew 72 72 ty 76 3 g ((k + 1) * 3) (n - k) dc ⟨g, k * 3, none⟩ (n + 1 - k) sc cur 76 n1 Tryz.underlying72 infoE3 hg (by rw [hm1]; exact hl1)
      (fun j v hj => by rw [Addr.add_lit]; show w.cell? _ = _; refine hcell _ _ ?_; rw [hn1, cells_drop es k (by omega), List.getElem?_drop] at hj; exact hj) (by rw [hl1, hcs]; omega) (by rw [hn1]; exact flat_one _)
    rw [hm1] at this
    rw [this, hW1, hcur1]
  have hv1 : W1.heap[vb]? = some (.cells #[.string x.1, .int .i64 x.2.1, .int .i64 x.2.2] 76 (0, 0)) := by rw [hW1, setRow_other w.drew g vb _ hvg]; exact hv
  obtain ⟨cur2, hcur2⟩ : ∃ cur2 : Array Value, cur2 = (cur1.toList.take (k * 3) ++ encE x ++ cur1.toList.drop (k * 3 + (encE x).length)).toArray := ⟨_, rfl⟩
  have hcp2 : ∀ ty dc, (Builtin.copy_ #[72, 72] ty #[.slice (some ⟨g, k * 3, none⟩) (n + 1 - k) dc, .slice (some ⟨vb, 0, none⟩) 1 1]).run Tryz.prog W1 = .ok (goInt ((1 : Nat) : Int)) (W1.setRow g cur2) := fun ty dc => by
    have hm : Nat.min 1 (n + 1 - k) = 1 := by simp only [Nat.min_def]; split <;> omega
    have := run_copyK (P := Tryz.prog) W1 72 72 ty 76 3 g (k * 3) (n + 1 - k) dc ⟨vb, 0, none⟩ 1 1 cur1 76 (encE x) Tryz.underlying72 infoE3 hg1 (by rw [hm]; rfl)
      (fun j v hj => by rw [Addr.add_lit]; match j, hj with
        | 0, hj => simpa [World.cell?, hv1, encE] using hj
        | 1, hj => simpa [World.cell?, hv1, encE] using hj
        | 2, hj => simpa [World.cell?, hv1, encE] using hj
        | j + 3, hj => simp [encE] at hj) (by rw [encE_len, hsz1]; omega) (encE_one x)
    rw [hm] at this
    rw [this, hcur2]
  have hb0 : ¬ ((k : Int) = (n : Int)) := by omega
  have hw1 : IntKind.i64.wrap ((k : Int) + 1) = (k : Int) + 1 := by rw [IntKind.wrap_i64]; omega
  have hb1 : (0 : Int) ≤ (k : Int) + 1 := by omega
  have hb2 : (k : Int) + 1 ≤ (n : Int) + 1 := by omega
  have hb3 : (k : Int) ≤ (n : Int) + 1 := by omega
  have hb4 : ¬ c = k + 1 := by omega
  have hb5 : ¬ c = k := by omega
  have hb6 : ((k : Int) + 1).toNat = k + 1 := by omega
  have HW : Hid (W1 = w.drew.setRow g cur1) := hW1
  have HC1 : Hid (cur1 = (cur.toList.take ((k + 1) * 3) ++ n1 ++ cur.toList.drop ((k + 1) * 3 + n1.length)).toArray) := hcur1
  have HC2 : Hid (cur2 = (cur1.toList.take (k * 3) ++ encE x ++ cur1.toList.drop (k * 3 + (encE x).length)).toArray) := hcur2
  have HN : Hid (n1 = flat (es.drop k)) := hn1
  have HL : Hid (n1.length = (n - k) * 3) := hl1
  have HG : Hid (W1.heap[g]? = some (.cells cur1 76 (0, 0))) := hg1
  have HT : Hid (cur.toList.take (n * 3) = flat es) := ht
  have HS1 : Hid (cur1.size = c * 3) := hsz1
  have HCS : Hid (cur.size = c * 3) := hcs
  have HES : Hid (es.length = n) := hn
  clear hW1 hcur1 hcur2 hn1 hl1 hg1 ht hsz1 hcs hcell hn hv1 hm1 hv hg
  go_enter Tryz.func124, Tryz.ntmps124
  go_wp2_with (simp only [hov])
  go_region_law (refine step_copy_row rfl _ _ 72 72 rfl _ _ (by simp [Act.eval, Act.put]) (by simp [Act.eval, Act.put]) (hcp1 _ _ _) ?_)
  all_goals
    go_wp2_with (at_builtin; refine wp_copy_row _ rfl _ _ 72 72 rfl _ _ rfl rfl (hcp2 _ _) ?_)
    go_ret
    have hs1 := HS1.out
    have hcs := HCS.out
    have hes := HES.out
    have hlk : (cur1.toList.take (k * 3)).length = k * 3 := by rw [List.length_take, Array.length_toList, hs1]; omega
    refine ⟨g, c, rfl, ⟨by rw [flat_len]; simp; omega, .inr ⟨g, c, cur2, rfl, Nat.zero_le _, setRow_heap W1 g _ _ 76 _ HG.out, hnc, by unfold maxLen; omega, ?_, ?_⟩⟩, ?_, .inl rfl⟩
    · rw [HC2.out]
      simp only [List.size_toArray, List.length_append, hlk, List.length_drop, Array.length_toList, hs1, encE_len]; omega
    · rw [HC2.out]
      show List.take ((n + 1) * 3) (cur1.toList.take (k * 3) ++ encE x ++ cur1.toList.drop (k * 3 + (encE x).length)) = _
      have h1 : cur1.toList.take (k * 3) = flat (es.take k) := by
        rw [HC1.out]
        show List.take (k * 3) (cur.toList.take ((k + 1) * 3) ++ n1 ++ cur.toList.drop ((k + 1) * 3 + n1.length)) = _
        rw [List.append_assoc, List.take_append_of_le_length (by rw [List.length_take, Array.length_toList, hcs]; omega), List.take_take, Nat.min_eq_left (by omega), cells_take es k (by omega), ← HT.out, List.take_take, Nat.min_eq_left (by omega)]
      have h2 : (cur1.toList.drop (k * 3 + (encE x).length)).take ((n - k) * 3) = flat (es.drop k) := by
        rw [HC1.out]
        show List.take ((n - k) * 3) (List.drop (k * 3 + (encE x).length) (cur.toList.take ((k + 1) * 3) ++ n1 ++ cur.toList.drop ((k + 1) * 3 + n1.length))) = _
        have hl : (cur.toList.take ((k + 1) * 3)).length = (k + 1) * 3 := by rw [List.length_take, Array.length_toList, hcs]; omega
        rw [show k * 3 + (encE x).length = (k + 1) * 3 by rw [encE_len]; omega, List.append_assoc, List.drop_left' hl, List.take_left' HL.out, HN.out]
      rw [h1, flat_append, show flat (x :: es.drop k) = encE x ++ flat (es.drop k) from rfl, ← List.append_assoc, List.take_append, List.take_of_length_le (by rw [List.length_append, flat_len, encE_len, List.length_take]; omega)]
      congr 1
      rw [show (n + 1) * 3 - (flat (es.take k) ++ encE x).length = (n - k) * 3 by rw [List.length_append, flat_len, encE_len, List.length_take]; omega]
      exact h2
    · refine ⟨by rw [HW.out]; rfl, by rw [HW.out]; rfl, by rw [HW.out]; rfl, by rw [HW.out]; simp, fun y hy hne => ?_⟩
      have hyg : y ≠ g := fun e => hne (by rw [e])
      rw [setRow_other W1 g y _ hyg, HW.out, setRow_other w.drew g y _ hyg]; rfl

set_option maxHeartbeats 4000000 in
set_option maxRecDepth 1000000 in
theorem ins_end (v : Value) (n vb : Nat) (es : List Ent) (x : Ent) (w : World) (la : Option Addr) (c : Nat) (hve : v = .slice la n c) (hrow : w.ownsRow 0 76 3 v n (flat es)) (hn : es.length = n) (h16 : n ≤ 16)
    (hv : w.heap[vb]? = some (.cells #[.string x.1, .int .i64 x.2.1, .int .i64 x.2.2] 76 (0, 0))) (hnc : n ≤ c) (hcm : c ≤ maxLen) :
    Calls Tryz.prog 124 #[.slice la n c, .int .i64 (n : Int), .slice (some ⟨vb, 0, none⟩) 1 1] w fun e w' => Inserted w w' (Value.slice la n c).ownBlock n (es ++ [x]) e := by
  subst hve
  obtain ⟨i0, hi, hz0, hz1, hz2⟩ := info_parts info34
  unfold maxLen at hcm
  have HR : Hid (w.ownsRow 0 76 3 (.slice la n c) n (flat es)) := hrow
  have hcells : ∀ j u, (encE x)[j]? = some u → w.cell? ((⟨vb, 0, none⟩ : Addr).add j) = some u := fun j u hj => by
    rw [Addr.add_lit]
    match j, hj with
    | 0, hj => simpa [World.cell?, hv, encE] using hj
    | 1, hj => simpa [World.cell?, hv, encE] using hj
    | 2, hj => simpa [World.cell?, hv, encE] using hj
    | j + 3, hj => simp [encE] at hj
  have HC : Hid (∀ j u, (encE x)[j]? = some u → w.cell? ((⟨vb, 0, none⟩ : Addr).add j) = some u) := hcells
  clear hrow hcells hv
  by_cases hcn : c = n
  · subst hcn
    go_enter Tryz.func124, Tryz.ntmps124
    go_wp2_with (first | (at_builtin; refine wpList_append_own_at _ rfl (.tmp 23) (.tmp 24) 72 rfl 0 76 i0 _ 3 32 Tryz.underlying72 hi hz0 hz1 hz2 rfl (by decide) (.slice la c c) c (flat es) rfl HR.out ⟨vb, 0, none⟩ 1 1 (encE x) rfl rfl HC.out (encE_one x) (by unfold maxLen; omega) (by omega) (Nat.zero_le _) ?_; intro v' w1 hown' hgrow _ hloc; obtain ⟨g, cap', rfl⟩ := slice_of_owns hown' (by omega)) | go_in)
    go_ret
    refine ⟨g, cap', rfl, ?_, hgrow, ?_⟩
    · rw [flat_append]; exact hown'
    · rcases hloc with h | h
      · exact .inl h
      · right
        have : g = w.heap.size := by simpa [Value.ownBlock] using h
        omega
  · go_enter Tryz.func124, Tryz.ntmps124
    go_wp2_with (first | (at_builtin; refine wpList_append_own_at _ rfl (.tmp 23) (.tmp 24) 72 rfl 0 76 i0 _ 3 32 Tryz.underlying72 hi hz0 hz1 hz2 rfl (by decide) (.slice la n c) n (flat es) rfl HR.out ⟨vb, 0, none⟩ 1 1 (encE x) rfl rfl HC.out (encE_one x) (by unfold maxLen; omega) (by omega) (Nat.zero_le _) ?_; intro v' w1 hown' hgrow _ hloc; obtain ⟨g, cap', rfl⟩ := slice_of_owns hown' (by omega)) | go_in)
    go_ret
    refine ⟨g, cap', rfl, ?_, hgrow, ?_⟩
    · rw [flat_append]; exact hown'
    · rcases hloc with h | h
      · exact .inl h
      · right
        have : g = w.heap.size := by simpa [Value.ownBlock] using h
        omega

end Go.Proofs.YtajopoddmfdejaaGreat
