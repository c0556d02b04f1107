/-
  What is proved here: the listing of a directory as one value: its entries' cells, and nothing behind them. a directory's listing can be a map's key, and two listings are one key just if they have the same entries. kind, at and measure over a pool that holds a list of objects. 'measure' over a pool and a list of entries: no such object, too deep, or how much stands one below the other. GetDir of the objects' pool: no such directory, or a new list of its entries.
-/
import Derived.Test.YtajopoddmfdejaaGreatBackM02
import Derived.Laws.CopyOwn
import Derived.DeepKeys4
namespace Go.Proofs.YtajopoddmfdejaaGreat
open Go.RowKit Go.Sort Go.Shelf
set_option linter.unusedVariables false

theorem run_copyK {P : Program} (w : World) (dT sT ty elem : TypeId) (size g o dLen dCap : Nat) (a : Addr) (sLen sCap : Nat) (cur : Array Value) (t : TypeId) (cs : List Value)
    (hu : P.underlying dT = some (.slice elem)) (hs : (P.info? elem).map (·.size) = some size)
    (hg : w.heap[g]? = some (.cells cur t (0, 0))) (hn : cs.length = Nat.min sLen dLen * size)
    (hsrc : ∀ j v, cs[j]? = some v → w.cell? (a.add j) = some v) (hfit : o + cs.length ≤ cur.size) (h1 : ∀ v ∈ cs, v.oneCell' = true) :
    (Builtin.copy_ #[dT, sT] ty #[.slice (some ⟨g, o, none⟩) dLen dCap, .slice (some a) sLen sCap]).run P w =
      .ok (goInt (Nat.min sLen dLen)) (w.setRow g (cur.toList.take o ++ cs ++ cur.toList.drop (o + cs.length)).toArray) := by
  have hl := run_loadCells_list (P := P) w a cs hsrc
  have hst := run_storeCells_at P g o t cs 0 cur w hg (by simpa using hfit) h1
  cases hq : P.info? elem with
  | none => simp [hq] at hs
  | some i =>
    have hi : i.size = size := by simpa [hq] using hs
    simp [Builtin.copy_, run_underlying hu, Builtin.lenOf, Builtin.firstCells, sizeOf, typeInfo, hq, hi, ← hn, hl, hst]

theorem wpList_copyK {P : Program} {w : World} {ops : Array Oper} {rest : List Oper} {o : Oper} {a : Act} {Q : Exit → Act → World → Prop} (hgd : o.guard = none) (d s : Operand) (dT sT : TypeId)
    (ho : o.op = .call { callee := .builtin .copy, args := #[d, s], argTypes := #[dT, sT] }) (elem : TypeId) (hu : P.underlying dT = some (.slice elem)) (size : Nat) (hsz : (P.info? elem).map (·.size) = some size)
    (g off dLen dCap : Nat) (ad : Addr) (sLen sCap : Nat) (hd : a.eval d = .slice (some ⟨g, off, none⟩) dLen dCap) (hs : a.eval s = .slice (some ad) sLen sCap)
    (cur : Array Value) (t : TypeId) (hg : w.heap[g]? = some (.cells cur t (0, 0))) (cs : List Value) (hn : cs.length = Nat.min sLen dLen * size)
    (hsrc : ∀ j v, cs[j]? = some v → w.cell? (ad.add j) = some v) (hfit : off + cs.length ≤ cur.size) (h1 : ∀ v ∈ cs, v.oneCell' = true)
    (new : Array Value) (hnew : new.toList = cur.toList.take off ++ cs ++ cur.toList.drop (off + cs.length))
    (h : ∀ w', Hid (w'.heap[g]? = some (.cells new t (0, 0))) → w.grownBy w' (some g) → wpList P ops Q rest (a.put o.dst (goInt (Nat.min sLen dLen))) w') : wpList P ops Q (o :: rest) a w := by
  refine wpList_plain hgd fun K hK => ?_
  have hrun := run_copyK (P := P) w dT sT o.type elem size g off dLen dCap ad sLen sCap cur t cs hu hsz hg hn hsrc hfit h1
  rw [← hnew, Array.toArray_toList] at hrun
  unfold Oper.wp
  simp [execOp, ho, resolve, invoke, builtin, hd, hs, hrun, Result.andThen]
  exact hK _ _ (h _ (setRow_heap w g _ _ t _ hg) ⟨rfl, rfl, rfl, by simp, fun k hk hne => setRow_other w g k _ (fun e => hne (by rw [e]))⟩)

/-- Sixteen empty places. -/
def zeroL : List Value := (List.replicate 16 (encE (ByteArray.empty, 0, 0))).flatten
theorem zeroL_len : zeroL.length = 48 := by decide
theorem zeroL_one : ∀ v ∈ zeroL, v.oneCell' = true := by
  intro v hv
  obtain ⟨l, hl, h⟩ := List.mem_flatten.1 hv
  rw [(List.mem_replicate.1 hl).2] at h
  exact encE_one _ v h
/-- A directory's entries as one value. -/
def listing (es : List Ent) : Array Value := (flat es ++ zeroL.drop (es.length * 3)).toArray

theorem listing_size {es : List Ent} (h : es.length ≤ 16) : (listing es).size = 48 := by
  simp only [listing, List.size_toArray, List.length_append, flat_len, List.length_drop, zeroL_len]; omega

theorem listing_one (es : List Ent) : (listing es).all (·.oneCell') = true := by
  rw [Array.all_eq_true']
  intro v hv
  simp only [listing, List.mem_toArray, List.mem_append] at hv
  rcases hv with h | h
  · exact flat_one es v h
  · exact zeroL_one v (List.mem_of_mem_drop h)

theorem info58 : (Tryz.prog.info? 140).map (·.size) = some 48 := by kernel_rfl
theorem info34s : (Tryz.prog.info? 76).map (·.size) = some 3 := by kernel_rfl

set_option maxRecDepth 100000 in
set_option maxHeartbeats 800000 in
theorem listing_some (g n cap : Nat) (es : List Ent) (w : World) (hl : es.length = n) (hgl : g < w.heap.size) (h16 : n ≤ 16) (hc : ∀ j u, (flat es)[j]? = some u → w.cell? ⟨g, 0 + j, none⟩ = some u) :
    Calls Tryz.prog 70 #[.slice (some ⟨g, 0, none⟩) n cap] w fun e w' => e = .returned (.agg (listing es)) ∧ Below w.heap.size w w' := by
  have HC : Hid (∀ j u, (flat es)[j]? = some u → w.cell? ⟨g, 0 + j, none⟩ = some u) := hc
  have HL : Hid (es.length = n) := hl
  have HM : Hid (Nat.min n 16 = n) := Nat.min_eq_left h16
  have HZ : Hid ((listing es).size = 48) := listing_size (by omega)
  have HSRC : Hid (∀ A B j v, (flat es)[j]? = some v → ((w.alloc A).alloc B).cell? ((⟨g, 0, none⟩ : Addr).add j) = some v) := by
    intro A B j v h
    have h1 := hc j v h
    have h2 : (⟨g, 0, none⟩ : Addr).add j = ⟨g, 0 + j, none⟩ := by unfold Addr.add; split <;> simp_all
    rw [h2, World.cell?_alloc_past _ _ _ (by simp; omega), World.cell?_alloc_past _ _ _ hgl, h1]
  have HNEW : Hid ((listing es).toList = zeroL.take 0 ++ flat es ++ zeroL.drop (0 + (flat es).length)) := by
    show (listing es).toList = _
    simp only [listing, List.take_zero, List.nil_append, Nat.zero_add, flat_len]
  have HN : Hid ((flat es).length = Nat.min n 16 * 3) := by
    show (flat es).length = _
    rw [flat_len, hl, HM.out]
  have HF : Hid (0 + (flat es).length ≤ 48) := by
    show 0 + (flat es).length ≤ 48
    rw [flat_len, hl]; omega
  clear hc hl
  go_enter Tryz.func70, Tryz.ntmps70
  go_wp2_with (first
    | (refine wpList_copyK rfl (.tmp 4) (.tmp 5) 72 72 rfl 76 Tryz.underlying72 3 info34s (w.heap.size + 1) 0 16 16 ⟨g, 0, none⟩ n cap rfl rfl _ 140 (heap_alloc2_new _ _ _) (flat es) ?_ ?_ ?_ (flat_one es) (listing es) ?_ ?_; go_must (exact HN.out); go_must (exact HSRC.out _ _); go_must (exact HF.out); go_must (exact HNEW.out); intro w1 H1 hg1)
    | (refine wpList_load_row rfl 140 _ rfl (w.heap.size + 1) rfl 140 (listing es) (0, 0) _ H1.out Tryz.underlying140 rfl (by rw [HZ.out]; exact info58) ?_)
    | (refine wpList_store_row rfl 140 _ _ rfl w.heap.size (listing es) rfl rfl 140 _ ((hg1.block w.heap.size (by simp; omega) (by simp)).trans (heap_alloc2_old _ _ _)) (by rw [HZ.out]; exact info58) (by rw [HZ.out]; rfl) (listing_one es) ?_)
    | go_in)
  have h0 : (w1.setRow w.heap.size (listing es)).heap[w.heap.size]? = some (.cells (listing es) 140 (0, 0)) := setRow_heap w1 w.heap.size _ _ 140 (0, 0) ((hg1.block w.heap.size (by simp; omega) (by simp)).trans (heap_alloc2_old _ _ _))
  refine bodyPost_ret (v := .agg (listing es)) (results_cell_row Tryz.results70 _ _ w.heap.size 140 (listing es) (0, 0) _ rfl h0 Tryz.underlying140 rfl (by rw [HZ.out]; exact info58)) rfl ⟨rfl, ?_⟩
  have hb1 : Below w.heap.size w w1 := (((Below.refl _ _).alloc (Nat.le_refl _) _).alloc (by simp) _).grown hg1 (by simp; omega) (fun k h => by cases h; omega)
  exact below_setRow hb1 (Nat.le_refl _) _
end Go.Proofs.YtajopoddmfdejaaGreat

namespace Go.Proofs.YtajopoddmfdejaaGreat
open Go.RowKit Go.Sort Go.Shelf
set_option linter.unusedVariables false

theorem laidOut : laidOutB Tryz.prog = true := by kernel_rfl
theorem row58 : 140 < Tryz.prog.types.size := of_decide_eq_true (by kernel_rfl)
theorem law58 : Maps.Keyed Tryz.prog 140 := Maps.Keyed.of_law (deep_law_laid laidOut (m := 9) (by omega) row58 (by kernel_rfl) (by rw [Tryz.underlying140]))

theorem cells58 : Tryz.prog.cellsOf 140 = 48 := by kernel_rfl
theorem cells34 : Tryz.prog.cellsOf 76 = 3 := by kernel_rfl
theorem cells9 : Tryz.prog.cellsOf 9 = 1 := by kernel_rfl
theorem cells3 : Tryz.prog.cellsOf 3 = 1 := by kernel_rfl
theorem cells25 : Tryz.prog.cellsOf 26 = 1 := by kernel_rfl
theorem keyT58 : Tryz.prog.keyType 140 = true := by kernel_rfl

/-- An entry whose name and numbers fit. -/
def Fits (e : Ent) : Prop := e.1.size ≤ maxLen ∧ (Lit.int .i64 e.2.1).wf = true ∧ (Lit.int .i64 e.2.2).wf = true

theorem lits34 (d : Nat) (e : Ent) (h : Fits e) : ∃ ls, Tryz.prog.keyLits (d + 2) 76 (encE e) = some ls := by
  obtain ⟨h1, h2, h3⟩ := h
  have a1 : Tryz.prog.keyLits (d + 1) 9 [.string e.1] = some [.string e.1.data.toList] := by unfold Program.keyLits; simp [Tryz.underlying9, h1]
  have a2 : Tryz.prog.keyLits (d + 1) 3 [.int .i64 e.2.1] = some [.int .i64 e.2.1] := by unfold Program.keyLits; simp [Tryz.underlying3, h2]
  have a3 : Tryz.prog.keyLits (d + 1) 26 [.int .i64 e.2.2] = some [.int .i64 e.2.2] := by unfold Program.keyLits; simp [Tryz.underlying26, h3]
  unfold Program.keyLits
  simp [Tryz.underlying76, encE, cells34, cells9, cells3, cells25, a1, a2, a3]

theorem mapM_some {α β : Type} (f : α → Option β) : ∀ l : List α, (∀ x ∈ l, ∃ y, f x = some y) → ∃ ys, l.mapM f = some ys
  | [], _ => ⟨[], rfl⟩
  | x :: r, h => by
    obtain ⟨y, hy⟩ := h x (by simp)
    obtain ⟨ys, hys⟩ := mapM_some f r (fun z hz => h z (by simp [hz]))
    exact ⟨y :: ys, by simp [List.mapM_cons, hy, hys]⟩

/-- The i-th place of a listing. -/
theorem listing_place (es : List Ent) (h16 : es.length ≤ 16) (i : Nat) (hi : i < 16) : ((listing es).toList.drop (i * 3)).take 3 = encE ((es[i]?).getD (ByteArray.empty, 0, 0)) := by
  have hfl := flat_len es
  apply List.ext_getElem?
  intro j
  by_cases hj : j < 3
  · rw [List.getElem?_take_of_lt hj, List.getElem?_drop]
    simp only [listing]
    by_cases hi2 : i < es.length
    · rw [List.getElem?_append_left (by rw [hfl]; omega), flat_get es i j hi2 hj, List.getElem?_eq_getElem hi2]; rfl
    · rw [List.getElem?_append_right (by rw [hfl]; omega), List.getElem?_drop, hfl, List.getElem?_eq_none (l := es) (by omega)]
      have e1 : es.length * 3 + (i * 3 + j - es.length * 3) = i * 3 + j := by omega
      rw [e1]
      have hz := flat_get (List.replicate 16 (ByteArray.empty, 0, 0)) i j (by simp; omega) hj
      rw [List.getElem_replicate] at hz
      exact hz
  · rw [List.getElem?_take_eq_none (by omega), List.getElem?_eq_none (by rw [encE_len]; omega)]

theorem lits58 (d : Nat) (es : List Ent) (h16 : es.length ≤ 16) (hf : ∀ e ∈ es, Fits e) : ∃ ls, Tryz.prog.keyLits (d + 3) 140 (listing es).toList = some ls := by
  have hl : (listing es).toList.length = 48 := by simp [listing_size h16]
  obtain ⟨ys, hys⟩ := mapM_some (fun i => Tryz.prog.keyLits (d + 2) 76 (((listing es).toList.drop (i * 3)).take 3)) (List.range 16) (by
    intro i hi
    rw [List.mem_range] at hi
    rw [listing_place es h16 i hi]
    refine lits34 d _ ?_
    by_cases h : i < es.length
    · rw [List.getElem?_eq_getElem h]; exact hf _ (List.getElem_mem h)
    · rw [List.getElem?_eq_none (by omega)]; exact ⟨by decide, by decide, by decide⟩)
  refine ⟨ys.flatten, ?_⟩
  unfold Program.keyLits
  simp only [Tryz.underlying140, cells58, hl, if_true, cells34, hys, Option.map_some]

/-- What a listing is as a key. -/
def keyFor (P : Program) (es : List Ent) : Lit := (keyOf P 140 (.agg (listing es))).getD .nil

theorem keyOf_listing (es : List Ent) (h16 : es.length ≤ 16) (hf : ∀ e ∈ es, Fits e) : keyOf Tryz.prog 140 (.agg (listing es)) = some (keyFor Tryz.prog es) := by
  have hx : ∃ k, keyOf Tryz.prog 140 (.agg (listing es)) = some k := by
    have hfo : Value.formed Tryz.prog 140 (.agg (listing es)) = true := by
      unfold Value.formed
      rw [Tryz.underlying140]
      simp [cells58, listing_size h16]
    obtain ⟨n, hn⟩ : ∃ n, Tryz.prog.types.size + 1 = n + 3 := ⟨Tryz.prog.types.size - 2, by have := row58; omega⟩
    obtain ⟨ls, hls⟩ := lits58 n es h16 hf
    unfold keyOf
    rw [Tryz.underlying140]
    simp only [keyT58, hfo, Bool.and_self, if_true, Value.cells, hn, hls, Option.map_some]
    exact ⟨_, rfl⟩
  obtain ⟨k, hk⟩ := hx
  unfold keyFor
  rw [hk]; rfl


/-- Two listings of entries that have names are one just if the entries are. -/
theorem listing_inj {es fs : List Ent} (h1 : es.length ≤ 16) (h2 : fs.length ≤ 16) (n1 : ∀ e ∈ es, 1 ≤ e.1.size) (n2 : ∀ e ∈ fs, 1 ≤ e.1.size) (h : listing es = listing fs) : es = fs := by
  have key : ∀ i, i < 16 → (es[i]?).getD (ByteArray.empty, 0, 0) = (fs[i]?).getD (ByteArray.empty, 0, 0) := by
    intro i hi
    have a := listing_place es h1 i hi
    rw [h, listing_place fs h2 i hi] at a
    simp only [encE, List.cons.injEq, Value.string.injEq, Value.int.injEq, true_and, and_true] at a
    exact (Prod.ext a.1 (Prod.ext a.2.1 a.2.2)).symm
  have e0 : ByteArray.empty.size = 0 := rfl
  apply List.ext_getElem?
  intro i
  by_cases hi : i < 16
  · have k := key i hi
    cases ha : es[i]? with
    | none =>
      cases hb : fs[i]? with
      | none => rfl
      | some y =>
        rw [ha, hb] at k
        simp only [Option.getD_none, Option.getD_some] at k
        have := n2 y (List.mem_of_getElem? hb)
        rw [← k, e0] at this; omega
    | some x =>
      cases hb : fs[i]? with
      | none =>
        rw [ha, hb] at k
        simp only [Option.getD_none, Option.getD_some] at k
        have := n1 x (List.mem_of_getElem? ha)
        rw [k, e0] at this; omega
      | some y =>
        rw [ha, hb] at k
        simp only [Option.getD_some] at k
        rw [k]
  · rw [List.getElem?_eq_none (by omega), List.getElem?_eq_none (by omega)]

theorem keyFor_inj {es fs : List Ent} (h1 : es.length ≤ 16) (h2 : fs.length ≤ 16) (f1 : ∀ e ∈ es, Fits e) (f2 : ∀ e ∈ fs, Fits e) (n1 : ∀ e ∈ es, 1 ≤ e.1.size) (n2 : ∀ e ∈ fs, 1 ≤ e.1.size)
    (h : keyFor Tryz.prog es = keyFor Tryz.prog fs) : es = fs := by
  have a := keyOf_listing es h1 f1
  have b := keyOf_listing fs h2 f2
  rw [← h] at b
  have := law58.inj a b
  exact listing_inj h1 h2 n1 n2 (by simpa using this)

end Go.Proofs.YtajopoddmfdejaaGreat

namespace Go.Proofs.YtajopoddmfdejaaGreat
open Go.RowKit Go.Sort Go.Shelf
set_option linter.unusedVariables false
variable {ft : PTail}

/-- An object as the pool holds it: its kind, a file's bytes, the list of a directory (its memory, and its entries), how much stands one below the other in it. -/
structure Ob where
  kind : Int
  data : ByteArray
  ea : Option Addr
  el : Nat
  ec : Nat
  ents : List Ent
  high : Int

def Ob.cells (o : Ob) : List Value := [.int .i64 o.kind, .string o.data, .slice o.ea o.el o.ec, .int .i64 o.high]
def obCells (objs : List Ob) : List Value := objs.flatMap Ob.cells

theorem obCells_len (objs : List Ob) : (obCells objs).length = objs.length * 4 := by
  induction objs with
  | nil => rfl
  | cons e r ih => simp only [obCells, List.flatMap_cons, List.length_append, List.length_cons] at *; rw [ih]; simp only [Ob.cells, List.length_cons, List.length_nil]; omega

theorem obCells_get : ∀ (es : List Ob) (i j : Nat) (hi : i < es.length), j < 4 → (obCells es)[i * 4 + j]? = (es[i].cells)[j]?
  | [], i, j, hi, _ => by simp at hi
  | e :: r, 0, j, _, hj => by
    simp only [obCells, List.flatMap_cons, Nat.zero_mul, Nat.zero_add, List.getElem_cons_zero]
    rw [List.getElem?_append_left (by simpa [Ob.cells] using hj)]
  | e :: r, i + 1, j, hi, hj => by
    have ih := obCells_get r i j (by simpa using hi) hj
    have h4 : e.cells.length = 4 := rfl
    simp only [obCells, List.flatMap_cons, List.getElem_cons_succ] at ih ⊢
    rw [List.getElem?_append_right (by rw [h4]; omega), h4, ← ih]
    congr 1; omega

/-- The pool at block p, its row of objects. -/
structure Pooled (ft : PTail) (w : World) (p : Nat) (a : Option Addr) (n cap bf bd : Nat) (objs : List Ob) : Prop where
  at_ : PoolAt ft w p a n cap bf bd
  row : w.ownsRow 0 145 4 (.slice a n cap) n (obCells objs)
  len : objs.length = n
  many : n ≤ 400

theorem Pooled.below {w w' : World} {p : Nat} {a : Option Addr} {n cap bf bd : Nat} {objs : List Ob} (h : Pooled ft w p a n cap bf bd objs) (hb : Below w.heap.size w w') : Pooled ft w' p a n cap bf bd objs :=
  ⟨h.at_.below hb, ownsRow_keep h.row (fun g hg => hb.block g (ownsRow_lt h.row hg)), h.len, h.many⟩

theorem Pooled.cells {w : World} {p : Nat} {a : Option Addr} {n cap bf bd : Nat} {objs : List Ob} (h : Pooled ft w p a n cap bf bd objs) {i : Nat} (hi : i < objs.length) :
    ∃ g, a = some ⟨g, 0, none⟩ ∧ g < w.heap.size ∧ w.cell? ⟨g, i * 4, none⟩ = some (.int .i64 objs[i].kind) ∧ w.cell? ⟨g, i * 4 + 1, none⟩ = some (.string objs[i].data) ∧
      w.cell? ⟨g, i * 4 + 2, none⟩ = some (.slice objs[i].ea objs[i].el objs[i].ec) ∧ w.cell? ⟨g, i * 4 + 3, none⟩ = some (.int .i64 objs[i].high) := by
  have hn : i < n := by rw [← h.len]; exact hi
  rcases h.row.2 with ⟨_, h0⟩ | ⟨g, cap', cur, hv, _, hg, _, _, hcur, ht⟩
  · omega
  · cases hv
    have key : ∀ j u, j < 4 → (objs[i].cells)[j]? = some u → w.cell? ⟨g, i * 4 + j, none⟩ = some u := by
      intro j u hj hu
      rw [← obCells_get objs i j hi hj, ← ht, List.getElem?_take_of_lt (by omega), Array.getElem?_toList] at hu
      simp [World.cell?, hg, hu]
    exact ⟨g, rfl, (Array.getElem?_eq_some_iff.1 hg).1, key 0 _ (by omega) rfl, key 1 _ (by omega) rfl, key 2 _ (by omega) rfl, key 3 _ (by omega) rfl⟩

/-- The kind of the object of an ID; 0: there is none. -/
def kindOf (objs : List Ob) (id : Int) : Int := if 1 ≤ id then ((objs[(id - 1).toNat]?).map (·.kind)).getD 0 else 0
def highOf (objs : List Ob) (id : Int) : Int := ((objs[(id - 1).toNat]?).map (·.high)).getD 0

theorem kindOf_in {objs : List Ob} {j : Nat} (hj : j < objs.length) : kindOf objs ((j : Int) + 1) = objs[j].kind := by
  unfold kindOf
  rw [if_pos (by omega), show ((j : Int) + 1 - 1).toNat = j by omega, List.getElem?_eq_getElem hj]; rfl
theorem highOf_in {objs : List Ob} {j : Nat} (hj : j < objs.length) : highOf objs ((j : Int) + 1) = objs[j].high := by
  unfold highOf
  rw [show ((j : Int) + 1 - 1).toNat = j by omega, List.getElem?_eq_getElem hj]; rfl
theorem kindOf_out {objs : List Ob} {id : Int} (h : id < 1 ∨ (objs.length : Int) < id) : kindOf objs id = 0 := by
  unfold kindOf
  rcases h with h | h
  · rw [if_neg (by omega)]
  · rw [if_pos (by omega), List.getElem?_eq_none (by omega)]; rfl

theorem kind_any (p : Nat) (a : Option Addr) (n cap bf bd : Nat) (objs : List Ob) (id : Int) (w : World) (h : Pooled ft w p a n cap bf bd objs) :
    Calls Tryz.prog 61 #[.pointer (some ⟨p, 0, none⟩), .int .i64 id] w fun e w' => e = .returned (.int .i64 (kindOf objs id)) ∧ Below w.heap.size w w' := by
  by_cases hid : id < 1 ∨ (n : Int) < id
  · rw [kindOf_out (by rw [h.len]; exact hid)]
    exact (kind_none p n cap a id w h.at_.c0 h.many hid).mono fun e w' ⟨he, hw⟩ => ⟨he, by rw [hw]; exact Below.refl _ _⟩
  · obtain ⟨j, rfl⟩ : ∃ j : Nat, id = (j : Int) + 1 := ⟨(id - 1).toNat, by omega⟩
    have hj : j < objs.length := by rw [h.len]; omega
    obtain ⟨g, rfl, hg, c0, c1, c2, c3⟩ := h.cells hj
    rw [kindOf_in hj]
    exact (kind_some p g n cap j _ _ _ _ _ _ w h.at_.lt hg h.at_.c0 (by omega) h.many c0 c1 c2 c3).mono fun e w' ⟨he, hw⟩ => ⟨he, by rw [hw]; exact (Below.refl _ _).alloc (Nat.le_refl _) _⟩

theorem at_in (p : Nat) (a : Option Addr) (n cap bf bd : Nat) (objs : List Ob) (j : Nat) (hj : j < objs.length) (w : World) (h : Pooled ft w p a n cap bf bd objs) :
    Calls Tryz.prog 102 #[.pointer (some ⟨p, 0, none⟩), .int .i64 ((j : Int) + 1)] w fun e w' => e = .returned (.agg #[.int .i64 objs[j].kind, .string objs[j].data, .slice objs[j].ea objs[j].el objs[j].ec, .int .i64 objs[j].high]) ∧ Below w.heap.size w w' := by
  obtain ⟨g, rfl, hg, c0, c1, c2, c3⟩ := h.cells hj
  exact (at_any p g n cap j _ _ _ _ _ _ w h.at_.lt hg h.at_.c0 (by rw [← h.len]; exact hj) h.many c0 c1 c2 c3).mono fun e w' ⟨he, hw⟩ => ⟨he, by rw [hw]; exact (Below.refl _ _).alloc (Nat.le_refl _) _⟩

set_option maxRecDepth 100000 in
set_option maxHeartbeats 400000 in
theorem height_in (p : Nat) (a : Option Addr) (n cap bf bd : Nat) (objs : List Ob) (j : Nat) (hj : j < objs.length) (w : World) (h : Pooled ft w p a n cap bf bd objs) :
    Calls Tryz.prog 114 #[.pointer (some ⟨p, 0, none⟩), .int .i64 ((j : Int) + 1)] w fun e w' => e = .returned (.int .i64 objs[j].high) ∧ Below w.heap.size w w' := by
  have hcon := at_in p a n cap bf bd objs j hj w h
  have f3 := fld3
  go_enter Tryz.func114, Tryz.ntmps114
  go_wp2_with (go_at_call 102; refine hcon.mono ?_; rintro e w' ⟨rfl, hb⟩)
  go_ret
  exact ⟨rfl, hb⟩

/-- GetFile's answer. -/
theorem file_any (p : Nat) (a : Option Addr) (n cap bf bd : Nat) (objs : List Ob) (id : Int) (w : World) (h : Pooled ft w p a n cap bf bd objs) :
    Calls Tryz.prog 58 #[.pointer (some ⟨p, 0, none⟩), .int .i64 id] w fun e w' => Below w.heap.size w w' ∧
      ((kindOf objs id ≠ 1 ∧ e = .returned (.tuple #[.string ByteArray.empty, .int .i64 13])) ∨ ∃ j, ∃ hj : j < objs.length, id = (j : Int) + 1 ∧ objs[j].kind = 1 ∧ e = .returned (.tuple #[.string objs[j].data, .int .i64 0])) := by
  by_cases hid : id < 1 ∨ (n : Int) < id
  · exact (file_not p n cap a id w h.at_.c0 h.many hid).mono fun e w' ⟨he, hw⟩ => ⟨by rw [hw]; exact Below.refl _ _, .inl ⟨by rw [kindOf_out (by rw [h.len]; exact hid)]; decide, he⟩⟩
  · obtain ⟨j, rfl⟩ : ∃ j : Nat, id = (j : Int) + 1 := ⟨(id - 1).toNat, by omega⟩
    have hj : j < objs.length := by rw [h.len]; omega
    obtain ⟨g, rfl, hg, c0, c1, c2, c3⟩ := h.cells hj
    refine (file_some p g n cap j _ _ _ _ _ _ w h.at_.lt hg h.at_.c0 (by omega) h.many c0 c1 c2 c3).mono fun e w' ⟨he, hw⟩ => ⟨hw, ?_⟩
    by_cases hk : objs[j].kind = 1
    · rw [if_pos hk] at he; exact .inr ⟨j, hj, rfl, hk, he⟩
    · rw [if_neg hk] at he; exact .inl ⟨by rw [kindOf_in hj]; exact hk, he⟩

end Go.Proofs.YtajopoddmfdejaaGreat

namespace Go.Proofs.YtajopoddmfdejaaGreat
open Go.RowKit Go.Sort Go.Shelf
set_option linter.unusedVariables false
variable {ft : PTail}

/-- Is the object of an entry there, and of its kind? -/
def goodE (objs : List Ob) (e : Ent) : Bool := !(kindOf objs e.2.2 == 0) && (kindOf objs e.2.2 == e.2.1)
def highs (objs : List Ob) (es : List Ent) : Int := es.foldl (fun h e => max h (1 + highOf objs e.2.2)) 0

theorem highs_snoc (objs : List Ob) (es : List Ent) (e : Ent) : highs objs (es ++ [e]) = max (highs objs es) (1 + highOf objs e.2.2) := by
  simp only [highs, List.foldl_append, List.foldl_cons, List.foldl_nil]

/-- What 'measure' answers. -/
def Measured (w w' : World) (objs : List Ob) (es : List Ent) (e : Ending) : Prop :=
    Below w.heap.size w w' ∧
      (((∃ x ∈ es, goodE objs x = false) ∧ e = .returned (.tuple #[.int .i64 0, .int .i64 13])) ∨
       ((∀ x ∈ es, goodE objs x = true) ∧ 5 < highs objs es ∧ e = .returned (.tuple #[.int .i64 0, .int .i64 11])) ∨
       ((∀ x ∈ es, goodE objs x = true) ∧ highs objs es ≤ 5 ∧ 0 ≤ highs objs es ∧ e = .returned (.tuple #[.int .i64 (highs objs es), .int .i64 0])))

set_option maxRecDepth 100000 in
set_option maxHeartbeats 1000000 in
theorem measure_some (p g cap' : Nat) (a : Option Addr) (n cap bf bd m : Nat) (objs : List Ob) (es : List Ent) (w : World) (h : Pooled ft w p a n cap bf bd objs) (hl : es.length = m) (hm : m ≤ 16) (hgl : g < w.heap.size)
    (hc : ∀ j u, (flat es)[j]? = some u → w.cell? ⟨g, 0 + j, none⟩ = some u) (hh : ∀ o ∈ objs, 0 ≤ o.high ∧ o.high ≤ 5) :
    Calls Tryz.prog 69 #[.pointer (some ⟨p, 0, none⟩), .slice (some ⟨g, 0, none⟩) m cap'] w fun e w' => Measured w w' objs es e := by
  have HC : Hid (∀ j u, (flat es)[j]? = some u → w.cell? ⟨g, 0 + j, none⟩ = some u) := hc
  have HL : Hid (es.length = m) := hl
  have HH : Hid (∀ o ∈ objs, 0 ≤ o.high ∧ o.high ≤ 5) := hh
  clear hc hl hh
  go_enter Tryz.func69, Tryz.ntmps69
  go_wp2
  go_loopw [6, 12] (fun t i wr => ∃ k : Nat, k ≤ m ∧ i = .int .i64 k ∧ t = .int .i64 (highs objs (es.take k)) ∧ 0 ≤ highs objs (es.take k) ∧ highs objs (es.take k) ≤ 6 ∧ Below w.heap.size w wr ∧ Hid (∀ j (hj : j < es.length), j < k → goodE objs es[j] = true)) (fun _ i _ => m - (intOf i).toNat)
  case atStart => exact ⟨0, Nat.zero_le _, rfl, rfl, Int.le_refl _, by show (0 : Int) ≤ 6; decide, Below.refl _ _, fun j hj h => by omega⟩
  case round =>
    obtain ⟨k, hk, rfl, rfl, h0, h6, hb, HV⟩ := hrel
    by_cases hlt : k < m
    · have hk' : k < es.length := by rw [HL.out]; exact hlt
      obtain ⟨c0, c1, c2⟩ := row_cells HC.out hk'
      rw [Nat.zero_add] at c0 c1 c2
      have d0 := (hb.cell (p := ⟨g, k * 3, none⟩) hgl).trans c0
      have d1 := (hb.cell (p := ⟨g, k * 3 + 1, none⟩) hgl).trans c1
      have d2 := (hb.cell (p := ⟨g, k * 3 + 2, none⟩) hgl).trans c2
      have hgl' : g < wr.heap.size := Nat.lt_of_lt_of_le hgl hb.size
      clear c0 c1 c2
      have hkind := fun (W : World) (hW : Below w.heap.size w W) => kind_any p a n cap bf bd objs es[k].2.2 W (h.below hW)
      obtain ⟨q, hq⟩ : ∃ q, q = kindOf objs es[k].2.2 := ⟨_, rfl⟩
      have HQ : Hid (q = kindOf objs es[k].2.2) := hq
      rw [← hq] at hkind
      clear hq
      have box := fun (W1 : World) (X : Obj) (hW : Below (wr.alloc X).heap.size (wr.alloc X) W1) (o : Nat) => hW.cell (p := ⟨wr.heap.size, o, none⟩) (by simp)
      cases hg1 : (q == 0) with
      | true =>
        have HG : Hid (goodE objs es[k] = false) := by
          show goodE objs es[k] = false
          unfold goodE
          rw [← HQ.out, hg1]; rfl
        go_wp2_with (go_at_call 61; refine (hkind _ (hb.alloc hb.size _)).mono ?_; rintro e w1 ⟨rfl, hb1⟩)
        go_ret2
        exact ⟨(hb.alloc hb.size _).trans (hb1.mono (by simp; have := hb.size; omega)), .inl ⟨⟨es[k], List.getElem_mem hk', HG.out⟩, rfl⟩⟩
      | false =>
        cases hg2 : (q == es[k].2.1) with
        | false =>
          have HG : Hid (goodE objs es[k] = false) := by
            show goodE objs es[k] = false
            unfold goodE
            rw [← HQ.out, hg1, hg2]; rfl
          go_wp2_with (go_at_call 61; refine (hkind _ (hb.alloc hb.size _)).mono ?_; rintro e w1 ⟨rfl, hb1⟩; have b1 := box _ _ hb1 1; simp at b1)
          go_ret2
          exact ⟨(hb.alloc hb.size _).trans (hb1.mono (by simp; have := hb.size; omega)), .inl ⟨⟨es[k], List.getElem_mem hk', HG.out⟩, rfl⟩⟩
        | true =>
          have HG : Hid (goodE objs es[k] = true) := by
            show goodE objs es[k] = true
            unfold goodE
            rw [← HQ.out, hg1, hg2]; rfl
          obtain ⟨j, hj, he⟩ : ∃ j : Nat, j < objs.length ∧ es[k].2.2 = (j : Int) + 1 := by
            by_cases hid : es[k].2.2 < 1 ∨ (objs.length : Int) < es[k].2.2
            · have := HQ.out; rw [kindOf_out hid] at this; simp [this] at hg1
            · exact ⟨(es[k].2.2 - 1).toNat, by omega, by omega⟩
          have HJ : Hid (highOf objs es[k].2.2 = objs[j].high) := by
            show highOf objs es[k].2.2 = objs[j].high
            rw [he]; exact highOf_in hj
          have hat := fun (W : World) (hW : Below w.heap.size w W) => height_in p a n cap bf bd objs j hj W (h.below hW)
          rw [← he] at hat
          obtain ⟨hj0, hj5⟩ := HH.out objs[j] (List.getElem_mem hj)
          have f3 := fld3
          clear he
          go_wp2_with (first
            | (go_at_call 61; refine (hkind _ (hb.alloc hb.size _)).mono ?_; rintro e w1 ⟨rfl, hb1⟩; have b1 := box _ _ hb1 1; have b2 := box _ _ hb1 2; simp at b1 b2; have hbw := (hb.alloc hb.size _).trans (hb1.mono (by simp; have := hb.size; omega)))
            | (go_at_call 114; refine (hat _ hbw).mono ?_; rintro e w2 ⟨rfl, hb2⟩))
          have hst : highs objs (es.take (k + 1)) = max (highs objs (es.take k)) (1 + objs[j].high) := by
            rw [List.take_succ_eq_append_getElem hk', highs_snoc, HJ.out]
          go_roundw
          case rel =>
            refine ⟨k + 1, by omega, by go_num, by rw [hst], by rw [hst]; omega, by rw [hst]; omega, hbw.trans (hb2.mono hbw.size), ?_⟩
            intro i hi hik
            by_cases e : i = k
            · subst e; exact HG.out
            · exact HV.out i hi (by omega)
          case measure => simp [intOf]; omega
    · have hkm : k = m := by omega
      have HVA : Hid (∀ x ∈ es, goodE objs x = true) := by
        intro x hx
        obtain ⟨j, hj, rfl⟩ := List.getElem_of_mem hx
        exact HV.out j hj (by rw [hkm, ← HL.out]; exact hj)
      have HT : Hid (es.take k = es) := List.take_of_length_le (by rw [HL.out]; omega)
      rw [HT.out] at h0 h6 ⊢
      by_cases h5 : 5 < highs objs es
      · go_wp2
        go_ret2
        exact ⟨hb, .inr (.inl ⟨HVA.out, h5, rfl⟩)⟩
      · go_wp2
        go_ret2
        exact ⟨hb, .inr (.inr ⟨HVA.out, by omega, h0, rfl⟩)⟩
end Go.Proofs.YtajopoddmfdejaaGreat

namespace Go.Proofs.YtajopoddmfdejaaGreat
open Go.RowKit Go.Sort Go.Shelf
set_option linter.unusedVariables false
variable {ft : PTail}

set_option maxRecDepth 100000 in
set_option maxHeartbeats 400000 in
theorem dir_not (p : Nat) (a : Option Addr) (n cap bf bd : Nat) (objs : List Ob) (id : Int) (w : World) (h : Pooled ft w p a n cap bf bd objs) (hk : kindOf objs id ≠ 2) :
    Calls Tryz.prog 57 #[.pointer (some ⟨p, 0, none⟩), .int .i64 id] w fun e w' => e = .returned (.tuple #[.slice none 0 0, .int .i64 13]) ∧ Below w.heap.size w w' := by
  have hcon := kind_any p a n cap bf bd objs id w h
  obtain ⟨q, hq⟩ : ∃ q, q = kindOf objs id := ⟨_, rfl⟩
  rw [← hq] at hcon hk
  have hk' : (q == 2) = false := by simpa using hk
  clear hq hk
  go_enter Tryz.func57, Tryz.ntmps57
  go_wp2_with (go_at_call 61; refine hcon.mono ?_; rintro e w' ⟨rfl, hb⟩)
  go_ret2
  exact ⟨rfl, hb⟩

theorem made_block {w : World} {g m : Nat} {xs : List Value} (h : w.ownsRow 0 76 3 (.slice (some ⟨g, 0, none⟩) m m) m xs) : ∃ cur, Hid (w.heap[g]? = some (.cells cur 76 (0, 0))) ∧ Hid (cur.size = m * 3) := by
  rcases h.2 with ⟨h0, _⟩ | ⟨g', cap', cur, hv, _, hg, _, _, hcur, _⟩
  · cases h0
  · cases hv; exact ⟨cur, hg, hcur⟩

theorem grown_none {w w2 w3 : World} (hb : Below w.heap.size w w2) (hg : w2.grownBy w3 none) : Hid (Below w.heap.size w w3) := hb.grown hg hb.size (fun k h => by cases h)

theorem src_cells {w w3 : World} {g : Nat} {es : List Ent} (hb : Below w.heap.size w w3) (hgl : g < w.heap.size) (hc : ∀ j u, (flat es)[j]? = some u → w.cell? ⟨g, 0 + j, none⟩ = some u) : ∀ j v, (flat es)[j]? = some v → w3.cell? ((⟨g, 0, none⟩ : Addr).add j) = some v := by
  intro j v h
  have h2 : (⟨g, 0, none⟩ : Addr).add j = ⟨g, 0 + j, none⟩ := by unfold Addr.add; split <;> simp_all
  rw [h2, hb.cell (p := ⟨g, 0 + j, none⟩) hgl, hc j v h]

set_option maxRecDepth 100000 in
set_option maxHeartbeats 800000 in
theorem dir_some (p : Nat) (a : Option Addr) (n cap bf bd : Nat) (objs : List Ob) (j g m c : Nat) (es : List Ent) (hj : j < objs.length) (w : World) (h : Pooled ft w p a n cap bf bd objs) (hk : objs[j].kind = 2)
    (hea : objs[j].ea = some ⟨g, 0, none⟩) (hel : objs[j].el = m) (hec : objs[j].ec = c) (hm : m ≤ 16) (hl : es.length = m) (hgl : g < w.heap.size) (hc : ∀ j u, (flat es)[j]? = some u → w.cell? ⟨g, 0 + j, none⟩ = some u) :
    Calls Tryz.prog 57 #[.pointer (some ⟨p, 0, none⟩), .int .i64 ((j : Int) + 1)] w fun e w' => ∃ g', e = .returned (.tuple #[.slice (some ⟨g', 0, none⟩) m m, .int .i64 0]) ∧ w'.ownsRow w.heap.size 76 3 (.slice (some ⟨g', 0, none⟩) m m) m (flat es) ∧ Below w.heap.size w w' := by
  have hcon := kind_any p a n cap bf bd objs ((j : Int) + 1) w h
  rw [kindOf_in hj, hk] at hcon
  have hat := fun (W : World) (hW : Below w.heap.size w W) => at_in p a n cap bf bd objs j hj W (h.below hW)
  rw [hea, hel, hec] at hat
  have f2 := fld2
  obtain ⟨i0, hi, hz0, hz1, hz2⟩ := info_parts info34
  have HC : Hid (∀ j u, (flat es)[j]? = some u → w.cell? ⟨g, 0 + j, none⟩ = some u) := hc
  have HL : Hid (es.length = m) := hl
  clear hc hl hea hel hec hk
  go_enter Tryz.func57, Tryz.ntmps57
  go_wp2_with (first
    | (go_at_call 61; refine hcon.mono ?_; rintro e w1 ⟨rfl, hb1⟩)
    | (go_at_call 102; refine (hat _ hb1).mono ?_; rintro e w2 ⟨rfl, hb2⟩)
    | (at_make; refine wpList_make_full _ rfl _ _ 72 rfl 0 76 i0 _ 3 Tryz.underlying72 hi hz0 hz1 .i64 .i64 _ _ m rfl rfl rfl rfl ?_ ?_ (Nat.zero_le _) ?_; go_must (rw [hz2]; omega); go_must (unfold maxLen; omega); intro w3 hown3 hg3; obtain ⟨cur, HB, HCS⟩ := made_block hown3; have hbw := hb1.trans (hb2.mono hb1.size); have HB3 := grown_none hbw hg3)
    | (refine wpList_copyK rfl (.tmp 19) (.tmp 20) 72 72 rfl 76 Tryz.underlying72 3 info34s w2.heap.size 0 m m ⟨g, 0, none⟩ m c rfl rfl cur 76 HB.out (flat es) ?_ ?_ ?_ (flat_one es) (flat es).toArray ?_ ?_; go_must (rw [flat_len, HL.out]; exact congrArg (· * 3) (Nat.min_self m).symm); go_must (exact src_cells (HB3.out) hgl HC.out); go_must (rw [flat_len, HL.out, HCS.out]; omega); go_must (simp only [List.take_zero, List.nil_append, Nat.zero_add]; rw [List.drop_eq_nil_of_le (by rw [flat_len, HL.out, Array.length_toList, HCS.out]; exact Nat.le_refl _), List.append_nil]); intro w4 H4 hg4))
  go_ret2
  have hsz2 := hbw.size
  refine ⟨w2.heap.size, rfl, ⟨by rw [flat_len, HL.out], .inr ⟨w2.heap.size, m, (flat es).toArray, rfl, hsz2, H4.out, Nat.le_refl _, by unfold maxLen; omega, by simp [flat_len, HL.out], ?_⟩⟩, ?_⟩
  · simp only
    exact List.take_of_length_le (by rw [flat_len, HL.out]; exact Nat.le_refl _)
  · exact HB3.out.grown hg4 HB3.out.size (fun k h => by cases h; exact hsz2)
end Go.Proofs.YtajopoddmfdejaaGreat
