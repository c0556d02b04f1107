/-
  What is proved here: the listing of a directory as one value: its entries' cells, and nothing behind them.
-/
import Derived.Test.YtogeefmegegnnaaGreatArrange
import Derived.Laws.CopyOwn
namespace Go.Proofs.YtogeefmegegnnaaGreat
open Go.RowKit Go.Sort Go.Shelf
set_option linter.unusedVariables false

theorem run_copyK {P : Program} (w : World) (dT sT ty elem : TypeId) (size g o dLen dCap : Nat) (a : Addr) (sLen sCap : Nat) (cur : Array Value) (t : TypeId) (cs : List Value)
    (hu : P.underlying dT = some (.slice elem)) (hs : (P.info? elem).map (·.size) = some size)
    (hg : w.heap[g]? = some (.cells cur t (0, 0))) (hn : cs.length = Nat.min sLen dLen * size)
    (hsrc : ∀ j v, cs[j]? = some v → w.cell? (a.add j) = some v) (hfit : o + cs.length ≤ cur.size) (h1 : ∀ v ∈ cs, v.oneCell' = true) :
    (Builtin.copy_ #[dT, sT] ty #[.slice (some ⟨g, o, none⟩) dLen dCap, .slice (some a) sLen sCap]).run P w =
      .ok (goInt (Nat.min sLen dLen)) (w.setRow g (cur.toList.take o ++ cs ++ cur.toList.drop (o + cs.length)).toArray) := by
  have hl := run_loadCells_list (P := P) w a cs hsrc
  have hst := run_storeCells_at P g o t cs 0 cur w hg (by simpa using hfit) h1
  cases hq : P.info? elem with
  | none => simp [hq] at hs
  | some i =>
    have hi : i.size = size := by simpa [hq] using hs
    simp [Builtin.copy_, run_underlying hu, Builtin.lenOf, Builtin.firstCells, sizeOf, typeInfo, hq, hi, ← hn, hl, hst]

theorem wpList_copyK {P : Program} {w : World} {ops : Array Oper} {rest : List Oper} {o : Oper} {a : Act} {Q : Exit → Act → World → Prop} (hgd : o.guard = none) (d s : Operand) (dT sT : TypeId)
    (ho : o.op = .call { callee := .builtin .copy, args := #[d, s], argTypes := #[dT, sT] }) (elem : TypeId) (hu : P.underlying dT = some (.slice elem)) (size : Nat) (hsz : (P.info? elem).map (·.size) = some size)
    (g off dLen dCap : Nat) (ad : Addr) (sLen sCap : Nat) (hd : a.eval d = .slice (some ⟨g, off, none⟩) dLen dCap) (hs : a.eval s = .slice (some ad) sLen sCap)
    (cur : Array Value) (t : TypeId) (hg : w.heap[g]? = some (.cells cur t (0, 0))) (cs : List Value) (hn : cs.length = Nat.min sLen dLen * size)
    (hsrc : ∀ j v, cs[j]? = some v → w.cell? (ad.add j) = some v) (hfit : off + cs.length ≤ cur.size) (h1 : ∀ v ∈ cs, v.oneCell' = true)
    (new : Array Value) (hnew : new.toList = cur.toList.take off ++ cs ++ cur.toList.drop (off + cs.length))
    (h : ∀ w', Hid (w'.heap[g]? = some (.cells new t (0, 0))) → w.grownBy w' (some g) → wpList P ops Q rest (a.put o.dst (goInt (Nat.min sLen dLen))) w') : wpList P ops Q (o :: rest) a w := by
  refine wpList_plain hgd fun K hK => ?_
  have hrun := run_copyK (P := P) w dT sT o.type elem size g off dLen dCap ad sLen sCap cur t cs hu hsz hg hn hsrc hfit h1
  rw [← hnew, Array.toArray_toList] at hrun
  unfold Oper.wp
  simp [execOp, ho, resolve, invoke, builtin, hd, hs, hrun, Result.andThen]
  exact hK _ _ (h _ (setRow_heap w g _ _ t _ hg) ⟨rfl, rfl, rfl, by simp, fun k hk hne => setRow_other w g k _ (fun e => hne (by rw [e]))⟩)

/-- Sixteen empty places. -/
def zeroL : List Value := (List.replicate 16 (encE (ByteArray.empty, 0, 0))).flatten
theorem zeroL_len : zeroL.length = 48 := by decide
theorem zeroL_one : ∀ v ∈ zeroL, v.oneCell' = true := by
  intro v hv
  obtain ⟨l, hl, h⟩ := List.mem_flatten.1 hv
  rw [(List.mem_replicate.1 hl).2] at h
  exact encE_one _ v h
/-- A directory's entries as one value. -/
def listing (es : List Ent) : Array Value := (flat es ++ zeroL.drop (es.length * 3)).toArray

theorem listing_size {es : List Ent} (h : es.length ≤ 16) : (listing es).size = 48 := by
  simp only [listing, List.size_toArray, List.length_append, flat_len, List.length_drop, zeroL_len]; omega

theorem listing_one (es : List Ent) : (listing es).all (·.oneCell') = true := by
  rw [Array.all_eq_true']
  intro v hv
  simp only [listing, List.mem_toArray, List.mem_append] at hv
  rcases hv with h | h
  · exact flat_one es v h
  · exact zeroL_one v (List.mem_of_mem_drop h)

theorem info58 : (Tryz.prog.info? 221).map (·.size) = some 48 := by kernel_rfl
theorem info34s : (Tryz.prog.info? 112).map (·.size) = some 3 := by kernel_rfl

set_option maxRecDepth 100000 in
set_option maxHeartbeats 800000 in
theorem listing_some (g n cap : Nat) (es : List Ent) (w : World) (hl : es.length = n) (hgl : g < w.heap.size) (h16 : n ≤ 16) (hc : ∀ j u, (flat es)[j]? = some u → w.cell? ⟨g, 0 + j, none⟩ = some u) :
    Calls Tryz.prog 133 #[.slice (some ⟨g, 0, none⟩) n cap] w fun e w' => e = .returned (.agg (listing es)) ∧ Below w.heap.size w w' := by
  have HC : Hid (∀ j u, (flat es)[j]? = some u → w.cell? ⟨g, 0 + j, none⟩ = some u) := hc
  have HL : Hid (es.length = n) := hl
  have HM : Hid (Nat.min n 16 = n) := Nat.min_eq_left h16
  have HZ : Hid ((listing es).size = 48) := listing_size (by omega)
  have HSRC : Hid (∀ A B j v, (flat es)[j]? = some v → ((w.alloc A).alloc B).cell? ((⟨g, 0, none⟩ : Addr).add j) = some v) := by
    intro A B j v h
    have h1 := hc j v h
    have h2 : (⟨g, 0, none⟩ : Addr).add j = ⟨g, 0 + j, none⟩ := by unfold Addr.add; split <;> simp_all
    rw [h2, World.cell?_alloc_past _ _ _ (by simp; omega), World.cell?_alloc_past _ _ _ hgl, h1]
  have HNEW : Hid ((listing es).toList = zeroL.take 0 ++ flat es ++ zeroL.drop (0 + (flat es).length)) := by
    show (listing es).toList = _
    simp only [listing, List.take_zero, List.nil_append, Nat.zero_add, flat_len]
  have HN : Hid ((flat es).length = Nat.min n 16 * 3) := by
    show (flat es).length = _
    rw [flat_len, hl, HM.out]
  have HF : Hid (0 + (flat es).length ≤ 48) := by
    show 0 + (flat es).length ≤ 48
    rw [flat_len, hl]; omega
  clear hc hl
  go_enter Tryz.func133, Tryz.ntmps133
  go_wp2_with (first
    | (refine wpList_copyK rfl (.tmp 4) (.tmp 5) 91 91 rfl 112 Tryz.underlying91 3 info34s (w.heap.size + 1) 0 16 16 ⟨g, 0, none⟩ n cap rfl rfl _ 221 (heap_alloc2_new _ _ _) (flat es) ?_ ?_ ?_ (flat_one es) (listing es) ?_ ?_; go_must (exact HN.out); go_must (exact HSRC.out _ _); go_must (exact HF.out); go_must (exact HNEW.out); intro w1 H1 hg1)
    | (refine wpList_load_row rfl 221 _ rfl (w.heap.size + 1) rfl 221 (listing es) (0, 0) _ H1.out Tryz.underlying221 rfl (by rw [HZ.out]; exact info58) ?_)
    | (refine wpList_store_row rfl 221 _ _ rfl w.heap.size (listing es) rfl rfl 221 _ ((hg1.block w.heap.size (by simp; omega) (by simp)).trans (heap_alloc2_old _ _ _)) (by rw [HZ.out]; exact info58) (by rw [HZ.out]; rfl) (listing_one es) ?_)
    | go_in)
  have h0 : (w1.setRow w.heap.size (listing es)).heap[w.heap.size]? = some (.cells (listing es) 221 (0, 0)) := setRow_heap w1 w.heap.size _ _ 221 (0, 0) ((hg1.block w.heap.size (by simp; omega) (by simp)).trans (heap_alloc2_old _ _ _))
  refine bodyPost_ret (v := .agg (listing es)) (results_cell_row Tryz.results133 _ _ w.heap.size 221 (listing es) (0, 0) _ rfl h0 Tryz.underlying221 rfl (by rw [HZ.out]; exact info58)) rfl ⟨rfl, ?_⟩
  have hb1 : Below w.heap.size w w1 := (((Below.refl _ _).alloc (Nat.le_refl _) _).alloc (by simp) _).grown hg1 (by simp; omega) (fun k h => by cases h; omega)
  exact below_setRow hb1 (Nat.le_refl _) _
end Go.Proofs.YtogeefmegegnnaaGreat
