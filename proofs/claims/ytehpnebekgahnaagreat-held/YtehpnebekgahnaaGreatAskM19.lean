/-
  What is proved here: 'find' and 'look' of a workspace's tree, at every path: they answer what the maps say, fetch what is missing, and change nothing else. slices.Delete of one entry: the row is one shorter, in the same memory.
-/
import Derived.Test.YtehpnebekgahnaaGreatAskM18
import Derived.Shelf.RegionOpenPlain
import Derived.Deep.RegionLaw
namespace Go.Proofs.YtehpnebekgahnaaGreat
open Go.RowKit Go.Sort Go.Shelf
set_option linter.unusedVariables false

theorem moves_own {tg : Tags} {w w' : World} {b : Nat} (hg : w.grownBy w' (some b)) (ht : tg b = (0, 0)) : Moves (fun t => t = (0, 0)) tg tg w w' :=
  ⟨hg.os, hg.tape, hg.output, hg.size, fun _ _ => rfl, fun k hk hn => hg.block k hk (fun e => hn (by cases e; exact ht)), fun hf k hk => hf k (Nat.le_trans hg.size hk)⟩

section
variable {s i p : Nat} {B : WB} {objs : List Ob}

theorem WInv.own {tg : Tags} {w w' : World} {g : WG} {lim b : Nat} (h : WInv tg w s i p B objs g lim) (hg : w.grownBy w' (some b)) (ht : tg b = (0, 0)) : WInv tg w' s i p B objs g lim := by
  have hi := h.two
  have m := moves_own hg ht
  exact ⟨h.two, h.st.moves m (fun e => by cases e) (fun e => by cases e), h.wp.moves m (fun k e => by cases e; omega)⟩
theorem stays_mine {tg tg' : Tags} {w W w3 : World} (hi : 2 ≤ i) (hf : Fresh tg w) (m : Moves (Mine i) tg tg' W w3) : Stays w W w3 :=
  ⟨m.size, fun b h1 h2 => m.block b h2 (by rw [hf b h1]; rintro (h | h) <;> simp at h; omega)⟩
theorem stays_of {tg tg' : Tags} {w W w3 : World} (hi : 2 ≤ i) (hf : Fresh tg w) (m : Moves (Fetches i) tg tg' W w3) : Stays w W w3 := stays_mine hi hf (m.mono (fun _ h => h.mine))

/-- What becomes of a call: what it touched, and what the workspace is. -/
def DidF (s i p : Nat) (B : WB) (objs : List Ob) (tg : Tags) (w w' : World) (g' : WG) (lim : Nat) : Prop := ∃ tg', Moves (Fetches i) tg tg' w w' ∧ WInv tg' w' s i p B objs g' lim

theorem didF_end {tg : Tags} {w W w3 w' : World} {g g' : WG} {lim lim' : Nat} (h : WInv tg w s i p B objs g lim) (hb : Below w.heap.size w W) (hz : w.heap.size + 1 < W.heap.size) (hd : DidF s i p B objs tg W w3 g' lim') (hg : w3.grownBy w' (some (w.heap.size + 1))) : DidF s i p B objs tg w w' g' lim' := by
  obtain ⟨tg', m, hW⟩ := hd
  have ht : tg' (w.heap.size + 1) = (0, 0) := (m.tags _ hz).trans (h.st.fresh _ (by omega))
  have m1 := call_moves hb m
  refine ⟨tg', ⟨hg.os.trans m1.os, hg.tape.trans m1.tape, hg.output.trans m1.output, Nat.le_trans m1.size hg.size, m1.tags, fun k hk hn => (hg.block k (Nat.lt_of_lt_of_le hk m1.size) (fun e => by cases e; omega)).trans (m1.block k hk hn), fun hf => (hW.own hg ht).st.fresh⟩, hW.own hg ht⟩

def FindC (s i p : Nat) (B : WB) (objs : List Ob) (r : List ByteArray) : Prop := ∀ (tg : Tags) (w : World) (g : WG) (lim : Nat), WInv tg w s i p B objs g lim → lim + 10 < 1099511627776 → Good r.reverse →
  Calls Tryz.prog 62 #[.pointer (some ⟨B.bt, 0, none⟩), .agg (pathA r.reverse)] w fun en w' => en = .returned (.tuple #[.agg #[.string (findF objs g.ft g.fs r).2.2.1, .int .i64 (findF objs g.ft g.fs r).2.2.2.1, .int .i64 (findF objs g.ft g.fs r).2.2.2.2], .int .i64 (findF objs g.ft g.fs r).2.1]) ∧
    DidF s i p B objs tg w w' { g with fs := (findF objs g.ft g.fs r).1 } (lim + r.length)
def LookC (s i p : Nat) (B : WB) (objs : List Ob) (r : List ByteArray) : Prop := ∀ (tg : Tags) (w : World) (g : WG) (lim : Nat), WInv tg w s i p B objs g lim → lim + 10 < 1099511627776 → Good r.reverse →
  Calls Tryz.prog 55 #[.pointer (some ⟨B.bt, 0, none⟩), .agg (pathA r.reverse)] w fun en w' => ∃ v, en = .returned (.tuple #[v, .int .i64 (lookF objs g.ft g.fs r).2.1]) ∧
    ∃ tg', Moves (Fetches i) tg tg' w w' ∧ WInv tg' w' s i p B objs { g with fs := (lookF objs g.ft g.fs r).1 } (lim + r.length + 1) ∧ Slc tg' w' i v (lookF objs g.ft g.fs r).2.2

theorem WInv.rising {tg : Tags} {w : World} {g : WG} {lim : Nat} (h : WInv tg w s i p B objs g lim) : ∀ q es, g.ft.od q = some es → RisingK es ∧ es.length ≤ 16 := by
  obtain ⟨vD, hD⟩ := h.wp.ownD
  exact fun q es he => ⟨(hD.good q es he).2.1, (hD.good q es he).2.2.1⟩

theorem look_of (r : List ByteArray) (hF : FindC s i p B objs r) : LookC s i p B objs r := by
  intro tg w g lim h hl hr
  have hlen : r.length ≤ 5 := by have := hr.len; simpa using this
  obtain ⟨f1, _⟩ := find_entOk h.st.sound h.wp.ok h.rising g.fs r
  by_cases h0 : (findF objs g.ft g.fs r).2.1 = 0
  · have hE : lookF objs g.ft g.fs r = entsF objs g.ft (findF objs g.ft g.fs r).1 r.reverse (findF objs g.ft g.fs r).2.2 := by
      unfold lookF; simp only [if_neg (show ¬ (findF objs g.ft g.fs r).2.1 ≠ 0 from fun h => h h0)]
    have hen := f1 h0
    refine (look_ok B.bt _ _ _ _ _ (findF objs g.ft g.fs r).2.2.1 (findF objs g.ft g.fs r).2.2.2.1 (findF objs g.ft g.fs r).2.2.2.2 (fun W w3 => Below w.heap.size w W ∧ DidF s i p B objs tg W w3 { g with fs := (findF objs g.ft g.fs r).1 } (lim + r.length))
      (fun v er W2 w' => er = (lookF objs g.ft g.fs r).2.1 ∧ ∃ tg', Moves (Fetches i) tg tg' w w' ∧ WInv tg' w' s i p B objs { g with fs := (lookF objs g.ft g.fs r).1 } (lim + r.length + 1) ∧ Slc tg' w' i v (lookF objs g.ft g.fs r).2.2) w (fun W hb => ?_) (fun W w3 hR W2 hb => ?_) (fun W w3 hR => ?_)).mono ?_
    · refine (hF tg W g lim (h.below hb) hl hr).mono ?_
      rintro en w' ⟨he, hd⟩
      rw [h0] at he
      exact ⟨he, hb, hd⟩
    · obtain ⟨hbW, tg1, m1, hW1⟩ := hR
      refine (entries_any (hW1.below hb) (by omega) hr hen).mono ?_
      rintro en w' ⟨v, rfl, tg2, m2, hW2, hs2⟩
      rw [hE]
      exact ⟨v, _, rfl, rfl, tg2, (call_moves hbW m1).trans (call_moves hb m2), hW2, hs2⟩
    · obtain ⟨hbW, tg1, m1, hW1⟩ := hR
      exact stays_of h.two h.st.fresh m1
    · rintro en w' ⟨v, er, W, w3, W2, _, _, _, rfl, rfl, hrest⟩
      exact ⟨v, rfl, hrest⟩
  · have hE : lookF objs g.ft g.fs r = ((findF objs g.ft g.fs r).1, (findF objs g.ft g.fs r).2.1, []) := by
      unfold lookF; simp only [if_pos h0]
    rw [hE]
    refine (look_err B.bt _ _ _ _ _ _ _ _ (findF objs g.ft g.fs r).2.1 (fun W w3 => DidF s i p B objs tg W w3 { g with fs := (findF objs g.ft g.fs r).1 } (lim + r.length)) w (by simpa using h0) (fun W hb => hF tg W g lim (h.below hb) hl hr)).mono ?_
    rintro en w' ⟨rfl, W, w3, hb, ⟨tg1, m1, hW1⟩, hb3⟩
    exact ⟨_, rfl, tg1, (call_moves hb m1).trans (Moves.of_below hb3), (hW1.below hb3).mono (Nat.le_succ _), Slc.nil _ _ _⟩

theorem find_nil : FindC s i p B objs [] := by
  intro tg w g lim h hl hr
  have hlt : B.bt < w.heap.size := (Array.getElem?_eq_some_iff.1 h.wp.tree.ht).1
  refine (find_root B.bt g.ft.root w hlt (by simp [World.cell?, h.wp.tree.ht]) (by simp [World.cell?, h.wp.tree.ht]) (by simp [World.cell?, h.wp.tree.ht])).mono ?_
  rintro en w' ⟨rfl, hb⟩
  exact ⟨rfl, tg, Moves.of_below hb, h.below hb⟩

theorem find_cons (n : ByteArray) (r : List ByteArray) (hL : LookC s i p B objs r) : FindC s i p B objs (n :: r) := by
  intro tg w g lim h hl hr
  have hrev : (n :: r).reverse = r.reverse ++ [n] := List.reverse_cons
  rw [hrev] at hr ⊢
  have hne : r.reverse ++ [n] ≠ [] := by simp
  have hr' : Good r.reverse := by have := hr.dropLast; rwa [List.dropLast_concat] at this
  have hlen : r.length ≤ 4 := by have := hr.len; simp at this; omega
  have heq : ∀ W, (Op.equalIn 10000 67 (pathV (r.reverse ++ [n])) (pathV [])).run Tryz.prog W = .ok false W := fun W => by
    have := run_eqP hr Good.nil W
    rw [decide_eq_false hne] at this; exact this
  have hpar := fun W => parent_any (r.reverse ++ [n]) hr W
  have hname := fun W => name_any (r.reverse ++ [n]) hr hne W
  rw [List.dropLast_concat] at hpar
  simp only [List.getLast_concat] at hname
  obtain ⟨_, l1, l2, l3⟩ := find_entOk h.st.sound h.wp.ok h.rising g.fs r
  have hst : ∀ (v : Value) (W w3 : World), (Below w.heap.size w W ∧ ∃ tg', Moves (Fetches i) tg tg' W w3 ∧ WInv tg' w3 s i p B objs { g with fs := (lookF objs g.ft g.fs r).1 } (lim + r.length + 1) ∧ Slc tg' w3 i v (lookF objs g.ft g.fs r).2.2) → Stays w W w3 := fun v W w3 ⟨hb, tg', m, _, _⟩ => stays_of h.two h.st.fresh m
  have hlook : ∀ W, Below w.heap.size w W → Calls Tryz.prog 55 #[.pointer (some ⟨B.bt, 0, none⟩), .agg (pathA r.reverse)] W fun en w' => ∃ v, en = .returned (.tuple #[v, .int .i64 (lookF objs g.ft g.fs r).2.1]) ∧
      (Below w.heap.size w W ∧ ∃ tg', Moves (Fetches i) tg tg' W w' ∧ WInv tg' w' s i p B objs { g with fs := (lookF objs g.ft g.fs r).1 } (lim + r.length + 1) ∧ Slc tg' w' i v (lookF objs g.ft g.fs r).2.2) := fun W hb => (hL tg W g lim (h.below hb) hl hr').mono (fun en w' ⟨v, he, hrest⟩ => ⟨v, he, hb, hrest⟩)
  have fin : ∀ {w' : World} (v : Value) (W w3 : World), Below w.heap.size w W → w.heap.size + 1 < W.heap.size → (∃ tg', Moves (Fetches i) tg tg' W w3 ∧ WInv tg' w3 s i p B objs { g with fs := (lookF objs g.ft g.fs r).1 } (lim + r.length + 1) ∧ Slc tg' w3 i v (lookF objs g.ft g.fs r).2.2) → w3.grownBy w' (some (w.heap.size + 1)) → DidF s i p B objs tg w w' { g with fs := (lookF objs g.ft g.fs r).1 } (lim + (n :: r).length) := fun v W w3 hb hz ⟨tg', m, hW, _⟩ hg => didF_end h hb hz ⟨tg', m, hW⟩ hg
  have hsea : ∀ (v : Value) (W w3 : World), (Below w.heap.size w W ∧ ∃ tg', Moves (Fetches i) tg tg' W w3 ∧ WInv tg' w3 s i p B objs { g with fs := (lookF objs g.ft g.fs r).1 } (lim + r.length + 1) ∧ Slc tg' w3 i v (lookF objs g.ft g.fs r).2.2) → ∀ W2, Below w3.heap.size w3 W2 → Calls Tryz.prog 57 #[v, .string n] W2 fun e w' => e = .returned (.tuple #[.int .i64 (idxK (lookF objs g.ft g.fs r).2.2 n : Nat), .bool (thereK (lookF objs g.ft g.fs r).2.2 n)]) ∧ Below W2.heap.size W2 w' := fun v W w3 ⟨_, tg', _, _, hs⟩ W2 hb => search_any (hs.below hb).1 n l2 l3
  by_cases h0 : (lookF objs g.ft g.fs r).2.1 = 0
  · have hlook0 := hlook
    rw [h0] at hlook0
    have hG := getK_there (n := n) l2
    cases ht : thereK (lookF objs g.ft g.fs r).2.2 n with
    | false =>
      rw [ht] at hG
      have hE : findF objs g.ft g.fs (n :: r) = ((lookF objs g.ft g.fs r).1, 4, zE) := by
        rw [findF_cons, if_neg (fun h => h h0), hG]; rfl
      rw [hE]
      simp only [ht] at hsea
      refine (find_none B.bt _ _ _ _ _ _ _ _ _ _ _ n _ w heq hpar hlook0 hname hsea hst).mono ?_
      rintro en w' ⟨rfl, v, W, w3, hb, hz, ⟨_, hR⟩, hg⟩
      exact ⟨rfl, fin v W w3 hb hz hR hg⟩
    | true =>
      have hix := thereK_lt ht
      rw [ht, if_pos rfl, List.getElem?_eq_getElem hix, Option.map_some] at hG
      have hnm : ((lookF objs g.ft g.fs r).2.2[idxK (lookF objs g.ft g.fs r).2.2 n]).1 = n := by
        unfold thereK at ht
        rw [List.getElem?_eq_getElem hix] at ht
        simpa using ht
      have hE : findF objs g.ft g.fs (n :: r) = ((lookF objs g.ft g.fs r).1, 0, (lookF objs g.ft g.fs r).2.2[idxK (lookF objs g.ft g.fs r).2.2 n]) := by
        rw [findF_cons, if_neg (fun h => h h0), hG]
        exact congrArg (fun y : Ent => ((lookF objs g.ft g.fs r).1, (0 : Int), y)) (Prod.ext hnm.symm rfl)
      rw [hE]
      simp only [ht] at hsea
      refine (find_some B.bt _ _ _ _ _ _ _ _ _ _ _ n _ ((lookF objs g.ft g.fs r).2.2[idxK (lookF objs g.ft g.fs r).2.2 n]) w heq hpar (fun W hb => (hlook0 W hb).mono ?_) hname hsea ?_ hst).mono ?_
      · rintro en w' ⟨v, rfl, hb', tg', m, hW, hs⟩
        obtain ⟨gb, cp, rfl⟩ := slice_of_owns hs.1 (by omega)
        exact ⟨gb, _, cp, rfl, hb', tg', m, hW, hs⟩
      · rintro gb ln cp W w3 ⟨_, tg', m, hW, hs⟩
        have hln : ln = (lookF objs g.ft g.fs r).2.2.length := by
          rcases hs.1.2 with ⟨e, _⟩ | ⟨g', c', _, e, _⟩
          · cases e
          · cases e; rfl
        subst hln
        obtain ⟨c0, c1, c2⟩ := row_at (b := gb) (fun j u hu => by have := owns_cells hs.1 j u hu; rwa [Nat.zero_add] at this) hix
        exact ⟨ownsRow_lt hs.1 rfl, hix, l3, c0, c1, c2⟩
      · rintro en w' ⟨rfl, v, W, w3, hb, hz, ⟨_, hR⟩, hg⟩
        exact ⟨rfl, fin v W w3 hb hz hR hg⟩
  · have hE : findF objs g.ft g.fs (n :: r) = ((lookF objs g.ft g.fs r).1, (lookF objs g.ft g.fs r).2.1, zE) := by
      rw [findF_cons, if_pos h0]
    rw [hE]
    refine (find_err B.bt _ _ _ _ _ _ _ _ _ _ _ (lookF objs g.ft g.fs r).2.1 (by simpa using h0) w heq hpar hlook hst).mono ?_
    rintro en w' ⟨rfl, v, W, w3, hb, hz, ⟨_, hR⟩, hg⟩
    exact ⟨rfl, fin v W w3 hb hz hR hg⟩

theorem find_all : ∀ r : List ByteArray, FindC s i p B objs r
  | [] => find_nil
  | n :: r => find_cons n r (look_of r (find_all r))
theorem look_all (r : List ByteArray) : LookC s i p B objs r := look_of r (find_all r)
end

end Go.Proofs.YtehpnebekgahnaaGreat

namespace Go.Proofs.YtehpnebekgahnaaGreat
open Go.RowKit Go.Sort Go.Shelf
set_option linter.unusedVariables false

/-- 'append' where there is room, in a row of its own, as one step of a region that draws. -/
theorem step_append_row {P : Program} {ops : Array Oper} {o : Oper} {a : Act} {w : World} {K : Act → World → Prop} {Q : Exit → Act → World → Prop} {E : Prop}
    (hg : o.guard = none) (s x : Operand) (t : TypeId) (hop : o.op = Op.call { callee := Callee.builtin Builtin.append, args := #[s, x], argTypes := #[t, t] })
    (e : TypeId) (i : TypeInfo) (size : Nat) (h1 : P.underlying t = some (.slice e)) (h2 : P.info? e = some i) (h4 : i.size = size)
    (g n cap : Nat) (cur : Array Value) (hs : a.eval s = .slice (some ⟨g, 0, none⟩) n cap) (hcur : w.heap[g]? = some (.cells cur e (0, 0)))
    (ad : Addr) (m c : Nat) (news : List Value) (hx : a.eval x = .slice (some ad) m c) (hn : news.length = m * size) (hc : ∀ j u, news[j]? = some u → w.cell? (ad.add j) = some u) (h1c : ∀ u ∈ news, u.oneCell' = true)
    (hroom : n + m ≤ cap) (hfit : n * size + news.length ≤ cur.size)
    (hK : K (a.put o.dst (.slice (some ⟨g, 0, none⟩) (n + m) cap)) (w.setRow g (cur.toList.take (n * size) ++ news ++ cur.toList.drop (n * size + news.length)).toArray)) :
    if Region.wanted o (yielded ops a.tmps) = true then Oper.wp P o a w K Q else E := by
  have hw : Region.wanted o (yielded ops a.tmps) = true := by simp [Region.wanted, hg]
  rw [if_pos hw]
  subst h4
  have hrun := run_append_room (P := P) w t o.type e i h1 h2 g n cap cur hcur ad m c news hn hc h1c hroom hfit
  unfold Oper.wp
  simp [execOp, hop, resolve, invoke, builtin, hs, hx, hrun, Result.andThen]
  rw [List.append_assoc] at hK
  exact hK

/-- 'clear' of one entry of a row. -/
theorem run_clear1 (w : World) (ty : TypeId) (g n c : Nat) (cur : Array Value) (hg : w.heap[g]? = some (.cells cur 61 (0, 0))) (hfit : n * 3 + 3 ≤ cur.size) :
    (Builtin.clear_ #[62] ty #[.slice (some ⟨g, n * 3, none⟩) 1 c]).run Tryz.prog w = .ok (.tuple #[]) (w.setRow g (cur.toList.take (n * 3) ++ encE (⟨#[]⟩, 0, 0) ++ cur.toList.drop (n * 3 + 3)).toArray) := by
  have hv : (zeroValue 61).run Tryz.prog w = .ok (.agg #[.string ⟨#[]⟩, .int .i64 0, .int .i64 0]) w := by kernel_rfl
  have hzc : (Builtin.zeroCells (Value.agg #[.string ⟨#[]⟩, .int .i64 0, .int .i64 0]).cells 1).toList = encE (⟨#[]⟩, 0, 0) := by kernel_rfl
  have hst := run_storeCells_at Tryz.prog g (n * 3) 61 (encE (⟨#[]⟩, 0, 0)) 0 cur w hg (by simpa [encE] using hfit) (encE_one _)
  simp only [Nat.add_zero] at hst
  simp [Builtin.clear_, run_underlying Tryz.underlying62, hv, hzc, hst]
  rfl

theorem flat_append (a b : List Ent) : flat (a ++ b) = flat a ++ flat b := by simp [flat]
theorem cells_take (es : List Ent) (k : Nat) (h : k ≤ es.length) : flat (es.take k) = (flat es).take (k * 3) := by
  have e : flat es = flat (es.take k) ++ flat (es.drop k) := by rw [← flat_append, List.take_append_drop]
  rw [e, List.take_left' (by rw [flat_len, List.length_take]; omega)]
theorem cells_drop (es : List Ent) (k : Nat) (h : k ≤ es.length) : flat (es.drop k) = (flat es).drop (k * 3) := by
  have e : flat es = flat (es.take k) ++ flat (es.drop k) := by rw [← flat_append, List.take_append_drop]
  rw [e, List.drop_left' (by rw [flat_len, List.length_take]; omega)]

set_option maxHeartbeats 4000000 in
set_option maxRecDepth 1000000 in
theorem del_walk (g n c k : Nat) (es : List Ent) (cur : Array Value) (w : World) (hg : w.heap[g]? = some (.cells cur 61 (0, 0))) (hn : es.length = n) (hk : k < n) (hnc : n ≤ c) (hcm : c ≤ maxLen) (hcs : cur.size = c * 3) (ht : cur.toList.take (n * 3) = flat es) :
    Calls Tryz.prog 100 #[.slice (some ⟨g, 0, none⟩) n c, .int .i64 (k : Int), .int .i64 ((k : Int) + 1)] w fun e w' => e = .returned (.slice (some ⟨g, 0, none⟩) (n - 1) c) ∧
      ∃ cur', w'.heap[g]? = some (.cells cur' 61 (0, 0)) ∧ cur'.size = c * 3 ∧ cur'.toList.take ((n - 1) * 3) = flat (es.eraseIdx k) ∧ w.grownBy w' (some g) ∧ w'.heap.size = w.heap.size := by
  obtain ⟨i0, hi, hz0, hz1, hz2⟩ := info_parts info34
  unfold maxLen at hcm
  have hk1 : k ≤ c := by omega
  have hk2 : k + 1 ≤ c := by omega
  obtain ⟨news, hnews⟩ : ∃ news, news = flat (es.drop (k + 1)) := ⟨_, rfl⟩
  have hlen : news.length = (n - (k + 1)) * 3 := by rw [hnews, flat_len, List.length_drop, hn]
  have hcell : ∀ j u, (flat es)[j]? = some u → w.cell? ⟨g, j, none⟩ = some u := fun j u hu => by
    rw [← ht, List.getElem?_take] at hu
    split at hu
    · simp [World.cell?, hg]; simpa using hu
    · cases hu
  obtain ⟨A, hA, hsrc⟩ : ∃ A : Addr, (if c = k + 1 then some (⟨g, 0, none⟩ : Addr) else some ⟨g, (k + 1) * 3, none⟩) = some A ∧ Hid (∀ t u, news[t]? = some u → w.drew.cell? (A.add t) = some u) := by
    by_cases h : c = k + 1
    · refine ⟨⟨g, 0, none⟩, by simp [h], fun t u hu => ?_⟩
      have h0 : news.length = 0 := by rw [hlen]; omega
      rw [List.length_eq_zero_iff.1 h0] at hu
      simp at hu
    · refine ⟨⟨g, (k + 1) * 3, none⟩, by simp [h], fun t u hu => ?_⟩
      rw [Addr.add_lit]
      show w.cell? _ = _
      refine hcell _ _ ?_
      rw [hnews, cells_drop es (k + 1) (by omega), List.getElem?_drop] at hu
      exact hu
  have s2 : Hid (∀ u ∈ news, u.oneCell' = true) := by
    intro u hu
    rw [hnews] at hu
    exact flat_one _ u hu
  have hfit : k * 3 + news.length ≤ cur.size := by rw [hlen, hcs]; omega
  obtain ⟨cur1, hcur1⟩ : ∃ cur1 : Array Value, cur1 = (cur.toList.take (k * 3) ++ news ++ cur.toList.drop (k * 3 + news.length)).toArray := ⟨_, rfl⟩
  have hsz1 : cur1.size = c * 3 := by
    rw [hcur1]
    simp only [List.size_toArray, List.length_append, List.length_take, List.length_drop, Array.length_toList]
    omega
  obtain ⟨W1, hW1⟩ : ∃ W1, W1 = w.drew.setRow g cur1 := ⟨_, rfl⟩
  have hg1 : W1.heap[g]? = some (.cells cur1 61 (0, 0)) := by rw [hW1]; exact setRow_heap w.drew g _ _ 61 _ hg
  have hcl : ∀ ty, (Builtin.clear_ #[62] ty #[.slice (some ⟨g, (n - 1) * 3, none⟩) 1 (c - (n - 1))]).run Tryz.prog W1 = .ok (.tuple #[]) (W1.setRow g (cur1.toList.take ((n - 1) * 3) ++ encE (⟨#[]⟩, 0, 0) ++ cur1.toList.drop ((n - 1) * 3 + 3)).toArray) :=
    fun ty => run_clear1 W1 ty g (n - 1) _ cur1 hg1 (by rw [hsz1]; omega)
  have hW : Hid (W1 = w.drew.setRow g cur1) := hW1
  have HC1 : Hid (cur1 = (cur.toList.take (k * 3) ++ news ++ cur.toList.drop (k * 3 + news.length)).toArray) := hcur1
  have HN : Hid (news = flat (es.drop (k + 1))) := hnews
  have HL : Hid (news.length = (n - (k + 1)) * 3) := hlen
  have HG : Hid (w.heap[g]? = some (.cells cur 61 (0, 0))) := hg
  have HG1 : Hid (W1.heap[g]? = some (.cells cur1 61 (0, 0))) := hg1
  have HF : Hid (k * 3 + news.length ≤ cur.size) := hfit
  have HT : Hid (cur.toList.take (n * 3) = flat es) := ht
  have HS1 : Hid (cur1.size = c * 3) := hsz1
  have HCS : Hid (cur.size = c * 3) := hcs
  have HES : Hid (es.length = n) := hn
  have c3 : (0 : Int) ≤ ↑k + 1 := by omega
  have c4 : (↑k + 1 : Int) ≤ ↑n := by omega
  clear hW1 hcur1 hnews hlen hg hg1 hfit ht hsz1 hcs hcell hn
  go_enter Tryz.func100, Tryz.ntmps100
  go_wp2_with fail
  go_region_law (refine step_append_row rfl (.tmp 22) (.tmp 25) 62 rfl 61 i0 3 Tryz.underlying62 hi hz1 g k c cur (by simp [Act.eval, Act.put]) HG.out A (n - (k + 1)) (c - (k + 1)) news (by simp [Act.eval, Act.put]) HL.out hsrc.out s2.out (by omega) HF.out ?_; rw [← HC1.out, ← hW.out])
  all_goals
    have e1 : k + (n - (k + 1)) = n - 1 := by omega
    have d1 : ((n - 1 : Nat) : Int) ≤ (n : Int) := by omega
    have d2 : n - (n - 1) = 1 := by omega
    have d3 : ¬ c = n - 1 := by omega
    have d4 : (0 : Int) ≤ ((n - 1 : Nat) : Int) := by omega
    have d5 : (n : Int) ≤ (c : Int) := by omega
    simp only [e1]
    clear e1
    go_wp2
    go_ret
    have hs1 := HS1.out
    have hcs := HCS.out
    have hes := HES.out
    have hl1 : (cur1.toList.take ((n - 1) * 3)).length = (n - 1) * 3 := by rw [List.length_take, Array.length_toList, hs1]; omega
    refine ⟨rfl, _, setRow_heap W1 g _ _ 61 _ HG1.out, ?_, ?_, ?_, ?_⟩
    · simp only [List.size_toArray, List.length_append, hl1, List.length_drop, Array.length_toList, hs1, encE_len]; omega
    · rw [List.take_left' hl1, HC1.out]
      have hk3 : cur.toList.take (k * 3) = flat (es.take k) := by
        rw [cells_take es k (by omega), ← HT.out, List.take_take, Nat.min_eq_left (by omega)]
      have hl2 : (cur.toList.take (k * 3) ++ news).length = (n - 1) * 3 := by
        rw [List.length_append, HL.out, List.length_take, Array.length_toList, hcs]; omega
      show List.take ((n - 1) * 3) (cur.toList.take (k * 3) ++ news ++ cur.toList.drop (k * 3 + news.length)) = _
      rw [List.take_left' hl2, hk3, HN.out, ← flat_append, List.eraseIdx_eq_take_drop_succ]
    · refine ⟨by rw [hW.out]; rfl, by rw [hW.out]; rfl, by rw [hW.out]; rfl, by rw [hW.out]; simp, fun x hx hne => ?_⟩
      have hxg : x ≠ g := fun e => hne (by rw [e])
      rw [setRow_other W1 g x _ hxg, hW.out, setRow_other w.drew g x _ hxg]; rfl
    · rw [hW.out]; simp

end Go.Proofs.YtehpnebekgahnaaGreat
