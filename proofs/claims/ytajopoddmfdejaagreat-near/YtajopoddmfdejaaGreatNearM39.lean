/-
  What is proved here: canopykeep's under answers the objects of a directory and of all directories below it. what Remove, Rename and Open make of a root that is the workspace's own, at paths of one name; how many names a root can have. Open, Remove and Rename of a workspace at paths of one name, whatever files are open. Stat of a file that the workspace holds, at a path of one name; and where nothing stands.
-/
import Derived.Test.YtajopoddmfdejaaGreatNearM37
import Derived.Test.YtajopoddmfdejaaGreatNearM38
import Derived.Maps.AppendAt
import Derived.Test.YtajopoddmfdejaaGreatNearM33
import Derived.Test.YtajopoddmfdejaaGreatNearM35
namespace Go.Proofs.YtajopoddmfdejaaGreat
open Go.RowKit Go.Sort Go.Shelf
set_option linter.unusedVariables false

/-- A list of objects that grows while the entries of a directory, in block g, are read. -/
structure AccSt (B g : Nat) (es : List Ent) (wr : World) (a : Option Addr) (n c : Nat) (L : List Int) : Prop where
  row : wr.ownsRow B 26 1 (.slice a n c) n (encN L)
  len : n = L.length
  off : (Value.slice a n c).ownBlock ≠ some g
  lt : g < wr.heap.size
  ents : ∀ j u, (flat es)[j]? = some u → wr.cell? ⟨g, 0 + j, none⟩ = some u
theorem AccSt.below {B g : Nat} {es : List Ent} {wr w' : World} {a : Option Addr} {n c : Nat} {L : List Int} (h : AccSt B g es wr a n c L) (hb : Below wr.heap.size wr w') : AccSt B g es w' a n c L :=
  ⟨row_below h.row hb, h.len, h.off, Nat.lt_of_lt_of_le h.lt hb.size, fun j u hu => (hb.cell (p := ⟨g, 0 + j, none⟩) h.lt).trans (h.ents j u hu)⟩
theorem AccSt.grow {B g : Nat} {es : List Ent} {wr w1 : World} {a : Option Addr} {n c m : Nat} {L M : List Int} (h : AccSt B g es wr a n c L) (hm : m = M.length) {v' : Value} (hown : w1.ownsRow B 26 1 v' (n + m) (encN L ++ encN M)) (hg : wr.grownBy w1 (Value.slice a n c).ownBlock) (hloc : v'.ownBlock = (Value.slice a n c).ownBlock ∨ v'.ownBlock = some wr.heap.size) : ∃ a' c', v' = .slice a' (n + m) c' ∧ AccSt B g es w1 a' (n + m) c' (L ++ M) := by
  obtain ⟨a', c', rfl⟩ : ∃ a' c', v' = .slice a' (n + m) c' := by
    rcases hown.2 with ⟨rfl, h0⟩ | ⟨g, c, cur, rfl, _⟩
    · exact ⟨none, 0, by rw [h0]⟩
    · exact ⟨_, c, rfl⟩
  refine ⟨a', c', rfl, ⟨by rw [show encN (L ++ M) = encN L ++ encN M by simp [encN]]; exact hown, by rw [List.length_append, h.len, hm], fun e => ?_, Nat.lt_of_lt_of_le h.lt hg.size, fun j u hu => ?_⟩⟩
  · rcases hloc with e' | e'
    · exact h.off (e'.symm.trans e)
    · rw [e'] at e
      have := h.lt
      have := Option.some.inj e
      omega
  · rw [World.cell?_of_block (a := ⟨g, 0 + j, none⟩) (hg.block g h.lt (fun e => h.off e.symm))]
    exact h.ents j u hu
theorem AccSt.cells {B g : Nat} {es : List Ent} {wr : World} {a : Option Addr} {n c : Nat} {L : List Int} (h : AccSt B g es wr a n c L) {k : Nat} (hk : k < es.length) : wr.cell? ⟨g, k * 3, none⟩ = some (.string es[k].1) ∧ wr.cell? ⟨g, k * 3 + 1, none⟩ = some (.int .i64 es[k].2.1) ∧ wr.cell? ⟨g, k * 3 + 2, none⟩ = some (.int .i64 es[k].2.2) := by
  obtain ⟨c0, c1, c2⟩ := row_cells h.ents hk
  rw [Nat.zero_add] at c0 c1 c2
  exact ⟨c0, c1, c2⟩

theorem encN_one8 (xs : List Int) : ∀ u ∈ encN xs, u.oneCell' = true := by
  intro u hu
  obtain ⟨x, _, rfl⟩ := List.mem_map.1 hu
  rfl
theorem flat_take {α : Type} (f : α → List Int) (l : List α) (k : Nat) : ((l.take k).flatMap f).length ≤ (l.flatMap f).length := by
  conv => rhs; rw [← List.take_append_drop k l, List.flatMap_append, List.length_append]
  omega
theorem flat_step {α : Type} (f : α → List Int) {l : List α} {k : Nat} (hk : k < l.length) : (l.take (k + 1)).flatMap f = (l.take k).flatMap f ++ f l[k] := by
  rw [List.take_succ_eq_append_getElem hk, List.flatMap_append, List.flatMap_singleton]

set_option maxRecDepth 100000 in
set_option maxHeartbeats 4000000 in
theorem under_walk (s : Nat) (id : Int) (es : List Ent) (sub : Ent → List Int) (w : World) (h16 : es.length ≤ 16) (hpos : ∀ e, 0 < (sub e).length)
    (htot : (es.flatMap fun e => if e.2.1 = 2 then sub e else []).length ≤ 20000000)
    (hdir : ∀ W, Below w.heap.size w W → Calls Tryz.prog 33 #[.pointer (some ⟨s, 0, none⟩), .int .i64 id] W fun e w' => (∃ g c, e = .returned (.tuple #[.slice (some ⟨g, 0, none⟩) es.length c, .int .i64 0]) ∧ W.heap.size ≤ g ∧ g < w'.heap.size ∧ ∀ j u, (flat es)[j]? = some u → w'.cell? ⟨g, 0 + j, none⟩ = some u) ∧ Below W.heap.size W w')
    (hrec : ∀ e ∈ es, e.2.1 = 2 → ∀ W, Below w.heap.size w W → Calls Tryz.prog 34 #[.pointer (some ⟨s, 0, none⟩), .int .i64 e.2.2] W fun en w' => ∃ v, en = .returned v ∧ w'.ownsRow W.heap.size 26 1 v (sub e).length (encN (sub e)) ∧ Below W.heap.size W w') :
    Calls Tryz.prog 34 #[.pointer (some ⟨s, 0, none⟩), .int .i64 id] w fun e w' => ∃ v, e = .returned v ∧ w'.ownsRow w.heap.size 26 1 v (id :: es.flatMap fun e => if e.2.1 = 2 then sub e else []).length (encN (id :: es.flatMap fun e => if e.2.1 = 2 then sub e else [])) ∧ Below w.heap.size w w' := by
  obtain ⟨i0, hi, hz0, hz1, hz2⟩ := info_parts infoID
  obtain ⟨f, hf⟩ : ∃ f : Ent → List Int, f = fun e => if e.2.1 = 2 then sub e else [] := ⟨_, rfl⟩
  rw [← hf] at htot ⊢
  have HB0 : Hid _ := (Below.refl w.heap.size w).alloc (Nat.le_refl _) (.cells #[.int .i64 id] 26)
  have HD : Hid _ := hdir _ HB0.out
  have HR : Hid _ := hrec
  have HF : Hid _ := hf
  have HP : Hid _ := hpos
  have HT : Hid (∀ k, (id :: (es.take k).flatMap f).length ≤ 20000001) := fun k => by
    have := flat_take f es k
    simp only [List.length_cons]; omega
  obtain ⟨m, hm⟩ : ∃ m, m = es.length := ⟨_, rfl⟩
  have HM : Hid _ := hm
  have hm16 : m ≤ 16 := by omega
  clear hdir hrec hf hpos htot hm h16
  go_enter Tryz.func34, Tryz.ntmps34
  go_wp2_with fail
  refine Calls.mono HD.out ?_
  rintro e w1 ⟨⟨g, cg, rfl, hgB, hgl, hcs⟩, hb1⟩
  have hbw1 : Below w.heap.size w w1 := below_via HB0.out hb1
  have hst : AccSt w.heap.size g es w1 (some ⟨w.heap.size, 0, none⟩) 1 1 (id :: (es.take 0).flatMap f) := by
    refine ⟨?_, rfl, fun e => ?_, hgl, hcs⟩
    · refine row_below (W := w.alloc (.cells #[.int .i64 id] 26)) ⟨rfl, .inr ⟨w.heap.size, 1, _, rfl, Nat.le_refl _, heap_alloc_new w _, Nat.le_refl _, by decide, rfl, rfl⟩⟩ hb1
    · have := Option.some.inj e
      simp only at this
      simp at hgB
      omega
  have HS0 : Hid _ := hst
  rw [← HM.out]
  clear hst hcs hgB HD hb1
  go_wp2
  go_loopw [5, 8] (fun ov i wr => ∃ (k : Nat) (a : Option Addr) (n c : Nat), k ≤ m ∧ i = .int .i64 (k : Int) ∧ ov = .slice a n c ∧ n ≤ 20000001 ∧ Below w.heap.size w wr ∧ Hid (AccSt w.heap.size g es wr a n c (id :: (es.take k).flatMap f))) (fun _ i _ => m - (intOf i).toNat)
  case atStart => exact ⟨0, _, 1, 1, Nat.zero_le _, rfl, rfl, by omega, hbw1, HS0⟩
  case round =>
    obtain ⟨k, a, n, c, hk, rfl, rfl, hn, hb, HA⟩ := hrel
    rename World => wr
    by_cases hkm : k < m
    · have hke : k < es.length := by rw [← HM.out]; exact hkm
      obtain ⟨c0, c1, c2⟩ := HA.out.cells hke
      have hgr : g < wr.heap.size := HA.out.lt
      have hstep := flat_step f hke
      have HSTEP : Hid _ := hstep
      have hmem := List.getElem_mem hke
      by_cases hd : es[k].2.1 = 2
      · have HRR : Hid _ := HR.out es[k] hmem hd wr hb
        have hfe : f es[k] = sub es[k] := by rw [HF.out]; simp only [if_pos hd]
        have hsp := HP.out es[k]
        rw [← hfe] at hsp
        have HFE : Hid _ := hfe
        rw [hd] at c1
        clear hstep hmem hd hfe
        go_wp2_with fail
        refine Calls.mono HRR.out ?_
        rintro e w2 ⟨v, rfl, hrow, hb2⟩
        rw [← HFE.out] at hrow
        have hbw2 : Below w.heap.size w w2 := hb.trans (hb2.mono hb.size)
        have hA2 := HA.out.below hb2
        obtain ⟨gv, cv, rfl⟩ := slice_of_owns hrow hsp
        obtain ⟨q, hq⟩ : ∃ q, q = (f es[k]).length := ⟨_, rfl⟩
        have hqb : n + q ≤ 20000001 := by
          have h1 := HT.out (k + 1)
          rw [HSTEP.out] at h1
          have h2 := HA.out.len
          simp only [List.length_cons, List.length_append] at h1 h2
          omega
        have HCV : Hid _ := World.ownsRow.cells hrow (g := gv) rfl
        have HQ : Hid _ := hq
        have HA2 : Hid _ := hA2
        rw [← hq]
        clear hrow hb2 hA2 hq HRR
        go_wp2_with (at_builtin; (refine wpList_append_own_at _ rfl (.tmp 37) (.tmp 38) 64 rfl w.heap.size 26 i0 _ 1 8 Tryz.underlying64 hi hz0 hz1 hz2 rfl (by decide) (.slice a n c) n (encN (id :: (es.take k).flatMap f)) rfl (AccSt.row HA2.out) ⟨gv, 0, none⟩ q cv (encN (f es[k])) rfl (by rw [encN_len, HQ.out, Nat.mul_one]) HCV.out (encN_one8 _) (by unfold maxLen; omega) (by omega) hbw2.size ?_))
        intro v' w3 hown' hgrow _ hloc
        obtain ⟨a3, c3, hv, hA3⟩ := AccSt.grow HA2.out HQ.out hown' hgrow hloc
        subst hv
        have hb3 := grown_own8 hbw2 hbw2.size (AccSt.row HA2.out) hgrow
        have HA3 : Hid (AccSt w.heap.size g es w3 a3 (n + q) c3 (id :: (es.take (k + 1)).flatMap f)) := by
          show AccSt _ _ _ _ _ _ _ _
          rw [HSTEP.out]; exact hA3
        clear hown' hgrow hloc hA3
        go_wp2
        exact ⟨⟨k + 1, a3, n + q, c3, by omega, by simp, rfl, hqb, hb3, HA3⟩, by simp [intOf]; omega⟩
      · have hd' : (es[k].2.1 == 2) = false := by simpa using hd
        have hfe : f es[k] = [] := by rw [HF.out]; simp only [if_neg hd]
        have HA3 : Hid (AccSt w.heap.size g es wr a n c (id :: (es.take (k + 1)).flatMap f)) := by
          show AccSt _ _ _ _ _ _ _ _
          rw [HSTEP.out, hfe, List.append_nil]; exact HA.out
        clear hstep hmem hd hfe
        go_wp2
        exact ⟨⟨k + 1, a, n, c, by omega, by simp, rfl, hn, hb, HA3⟩, by simp [intOf]; omega⟩
    · have hkm' : k = m := by omega
      have hfin := HA.out
      rw [hkm', HM.out, List.take_length] at hfin
      have HFI : Hid _ := hfin
      clear hfin hkm'
      go_wp2
      go_ret
      refine ⟨.slice a n c, rfl, ?_, hb⟩
      have e : (List.flatMap f es).length + 1 = n := (AccSt.len HFI.out).symm
      try simp only [List.length_cons]
      rw [e]
      exact AccSt.row HFI.out

theorem under_all {ft : PTail} {F : Nat → Prop} {w : World} {s p : Nat} {objs : List Ob} (h : InvP ft F w s p objs) (hS : Sound objs) : ∀ (n : Nat) (id : Int), n ≤ 5 → kindOf objs id = 2 → highOf objs id ≤ n → ∀ W, Below w.heap.size w W →
    Calls Tryz.prog 34 #[.pointer (some ⟨s, 0, none⟩), .int .i64 id] W fun e w' => ∃ v, e = .returned v ∧ w'.ownsRow W.heap.size 26 1 v (underR objs n id).length (encN (underR objs n id)) ∧ Below W.heap.size W w' := by
  have hdir : ∀ id, kindOf objs id = 2 → ∀ W, Below w.heap.size w W → Calls Tryz.prog 33 #[.pointer (some ⟨s, 0, none⟩), .int .i64 id] W fun e w' => (∃ g c, e = .returned (.tuple #[.slice (some ⟨g, 0, none⟩) (entsOf objs id).length c, .int .i64 0]) ∧ W.heap.size ≤ g ∧ g < w'.heap.size ∧ ∀ j u, (flat (entsOf objs id))[j]? = some u → w'.cell? ⟨g, 0 + j, none⟩ = some u) ∧ Below W.heap.size W w' := by
    intro id hk W hb
    refine (storeGetDir (h.below hb (fun k _ hk => hk)).inv id).mono ?_
    rintro e w' ⟨hg, hb'⟩
    refine ⟨?_, hb'⟩
    rcases hg with ⟨h1, _⟩ | ⟨j, hj, rfl, h2, g, he, hrow⟩
    · exact absurd hk h1
    · rw [entsOf_at hj]
      exact ⟨g, _, he, (hrow.lt g rfl).1, (hrow.lt g rfl).2, owns_cells hrow⟩
  intro n
  induction n with
  | zero =>
    intro id _ hk hh W hb
    obtain ⟨_, h16, hall⟩ := hS.2 id hk
    have hnil : entsOf objs id = [] := by
      cases he : entsOf objs id with
      | nil => rfl
      | cons e r =>
        have := (hall e (by rw [he]; exact List.mem_cons_self ..)).2.2.2
        have := hS.1 e.2.2
        omega
    have := under_walk s id [] (fun _ => [0]) W (by simp) (fun e => by simp) (by simp) (fun W' hb' => by
      have := hdir id hk W' (below_via hb hb')
      rw [hnil] at this
      exact this) (fun e he => by cases he)
    rw [underR]
    exact this
  | succ n ih =>
    intro id hn hk hh W hb
    obtain ⟨_, h16, hall⟩ := hS.2 id hk
    have hb5 : (underR objs (n + 1) id).length ≤ uBound (n + 1) := under_bound hS (n + 1) id hk
    have hub : uBound (n + 1) ≤ 1118481 := by
      have : n = 0 ∨ n = 1 ∨ n = 2 ∨ n = 3 ∨ n = 4 := by omega
      rcases this with rfl | rfl | rfl | rfl | rfl <;> decide
    rw [underR] at hb5 ⊢
    refine under_walk s id (entsOf objs id) (fun e => underR objs n e.2.2) W h16 (fun e => List.length_pos_of_mem (under_head objs n e.2.2)) (by simp only [List.length_cons] at hb5; omega) (fun W' hb' => hdir id hk W' (below_via hb hb')) (fun e he hd W' hb' => ?_)
    obtain ⟨_, _, h3, h4⟩ := hall e he
    exact ih e.2.2 (by omega) (by rw [h3, hd]) (by omega) W' (below_via hb hb')

end Go.Proofs.YtajopoddmfdejaaGreat

namespace Go.Proofs.YtajopoddmfdejaaGreat
open Go.RowKit Go.Sort Go.Shelf
set_option linter.unusedVariables false

theorem own_find_some {objs : List Ob} {ks : Kids} {fs : FS} {n : ByteArray} {c : LT} (h : pickK ks n = some c) : findR objs (.own ks) fs [n] = (fs, 0, c) := by
  simp [findR, kidsG, h]
theorem own_look (objs : List Ob) (ks : Kids) (fs : FS) : lookR objs (.own ks) fs [] = (fs, 0, ks) := rfl
end Go.Proofs.YtajopoddmfdejaaGreat

namespace Go.Proofs.YtajopoddmfdejaaGreat
open Go.RowKit Go.Sort Go.Shelf
set_option linter.unusedVariables false

theorem good_one {n : ByteArray} (h : validB n = true) : Good [n] := ⟨fun x hx => by rw [List.mem_singleton.1 hx]; exact h, by simp⟩

/-- The table as the open files have it. -/
def opT (g : WG) : Nat → Option Nat := fun k => (g.op k).map (·.1)

section
variable {s i p : Nat} {B : WB} {objs : List Ob}

theorem ws_tab {tg : Tags} {w : World} {g : WG} {lim : Nat} (h : WInv tg w s i p B objs g lim) : TabAt w B.wb (opT g) ∧ w.cell? ⟨B.wb, 0, none⟩ = some (.pointer (some ⟨B.bt, 0, none⟩)) := h.wp.opens.tab

theorem openTo_mono {sz sz' : Nat} {fl fl' : Nat → Option (Int × ByteArray)} {ks : Kids} {t t' : LT} {q : List ByteArray} {n : ByteArray} {tr : Bool} {f : Nat} (h : OpenTo objs sz fl ks t q n tr f fl' t') (hs : sz' ≤ sz) : OpenTo objs sz' fl ks t q n tr f fl' t' := by
  rcases h with ⟨a, b, c⟩ | h | ⟨id, a, b, c⟩
  · exact .inl ⟨a, Nat.le_trans hs b, c⟩
  · exact .inr (.inl h)
  · exact .inr (.inr ⟨id, a, Nat.le_trans hs b, c⟩)

theorem openTo_file {sz : Nat} {fl fl' : Nat → Option (Int × ByteArray)} {ks : Kids} {t t' : LT} {q : List ByteArray} {n : ByteArray} {tr : Bool} {f : Nat} (h : OpenTo objs sz fl ks t q n tr f fl' t') (hh : ∀ f, pickK ks n = some (.held f) → ∃ x, fl f = some x) : ∃ x, fl' f = some x := by
  rcases h with ⟨_, _, _, rfl⟩ | ⟨a, _, rfl⟩ | ⟨id, _, _, _, rfl⟩
  · exact ⟨_, updN_same _ _ _⟩
  · split
    · exact ⟨_, updN_same _ _ _⟩
    · exact hh f a
  · split <;> exact ⟨_, updN_same _ _ _⟩

theorem hopen {tg : Tags} {w : World} {g : WG} {lim : Nat} {t : LT} (h : WInv tg w s i p B objs g lim) (hl : lim + 1000 < 1099511627776) (hF : Flat objs t g.ft) (hok : LTok objs 5 t) {n : ByteArray} (hn : validB n = true) (fg : Int) (h0 : 0 ≤ fg) (h64 : fg < 64) (ex cr tr : Bool) (hex : (bits BinOp.and IntKind.i64 fg 8 != 0) = ex) (hcr : (bits BinOp.and IntKind.i64 fg 4 != 0) = cr) (htr : (bits BinOp.and IntKind.i64 fg 16 != 0) = tr)
    (hv : ∀ W, Calls Tryz.prog 90 #[.int .i64 fg] W fun e w' => e = .returned (.bool true) ∧ w' = W) {k : Nat} (hk : k < 8) (hk0 : g.op k = none) (hk1 : ∀ j, j < k → g.op j ≠ none)
    {fs' : FS} {ks : Kids} (hlk : lookR objs t g.fs [] = (fs', 0, ks)) (hoe : openE ks n ex cr = 0) (hhd : ∀ f, pickK ks n = some (.held f) → ∃ x, g.fl f = some x) :
    Calls Tryz.prog 50 #[.pointer (some ⟨B.wb, 0, none⟩), .string n, .int .i64 fg] w fun e w' => e = .returned (.tuple #[.int .i64 (k : Int), .int .i64 0]) ∧ ∃ tg' g' t' b f, Moves (Mine i) tg tg' w w' ∧ WInv tg' w' s i p B objs g' (lim + 300) ∧ Flat objs t' g'.ft ∧ LTok objs 5 t' ∧ g'.fs = fs' ∧ g'.op = updN g.op k (some (b, f, fg, 0)) ∧ OpenTo objs w.heap.size g.fl ks t [] n tr f g'.fl t' := by
  obtain ⟨htab, c0⟩ := ws_tab h
  have hopn := fun W (hb : Below w.heap.size w W) => open_walk (n := n) (r := []) (h.below hb) (by omega) hF hok (good_one hn) fg ex cr tr hex hcr htr
  simp only [hlk] at hopn
  have hw := open_ws_ok B.wb B.bt k (opT g) fg [n] (good_one hn) (fun f w' => ∃ tg' g' t', Moves (Mine i) tg tg' w w' ∧ WInv tg' w' s i p B objs g' (lim + 300) ∧ Flat objs t' g'.ft ∧ LTok objs 5 t' ∧ g'.fs = fs' ∧ g'.op = g.op ∧ OpenTo objs w.heap.size g.fl ks t [] n tr f g'.fl t') w htab c0 hk (by unfold opT; rw [hk0]; rfl) (fun j hj e => hk1 j hj (by unfold opT at e; cases ho : g.op j with | none => rfl | some x => rw [ho] at e; cases e)) hv (fun W hb => (hopn W hb).mono ?_) ?_
  · rw [joinB_one] at hw
    refine hw.mono ?_
    rintro e w' ⟨he, f, w1, ⟨tg1, g1, t1, m1, hW1, hF1, hO1, hs1, ho1, hT1⟩, rfl⟩
    obtain ⟨x, hx⟩ := openTo_file hT1 hhd
    obtain ⟨m2, hW2⟩ := hW1.open_at (k := k) (f := f) (fg := fg) hk hx h0 h64
    refine ⟨he, _, _, t1, w1.heap.size, f, m1.trans (m2.mono (fun x hx => .inr (by rw [hx]))), hW2, hF1, hO1, hs1, ?_, hT1⟩
    show updN g1.op k _ = _
    rw [ho1]
  · rintro e w' (⟨hx, _⟩ | ⟨_, hx, _⟩ | ⟨_, _, f, tg', ft', fl', t', he, m, hW, hF', hO', hT⟩)
    · exact absurd rfl hx
    · exact absurd hoe hx
    · exact ⟨f, he, tg', _, t', call_moves hb m, hW, hF', hO', rfl, rfl, openTo_mono hT hb.size⟩
  · rintro f w' ⟨tg', g', t', m, hW, _, _, _, ho, _⟩
    have := (ws_tab hW).1
    unfold opT at this ⊢
    rw [ho] at this
    exact this

end
end Go.Proofs.YtajopoddmfdejaaGreat

namespace Go.Proofs.YtajopoddmfdejaaGreat
open Go.RowKit Go.Sort Go.Shelf
set_option linter.unusedVariables false

section
variable {s i p : Nat} {B : WB} {objs : List Ob}

theorem OwnF.look1 {tg : Tags} {w : World} {of : List ByteArray → Option Nat} {lim : Nat} (h : OwnF tg w i B of lim) {q : List ByteArray} (hq : Good q) {W : World} (hb : Below w.heap.size w W) :
    (Instr.lookup 127 (.map (some B.oF)) (.agg (pathA q)) false).run Tryz.prog W = .ok (((of q).map ptr).getD (.pointer none)) W := by
  obtain ⟨_, ⟨n, _, M, hV, hM, _⟩, _⟩ := h
  have := (hV.keep (w' := W) (hb.block _ hV.lt)).look lawP Tryz.underlying127 (zeroFp W) (keyVP hq)
  have hMq : M (keyP Tryz.prog q) = (of q).map ptr := hM q hq
  rw [hMq] at this
  exact this
set_option maxRecDepth 100000 in
set_option maxHeartbeats 1000000 in
theorem tbytes_own {tg : Tags} {w : World} {g : WG} {lim f : Nat} {d nm : ByteArray} (h : WInv tg w s i p B objs g lim) (hl : lim < 1099511627776) (hfl : FlOk objs g.fl) {q : List ByteArray} (hq : Good q) (hf : g.ft.of q = some f) {x : Int × ByteArray} (hx : g.fl f = some x) (hbz : bytesG objs g.fl g.fs f = (g.fs, 0, d)) :
    Calls Tryz.prog 142 #[.pointer (some ⟨B.bt, 0, none⟩), .agg (pathA q), .agg #[.string nm, .int .i64 1, .int .i64 0]] w fun en w' => en = .returned (.tuple #[.string d, .int .i64 0]) ∧ DidF s i p B objs tg w w' g (lim + 1) := by
  have hb0 : Below w.heap.size w ((w.alloc (.cells (pathA q) 104)).alloc (.cells #[.string nm, .int .i64 1, .int .i64 0] 76)).drew := below_drew (((Below.refl _ _).alloc (Nat.le_refl _) _).alloc (by simp) _)
  have hlk := h.wp.ownF.look1 hq hb0
  rw [hf] at hlk
  have hby := bytes_any (h.below hb0) hl hfl hx
  rw [hbz] at hby
  obtain ⟨tb, t7, t8⟩ := h.treeAt
  obtain ⟨s0, s1, s2, s3, s4, hP⟩ : ∃ s0 s1 s2 s3 s4, pathA q = #[.string s0, .string s1, .string s2, .string s3, .string s4] := ⟨_, _, _, _, _, rfl⟩
  rw [hP] at hlk hb0 hby ⊢
  simp only [Option.map_some, Option.getD_some, ptr] at hlk
  have HB : Hid _ := hb0
  have HBY : Hid _ := hby
  clear h hb0 hby
  go_enter Tryz.func142, Tryz.ntmps142
  go_wp2
  go_region_with (go_at_call 135; refine Calls.mono HBY.out ?_; rintro e w2 ⟨rfl, hD⟩)
  all_goals
    go_wp2
    go_ret2
    exact ⟨rfl, hD.via HB.out⟩

set_option maxRecDepth 100000 in
set_option maxHeartbeats 1000000 in
theorem tsize_walk (t : Nat) (s0 s1 s2 s3 s4 nm d : ByteArray) (R : World → Prop) (w : World)
    (hby : Calls Tryz.prog 142 #[.pointer (some ⟨t, 0, none⟩), .agg #[.string s0, .string s1, .string s2, .string s3, .string s4], .agg #[.string nm, .int .i64 1, .int .i64 0]] ((w.alloc (.cells #[.string s0, .string s1, .string s2, .string s3, .string s4] 104)).alloc (.cells #[.string nm, .int .i64 1, .int .i64 0] 76)) fun en w' => en = .returned (.tuple #[.string d, .int .i64 0]) ∧ R w') :
    Calls Tryz.prog 100 #[.pointer (some ⟨t, 0, none⟩), .agg #[.string s0, .string s1, .string s2, .string s3, .string s4], .agg #[.string nm, .int .i64 1, .int .i64 0]] w fun en w' => en = .returned (.tuple #[.int .i64 (d.size : Int), .int .i64 0]) ∧ R w' := by
  have HBY : Hid _ := hby
  clear hby
  go_enter Tryz.func100, Tryz.ntmps100
  go_wp2_with fail
  refine Calls.mono HBY.out ?_
  rintro e w2 ⟨rfl, hR⟩
  go_wp2
  go_ret2
  exact ⟨rfl, hR⟩

theorem tsize_own {tg : Tags} {w : World} {g : WG} {lim f : Nat} {d nm : ByteArray} (h : WInv tg w s i p B objs g lim) (hl : lim < 1099511627776) (hfl : FlOk objs g.fl) {q : List ByteArray} (hq : Good q) (hf : g.ft.of q = some f) {x : Int × ByteArray} (hx : g.fl f = some x) (hbz : bytesG objs g.fl g.fs f = (g.fs, 0, d)) :
    Calls Tryz.prog 100 #[.pointer (some ⟨B.bt, 0, none⟩), .agg (pathA q), .agg #[.string nm, .int .i64 1, .int .i64 0]] w fun en w' => en = .returned (.tuple #[.int .i64 (d.size : Int), .int .i64 0]) ∧ DidF s i p B objs tg w w' g (lim + 1) := by
  have hb0 : Below w.heap.size w ((w.alloc (.cells (pathA q) 104)).alloc (.cells #[.string nm, .int .i64 1, .int .i64 0] 76)) := ((Below.refl _ _).alloc (Nat.le_refl _) _).alloc (by simp) _
  exact tsize_walk B.bt _ _ _ _ _ nm d _ w ((tbytes_own (h.below hb0) hl hfl hq hf hx hbz).mono (fun e w' ⟨h1, h2⟩ => ⟨h1, h2.via hb0⟩))
end
end Go.Proofs.YtajopoddmfdejaaGreat
