/-
  What is proved here: how much stands one below the other in what is at a path (height).
-/
import Derived.Test.YtajopoddmfdejaaGreatBackM28
import Derived.Test.YtajopoddmfdejaaGreatBackM29
namespace Go.Proofs.YtajopoddmfdejaaGreat
open Go.RowKit Go.Sort Go.Shelf
set_option linter.unusedVariables false

theorem SInv.highs {tg : Tags} {w : World} {s p : Nat} {objs : List Ob} {got : List Int} {brk : Bool} {lim : Nat} (h : SInv tg w s p objs got brk lim) : ∀ o ∈ objs, 0 ≤ o.high ∧ o.high ≤ 5 := by
  obtain ⟨_, ft, _, ⟨a, cap, bf, bd, Df, Dd, i⟩, _⟩ := h
  intro o ho
  rcases i.obs o ho with ⟨_, h1, _⟩ | ⟨_, _, _, _, h1, h2, _⟩
  · rw [h1]; exact ⟨Int.le_refl _, by decide⟩
  · exact ⟨h1, h2⟩

theorem pool_high {tg : Tags} {w : World} {s p : Nat} {objs : List Ob} {got : List Int} {brk : Bool} {lim : Nat} (h : SInv tg w s p objs got brk lim) {id : Int} (hk : kindOf objs id ≠ 0) :
    Calls Tryz.prog 114 #[.pointer (some ⟨p, 0, none⟩), .int .i64 id] w fun e w' => e = .returned (.int .i64 (highOf objs id)) ∧ Below w.heap.size w w' := by
  obtain ⟨h1, h2⟩ := kind_in hk
  obtain ⟨j, rfl⟩ : ∃ j : Nat, id = (j : Int) + 1 := ⟨(id - 1).toNat, by omega⟩
  have hj : j < objs.length := by omega
  obtain ⟨_, ft, _, ⟨a, cap, bf, bd, Df, Dd, i⟩, _⟩ := h
  rw [highOf_in hj]
  exact height_in p a objs.length cap bf bd objs j hj w i.pool

theorem high_bound {objs : List Ob} (h : ∀ o ∈ objs, 0 ≤ o.high ∧ o.high ≤ 5) (id : Int) : 0 ≤ highOf objs id ∧ highOf objs id ≤ 5 := by
  unfold highOf
  cases ho : objs[(id - 1).toNat]? with
  | none => exact ⟨Int.le_refl _, by decide⟩
  | some o => exact h o (List.mem_of_getElem? ho)

theorem foldl_max_ge {α : Type} (f : α → Int) (l : List α) (a : Int) : a ≤ l.foldl (fun h x => max h (1 + f x)) a := ((foldl_max_le f l a _).1 (Int.le_refl _)).1

theorem hgt_bound {objs : List Ob} (h : ∀ o ∈ objs, 0 ≤ o.high ∧ o.high ≤ 5) : ∀ (n : Nat) (c : LT), 0 ≤ hgt objs n c ∧ hgt objs n c ≤ 5 + n
  | n, .file id => by
    have := high_bound h id
    have e : hgt objs n (.file id) = highOf objs id := by cases n <;> rfl
    rw [e]; omega
  | n, .held f => by
    have e : hgt objs n (.held f) = 0 := by cases n <;> rfl
    rw [e]; omega
  | n, .dir id => by
    have := high_bound h id
    have e : hgt objs n (.dir id) = highOf objs id := by cases n <;> rfl
    rw [e]; omega
  | 0, .own es => by
    have e : hgt objs 0 (.own es) = 0 := rfl
    rw [e]; omega
  | n + 1, .own es => by
    rw [hgt]
    refine ⟨foldl_max_ge _ es 0, (foldl_max_le (fun x => hgt objs n x.2) es 0 _).2 ⟨by omega, fun x _ => ?_⟩⟩
    have := hgt_bound h n x.2
    push_cast
    omega

/-- What stands in a directory of the tree's own stands below it. -/
theorem at_own {objs : List Ob} {t : LT} {q : List ByteArray} {es : Kids} (ha : t.at objs q = some (.own es)) (hr : RisingK es) {x : ByteArray × LT} (hx : x ∈ es) : t.at objs (q ++ [x.1]) = some x.2 := by
  rw [at_append, ha, Option.bind_some, at_cons]
  show (pickK es x.1).bind _ = _
  cases hp : pickK es x.1 with
  | none =>
    unfold pickK at hp
    rw [Option.map_eq_none_iff, List.find?_eq_none] at hp
    exact absurd (hp x hx) (by simp)
  | some c =>
    rw [pick_unique hr hp hx rfl, Option.bind_some, at_nil]

def accH (objs : List Ob) (n : Nat) (es : Kids) : Int := es.foldl (fun h x => max h (1 + hgt objs n x.2)) 0
theorem accH_snoc (objs : List Ob) (n : Nat) (es : Kids) (x : ByteArray × LT) : accH objs n (es ++ [x]) = max (accH objs n es) (1 + hgt objs n x.2) := by
  simp only [accH, List.foldl_append, List.foldl_cons, List.foldl_nil]
theorem accH_bound {objs : List Ob} (h : ∀ o ∈ objs, 0 ≤ o.high ∧ o.high ≤ 5) (n : Nat) (es : Kids) : 0 ≤ accH objs n es ∧ accH objs n es ≤ 6 + n := by
  refine ⟨foldl_max_ge _ es 0, (foldl_max_le (fun x => hgt objs n x.2) es 0 _).2 ⟨by omega, fun x _ => ?_⟩⟩
  have := hgt_bound h n x.2
  omega

set_option maxRecDepth 100000 in
set_option maxHeartbeats 1000000 in
theorem height_stored (t p : Nat) (s0 s1 s2 s3 s4 nm : ByteArray) (k id H : Int) (w : World) (ht : t < w.heap.size) (c0 : w.cell? ⟨t, 0, none⟩ = some (.pointer (some ⟨p, 0, none⟩))) (hid : id ≠ 0)
    (hh : ∀ W, Below w.heap.size w W → Calls Tryz.prog 114 #[.pointer (some ⟨p, 0, none⟩), .int .i64 id] W fun e w' => e = .returned (.int .i64 H) ∧ Below W.heap.size W w') :
    Calls Tryz.prog 84 #[.pointer (some ⟨t, 0, none⟩), .agg #[.string s0, .string s1, .string s2, .string s3, .string s4], .agg #[.string nm, .int .i64 k, .int .i64 id]] w fun e w' => e = .returned (.int .i64 H) ∧ Below w.heap.size w w' := by
  have hW := below_drew (((Below.refl w.heap.size w).alloc (Nat.le_refl _) (.cells #[.string s0, .string s1, .string s2, .string s3, .string s4] 104)).alloc (by simp) (.cells #[.string nm, .int .i64 k, .int .i64 id] 76))
  have hg := hh _ hW
  have HW : Hid _ := hW
  have hid' : (id == 0) = false := by simpa using hid
  clear hh hW
  go_enter Tryz.func84, Tryz.ntmps84
  go_wp2
  go_region_with (go_at_call 114; refine hg.mono ?_; rintro e w1 ⟨rfl, hb1⟩)
  all_goals
    go_wp2
    go_ret
    exact ⟨rfl, below_via HW.out hb1⟩

set_option maxRecDepth 100000 in
set_option maxHeartbeats 1000000 in
theorem height_none (t m : Nat) (s0 s1 s2 s3 s4 nm : ByteArray) (k : Int) (w : World) (ht : t < w.heap.size) (c8 : w.cell? ⟨t, 8, none⟩ = some (.map (some m)))
    (hlk : ∀ W, Below w.heap.size w W → (Instr.lookup 128 (.map (some m)) (.agg #[.string s0, .string s1, .string s2, .string s3, .string s4]) false).run Tryz.prog W = .ok (.slice none 0 0) W) :
    Calls Tryz.prog 84 #[.pointer (some ⟨t, 0, none⟩), .agg #[.string s0, .string s1, .string s2, .string s3, .string s4], .agg #[.string nm, .int .i64 k, .int .i64 0]] w fun e w' => e = .returned (.int .i64 0) ∧ Below w.heap.size w w' := by
  have hW := below_drew (((Below.refl w.heap.size w).alloc (Nat.le_refl _) (.cells #[.string s0, .string s1, .string s2, .string s3, .string s4] 104)).alloc (by simp) (.cells #[.string nm, .int .i64 k, .int .i64 0] 76))
  have hl := hlk _ hW
  have HW : Hid _ := hW
  clear hlk hW
  go_enter Tryz.func84, Tryz.ntmps84
  go_wp2
  go_region
  all_goals
    go_wp2
    go_loopw [7, 27] (fun t i wr => i = .int .i64 0 ∧ t = .int .i64 0 ∧ Below w.heap.size w wr) (fun _ _ _ => 0)
    case atStart => exact ⟨rfl, rfl, HW.out⟩
    case round =>
      obtain ⟨rfl, rfl, hb⟩ := hrel
      go_wp2
      go_ret
      exact ⟨rfl, hb⟩

theorem round_keep {wr w1 : World} {X : Obj} (hb1 : Below (wr.alloc X).drew.heap.size (wr.alloc X).drew w1) :
    (∀ o, w1.cell? ⟨wr.heap.size, o, none⟩ = (wr.alloc X).drew.cell? ⟨wr.heap.size, o, none⟩) ∧ wr.heap.size < w1.heap.size ∧ ∀ n a, n ≤ wr.heap.size → Below n a (wr.alloc X).drew → Below n a w1 := by
  have h1 : wr.heap.size < (wr.alloc X).drew.heap.size := by simp
  exact ⟨fun o => (bcell hb1).1 wr.heap.size o h1, Nat.lt_of_lt_of_le h1 hb1.size, fun n a hn hb => hb.trans (hb1.mono (by omega))⟩

set_option maxRecDepth 100000 in
set_option maxHeartbeats 4000000 in
theorem height_own (t m gb cap n : Nat) (objs : List Ob) (s0 s1 s2 s3 s4 nm : ByteArray) (q : List ByteArray) (k : Int) (es : Kids) (w : World) (ht : t < w.heap.size) (hgb : gb < w.heap.size) (c8 : w.cell? ⟨t, 8, none⟩ = some (.map (some m)))
    (hlk : ∀ W, Below w.heap.size w W → (Instr.lookup 128 (.map (some m)) (.agg #[.string s0, .string s1, .string s2, .string s3, .string s4]) false).run Tryz.prog W = .ok (.slice (some ⟨gb, 0, none⟩) es.length cap) W)
    (hl16 : es.length ≤ 16) (hn5 : n ≤ 5) (hc : ∀ j u, (flat (es.map entOf))[j]? = some u → w.cell? ⟨gb, j, none⟩ = some u) (hh : ∀ o ∈ objs, 0 ≤ o.high ∧ o.high ≤ 5)
    (hch : ∀ (x : ByteArray) W, x ∈ es.map (·.1) → Calls Tryz.prog 126 #[.agg #[.string s0, .string s1, .string s2, .string s3, .string s4], .string x] W fun e w' => e = .returned (.agg (pathA (q ++ [x]))) ∧ Below W.heap.size W w')
    (hrec : ∀ x ∈ es, ∀ W, Below w.heap.size w W → Calls Tryz.prog 84 #[.pointer (some ⟨t, 0, none⟩), .agg (pathA (q ++ [x.1])), .agg #[.string x.1, .int .i64 x.2.kind, .int .i64 x.2.id]] W fun e w' => e = .returned (.int .i64 (hgt objs n x.2)) ∧ Below W.heap.size W w') :
    Calls Tryz.prog 84 #[.pointer (some ⟨t, 0, none⟩), .agg #[.string s0, .string s1, .string s2, .string s3, .string s4], .agg #[.string nm, .int .i64 k, .int .i64 0]] w fun e w' => e = .returned (.int .i64 (accH objs n es)) ∧ Below w.heap.size w w' := by
  have hW := below_drew (((Below.refl w.heap.size w).alloc (Nat.le_refl _) (.cells #[.string s0, .string s1, .string s2, .string s3, .string s4] 104)).alloc (by simp) (.cells #[.string nm, .int .i64 k, .int .i64 0] 76))
  have hl := hlk _ hW
  have HW : Hid _ := hW
  have HC : Hid _ := hc
  have HCH : Hid _ := hch
  have HREC : Hid _ := hrec
  have HB : Hid _ := fun es' : Kids => accH_bound hh n es'
  have HG : Hid _ := fun c : LT => hgt_bound hh n c
  clear hlk hW hc hch hrec hh
  go_enter Tryz.func84, Tryz.ntmps84
  go_wp2
  go_region
  all_goals
    go_wp2
    go_loopw [7, 27] (fun t i wr => ∃ k' : Nat, k' ≤ es.length ∧ i = .int .i64 k' ∧ t = .int .i64 (accH objs n (es.take k')) ∧ Below w.heap.size w wr ∧ Below (w.heap.size + 2) ((w.alloc (.cells #[.string s0, .string s1, .string s2, .string s3, .string s4] 104)).alloc (.cells #[.string nm, .int .i64 k, .int .i64 0] 76)).drew wr) (fun _ i _ => es.length - (intOf i).toNat)
    case atStart => exact ⟨0, Nat.zero_le _, rfl, rfl, HW.out, Below.refl _ _⟩
    case round =>
      obtain ⟨k', hk, rfl, rfl, hb, hb2⟩ := hrel
      by_cases hlt : k' < es.length
      · have hlt' : k' < (es.map entOf).length := by rw [List.length_map]; exact hlt
        obtain ⟨d0, d1, d2⟩ := row_at HC.out hlt'
        rw [List.getElem_map] at d0 d1 d2
        have e0 := (hb.cell (p := ⟨gb, k' * 3, none⟩) hgb).trans d0
        have e1 := (hb.cell (p := ⟨gb, k' * 3 + 1, none⟩) hgb).trans d1
        have e2 := (hb.cell (p := ⟨gb, k' * 3 + 2, none⟩) hgb).trans d2
        have hgb' : gb < wr.heap.size := Nat.lt_of_lt_of_le hgb hb.size
        have kp := fun o => hb2.cell (p := ⟨w.heap.size, o, none⟩) (by simp)
        have hzr : w.heap.size + 2 ≤ wr.heap.size := by have := hb2.size; simpa using this
        have hzw : w.heap.size < wr.heap.size := by omega
        have hmem := List.getElem_mem hlt
        have hcx := fun W => HCH.out (es[k']).1 W (List.mem_map_of_mem hmem)
        have hrx := HREC.out es[k'] hmem
        have hb5 := HG.out (es[k']).2
        have hac := HB.out (es.take k')
        have hst : accH objs n (es.take (k' + 1)) = max (accH objs n (es.take k')) (1 + hgt objs n (es[k']).2) := by
          rw [List.take_succ_eq_append_getElem hlt, accH_snoc]
        generalize hgt objs n (es[k']).2 = H at hrx hb5 hst
        generalize accH objs n (es.take k') = A at hac hst ⊢
        have hwx : IntKind.i64.wrap (1 + H) = 1 + H := by rw [IntKind.wrap_i64] <;> omega
        obtain ⟨hA0, hA1⟩ := hac
        obtain ⟨hH0, hH1⟩ := hb5
        have HST : Hid _ := hst
        simp only [entOf] at e0 e1 e2
        clear d0 d1 d2 hst hmem
        generalize es[k'] = x at e0 e1 e2 hcx hrx
        obtain ⟨xn, xt⟩ := x
        simp only at e0 e1 e2 hcx hrx
        generalize xt.kind = xk at e1 hrx
        generalize xt.id = xi at e2 hrx
        obtain ⟨r0, r1, r2, r3, r4, hP'⟩ : ∃ s0 s1 s2 s3 s4, pathA (q ++ [xn]) = #[.string s0, .string s1, .string s2, .string s3, .string s4] := ⟨_, _, _, _, _, rfl⟩
        rw [hP'] at hcx hrx
        have HR : Hid _ := hrx
        clear hrx hP'
        have b0 : Below w.heap.size w (wr.alloc (.cells #[.string xn, .int .i64 xk, .int .i64 xi] 76)).drew := below_drew (hb.alloc hb.size _)
        have b2 : Below (w.heap.size + 2) ((w.alloc (.cells #[.string s0, .string s1, .string s2, .string s3, .string s4] 104)).alloc (.cells #[.string nm, .int .i64 k, .int .i64 0] 76)).drew (wr.alloc (.cells #[.string xn, .int .i64 xk, .int .i64 xi] 76)).drew := below_drew (hb2.alloc hzr _)
        go_wp2
        go_region_with (first
          | (go_at_call 126; refine (hcx _).mono ?_; rintro e w1 ⟨rfl, hb1⟩; have b1 := below_via b0 hb1; obtain ⟨k1, hz1, hkk⟩ := round_keep hb1; have b3 := hkk _ _ hzr b2; clear hkk)
          | (go_at_call 84; refine (HR.out _ b1).mono ?_; rintro e w2 ⟨rfl, hb2'⟩))
        all_goals
          go_wp2
          go_roundw
          case rel =>
            refine ⟨k' + 1, by omega, by go_num, by rw [HST.out], below_via b1 hb2', b3.trans (hb2'.mono (by omega))⟩
          case measure => simp [intOf]; omega
      · have hkm : k' = es.length := by omega
        subst hkm
        rw [List.take_length]
        go_wp2
        go_ret
        exact ⟨rfl, hb⟩

theorem hgt_stable {objs : List Ob} : ∀ (n m : Nat) (c : LT), n ≤ m → LTok objs n c → hgt objs m c = hgt objs n c
  | n, m, .file id, _, _ => by cases n <;> cases m <;> rfl
  | n, m, .held f, _, _ => by cases n <;> cases m <;> rfl
  | n, m, .dir id, _, _ => by cases n <;> cases m <;> rfl
  | 0, m, .own es, _, h => by
    rw [LTok] at h
    subst h
    cases m <;> rfl
  | n + 1, 0, .own es, h, _ => by omega
  | n + 1, m + 1, .own es, h, hok => by
    rw [LTok] at hok
    rw [hgt, hgt]
    have key : ∀ (l : Kids) (a : Int), (∀ x ∈ l, x ∈ es) → l.foldl (fun h x => max h (1 + hgt objs m x.2)) a = l.foldl (fun h x => max h (1 + hgt objs n x.2)) a := by
      intro l
      induction l with
      | nil => intro a _; rfl
      | cons y r ih =>
        intro a hl
        rw [List.foldl_cons, List.foldl_cons, hgt_stable n m y.2 (by omega) (hok.2.2 y (hl y (by simp))).2]
        exact ih _ (fun x hx => hl x (by simp [hx]))
    exact key es 0 (fun x hx => hx)

section
variable {s i p : Nat} {B : WB} {objs : List Ob}

theorem height_all {tg : Tags} {w : World} {g : WG} {lim : Nat} {t : LT} (h : WInv tg w s i p B objs g lim) (hF : Flat objs t g.ft) : ∀ (n : Nat) (c : LT) (q : List ByteArray), n ≤ 5 → LTok objs n c → t.at objs q = some c → Good q → q.length + n ≤ 5 → ∀ (nm : ByteArray) (W : World), Below w.heap.size w W →
    Calls Tryz.prog 84 #[.pointer (some ⟨B.bt, 0, none⟩), .agg (pathA q), .agg #[.string nm, .int .i64 c.kind, .int .i64 c.id]] W fun e w' => e = .returned (.int .i64 (hgt objs n c)) ∧ Below W.heap.size W w' := by
  have hcell : ∀ (W : World), Below w.heap.size w W → B.bt < W.heap.size ∧ W.cell? ⟨B.bt, 0, none⟩ = some (.pointer (some ⟨p, 0, none⟩)) ∧ W.cell? ⟨B.bt, 8, none⟩ = some (.map (some B.oD)) := by
    intro W hb
    have ht := (h.below hb).wp.tree.ht
    exact ⟨(Array.getElem?_eq_some_iff.1 ht).1, by simp [World.cell?, ht, ptr], by simp [World.cell?, ht]⟩
  have hst : ∀ (c : LT) (q : List ByteArray) (nm : ByteArray) (W : World), Below w.heap.size w W → kindOf objs c.id ≠ 0 →
      Calls Tryz.prog 84 #[.pointer (some ⟨B.bt, 0, none⟩), .agg (pathA q), .agg #[.string nm, .int .i64 c.kind, .int .i64 c.id]] W fun e w' => e = .returned (.int .i64 (highOf objs c.id)) ∧ Below W.heap.size W w' := by
    intro c q nm W hb hk
    obtain ⟨h1, h2, h3⟩ := hcell W hb
    have hid : c.id ≠ 0 := fun e => by have := (kind_in hk).1; omega
    exact height_stored B.bt p _ _ _ _ _ nm c.kind c.id _ W h1 h2 hid (fun W' hb' => pool_high ((h.below hb).below hb').st hk)
  have hhs := h.st.highs
  obtain ⟨vD, hD⟩ := h.wp.ownD
  have hlk : ∀ (q : List ByteArray), Good q → ∀ (W : World), Below w.heap.size w W → (Instr.lookup 128 (.map (some B.oD)) (.agg (pathA q)) false).run Tryz.prog W = .ok (((g.ft.od q).map fun _ => vD q).getD (.slice none 0 0)) W := fun q hq W hb => hD.look hq hb
  have hS := h.st.sound
  have hown : ∀ (n : Nat) (es : Kids) (q : List ByteArray) (nm : ByteArray) (W : World), Below w.heap.size w W → n ≤ 5 → t.at objs q = some (.own es) → Good q → RisingK es → es.length ≤ 16 → (∀ x ∈ es, q.length ≤ 4) →
      (∀ x ∈ es, ∀ W', Below w.heap.size w W' → Calls Tryz.prog 84 #[.pointer (some ⟨B.bt, 0, none⟩), .agg (pathA (q ++ [x.1])), .agg #[.string x.1, .int .i64 x.2.kind, .int .i64 x.2.id]] W' fun e w' => e = .returned (.int .i64 (hgt objs n x.2)) ∧ Below W'.heap.size W' w') →
      Calls Tryz.prog 84 #[.pointer (some ⟨B.bt, 0, none⟩), .agg (pathA q), .agg #[.string nm, .int .i64 2, .int .i64 0]] W fun e w' => e = .returned (.int .i64 (accH objs n es)) ∧ Below W.heap.size W w' := by
    intro n es q nm W hb hn ha hq hr h16 h4 hrec
    obtain ⟨h1, h2, h3⟩ := hcell W hb
    have ho : g.ft.od q = some (es.map entOf) := by rw [hF.od, ha]; rfl
    have hrow := hD.row q _ ho
    have hl := fun W' (hb' : Below W.heap.size W W') => hlk q hq W' (below_via hb hb')
    rw [ho, Option.map_some, Option.getD_some] at hl
    have hmain : ∀ gb c, vD q = .slice (some ⟨gb, 0, none⟩) es.length c → Calls Tryz.prog 84 #[.pointer (some ⟨B.bt, 0, none⟩), .agg (pathA q), .agg #[.string nm, .int .i64 2, .int .i64 0]] W fun e w' => e = .returned (.int .i64 (accH objs n es)) ∧ Below W.heap.size W w' := by
      intro gb c hv
      rw [hv] at hl hrow
      have hgl : gb < w.heap.size := ownsRow_lt hrow.1 rfl
      have hcs := hrow.1
      rw [List.length_map] at hcs
      refine height_own B.bt B.oD gb c n objs _ _ _ _ _ nm q 2 es W h1 (Nat.lt_of_lt_of_le hgl hb.size) h3 hl h16 hn (fun j u hu => ?_) hhs (fun x W' hx => ?_) (fun x hx W' hb' => hrec x hx W' (below_via hb hb'))
      · have := owns_cells hcs j u hu
        rw [Nat.zero_add] at this
        exact (hb.cell (p := ⟨gb, j, none⟩) hgl).trans this
      · obtain ⟨y, hy, rfl⟩ := List.mem_map.1 hx
        exact child_any q hq (h4 y hy) y.1 W'
    rcases hrow.1.2 with ⟨hv, hx⟩ | ⟨g', c', cur, hv, _⟩
    · have he : es = [] := by
        have h0 : (es.map entOf).length = 0 := by first | exact hx | (have := congrArg List.length hx; rw [flat_len] at this; simpa using this)
        simpa using h0
      subst he
      rw [hv] at hl
      exact height_none B.bt B.oD _ _ _ _ _ nm 2 W h1 h3 hl
    · rw [List.length_map] at hv
      exact hmain _ _ hv
  intro n
  induction n with
  | zero =>
    intro c q hn hc ha hq hlen nm W hb
    obtain ⟨h1, h2, h3⟩ := hcell W hb
    cases c with
    | file id => exact hst (.file id) q nm W hb (by rw [LTok] at hc; show kindOf objs id ≠ 0; rw [hc]; decide)
    | dir id => exact hst (.dir id) q nm W hb (by rw [LTok] at hc; show kindOf objs id ≠ 0; rw [hc.1]; decide)
    | held f => exact height_none B.bt B.oD _ _ _ _ _ nm 1 W h1 h3 (fun W' hb' => by
        have := hlk q hq W' (below_via hb hb')
        rwa [hF.od, ha] at this)
    | own es =>
      rw [LTok] at hc
      subst hc
      exact hown 0 [] q nm W hb (by omega) ha hq List.Pairwise.nil (by simp) (by simp) (by simp)
  | succ n ih =>
    intro c q hn hc ha hq hlen nm W hb
    obtain ⟨h1, h2, h3⟩ := hcell W hb
    cases c with
    | file id => exact hst (.file id) q nm W hb (by rw [LTok] at hc; show kindOf objs id ≠ 0; rw [hc]; decide)
    | dir id => exact hst (.dir id) q nm W hb (by rw [LTok] at hc; show kindOf objs id ≠ 0; rw [hc.1]; decide)
    | held f => exact height_none B.bt B.oD _ _ _ _ _ nm 1 W h1 h3 (fun W' hb' => by
        have := hlk q hq W' (below_via hb hb')
        rwa [hF.od, ha] at this)
    | own es =>
      rw [LTok] at hc
      refine hown n es q nm W hb (by omega) ha hq hc.1 hc.2.1 (fun _ _ => by omega) (fun x hx W' hb' => ?_)
      have hg : Good (q ++ [x.1]) := ⟨hq.val.append (fun y hy => by simp at hy; rw [hy]; exact (hc.2.2 x hx).1), by simp; omega⟩
      exact ih x.2 (q ++ [x.1]) (by omega) (hc.2.2 x hx).2 (at_own ha hc.1 hx) hg (by simp; omega) x.1 W' hb'
end
end Go.Proofs.YtajopoddmfdejaaGreat
