/-
  What is proved here: canopykeep's allowed answers the objects on the way to a path, and how many of them must be fetched.
-/
import Derived.Test.YtajopoddmfdejaaGreatLazyM34
import Derived.Test.YtajopoddmfdejaaGreatLazyM32
namespace Go.Proofs.YtajopoddmfdejaaGreat
open Go.RowKit Go.Sort Go.Shelf
set_option linter.unusedVariables false

def strSz : Value → Nat
  | .string s => s.size
  | _ => 0

theorem letter_one {n : ByteArray} (h : n ∈ letters) : ∃ x : UInt8, n = ⟨#[x]⟩ ∧ x ≠ 47 := by
  simp only [letters, List.mem_cons, List.not_mem_nil, or_false] at h
  rcases h with rfl | rfl | rfl | rfl
  · exact ⟨97, rfl, by decide⟩
  · exact ⟨98, rfl, by decide⟩
  · exact ⟨99, rfl, by decide⟩
  · exact ⟨100, rfl, by decide⟩

/-- A path of several names: its first one, the slash, the rest. -/
theorem join_parts {n : ByteArray} (hn : n ∈ letters) {r : List ByteArray} (hr : r ≠ []) (hl : ∀ x ∈ r, x ∈ letters) : ∃ (h0 : 0 < (joinB (n :: r)).size) (h1 : 1 < (joinB (n :: r)).size), 2 < (joinB (n :: r)).size ∧ (joinB (n :: r))[0] ≠ 47 ∧ (joinB (n :: r))[1] = 47 ∧ (joinB (n :: r)).extract 0 1 = n ∧ (joinB (n :: r)).extract 2 (joinB (n :: r)).size = joinB r ∧ (joinB r).size < (joinB (n :: r)).size := by
  obtain ⟨x, rfl, hx⟩ := letter_one hn
  have hc := joinB_cons (⟨#[x]⟩ : ByteArray) hr
  have hne := join_ne hr hl
  rw [toL_eq] at hne
  generalize joinB (⟨#[x]⟩ :: r) = P at hc
  generalize joinB r = R at hc hne
  have hc' : toL P = x :: 47 :: toL R := hc
  have hlen : P.size = (toL R).length + 2 := by rw [← toL_len, hc']; simp
  have hR : (toL R).length = R.size := toL_len R
  have hpos : 0 < (toL R).length := by cases h : toL R with | nil => exact absurd h hne | cons => simp
  have g0 : ∀ (h : 0 < P.size), P[0] = x := fun h => by
    have : (toL P)[0]? = some x := by rw [hc']; rfl
    have h2 : P.data.toList[0]? = some P[0] := by rw [List.getElem?_eq_getElem (by simpa using h)]; rfl
    have h3 : P.data.toList[0]? = some x := this
    rw [h2] at h3; exact Option.some.inj h3
  have g1 : ∀ (h : 1 < P.size), P[1] = 47 := fun h => by
    have : (toL P)[1]? = some 47 := by rw [hc']; rfl
    have h2 : P.data.toList[1]? = some P[1] := by rw [List.getElem?_eq_getElem (by simpa using h)]; rfl
    have h3 : P.data.toList[1]? = some 47 := this
    rw [h2] at h3; exact Option.some.inj h3
  refine ⟨by omega, by omega, by omega, by rw [g0]; exact hx, g1 _, toL_inj (by rw [extract_toL, hc']; rfl), toL_inj (by rw [extract_toL, List.take_of_length_le (by rw [toL_len]; exact Nat.le_refl _), hc']; rfl), by omega⟩
theorem one_parts {n : ByteArray} (hn : n ∈ letters) : ∃ (h0 : 0 < n.size), n.size = 1 ∧ n[0] ≠ 47 := by
  obtain ⟨x, rfl, hx⟩ := letter_one hn
  exact ⟨Nat.zero_lt_one, rfl, hx⟩
theorem ne47 {x : UInt8} (h : x ≠ 47) : ((x.toNat : Int) == 47) = false := beq_eq_false_iff_ne.2 fun e => h (UInt8.toNat_inj.1 (by have : (47 : UInt8).toNat = 47 := rfl; omega))

theorem entsOf_at {objs : List Ob} {j : Nat} (hj : j < objs.length) : entsOf objs ((j : Int) + 1) = objs[j].ents := by
  unfold entsOf
  rw [show ((j : Int) + 1 - 1).toNat = j by omega, List.getElem?_eq_getElem hj]; rfl

theorem row_below {B : Nat} {W W1 : World} {e : TypeId} {size n : Nat} {v : Value} {xs : List Value} (h : W.ownsRow B e size v n xs) (hb : Below W.heap.size W W1) : W1.ownsRow B e size v n xs := ownsRow_keep h (fun g hg => hb.block g (ownsRow_lt h hg))
theorem toList_ne {a b : ByteArray} (h : a ≠ b) : (a.toList == b.toList) = false := beq_eq_false_iff_ne.2 fun e => h (bytes_inj (by rw [ByteArray.toList_eq, ByteArray.toList_eq] at e; exact e))
theorem chain_pos (objs : List Ob) : ∀ (id : Int) (l : List ByteArray), 1 ≤ (chainR objs id l).1.length
  | id, [] => by rw [chain_nil]; simp
  | id, n :: r => by
    by_cases h : kindOf objs id = 2
    · by_cases h0 : nextOf (entsOf objs id) n = 0
      · rw [chain_none h h0]; simp
      · rw [chain_next h h0]; simp
    · rw [chain_file h]; simp
theorem grown_own8 {B : Nat} {wo W W1 : World} {e : TypeId} {size n : Nat} {v : Value} {xs : List Value} (hb : Below B wo W) (hB : B ≤ W.heap.size) (hown : W.ownsRow B e size v n xs) (hg : W.grownBy W1 v.ownBlock) : Below B wo W1 := hb.grown hg hB (fun k h => (hown.lt k h).1)
theorem idOne {x : Int} : ∀ u ∈ [Value.int .i64 x], u.oneCell' = true := by intro u hu; simp at hu; subst hu; rfl

/-- What the walk holds: what has been found, and what is still to be looked at. -/
structure ChainSt (objs : List Ob) (id0 : Int) (l0 : List ByteArray) (B : Nat) (wr : World) (a : Option Addr) (n c : Nat) (id : Int) (l : List ByteArray) : Prop where
  ex : ∃ pre : List Int, wr.ownsRow B 26 1 (.slice a n c) n (encN (pre ++ [id])) ∧ n = pre.length + 1 ∧ chainR objs id0 l0 = (pre ++ (chainR objs id l).1, pre.length + (chainR objs id l).2)
  all : ∀ x ∈ l, x ∈ letters

set_option maxRecDepth 100000 in
set_option maxHeartbeats 4000000 in
theorem allowed_any {ft : PTail} {F : Nat → Prop} {w : World} {s p : Nat} {objs : List Ob} (h : InvP ft F w s p objs) (hEnt : ∀ j (hj : j < objs.length), objs[j].kind = 2 → objs[j].ents.length ≤ 16) (id0 : Int) (l0 : List ByteArray) (hl0 : ∀ x ∈ l0, x ∈ letters) (hlen0 : l0.length ≤ 3) :
    Calls Tryz.prog 30 #[.pointer (some ⟨s, 0, none⟩), .int .i64 id0, .string (joinB l0)] w fun e w' => ∃ v, e = .returned (.tuple #[v, .int .i64 ((chainR objs id0 l0).2 : Int)]) ∧ w'.ownsRow w.heap.size 26 1 v (chainR objs id0 l0).1.length (encN (chainR objs id0 l0).1) ∧ Below w.heap.size w w' := by
  obtain ⟨i0, hi, hz0, hz1, hz2⟩ := info_parts infoID
  have HD : Hid (∀ (W : World), Below w.heap.size w W → ∀ id, Calls Tryz.prog 33 #[.pointer (some ⟨s, 0, none⟩), .int .i64 id] W fun e w' => DirGot W w' objs id e ∧ Below W.heap.size W w') := fun W hb id => storeGetDir (h.below hb (fun k _ hk => hk)).inv id
  have HE16 : Hid _ := hEnt
  have hcl := (chain_len objs l0 id0)
  have HLEN : Hid ((chainR objs id0 l0).1.length ≤ 4) := by show _ ≤ _; omega
  obtain ⟨M, hM⟩ : ∃ M, M = chainR objs id0 l0 := ⟨_, rfl⟩
  have HM : Hid _ := hM
  rw [← hM]
  have hst0 : ChainSt objs id0 l0 w.heap.size (w.alloc (.cells #[.int .i64 id0] 26)) (some ⟨w.heap.size, 0, none⟩) 1 1 id0 l0 := ⟨⟨[], ⟨by simp [encN], .inr ⟨w.heap.size, 1, _, rfl, Nat.le_refl _, heap_alloc_new w _, Nat.le_refl _, by decide, rfl, rfl⟩⟩, rfl, by simp⟩, hl0⟩
  have HS0 : Hid _ := hst0
  clear h hEnt hl0 hlen0 hst0 hcl hM
  go_enter Tryz.func30, Tryz.ntmps30
  go_wp2
  go_loopw [1, 2, 8] (fun iv pv ov wr => ∃ (id : Int) (l : List ByteArray) (a : Option Addr) (n c : Nat), iv = .int .i64 id ∧ pv = .string (joinB l) ∧ ov = .slice a n c ∧ n ≤ 4 ∧ Below w.heap.size w wr ∧ Hid (ChainSt objs id0 l0 w.heap.size wr a n c id l)) (fun _ pv _ _ => strSz pv)
  case atStart => exact ⟨id0, l0, _, 1, 1, rfl, rfl, rfl, by omega, (Below.refl _ _).alloc (Nat.le_refl _) _, HS0⟩
  case round =>
    obtain ⟨id, l, a, n, c, rfl, rfl, rfl, hn4, hb, HC⟩ := hrel
    rename World => wr
    cases l with
    | nil =>
      rw [joinB_nil] at *
      go_wp2
      go_ret2
      obtain ⟨⟨pre, h1, h2, h3⟩, _⟩ := HC.out
      rw [chain_nil] at h3
      have e1 : M.1 = pre ++ [id] := by rw [HM.out, h3]
      have e2 : M.2 = n := by rw [HM.out, h3, h2]
      have e3 : M.1.length = n := by rw [e1, h2]; simp
      exact ⟨_, by rw [e2]; rfl, by rw [e3, e1]; exact h1, hb⟩
    | cons x r =>
      have hx := HC.out.all x (List.mem_cons_self ..)
      have hr := fun y hy => HC.out.all y (List.mem_cons_of_mem _ hy)
      have hne : ((joinB (x :: r)).toList == []) = false := beq_eq_false_iff_ne.2 (join_ne (by simp) HC.out.all)
      cases r with
      | nil =>
        obtain ⟨h0, hsz, h47⟩ := one_parts hx
        have hq := ne47 h47
        rw [joinB_one] at *
        clear h47
        go_wp2
        go_loopw [9, 10, 11] (fun nv rv i wq => ∃ k : Nat, k ≤ 1 ∧ nv = .string x ∧ rv = .string ⟨#[]⟩ ∧ i = .int .i64 (k : Int) ∧ Below wr.heap.size wr wq) (fun _ _ i _ => 1 - (intOf i).toNat)
        case atStart => exact ⟨0, by omega, rfl, rfl, rfl, Below.refl _ _⟩
        case round =>
          obtain ⟨k, hk, rfl, rfl, rfl, hbq⟩ := hrel
          rename World => wq
          by_cases hk0 : k = 0
          · subst hk0
            go_wp2
            exact ⟨⟨1, by omega, rfl, rfl, by simp, by first | exact hbq | exact below_drew hbq⟩, by simp [intOf]⟩
          · have hk1 : k = 1 := by omega
            subst hk1
            have hsz' : decide ((1 : Int) < (x.size : Int)) = false := by rw [hsz]; rfl
            have hbw : Below w.heap.size w wq := hb.trans (hbq.mono hb.size)
            have HNM : Hid (x = x) := by show _ = _; first | rfl | exact HX.out.1
            obtain ⟨⟨pre, hrow0, hn, hM0⟩, _⟩ := HC.out
            have hn1 : 1 ≤ n := by omega
            have HR0 : Hid _ := hrow0
            have HN0 : Hid _ := And.intro hn hM0
            clear hrow0 hn hM0
            go_wp2_with fail
            refine Calls.mono (HD.out _ hbw id) ?_
            rintro e w5 ⟨hG, hb5⟩
            have hb05 : Below wr.heap.size wr w5 := hbq.trans (hb5.mono hbq.size)
            have hbw5 : Below w.heap.size w w5 := hbw.trans (hb5.mono hbw.size)
            have HR5 : Hid _ := row_below HR0.out hb05
            have HKN : Hid _ := chain_pos objs
            rcases hG with ⟨hk, rfl⟩ | ⟨j, hj, rfl, hk2, g, rfl, hrow⟩
            · have hch := chain_file (objs := objs) (id := id) (n := x) (r := []) hk
              have HCH : Hid _ := hch
              clear hch hk
              go_wp2
              go_ret2
              have h3 := HN0.out.2
              rw [HCH.out] at h3
              have h2 := HN0.out.1
              have e1 : M.1 = pre ++ [id] := by rw [HM.out, h3]
              have e2 : ((M.2 : Nat) : Int) = (n : Int) - 1 := by rw [HM.out, h3, h2]; simp
              have e3 : M.1.length = n := by rw [e1, h2]; simp
              exact ⟨_, by rw [e2]; rfl, by rw [e3, e1]; exact HR5.out, hbw5⟩
            · have h16 := HE16.out j hj hk2
              have hents := entsOf_at hj
              have hkd : kindOf objs ((j : Int) + 1) = 2 := by rw [kindOf_in hj]; exact hk2
              have HKD : Hid _ := hkd
              have hgl : g < w5.heap.size := ownsRow_lt hrow rfl
              have HCE : Hid _ := owns_cells hrow
              obtain ⟨es, hes⟩ : ∃ es, es = objs[j].ents := ⟨_, rfl⟩
              rw [← hes] at h16 hents HCE ⊢
              have HES : Hid _ := hents
              obtain ⟨m, hm⟩ : ∃ m, m = es.length := ⟨_, rfl⟩
              have HMM : Hid _ := hm
              rw [← hm] at h16 ⊢
              clear hrow hents hes hm hkd hk2
              go_wp2
              go_loopw [14, 15] (fun nv i w6 => ∃ k : Nat, k ≤ m ∧ nv = .int .i64 (nextOf (es.take k) x) ∧ i = .int .i64 (k : Int) ∧ Below w5.heap.size w5 w6) (fun _ i _ => m - (intOf i).toNat)
              case atStart => exact ⟨0, Nat.zero_le _, rfl, rfl, Below.refl _ _⟩
              case round =>
                obtain ⟨k, hk, rfl, rfl, hb6⟩ := hrel
                rename World => w6
                by_cases hkm : k < m
                · have hke : k < es.length := by rw [← HMM.out]; exact hkm
                  obtain ⟨c0, c1, c2⟩ := row_cells HCE.out hke
                  rw [Nat.zero_add] at c0 c1 c2
                  have d0 := (hb6.cell (p := ⟨g, k * 3, none⟩) hgl).trans c0
                  have d2 := (hb6.cell (p := ⟨g, k * 3 + 2, none⟩) hgl).trans c2
                  have hgl6 : g < w6.heap.size := Nat.lt_of_lt_of_le hgl hb6.size
                  have hnx := nextOf_take hke x
                  have HNX : Hid _ := hnx
                  clear c0 c1 c2 hnx
                  by_cases hex : es[k].1 = x
                  · have hcmp : (es[k].1.toList == (x).toList) = true := by first | (rw [hex]; simp; done) | (rw [HNM.out, hex]; simp)
                    have HNE : Hid (nextOf (es.take (k + 1)) x = es[k].2.2) := by show _ = _; rw [HNX.out, if_pos hex]
                    clear hex
                    go_wp2
                    exact ⟨⟨k + 1, by omega, by rw [HNE.out], by simp, by first | exact hb6 | exact below_drew hb6⟩, by simp [intOf]; omega⟩
                  · have hcmp : (es[k].1.toList == (x).toList) = false := by first | exact toList_ne hex | (rw [HNM.out]; exact toList_ne hex)
                    have HNE : Hid (nextOf (es.take (k + 1)) x = nextOf (es.take k) x) := by show _ = _; rw [HNX.out, if_neg hex]
                    clear hex
                    go_wp2
                    exact ⟨⟨k + 1, by omega, by rw [HNE.out], by simp, by first | exact hb6 | exact below_drew hb6⟩, by simp [intOf]; omega⟩
                · have hke : k = m := by omega
                  obtain ⟨nx, hnx⟩ : ∃ nx, nx = nextOf (es.take k) x := ⟨_, rfl⟩
                  have HNX : Hid (nextOf (entsOf objs ((j : Int) + 1)) x = nx) := by show _ = _; rw [HES.out, hnx, hke, HMM.out, List.take_length]
                  rw [← hnx]
                  have hb06 : Below wr.heap.size wr w6 := hb05.trans (hb6.mono hb05.size)
                  have hbw6 : Below w.heap.size w w6 := hbw5.trans (hb6.mono hbw5.size)
                  have HR6 : Hid _ := row_below HR0.out hb06
                  clear hnx hke
                  by_cases hnz : nx = 0
                  · have hch := chain_none (objs := objs) (n := x) (r := []) HKD.out (by rw [HNX.out, hnz])
                    have HCH : Hid _ := hch
                    subst hnz
                    clear hch
                    go_wp2
                    go_ret2
                    have h3 := HN0.out.2
                    rw [HCH.out] at h3
                    have h2 := HN0.out.1
                    have e1 : M.1 = pre ++ [(j : Int) + 1] := by rw [HM.out, h3]
                    have e2 : M.2 = n := by rw [HM.out, h3, h2]
                    have e3 : M.1.length = n := by rw [e1, h2]; simp
                    exact ⟨_, by rw [e2]; rfl, by rw [e3, e1]; exact HR6.out, hbw6⟩
                  · have hch := chain_next (objs := objs) (n := x) (r := []) HKD.out (by rw [HNX.out]; exact hnz)
                    rw [HNX.out] at hch
                    have hnz' : (nx == 0) = false := by simpa using hnz
                    have hM1 : M = (pre ++ ((j : Int) + 1) :: (chainR objs nx []).1, pre.length + ((chainR objs nx []).2 + 1)) := by rw [HM.out, HN0.out.2, hch]
                    have hn3 : n + 1 ≤ 4 := by
                      have h4 := HLEN.out
                      rw [← HM.out, hM1] at h4
                      have := HKN.out nx []
                      have h2 := HN0.out.1
                      simp only [List.length_append, List.length_cons] at h4
                      omega
                    have HST : Hid (∀ a' c' w', w'.ownsRow w.heap.size 26 1 (.slice a' (n + 1) c') (n + 1) (encN (pre ++ [(j : Int) + 1]) ++ [.int .i64 nx]) → ChainSt objs id0 l0 w.heap.size w' a' (n + 1) c' nx []) := by
                      intro a' c' w' hr'
                      refine ⟨⟨pre ++ [(j : Int) + 1], ?_, by simp [HN0.out.1], ?_⟩, hr⟩
                      · simpa [encN] using hr'
                      · rw [← HM.out, hM1]
                        simp only [List.append_assoc, List.singleton_append, List.length_append, List.length_singleton]
                        rw [Nat.add_assoc, Nat.add_comm 1]
                    clear hch hM1
                    go_wp2_with (at_builtin; (refine wpList_append_own _ rfl (.tmp 73) (.tmp 75) 64 rfl w.heap.size 26 i0 _ 1 8 Tryz.underlying64 hi hz0 hz1 hz2 rfl (by decide) _ _ _ rfl (World.ownsRow.alloc HR6.out _) ⟨w6.heap.size, 0, none⟩ 1 1 [.int .i64 nx] rfl rfl (cells1 _ _ _) idOne (by unfold maxLen; omega) (by omega) (by have := hbw6.size; simp; omega) ?_))
                    intro v' w7 hown' hgrow _
                    have hb7 := grown_own8 (hbw6.alloc hbw6.size _) (by have := hbw6.size; simp; omega) (World.ownsRow.alloc HR6.out _) hgrow
                    obtain ⟨g7, c7, rfl⟩ := slice_of_owns hown' (by omega)
                    have HO7 : Hid _ := HST.out _ _ _ hown'
                    clear hown' hgrow
                    go_wp2
                    exact ⟨⟨nx, [], _, n + 1, c7, rfl, (by rw [joinB_nil]), rfl, hn3, hb7, HO7⟩, by show (⟨#[]⟩ : ByteArray).size < x.size; rw [hsz]; decide⟩
      | cons y t =>
        obtain ⟨h0, h1, h2, h47a, h47b, ex1, ex2, hlt⟩ := join_parts hx (r := y :: t) (by simp) hr
        have hqa := ne47 h47a
        have hqb : (((joinB (x :: y :: t))[1].toNat : Int) == 47) = true := by rw [h47b]; rfl
        have HX : Hid _ := And.intro ex1 (And.intro ex2 hlt)
        clear h47a h47b ex1 ex2 hlt
        go_wp2
        go_loopw [9, 10, 11] (fun nv rv i wq => ∃ k : Nat, k ≤ 1 ∧ nv = .string (joinB (x :: y :: t)) ∧ rv = .string ⟨#[]⟩ ∧ i = .int .i64 (k : Int) ∧ Below wr.heap.size wr wq) (fun _ _ i _ => 1 - (intOf i).toNat)
        case atStart => exact ⟨0, by omega, rfl, rfl, rfl, Below.refl _ _⟩
        case round =>
          obtain ⟨k, hk, rfl, rfl, rfl, hbq⟩ := hrel
          rename World => wq
          by_cases hk0 : k = 0
          · subst hk0
            go_wp2
            exact ⟨⟨1, by omega, rfl, rfl, by simp, by first | exact hbq | exact below_drew hbq⟩, by simp [intOf]⟩
          · have hk1 : k = 1 := by omega
            subst hk1
            have hbw : Below w.heap.size w wq := hb.trans (hbq.mono hb.size)
            have HNM : Hid ((joinB (x :: y :: t)).extract 0 1 = x) := by show _ = _; first | rfl | exact HX.out.1
            obtain ⟨⟨pre, hrow0, hn, hM0⟩, _⟩ := HC.out
            have hn1 : 1 ≤ n := by omega
            have HR0 : Hid _ := hrow0
            have HN0 : Hid _ := And.intro hn hM0
            clear hrow0 hn hM0
            go_wp2_with fail
            refine Calls.mono (HD.out _ hbw id) ?_
            rintro e w5 ⟨hG, hb5⟩
            have hb05 : Below wr.heap.size wr w5 := hbq.trans (hb5.mono hbq.size)
            have hbw5 : Below w.heap.size w w5 := hbw.trans (hb5.mono hbw.size)
            have HR5 : Hid _ := row_below HR0.out hb05
            have HKN : Hid _ := chain_pos objs
            rcases hG with ⟨hk, rfl⟩ | ⟨j, hj, rfl, hk2, g, rfl, hrow⟩
            · have hch := chain_file (objs := objs) (id := id) (n := x) (r := (y :: t)) hk
              have HCH : Hid _ := hch
              clear hch hk
              go_wp2
              go_ret2
              have h3 := HN0.out.2
              rw [HCH.out] at h3
              have h2 := HN0.out.1
              have e1 : M.1 = pre ++ [id] := by rw [HM.out, h3]
              have e2 : ((M.2 : Nat) : Int) = (n : Int) - 1 := by rw [HM.out, h3, h2]; simp
              have e3 : M.1.length = n := by rw [e1, h2]; simp
              exact ⟨_, by rw [e2]; rfl, by rw [e3, e1]; exact HR5.out, hbw5⟩
            · have h16 := HE16.out j hj hk2
              have hents := entsOf_at hj
              have hkd : kindOf objs ((j : Int) + 1) = 2 := by rw [kindOf_in hj]; exact hk2
              have HKD : Hid _ := hkd
              have hgl : g < w5.heap.size := ownsRow_lt hrow rfl
              have HCE : Hid _ := owns_cells hrow
              obtain ⟨es, hes⟩ : ∃ es, es = objs[j].ents := ⟨_, rfl⟩
              rw [← hes] at h16 hents HCE ⊢
              have HES : Hid _ := hents
              obtain ⟨m, hm⟩ : ∃ m, m = es.length := ⟨_, rfl⟩
              have HMM : Hid _ := hm
              rw [← hm] at h16 ⊢
              clear hrow hents hes hm hkd hk2
              go_wp2
              go_loopw [14, 15] (fun nv i w6 => ∃ k : Nat, k ≤ m ∧ nv = .int .i64 (nextOf (es.take k) x) ∧ i = .int .i64 (k : Int) ∧ Below w5.heap.size w5 w6) (fun _ i _ => m - (intOf i).toNat)
              case atStart => exact ⟨0, Nat.zero_le _, rfl, rfl, Below.refl _ _⟩
              case round =>
                obtain ⟨k, hk, rfl, rfl, hb6⟩ := hrel
                rename World => w6
                by_cases hkm : k < m
                · have hke : k < es.length := by rw [← HMM.out]; exact hkm
                  obtain ⟨c0, c1, c2⟩ := row_cells HCE.out hke
                  rw [Nat.zero_add] at c0 c1 c2
                  have d0 := (hb6.cell (p := ⟨g, k * 3, none⟩) hgl).trans c0
                  have d2 := (hb6.cell (p := ⟨g, k * 3 + 2, none⟩) hgl).trans c2
                  have hgl6 : g < w6.heap.size := Nat.lt_of_lt_of_le hgl hb6.size
                  have hnx := nextOf_take hke x
                  have HNX : Hid _ := hnx
                  clear c0 c1 c2 hnx
                  by_cases hex : es[k].1 = x
                  · have hcmp : (es[k].1.toList == ((joinB (x :: y :: t)).extract 0 1).toList) = true := by first | (rw [hex]; simp; done) | (rw [HNM.out, hex]; simp)
                    have HNE : Hid (nextOf (es.take (k + 1)) x = es[k].2.2) := by show _ = _; rw [HNX.out, if_pos hex]
                    clear hex
                    go_wp2
                    exact ⟨⟨k + 1, by omega, by rw [HNE.out], by simp, by first | exact hb6 | exact below_drew hb6⟩, by simp [intOf]; omega⟩
                  · have hcmp : (es[k].1.toList == ((joinB (x :: y :: t)).extract 0 1).toList) = false := by first | exact toList_ne hex | (rw [HNM.out]; exact toList_ne hex)
                    have HNE : Hid (nextOf (es.take (k + 1)) x = nextOf (es.take k) x) := by show _ = _; rw [HNX.out, if_neg hex]
                    clear hex
                    go_wp2
                    exact ⟨⟨k + 1, by omega, by rw [HNE.out], by simp, by first | exact hb6 | exact below_drew hb6⟩, by simp [intOf]; omega⟩
                · have hke : k = m := by omega
                  obtain ⟨nx, hnx⟩ : ∃ nx, nx = nextOf (es.take k) x := ⟨_, rfl⟩
                  have HNX : Hid (nextOf (entsOf objs ((j : Int) + 1)) x = nx) := by show _ = _; rw [HES.out, hnx, hke, HMM.out, List.take_length]
                  rw [← hnx]
                  have hb06 : Below wr.heap.size wr w6 := hb05.trans (hb6.mono hb05.size)
                  have hbw6 : Below w.heap.size w w6 := hbw5.trans (hb6.mono hbw5.size)
                  have HR6 : Hid _ := row_below HR0.out hb06
                  clear hnx hke
                  by_cases hnz : nx = 0
                  · have hch := chain_none (objs := objs) (n := x) (r := (y :: t)) HKD.out (by rw [HNX.out, hnz])
                    have HCH : Hid _ := hch
                    subst hnz
                    clear hch
                    go_wp2
                    go_ret2
                    have h3 := HN0.out.2
                    rw [HCH.out] at h3
                    have h2 := HN0.out.1
                    have e1 : M.1 = pre ++ [(j : Int) + 1] := by rw [HM.out, h3]
                    have e2 : M.2 = n := by rw [HM.out, h3, h2]
                    have e3 : M.1.length = n := by rw [e1, h2]; simp
                    exact ⟨_, by rw [e2]; rfl, by rw [e3, e1]; exact HR6.out, hbw6⟩
                  · have hch := chain_next (objs := objs) (n := x) (r := (y :: t)) HKD.out (by rw [HNX.out]; exact hnz)
                    rw [HNX.out] at hch
                    have hnz' : (nx == 0) = false := by simpa using hnz
                    have hM1 : M = (pre ++ ((j : Int) + 1) :: (chainR objs nx (y :: t)).1, pre.length + ((chainR objs nx (y :: t)).2 + 1)) := by rw [HM.out, HN0.out.2, hch]
                    have hn3 : n + 1 ≤ 4 := by
                      have h4 := HLEN.out
                      rw [← HM.out, hM1] at h4
                      have := HKN.out nx (y :: t)
                      have h2 := HN0.out.1
                      simp only [List.length_append, List.length_cons] at h4
                      omega
                    have HST : Hid (∀ a' c' w', w'.ownsRow w.heap.size 26 1 (.slice a' (n + 1) c') (n + 1) (encN (pre ++ [(j : Int) + 1]) ++ [.int .i64 nx]) → ChainSt objs id0 l0 w.heap.size w' a' (n + 1) c' nx (y :: t)) := by
                      intro a' c' w' hr'
                      refine ⟨⟨pre ++ [(j : Int) + 1], ?_, by simp [HN0.out.1], ?_⟩, hr⟩
                      · simpa [encN] using hr'
                      · rw [← HM.out, hM1]
                        simp only [List.append_assoc, List.singleton_append, List.length_append, List.length_singleton]
                        rw [Nat.add_assoc, Nat.add_comm 1]
                    clear hch hM1
                    go_wp2_with (at_builtin; (refine wpList_append_own _ rfl (.tmp 73) (.tmp 75) 64 rfl w.heap.size 26 i0 _ 1 8 Tryz.underlying64 hi hz0 hz1 hz2 rfl (by decide) _ _ _ rfl (World.ownsRow.alloc HR6.out _) ⟨w6.heap.size, 0, none⟩ 1 1 [.int .i64 nx] rfl rfl (cells1 _ _ _) idOne (by unfold maxLen; omega) (by omega) (by have := hbw6.size; simp; omega) ?_))
                    intro v' w7 hown' hgrow _
                    have hb7 := grown_own8 (hbw6.alloc hbw6.size _) (by have := hbw6.size; simp; omega) (World.ownsRow.alloc HR6.out _) hgrow
                    obtain ⟨g7, c7, rfl⟩ := slice_of_owns hown' (by omega)
                    have HO7 : Hid _ := HST.out _ _ _ hown'
                    clear hown' hgrow
                    go_wp2
                    exact ⟨⟨nx, (y :: t), _, n + 1, c7, rfl, (by rw [HX.out.2.1]), rfl, hn3, hb7, HO7⟩, by have := HX.out.2.2; simp [strSz]; omega⟩

end Go.Proofs.YtajopoddmfdejaaGreat
