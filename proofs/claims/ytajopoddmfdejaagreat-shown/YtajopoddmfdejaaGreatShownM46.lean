/-
  What is proved here: canopykeep's made, and how much there is in its tree. what is found in a list of all that stands in a tree is what is read at that path; what is renamed does not go to where it came by. canopykeep's find answers the first thing at a path. a commit of one of several workspaces: the object reads as the workspace did. the calls of canopykeep's Shown, one by one.
-/
import Derived.Test.YtajopoddmfdejaaGreatShownM40
import Derived.Test.YtajopoddmfdejaaGreatShownM45
namespace Go.Proofs.YtajopoddmfdejaaGreat
open Go.RowKit Go.Sort Go.Shelf
set_option linter.unusedVariables false
def Made2 (W w' : World) (s p : Nat) (id : Int) : Prop := ∃ tg objs got, Old W w' tg ∧ SInv tg w' s p objs got false 60000 ∧ Exact objs ∧ Once objs ∧ LTok objs 5 (.dir id) ∧ objs.length ≤ 100 ∧ 1 ≤ id ∧ big objs 5 (.dir id) ≤ 95
theorem m_commit2 {W wr : World} {s p : Nat} {B : WB} {objs : List Ob} {N lim : Nat} (h1 : OneOb objs) (hN : N ≤ 95) (hl : lim ≤ 60000) (h : MSt W wr s p B objs N lim) :
    Calls Tryz.prog 20 #[.pointer (some ⟨B.wb, 0, none⟩)] wr fun e w' => ∃ id, e = .returned (.tuple #[.int .i64 id, .int .i64 0]) ∧ 1 ≤ id ∧ Made2 W w' s p id := by
  obtain ⟨tg, g, t, fE, hO, hQ, hM, hbr, ks, rfl⟩ := h
  obtain ⟨hwb, c0, _⟩ := hQ.ws
  have hX := one_exact h1
  have hB : Base8 tg wr s 2 p B objs g lim (.own ks) := ⟨hQ.inv, hQ.flat, hX, hQ.fl⟩
  have hcb := cnt_big objs 5 (.own ks)
  have hfw := hM.few
  have hlen : objs.length = 1 := by obtain ⟨o, _, _, _, rfl⟩ := h1; rfl
  have hob := objR_ok g.fl 5 (Nat.le_refl _) (.own ks) objs hX hQ.ok hB.flSz
  have hol := hob.len
  have hrd := objR_reads g.fl (fun _ => ⟨#[]⟩) 5 (Nat.le_refl _) (.own ks) objs hX hQ.ok hB.flSz
  refine (commit_ws B.wb B.bt _ _ wr hwb c0 (commit_any hB hQ.ok (by omega) (by omega))).mono ?_
  rintro e w' ⟨he, x', tg', hl', hsame, m, hS⟩
  have hk : kindOf x' (objR g.fl 5 (.own ks) objs).1 = 2 := by rw [hsame.kind]; exact hob.kind
  have hid := (kindOf_pos (by rw [hk]; decide)).1
  have hX' : Exact x' := hsame.exact (hob.dr.exact hX)
  have hok' : LTok x' 5 (.dir (objR g.fl 5 (.own ks) objs).1) := by
    rw [LTok]
    exact ⟨hk, by rw [hsame.high]; exact hob.high⟩
  refine ⟨_, he, hid, tg', x', g.fs.got, hO.any (by simp) m, by rw [hbr] at hS; exact hS.mono hl, hX', hsame.once (hob.dr.once (one_once h1)), hok', by rw [hsame.len]; omega, hid, ?_⟩
  rw [big_sem (fc := fun _ => ⟨#[]⟩) (fc' := fcOf objs g.fl) hX'.sound hX.sound hok' hQ.ok (fun y => (sem_same hX'.sound hsame _ y 5 _ hok').trans (hrd y))]
  omega
set_option maxRecDepth 100000 in
set_option maxHeartbeats 4000000 in
theorem made_walk2 (W : World) (a : Option Addr) (len cap : Nat) (hS : StepsAt W a len) (hlen : len ≤ maxLen) :
    Calls Tryz.prog 11 #[.slice a len cap] W fun e w' => ∃ s p id, e = .returned (.tuple #[.pointer (some ⟨s, 0, none⟩), .int .i64 id, .bool true]) ∧ Made2 W w' s p id := by
  have hst := first_store W
  have HS : Hid _ := hS
  unfold maxLen at hlen
  clear hS
  go_enter Tryz.func11, Tryz.ntmps11
  go_wp2_with fail
  refine Calls.mono hst ?_
  rintro e w1 ⟨s, p, rfl, hF⟩
  have H1 : Hid _ := first_dir hF
  clear hst hF
  go_wp2_with fail
  refine Calls.mono H1.out ?_
  rintro e w2 ⟨rfl, objs, h1, hF⟩
  obtain ⟨tg, hO, hSt⟩ := first_tags hF (one_exact h1).sound
  have hck := qcheckout (i := 2) hSt (Nat.le_refl _) (id := 1) (by rw [LTok]; exact ⟨by rw [one_kind h1]; rfl, by rw [one_high h1]; decide⟩)
  have H2 : Hid _ := hck
  have HO : Hid _ := And.intro h1 hO
  clear hck hSt hF h1 hO H1
  go_wp2_with fail
  refine Calls.mono H2.out ?_
  rintro e w3 ⟨B, rfl, tg', m, hQ⟩
  have H3 : Hid _ := m_e HO.out.1 (HO.out.2.any (fun h => h) m) hQ
  clear H2 m hQ
  go_wp2_with fail
  refine Calls.mono H3.out ?_
  rintro e w4 ⟨rfl, hM⟩
  have HM : Hid _ := hM
  clear H3 hM
  go_wp2
  go_loopw [9] (fun i wr => ∃ k : Nat, k ≤ len ∧ k ≤ 90 ∧ i = .int .i64 (k : Int) ∧ Hid (MSt W wr s p B objs (2 + k) (500 + k * 500))) (fun i _ => 90 - (intOf i).toNat)
  case atStart => exact ⟨0, Nat.zero_le _, Nat.zero_le _, rfl, HM⟩
  case round =>
    obtain ⟨k, hk, hk9, rfl, HR⟩ := hrel
    by_cases hlt : k < len
    · by_cases hl9 : k < 90
      · obtain ⟨b, o, rfl, hb, hst⟩ := HS.out.at_ (by omega)
        obtain ⟨kd, x, y, d, h1, h2, h3, h4, c0, c1, c2, c3⟩ := hst k hlt
        have hbel : Below W.heap.size W wr := MSt.below HR.out
        have e0 := (hbel.cell (p := ⟨b, o + k * 4, none⟩) hb).trans c0
        have e1 := (hbel.cell (p := ⟨b, o + k * 4 + 1, none⟩) hb).trans c1
        have e2 := (hbel.cell (p := ⟨b, o + k * 4 + 2, none⟩) hb).trans c2
        have e3 := (hbel.cell (p := ⟨b, o + k * 4 + 3, none⟩) hb).trans c3
        have hbr : b < wr.heap.size := Nat.lt_of_lt_of_le hb hbel.size
        have hdo := m_step HR.out (by omega) h1 h2 h3 h4
        have HD : Hid _ := hdo
        clear hdo hst c0 c1 c2 c3 hbel h1 h2 h3 h4 HR
        go_wp2_with (go_at_call 14; refine Calls.mono HD.out ?_; rintro e w5 ⟨er, rfl, hM5⟩; have HM5 : Hid _ := hM5; clear hM5)
        go_roundw
        case rel => exact ⟨k + 1, by omega, by omega, by go_num, by have := HM5.out; rw [show 2 + k + 1 = 2 + (k + 1) by omega, show 500 + k * 500 + 500 = 500 + (k + 1) * 500 by omega] at this; exact this⟩
        case measure => simp [intOf]; omega
      · have hk90 : k = 90 := by omega
        subst hk90
        have ht := m_told (by omega) HR.out
        have HT : Hid _ := ht
        clear ht HR
        go_wp2_with fail
        refine Calls.mono HT.out ?_
        rintro e w5 ⟨rfl, hM5⟩
        have HC : Hid _ := m_commit2 HO.out.1 (by omega) (by omega) hM5
        clear hM5 HT
        go_wp2_with fail
        refine Calls.mono HC.out ?_
        rintro e w6 ⟨id, rfl, hid, hMd⟩
        have HMD : Hid _ := hMd
        clear HC hMd
        have hid' : (0 : Int) < id := by omega
        go_wp2
        exact bodyPost_ret (v := .tuple #[.pointer (some ⟨s, 0, none⟩), .int .i64 id, .bool true]) (by simp [results, Tryz.results11, go_sem]) rfl ⟨s, p, id, rfl, HMD.out⟩
    · have ht := m_told (by omega) HR.out
      have HT : Hid _ := ht
      clear ht HR
      go_wp2_with fail
      refine Calls.mono HT.out ?_
      rintro e w5 ⟨rfl, hM5⟩
      have HC : Hid _ := m_commit2 HO.out.1 (by omega) (by omega) hM5
      clear hM5 HT
      go_wp2_with fail
      refine Calls.mono HC.out ?_
      rintro e w6 ⟨id, rfl, hid, hMd⟩
      have HMD : Hid _ := hMd
      clear HC hMd
      have hid' : (0 : Int) < id := by omega
      go_wp2
      exact bodyPost_ret (v := .tuple #[.pointer (some ⟨s, 0, none⟩), .int .i64 id, .bool true]) (by simp [results, Tryz.results11, go_sem]) rfl ⟨s, p, id, rfl, HMD.out⟩
end Go.Proofs.YtajopoddmfdejaaGreat

namespace Go.Proofs.YtajopoddmfdejaaGreat
open Go.RowKit Go.Sort Go.Shelf
set_option linter.unusedVariables false
theorem joinB_inj {y p : List ByteArray} (hy : y ≠ []) (hp : p ≠ []) (vy : Valids y) (vp : Valids p) (h : joinB y = joinB p) : y = p := by
  have no : ∀ {l : List ByteArray}, Valids l → ∀ x ∈ l.map toL, ∀ c ∈ x, c ≠ 47 := fun hv x hx c hc => by
    obtain ⟨z, hz, rfl⟩ := List.mem_map.1 hx
    exact name_no47 (hv z hz) c hc
  have e : joinL (y.map toL) = joinL (p.map toL) := by
    have := congrArg toL h
    exact this
  have e2 := congrArg splitL e
  rw [split_joinL _ (by simpa using hy) (no vy), split_joinL _ (by simpa using hp) (no vp)] at e2
  exact (List.map_inj_right (fun a b h => toL_inj h)).1 e2
def ndK : Nd → Int
  | .dir => 2
  | .file _ => 1
theorem ndK_nd (a : List Ob) (fc : FileC) (t : LT) : ndK (nd a fc t) = t.kind := by cases t <;> rfl
def thingAt (q : List ByteArray) (x : Nd) : Thing8 := (joinB q, ndK x, ndD x)
theorem things_mem {a : List Ob} (hS : Sound a) {fc : FileC} : ∀ (n : Nat) (q : List ByteArray) (t : LT), LTok a n t → ∀ z, z ∈ thingsR a fc n q t ↔ ∃ y x, y ≠ [] ∧ sem a fc t y = some x ∧ z = thingAt (q ++ y) x
  | 0, q, t, ht, z => by
    rw [thingsR]
    constructor
    · intro h; cases h
    · rintro ⟨y, x, hy, hs, _⟩
      unfold sem at hs
      obtain ⟨c, hc, _⟩ := Option.map_eq_some_iff.1 hs
      have := (ok_at hS _ ht hc).1
      exact absurd (List.length_eq_zero_iff.1 (by omega)) hy
  | n + 1, q, t, ht, z => by
    by_cases hk : t.kind = 2
    · obtain ⟨ks, hks⟩ := kids_some (a := a) hk
      obtain ⟨hr, _, hkid⟩ := ok_kids hS ht hks
      rw [things_succ hks, List.mem_flatMap]
      have hpick : ∀ w ∈ ks, pickK ks w.1 = some w.2 := fun w hw => by
        obtain ⟨k, hk, rfl⟩ := List.getElem_of_mem hw
        exact pick_getK hr hk
      constructor
      · rintro ⟨w, hw, hz⟩
        unfold thingsX at hz
        obtain ⟨m, e, o⟩ := (hkid w hw).2
        have e' : m = n := by omega
        subst e'
        rcases List.mem_cons.1 hz with hz | hz
        · refine ⟨[w.1], nd a fc w.2, by simp, ?_, ?_⟩
          · rw [sem_cons, hks, Option.bind_some, hpick w hw, Option.bind_some, sem_nil]
          · rw [hz]; unfold thingAt; rw [ndK_nd]
        · split at hz
          · obtain ⟨y, x, hy, hs, e⟩ := (things_mem hS m (q ++ [w.1]) w.2 o z).1 hz
            refine ⟨w.1 :: y, x, by simp, ?_, ?_⟩
            · rw [sem_cons, hks, Option.bind_some, hpick w hw, Option.bind_some]; exact hs
            · rw [e, List.append_assoc]; rfl
          · cases hz
      · rintro ⟨y, x, hy, hs, e⟩
        cases y with
        | nil => exact absurd rfl hy
        | cons b y =>
          rw [sem_cons, hks, Option.bind_some] at hs
          obtain ⟨c, hc, hs⟩ := Option.bind_eq_some_iff.1 hs
          have hmem : ∃ w ∈ ks, w.1 = b ∧ w.2 = c := by
            unfold pickK at hc
            obtain ⟨w, hw, e2⟩ := Option.map_eq_some_iff.1 hc
            exact ⟨w, List.mem_of_find?_eq_some hw, by simpa using List.find?_some hw, e2⟩
          obtain ⟨w, hw, rfl, rfl⟩ := hmem
          obtain ⟨m, e1, o⟩ := (hkid w hw).2
          have e' : m = n := by omega
          subst e'
          refine ⟨w, hw, ?_⟩
          unfold thingsX
          cases y with
          | nil =>
            rw [sem_nil] at hs
            rw [e, ← Option.some.inj hs]
            unfold thingAt
            rw [ndK_nd]
            exact List.mem_cons_self ..
          | cons b2 y =>
            refine List.mem_cons_of_mem _ ?_
            have hk2 : w.2.kind = 2 := by
              by_cases h2 : w.2.kind = 2
              · exact h2
              · rw [sem_cons, kids_none h2] at hs; cases hs
            rw [if_pos hk2]
            exact (things_mem hS m (q ++ [w.1]) w.2 o z).2 ⟨b2 :: y, x, by simp, hs, by rw [e, List.append_assoc]; rfl⟩
    · rw [thingsR, kids_none hk]
      constructor
      · intro h; cases h
      · rintro ⟨y, x, hy, hs, _⟩
        cases y with
        | nil => exact absurd rfl hy
        | cons b y => rw [sem_cons, kids_none hk] at hs; cases hs
def findT (L : List Thing8) (P : ByteArray) : Option Thing8 := L.find? fun x => decide (x.1 = P)
theorem find_things {a : List Ob} (hS : Sound a) {fc : FileC} {t : LT} (ht : LTok a 5 t) {p : List ByteArray} (hp : p ≠ []) (hG : Good p) : findT (thingsR a fc 5 [] t) (joinB p) = (sem a fc t p).map (thingAt p) := by
  have hinj : ∀ y x, y ≠ [] → sem a fc t y = some x → joinB y = joinB p → y = p := fun y x hy hs e => by
    unfold sem at hs
    obtain ⟨c, hc, _⟩ := Option.map_eq_some_iff.1 hs
    obtain ⟨h1, _, h3⟩ := ok_at hS _ ht hc
    exact joinB_inj hy hp h3 hG.val e
  unfold findT
  cases hf : (thingsR a fc 5 [] t).find? fun x => decide (x.1 = joinB p) with
  | none =>
    cases hs : sem a fc t p with
    | none => rfl
    | some x =>
      have := List.find?_eq_none.1 hf (thingAt p x) ((things_mem hS 5 [] t ht _).2 ⟨p, x, hp, hs, rfl⟩)
      exact absurd (decide_eq_true rfl) this
  | some z =>
    have h1 := List.find?_some hf
    obtain ⟨y, x, hy, hs, rfl⟩ := (things_mem hS 5 [] t ht z).1 (List.mem_of_find?_eq_some hf)
    have e := hinj y x hy hs (of_decide_eq_true h1)
    subst e
    rw [hs]
    rfl
theorem rename_up {a : List Ob} {t : LT} (hS : Sound a) (hok : LTok a 5 t) {n m : ByteArray} {r q : List ByteArray} (h : (renameR a t fsAll (n :: r) (m :: q)).2.1 = 0) (hne : r.reverse ++ [n] ≠ q.reverse ++ [m]) : ¬ q.reverse ++ [m] <+: r.reverse ++ [n] := by
  rintro ⟨y, hy⟩
  have hle : ¬ n :: r = m :: q := fun e => hne (by rw [← List.reverse_cons, ← List.reverse_cons, e])
  unfold renameR at h
  simp only [all_find, all_look, List.reverse_cons] at h
  split at h
  · rename_i h0; exact absurd h h0
  · rename_i h0
    obtain ⟨d, ks, ha, hk, hp, hat⟩ := find_way2 (Decidable.not_not.1 h0)
    split at h
    · cases h
    · split at h
      · rename_i hl
        rcases hl with hl | hl
        · exact absurd h hl
        · exact absurd hl hle
      · rename_i hl
        have hl0 : (lookE a t q).1 = 0 := Decidable.not_not.1 (fun h => hl (.inl h))
        obtain ⟨dt, hat', hkt⟩ := look_atE hl0
        rw [← hy] at hat
        have hyn : y ≠ [] := fun e => by rw [e, List.append_nil] at hy; exact hne hy.symm
        cases y with
        | nil => exact absurd rfl hyn
        | cons b y =>
          rw [at_append] at hat
          cases hc : t.at a (q.reverse ++ [m]) with
          | none => rw [hc] at hat; cases hat
          | some c =>
            rw [hc, Option.bind_some, at_cons] at hat
            obtain ⟨kc, hkc, hat⟩ := Option.bind_eq_some_iff.1 hat
            have hpos : 0 < kc.length := by
              cases kc with
              | nil => cases hat
              | cons z w => simp
            have hk2 : c.kind = 2 := by
              by_cases h2 : c.kind = 2
              · exact h2
              · rw [kids_none h2] at hkc; cases hkc
            obtain ⟨d2, k2, ha2, hk2', hp2⟩ := at_snoc hc
            rw [ha2] at hat'
            cases hat'
            rw [hk2'] at hkt
            have ekt := Option.some.inj hkt
            have hroom : (roomG a fsAll (decide (r = q)) (lookE a t q).2 m (findE a t (n :: r)).2).2 ≠ 0 := by
              unfold roomG
              rw [← ekt, hp2]
              simp only
              unfold yieldsG
              split
              · simp
              · split
                · simp
                · unfold vacantG
                  rw [if_neg (by rw [hk2]; decide)]
                  simp only [all_kids, kidsE_some hkc]
                  rw [if_pos ⟨trivial, hpos⟩]
                  simp
            split at h
            · rename_i hv; exact absurd h hv
            · rename_i hv; exact absurd hroom hv
end Go.Proofs.YtajopoddmfdejaaGreat

namespace Go.Proofs.YtajopoddmfdejaaGreat
open Go.RowKit Go.Sort Go.Shelf
set_option linter.unusedVariables false
def thingV (x : Option Thing8) : Value := match x with
  | none => .agg #[.string ByteArray.empty, .int .i64 0, .string ByteArray.empty]
  | some x => .agg #[.string x.1, .int .i64 x.2.1, .string x.2.2]
theorem findT_take {L : List Thing8} {P : ByteArray} {k : Nat} (hk : k < L.length) (h : findT (L.take k) P = none) : ((L[k]).1 = P → findT L P = some (L[k])) ∧ ((L[k]).1 ≠ P → findT (L.take (k + 1)) P = none) := by
  unfold findT at h ⊢
  constructor
  · intro e
    have h2 : L.find? (fun x => decide (x.1 = P)) = (L.take k ++ L.drop k).find? (fun x => decide (x.1 = P)) := by rw [List.take_append_drop]
    rw [h2, List.find?_append, h, Option.none_or, List.drop_eq_getElem_cons hk, List.find?_cons]
    simp [e]
  · intro e
    rw [List.take_succ_eq_append_getElem hk, List.find?_append, h, Option.none_or, List.find?_cons]
    simp [e]
set_option maxRecDepth 100000 in
set_option maxHeartbeats 2000000 in
theorem find_any (v : Value) (n : Nat) (L : List Thing8) (P : ByteArray) (base : Nat) (w : World) (h : w.ownsRow base 40 3 v n (flatT L)) (hn : n = L.length) (hb : n ≤ 2000000) :
    Calls Tryz.prog 17 #[v, .string P] w fun e w' => e = .returned (.tuple #[thingV (findT L P), .bool (findT L P).isSome]) ∧ Below w.heap.size w w' := by
  obtain ⟨a, c, rfl⟩ := rowT_shape h
  have hb0 : Below w.heap.size w (w.alloc (.cells #[.string ByteArray.empty, .int .i64 0, .string ByteArray.empty] 40)) := (Below.refl _ _).alloc (Nat.le_refl _) _
  have H : Hid _ := rowT_below h hb0
  have HN : Hid _ := hn
  have HB0 : Hid _ := hb0
  clear h hn hb0
  go_enter Tryz.func17, Tryz.ntmps17
  go_wp2
  go_loopw [6] (fun iv wr => ∃ k : Nat, k ≤ n ∧ iv = .int .i64 (k : Int) ∧ Hid (findT (L.take k) P = none) ∧ wr = w.alloc (.cells #[.string ByteArray.empty, .int .i64 0, .string ByteArray.empty] 40)) (fun iv _ => n - (intOf iv).toNat)
  case atStart => exact ⟨0, Nat.zero_le _, rfl, rfl, rfl⟩
  case round =>
    obtain ⟨k, hk, rfl, HF, rfl⟩ := hrel
    by_cases hkn : k < n
    · have hkl : k < L.length := by rw [← HN.out]; exact hkn
      obtain ⟨g, c1, e1, hg, x0, x1, x2⟩ := rowT_cells H.out HN.out hkl
      cases e1
      obtain ⟨f1, f2⟩ := findT_take hkl HF.out
      have HF1 : Hid _ := f1
      have HF2 : Hid _ := f2
      cases hq : ((L[k]).1.toList == P.toList) with
      | true =>
        have he : (L[k]).1 = P := bytes_eq (by simpa using hq)
        have HR : Hid _ := HF1.out he
        have HV : Hid (thingV (findT L P) = .agg #[.string P, .int .i64 (L[k]).2.1, .string (L[k]).2.2] ∧ (findT L P).isSome = true) := by
          show _ ∧ _
          rw [HR.out]
          exact ⟨by unfold thingV; rw [← he], rfl⟩
        clear f1 f2 HF1 HF2 HF HR
        rw [he] at x0 hq
        clear he
        generalize (L[k]).2.1 = z1 at x1 HV
        generalize (L[k]).2.2 = z2 at x2 HV
        go_wp2
        refine bodyPost_ret (v := .tuple #[.agg #[.string P, .int .i64 z1, .string z2], .bool true]) (by simp [results, Tryz.results17, go_sem]) rfl ?_
        rw [HV.out.1, HV.out.2]
        refine ⟨rfl, ?_⟩
        exact (Below.refl _ _).alloc (Nat.le_refl _) _
      | false =>
        have he : (L[k]).1 ≠ P := fun e => by rw [e] at hq; simp at hq
        have HR : Hid _ := HF2.out he
        clear f1 f2 HF1 HF2 HF he
        generalize (L[k]).1 = z0 at x0 hq
        generalize (L[k]).2.1 = z1 at x1
        generalize (L[k]).2.2 = z2 at x2
        go_wp2
        exact ⟨⟨k + 1, by omega, by simp, HR, by simp⟩, by simp [intOf]; omega⟩
    · have hke : k = n := by omega
      have hr := HF.out
      rw [hke, HN.out, List.take_length] at hr
      have HR : Hid _ := hr
      have HV : Hid (thingV (findT L P) = .agg #[.string ByteArray.empty, .int .i64 0, .string ByteArray.empty] ∧ (findT L P).isSome = false) := by
        show _ ∧ _
        rw [HR.out]
        exact ⟨rfl, rfl⟩
      clear hr HF hke HR
      go_wp2
      refine bodyPost_ret (v := .tuple #[.agg #[.string ⟨#[]⟩, .int .i64 0, .string ⟨#[]⟩], .bool false]) (by simp [results, Tryz.results17, go_sem]) rfl ?_
      rw [HV.out.1, HV.out.2]
      refine ⟨rfl, ?_⟩
      exact (Below.refl _ _).alloc (Nat.le_refl _) _
end Go.Proofs.YtajopoddmfdejaaGreat

namespace Go.Proofs.YtajopoddmfdejaaGreat
open Go.RowKit Go.Sort Go.Shelf
set_option linter.unusedVariables false
section
variable {W wr : World} {s p : Nat} {objs : List Ob} {lim : Nat} {ws : List Slot} {rows : List (Value × List Thing8)}
theorem many_made2 {id : Int} (h : Made2 W wr s p id) : ∃ objs, Obs8 objs id ∧ big objs 5 (.dir id) ≤ 95 ∧ Many W wr s p objs 60000 [] [] := by
  obtain ⟨tg, objs, got, hO, hS, hX, hOn, hok, hlen, hid, hbig⟩ := h
  exact ⟨objs, ⟨hX, hOn, hok, hlen⟩, hbig, tg, got, hO, hS, (fun x hx => by cases hx), List.nodup_nil, (fun r hr => by cases hr)⟩
theorem many_commit {i : Nat} {B : WB} {g : WG} {t : LT} (h : Many W wr s p objs lim ((i, B, g, t) :: ws) rows) (hX : Exact objs) (hlen : objs.length ≤ 100) (hbig : big objs 5 t ≤ 200) (hk : t.kind = 2) :
    Calls Tryz.prog 20 #[.pointer (some ⟨B.wb, 0, none⟩)] wr fun e w' => ∃ c x', e = .returned (.tuple #[.int .i64 c, .int .i64 0]) ∧ Exact x' ∧ LTok x' 5 (.dir c) ∧ SemEq x' (fun _ => ⟨#[]⟩) (.dir c) objs (fcOf objs g.fl) t ∧ Many W w' s p x' lim [] rows := by
  obtain ⟨tg, got, hO, hS, hw, hn, hr⟩ := h
  have hx := hw _ (List.mem_cons_self ..)
  have hQ : QInv tg wr s i p B objs (setGot g got) lim t := ⟨⟨hx.two, hS, ⟨hx.wp.tree, hx.wp.keptF, hx.wp.keptD, hx.wp.ownF, hx.wp.ownD, hx.wp.files, hx.wp.held, hx.wp.opens, hx.wp.ok⟩⟩, hx.flat, hx.ok, hx.fl, hx.op⟩
  obtain ⟨hwb, c0, _⟩ := hQ.ws
  have hB : Base8 tg wr s i p B objs (setGot g got) lim t := ⟨hQ.inv, hQ.flat, hX, hQ.fl⟩
  have hcb := cnt_big objs 5 t
  have hob := objR_ok g.fl 5 (Nat.le_refl _) t objs hX hQ.ok hB.flSz
  have hol := hob.len
  have hrd := objR_reads g.fl (fun _ => ⟨#[]⟩) 5 (Nat.le_refl _) t objs hX hQ.ok hB.flSz
  have hca := commit_any hB hQ.ok (by omega) (show (objR g.fl 5 t objs).2.length ≤ 400 by omega)
  refine (commit_ws B.wb B.bt _ _ wr hwb c0 hca).mono ?_
  rintro e w' ⟨he, x', tg', hl', hsame, m, hS'⟩
  have hk' : kindOf x' (objR g.fl 5 t objs).1 = 2 := by rw [hsame.kind]; exact hob.kind.trans hk
  have hX' : Exact x' := hsame.exact (hob.dr.exact hX)
  have hok' : LTok x' 5 (.dir (objR g.fl 5 t objs).1) := by
    rw [LTok]
    exact ⟨hk', by rw [hsame.high]; exact hob.high⟩
  rw [hk] at hrd
  refine ⟨_, x', he, hX', hok', fun y => (sem_same hX'.sound hsame _ y 5 _ hok').trans (hrd y), tg', _, hO.any (by simp) m, hS', (fun x hx => by cases hx), List.nodup_nil, hr.any (by simp) m⟩
end
end Go.Proofs.YtajopoddmfdejaaGreat

namespace Go.Proofs.YtajopoddmfdejaaGreat
open Go.RowKit Go.Sort Go.Shelf
set_option linter.unusedVariables false
def ShFacts (er kd a b : Int) (d : ByteArray) (L1 L2 : List Thing8) : Prop :=
  er ≠ 14 ∧ (er ≠ 0 → L1 = L2) ∧ (er = 0 →
    (pickN kd 6 < 3 → findT L2 (joinB (pathL a)) = some (joinB (pathL a), 1, shortB d)) ∧
    (pickN kd 6 = 3 → findT L2 (joinB (pathL a)) = some (joinB (pathL a), 2, ⟨#[]⟩) ∧ findT L1 (joinB (pathL a)) = none) ∧
    (pickN kd 6 = 4 → findT L2 (joinB (pathL a)) = none ∧ (findT L1 (joinB (pathL a))).isSome = true) ∧
    (pickN kd 6 = 5 → (∃ k z, findT L1 (joinB (pathL a)) = some (joinB (pathL a), k, z) ∧ findT L2 (joinB (pathL b)) = some (joinB (pathL b), k, z)) ∧ (findT L2 (joinB (pathL a))).isSome = ((joinB (pathL a)).toList == (joinB (pathL b)).toList)))
theorem sh_facts {objs : List Ob} (hX : Exact objs) {g g' : WG} {t t' : LT} (hok : LTok objs 5 t) (hok' : LTok objs 5 t') (hheld : ∀ x f, t.at objs x = some (.held f) → ∃ y, g.fl f = some y) (hinj : HeldInj objs t) (hbr : g.fs.brk = false) {kd a b : Int} {d : ByteArray} {na nb : ByteArray} {ra rb : List ByteArray} (hpa : pathL a = ra.reverse ++ [na]) (hpb : pathL b = rb.reverse ++ [nb]) {er : Int} (h : StepTo objs g t (pickN kd 6) na nb ra rb (shortB d) er g' t') :
    ShFacts er kd a b d (thingsR objs (fcOf objs g.fl) 5 [] t) (thingsR objs (fcOf objs g'.fl) 5 [] t') := by
  have hS := hX.sound
  have ga := (pathL_letters a).good
  have gb := (pathL_letters b).good
  have na' : pathL a ≠ [] := by rw [hpa]; simp
  have nb' : pathL b ≠ [] := by rw [hpb]; simp
  obtain ⟨h1, h2, h3⟩ := step_sem hS hok hheld hinj hbr h
  refine ⟨h1, fun e => by rw [(h2 e).1, (h2 e).2], fun e => ?_⟩
  obtain ⟨s1, s2, s3, s4⟩ := h3 e
  rw [← hpa, ← hpb] at s1 s4
  rw [← hpa] at s2 s3
  rw [find_things hS hok' na' ga, find_things hS hok na' ga, find_things hS hok' nb' gb, s1, s1]
  generalize hSm : sem objs (fcOf objs g.fl) t = S at s2 s3 s4 ⊢
  refine ⟨fun k => ?_, fun k => ?_, fun k => ?_, fun k => ?_⟩
  · have : stepS (pickN kd 6) (pathL a) (pathL b) (shortB d) S (pathL a) = some (.file (shortB d)) := by unfold stepS; rw [if_pos k, if_pos rfl]
    rw [this]; rfl
  · have e1 : ¬ pickN kd 6 < 3 := by omega
    have : stepS (pickN kd 6) (pathL a) (pathL b) (shortB d) S (pathL a) = some .dir := by unfold stepS; rw [if_neg e1, if_pos k, if_pos rfl]
    rw [this, s2 k]; exact ⟨rfl, rfl⟩
  · have e1 : ¬ pickN kd 6 < 3 := by omega
    have e2 : ¬ pickN kd 6 = 3 := by omega
    have : stepS (pickN kd 6) (pathL a) (pathL b) (shortB d) S (pathL a) = none := by unfold stepS; rw [if_neg e1, if_neg e2, if_pos k, if_pos (List.prefix_refl _)]
    rw [this]
    refine ⟨rfl, ?_⟩
    have := s3 k
    cases hq : S (pathL a) with
    | none => exact absurd hq this
    | some x => rfl
  · have e1 : ¬ pickN kd 6 < 3 := by omega
    have e2 : ¬ pickN kd 6 = 3 := by omega
    have e3 : ¬ pickN kd 6 = 4 := by omega
    obtain ⟨q1, q2⟩ := s4 k
    cases hq : S (pathL a) with
    | none => exact absurd hq q1
    | some x =>
      by_cases he : pathL a = pathL b
      · have t1 : ∀ y, stepS (pickN kd 6) (pathL a) (pathL b) (shortB d) S y = S y := fun y => by unfold stepS; rw [if_neg e1, if_neg e2, if_neg e3, if_pos he]
        rw [t1, t1, ← he, hq]
        exact ⟨⟨_, _, rfl, rfl⟩, by simp⟩
      · have hup : ¬ pathL b <+: pathL a := by
          rcases h with ⟨k1, _⟩ | ⟨k1, _⟩ | ⟨k1, _⟩ | ⟨k1, er1, _⟩
          · exact absurd k1 e1
          · exact absurd k1 e2
          · exact absurd k1 e3
          · rw [fair_nobrk (fair_rename objs t g.fs (na :: ra) (nb :: rb)) hbr, e] at er1
            have := rename_up hS hok er1.symm (by rw [← hpa, ← hpb]; exact he)
            rw [← hpa, ← hpb] at this
            exact this
        have t1 : stepS (pickN kd 6) (pathL a) (pathL b) (shortB d) S (pathL b) = S (pathL a) := by
          unfold stepS
          rw [if_neg e1, if_neg e2, if_neg e3, if_neg he, if_pos (List.prefix_refl _), List.drop_length, List.append_nil]
        have t2 : stepS (pickN kd 6) (pathL a) (pathL b) (shortB d) S (pathL a) = none := by
          unfold stepS
          rw [if_neg e1, if_neg e2, if_neg e3, if_neg he, if_neg hup, if_pos (List.prefix_refl _)]
        rw [t1, t2, hq]
        refine ⟨⟨_, _, rfl, rfl⟩, ?_⟩
        have hne : joinB (pathL a) ≠ joinB (pathL b) := fun h => he (joinB_inj na' nb' ga.val gb.val h)
        symm
        show ((joinB (pathL a)).toList == (joinB (pathL b)).toList) = false
        exact beq_eq_false_iff_ne.2 (fun h => hne (bytes_eq h))
def ShOne (W wr : World) (s p : Nat) (objs : List Ob) (B : WB) (lim : Nat) (v : Value) (L : List Thing8) (rows : List (Value × List Thing8)) (N : Nat) : Prop :=
  ∃ g t, Many W wr s p objs lim [(3, B, g, t)] ((v, L) :: rows) ∧ thingsR objs (fcOf objs g.fl) 5 [] t = L ∧ t.kind = 2 ∧ big objs 5 t ≤ N ∧ L.length ≤ 1118480
def ShTwo (W wr : World) (s p : Nat) (objs : List Ob) (B : WB) (lim : Nat) (v : Value) (L : List Thing8) (er kd a b : Int) (d : ByteArray) : Prop :=
  ∃ g t, Many W wr s p objs lim [(3, B, g, t)] [(v, L)] ∧ t.kind = 2 ∧ big objs 5 t ≤ 96 ∧ L.length ≤ 1118480 ∧ ShFacts er kd a b d L (thingsR objs (fcOf objs g.fl) 5 [] t)
section
variable {W wr : World} {s p : Nat} {objs : List Ob} {id : Int} {B : WB} {lim : Nat} {v v' : Value} {L L' : List Thing8} {rows : List (Value × List Thing8)}
theorem Many.slot8 {ws : List Slot} (h : Many W wr s p objs lim ws rows) {i : Nat} {B : WB} {g : WG} {t : LT} (hx : (i, B, g, t) ∈ ws) : LTok objs 5 t ∧ HeldInj objs t ∧ ∀ x f, t.at objs x = some (.held f) → ∃ y, g.fl f = some y := by
  obtain ⟨tg, got, hO, hS, hw, _⟩ := h
  have h1 := hw _ hx
  exact ⟨h1.ok, h1.inj, fun x f ha => h1.wp.held x f (by rw [h1.flat.of, ha]; rfl)⟩
theorem sh_all {g : WG} {t : LT} {N : Nat} (h : Many W wr s p objs lim [(3, B, g, t)] rows) (hl : lim + 42000000000 < 1099511627776) (hk : t.kind = 2) (hb : big objs 5 t ≤ N) :
    Calls Tryz.prog 13 #[.pointer (some ⟨B.wb, 0, none⟩)] wr fun e w' => ∃ v, e = .returned (.tuple #[v, .bool true]) ∧ ShOne W w' s p objs B (lim + 4000000000) v (thingsR objs (fcOf objs g.fl) 5 [] t) rows N := by
  refine (many_all h hl hk).mono ?_
  rintro e w' ⟨v, g', t', he, hs, hlen, hM⟩
  obtain ⟨o, _, _⟩ := h.slot8 (List.mem_cons_self ..)
  obtain ⟨o', _, _⟩ := hM.slot8 (List.mem_cons_self ..)
  have hS := h.sound
  exact ⟨v, he, g', t', hM, things_sem hS hS 5 [] t' t o' o hs, (nd_kind (sem_nd (hs []))).trans hk, by rw [big_sem hS hS o' o hs]; exact hb, hlen⟩
theorem sh_do (hX : Exact objs) (h : ShOne W wr s p objs B lim v L [] 95) (hl : lim + 1000 < 1099511627776) {kd a b : Int} {d : ByteArray} (hk : i64 kd) (ha : i64 a) (hb : i64 b) (hd : d.size ≤ maxLen) :
    Calls Tryz.prog 14 #[.pointer (some ⟨B.wb, 0, none⟩), .agg #[.int .i64 kd, .int .i64 a, .int .i64 b, .string d]] wr fun e w' => ∃ er, e = .returned (.int .i64 er) ∧ ShTwo W w' s p objs B (lim + 500) v L er kd a b d := by
  obtain ⟨g, t, hM, hL, hk2, hbig, hlen⟩ := h
  obtain ⟨na, ra, hpa⟩ := (pathL_letters a).split
  obtain ⟨nb, rb, hpb⟩ := (pathL_letters b).split
  obtain ⟨o, i3, l3⟩ := hM.slot8 (List.mem_cons_self ..)
  refine (many_do hM hl hk ha hb hd hpa hpb).mono ?_
  rintro e w' ⟨er, g', t', he, ⟨g1, q1, q2, hst⟩, hb', hM'⟩
  obtain ⟨o', _, _⟩ := hM'.slot8 (List.mem_cons_self ..)
  have l3' : ∀ x f, t.at objs x = some (.held f) → ∃ y, g1.fl f = some y := fun x f hx => by rw [q1]; exact l3 x f hx
  have hf := sh_facts hX o o' l3' i3 q2 hpa hpb hst
  have hkd : t'.kind = 2 := by
    obtain ⟨_, z2, z3⟩ := step_sem hM.sound o l3' i3 q2 hst
    by_cases e : er = 0
    · have := (z3 e).1 []
      have hn : stepS (pickN kd 6) (ra.reverse ++ [na]) (rb.reverse ++ [nb]) (shortB d) (sem objs (fcOf objs g1.fl) t) [] = sem objs (fcOf objs g1.fl) t [] := by
        have p1 : ¬ ([] : List ByteArray) = ra.reverse ++ [na] := by simp
        have p2 : ¬ ra.reverse ++ [na] <+: [] := fun h => by simpa using List.prefix_nil.1 h
        have p3 : ¬ rb.reverse ++ [nb] <+: [] := fun h => by simpa using List.prefix_nil.1 h
        unfold stepS
        simp only [if_neg p1, if_neg p2, if_neg p3, ite_self]
      rw [hn] at this
      exact (nd_kind (sem_nd this)).trans hk2
    · rw [(z2 e).1]; exact hk2
  rw [q1, hL] at hf
  exact ⟨er, he, g', t', hM', hkd, by omega, hlen, hf⟩
theorem sh_all2 {er kd a b : Int} {d : ByteArray} (h : ShTwo W wr s p objs B lim v L er kd a b d) (hl : lim + 42000000000 < 1099511627776) :
    Calls Tryz.prog 13 #[.pointer (some ⟨B.wb, 0, none⟩)] wr fun e w' => ∃ v' L', e = .returned (.tuple #[v', .bool true]) ∧ ShOne W w' s p objs B (lim + 4000000000) v' L' [(v, L)] 96 ∧ ShFacts er kd a b d L L' ∧ L.length ≤ 1118480 := by
  obtain ⟨g, t, hM, hk2, hbig, hlen, hf⟩ := h
  refine (sh_all hM hl hk2 hbig).mono ?_
  rintro e w' ⟨v', he, h'⟩
  exact ⟨v', _, he, h', hf, hlen⟩
theorem ShOne.below {w' : World} {N : Nat} (h : ShOne W wr s p objs B lim v L rows N) (hb : Below wr.heap.size wr w') : ShOne W w' s p objs B lim v L rows N := by
  obtain ⟨g, t, hM, hr⟩ := h
  exact ⟨g, t, hM.below hb, hr⟩
theorem ShOne.old {N : Nat} (h : ShOne W wr s p objs B lim v L rows N) : Below W.heap.size W wr := by
  obtain ⟨g, t, hM, hr⟩ := h
  exact hM.old
def Found (L : List Thing8) (P : ByteArray) (s0 : ByteArray) (k : Int) (s1 : ByteArray) (is : Bool) : Prop := thingV (findT L P) = .agg #[.string s0, .int .i64 k, .string s1] ∧ (findT L P).isSome = is
theorem sh_find {N : Nat} {r : Value × List Thing8} (h : ShOne W wr s p objs B lim v L rows N) (hr : r ∈ (v, L) :: rows) (hlen : r.2.length ≤ 1118480) (P : ByteArray) {w' : World} (hb : Below wr.heap.size wr w') :
    Calls Tryz.prog 17 #[r.1, .string P] w' fun e w'' => ∃ s0 k s1 is, e = .returned (.tuple #[.agg #[.string s0, .int .i64 k, .string s1], .bool is]) ∧ Found r.2 P s0 k s1 is ∧ Below w'.heap.size w' w'' := by
  obtain ⟨g, t, hM, _⟩ := h
  refine (find_any r.1 r.2.length r.2 P 0 w' (rowT_below (hM.row hr) hb) rfl (by omega)).mono ?_
  rintro e w'' ⟨rfl, hb'⟩
  unfold Found
  cases findT r.2 P with
  | none => exact ⟨_, _, _, _, rfl, ⟨rfl, rfl⟩, hb'⟩
  | some x => exact ⟨_, _, _, _, rfl, ⟨rfl, rfl⟩, hb'⟩
theorem Found.some {L : List Thing8} {P s0 s1 : ByteArray} {k : Int} {is : Bool} {x : Thing8} (h : Found L P s0 k s1 is) (e : findT L P = some x) : s0 = x.1 ∧ k = x.2.1 ∧ s1 = x.2.2 ∧ is = true := by
  obtain ⟨h1, h2⟩ := h
  rw [e] at h1 h2
  simp only [thingV, Value.agg.injEq] at h1
  have h3 := congrArg Array.toList h1
  simp at h3
  exact ⟨h3.1.symm, h3.2.1.symm, h3.2.2.symm, h2.symm⟩
theorem Found.none {L : List Thing8} {P s0 s1 : ByteArray} {k : Int} {is : Bool} (h : Found L P s0 k s1 is) (e : findT L P = none) : is = false := by
  rw [← h.2, e]; rfl
def ShEnd (W wr : World) (s p : Nat) (lim : Nat) (c : Int) (v : Value) (L : List Thing8) : Prop :=
  ∃ x', Exact x' ∧ LTok x' 5 (.dir c) ∧ thingsR x' (fun _ => ⟨#[]⟩) 5 [] (.dir c) = L ∧ L.length ≤ 1118480 ∧ Many W wr s p x' lim [] [(v, L)]
theorem Many.less {ws : List Slot} {r : Value × List Thing8} (h : Many W wr s p objs lim ws (r :: rows)) : Many W wr s p objs lim ws [r] := by
  obtain ⟨tg, got, hO, hS, hw, hn, hr⟩ := h
  exact ⟨tg, got, hO, hS, hw, hn, fun x hx => hr x (by rw [List.mem_singleton.1 hx]; exact List.mem_cons_self ..)⟩
theorem sh_commit (hX : Exact objs) (hlen : objs.length ≤ 100) (h : ShOne W wr s p objs B lim v L rows 96) :
    Calls Tryz.prog 20 #[.pointer (some ⟨B.wb, 0, none⟩)] wr fun e w' => ∃ c, e = .returned (.tuple #[.int .i64 c, .int .i64 0]) ∧ ShEnd W w' s p lim c v L := by
  obtain ⟨g, t, hM, hL, hk, hbig, hl⟩ := h
  obtain ⟨o, _, _⟩ := hM.slot8 (List.mem_cons_self ..)
  refine (many_commit hM hX hlen (by omega) hk).mono ?_
  rintro e w' ⟨c, x', he, hX', hok', hs, hM'⟩
  exact ⟨c, he, x', hX', hok', (things_sem hX'.sound hX.sound 5 [] _ _ hok' o hs).trans hL, hl, hM'.less⟩
def ShWork (W wr : World) (s p : Nat) (B : WB) (lim : Nat) (v : Value) (L : List Thing8) : Prop :=
  ∃ x' c g, g.fl = (fun _ => none) ∧ thingsR x' (fun _ => ⟨#[]⟩) 5 [] (.dir c) = L ∧ L.length ≤ 1118480 ∧ Many W wr s p x' lim [(3, B, g, .dir c)] [(v, L)]
theorem sh_work {c : Int} (h : ShEnd W wr s p lim c v L) :
    Calls Tryz.prog 12 #[.pointer (some ⟨s, 0, none⟩), .int .i64 c] wr fun e w' => ∃ B : WB, e = .returned (.tuple #[.pointer (some ⟨B.wb, 0, none⟩), .bool true]) ∧ ShWork W w' s p B lim v L := by
  obtain ⟨x', hX', hok', hL, hl, hM⟩ := h
  refine (many_work hM (i := 3) (by decide) (fun x hx => by cases hx) hok').mono ?_
  rintro e w' ⟨B, g, he, hg, _, hM'⟩
  exact ⟨B, he, x', c, g, hg, hL, hl, hM'⟩
theorem sh_last {B : WB} (h : ShWork W wr s p B lim v L) (hl : lim + 42000000000 < 1099511627776) :
    Calls Tryz.prog 13 #[.pointer (some ⟨B.wb, 0, none⟩)] wr fun e w' => ∃ v', e = .returned (.tuple #[v', .bool true]) ∧ Below W.heap.size W w' ∧ Calls Tryz.prog 15 #[v, v'] w' fun e w'' => e = .returned (.bool true) ∧ Below w'.heap.size w' w'' := by
  obtain ⟨x', c, g, hg, hL, hlen, hM⟩ := h
  refine (many_all hM hl rfl).mono ?_
  rintro e w' ⟨v', g', t', he, _, _, hM'⟩
  refine ⟨v', he, hM'.old, ?_⟩
  have r1 := hM'.row (r := (v', _)) (List.mem_cons_self ..)
  have r2 := hM'.row (r := (v, L)) (by simp)
  have hfc : fcOf x' g.fl = fun _ => ⟨#[]⟩ := by rw [hg]; rfl
  rw [hfc, hL] at r1
  exact same_eq v v' L.length L 0 0 w' r2 r1 rfl (by omega)
theorem sh_same {N : Nat} {L' : List Thing8} (h : ShOne W wr s p objs B lim v L [(v', L')] N) (e : L' = L) : Calls Tryz.prog 15 #[v', v] wr fun e w'' => e = .returned (.bool true) ∧ Below wr.heap.size wr w'' := by
  obtain ⟨g, t, hM, _, _, _, hlen⟩ := h
  subst e
  exact same_eq v' v L'.length L' 0 0 wr (hM.row (r := (v', L')) (by simp)) (hM.row (r := (v, L')) (by simp)) rfl (by omega)
end
end Go.Proofs.YtajopoddmfdejaaGreat
