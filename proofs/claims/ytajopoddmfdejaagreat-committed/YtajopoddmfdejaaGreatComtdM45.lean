/-
  What is proved here: canopykeep's below and all answer all that stands in a tree, in order; the tree reads as it did. canopykeep's same answers true of two lists of the same things. what reads the same answers the same: what stands at a path, what is in it, why it can't go; how high it is; how much there is. what a step makes of what is read, and that two workspaces that read the same answer a step the same and read the same behind it. what a step makes of what is read; two workspaces that read the same answer a step the same, and read the same behind it. several workspaces over one store: what a call of one leaves of the others. a commit reads as the tree did; how much there is can be read.
-/
import Derived.Test.YtajopoddmfdejaaGreatComtdM44
import Derived.Test.YtajopoddmfdejaaGreatComtdM41
import Derived.Test.YtajopoddmfdejaaGreatComtdM39
import Derived.Test.YtajopoddmfdejaaGreatComtdM34
import Derived.Test.YtajopoddmfdejaaGreatComtdM40
namespace Go.Proofs.YtajopoddmfdejaaGreat
open Go.RowKit Go.Sort Go.Shelf
set_option linter.unusedVariables false
section
variable {s i p : Nat} {B : WB} {objs : List Ob}
theorem tBound_le {n : Nat} (h : n <= 5) : tBound n <= 1118480 := by
 have : n = 0 \/ n = 1 \/ n = 2 \/ n = 3 \/ n = 4 \/ n = 5 := by omega
 rcases this with rfl | rfl | rfl | rfl | rfl | rfl <;> decide
theorem below_all : ∀ (nn : Nat) (q : List ByteArray) (tg0 : Tags) (w0 : World) (g0 : WG) (t0 c0 : LT) (lim R0 : Nat), R0 = 7000000000 * (nn + 1) -> QInv tg0 w0 s i p B objs g0 lim t0 -> lim + R0 < 1099511627776 -> g0.fs.brk = false -> t0.at objs q = some c0 -> c0.kind = 2 -> nn + q.length = 5 ->
  Calls Tryz.prog 42 #[.pointer (some ⟨B.wb, 0, none⟩), .string (joinB q), .int .i64 (q.length : Int)] w0 (BelRet s i p B objs tg0 w0 g0 t0 lim (thingsR objs (fcOf objs g0.fl) nn q c0)) := by
 intro nn
 induction nn with
 | zero =>
  intro q tg0 w0 g0 t0 c0 lim R0 hR0 hQ hlim hbr h0 hk2 hlen
  have hS := hQ.inv.st.sound
  obtain ⟨ks, hk0⟩ := kids_some (a := objs) hk2
  obtain ⟨hql, hok, hval⟩ := ok_at hS _ hQ.ok h0
  rw [show 5 - q.length = 0 by omega] at hok
  have hnil : ks = [] := by
   cases ks with
   | nil => rfl
   | cons x r => obtain ⟨_, m, e, _⟩ := (ok_kids hS hok hk0).2.2 x (List.mem_cons_self ..); omega
  subst hnil
  have hq : q ≠ [] := fun e => by rw [e] at hlen; simp at hlen
  have := below_deep (R := 0) hQ (by omega) hbr hq h0 hk0 List.Pairwise.nil (by simp) ⟨hval, by omega⟩ (fun k hk => absurd hk (Nat.not_lt_zero _)) 0 (by simp) (q.length : Int) (by omega) (by omega) (fun k hk => absurd hk (Nat.not_lt_zero _))
  rw [thingsR]
  exact this
 | succ nn ih =>
  intro q tg0 w0 g0 t0 c0 lim R0 hR0 hQ hlim hbr h0 hk2 hlen
  have hS := hQ.inv.st.sound
  obtain ⟨ks, hk0⟩ := kids_some (a := objs) hk2
  obtain ⟨hql, hok, hval⟩ := ok_at hS _ hQ.ok h0
  rw [show 5 - q.length = nn + 1 by omega] at hok
  obtain ⟨hr, h16, hkid⟩ := ok_kids hS hok hk0
  have hG : Good q := ⟨hval, by omega⟩
  have hGk : ∀ k (hk : k < ks.length), Good (q ++ [(ks[k]).1]) := fun k hk => ⟨hval.append (fun x hx => by
   rw [List.mem_singleton.1 hx]; exact (hkid _ (List.getElem_mem hk)).1), by rw [List.length_append]; simp; omega⟩
  have htot := things_bound (fc := fcOf objs g0.fl) hS (nn + 1) q c0 hok
  have htb := tBound_le (n := nn + 1) (by omega)
  rw [things_succ hk0] at htot ⊢
  obtain ⟨R, hR⟩ : ∃ R, R = R0 - 7000000000 := ⟨_, rfl⟩
  have hR' : R = 7000000000 * (nn + 1) := by omega
  have hlR : lim + 7000000000 + R < 1099511627776 := by omega
  have hrec : ∀ k (hk : k < ks.length), (ks[k]).2.kind = 2 -> ∀ tg w g t l, QInv tg w s i p B objs g l t -> Alike objs g0 t0 g t -> l + R < 1099511627776 -> Calls Tryz.prog 42 #[.pointer (some ⟨B.wb, 0, none⟩), .string (joinB (q ++ [(ks[k]).1])), .int .i64 ((q.length : Int) + 1)] w (BelRet s i p B objs tg w g t l (thingsR objs (fcOf objs g0.fl) nn (q ++ [(ks[k]).1]) (ks[k]).2)) := by
   intro k hk hkd tg w g t l hq hA hl
   obtain ⟨c, hc, hnd, hki, hsem⟩ := bel_kid hq hA h0 hk0 hr hk
   have := ih (q ++ [(ks[k]).1]) tg w g t c l R hR' hq hl hA.brk hc (by rw [hki]; exact hkd) (by rw [List.length_append]; simp; omega)
   obtain ⟨m1, e1, o1⟩ := (hkid _ (List.getElem_mem hk)).2
   have e1' : m1 = nn := by omega
   subst e1'
   have hokc := (ok_at hS _ hq.ok hc).2.1
   rw [show 5 - (q ++ [(ks[k]).1]).length = m1 by rw [List.length_append]; simp; omega] at hokc
   rw [things_sem hS hS m1 (q ++ [(ks[k]).1]) c (ks[k]).2 hokc o1 hsem] at this
   rw [show ((q ++ [(ks[k]).1]).length : Int) = (q.length : Int) + 1 by rw [List.length_append]; simp] at this
   exact this
  by_cases hq : q = []
  ·exact below_root (R := R) hQ hlR hbr hq h0 hk0 hr h16 hG hGk nn (by omega) (q.length : Int) (by omega) (by omega) hrec
  ·exact below_deep (R := R) hQ hlR hbr hq h0 hk0 hr h16 hG hGk nn (by omega) (q.length : Int) (by omega) (by omega) hrec
set_option maxRecDepth 100000 in
set_option maxHeartbeats 1000000 in
theorem all_walk (wb : Nat) (w : World) (X : Value -> World -> Prop) (hc : Calls Tryz.prog 42 #[.pointer (some ⟨wb, 0, none⟩), .string ⟨#[]⟩, .int .i64 0] w fun e w' => ∃ v, e = .returned (.tuple #[v, .bool true]) /\ X v w') :
  Calls Tryz.prog 13 #[.pointer (some ⟨wb, 0, none⟩)] w fun e w' => ∃ v, e = .returned (.tuple #[v, .bool true]) /\ X v w' := by
 go_enter Tryz.func13, Tryz.ntmps13
 go_wp2_with fail
 refine Calls.mono hc ?_
 rintro e w1 ⟨v, rfl, hX⟩
 have HX : Hid _ := hX
 clear hX hc
 go_wp2
 go_ret2
 exact ⟨v, rfl, HX.out⟩
theorem all_any {tg0 : Tags} {w0 : World} {g0 : WG} {t0 : LT} {lim : Nat} (hQ : QInv tg0 w0 s i p B objs g0 lim t0) (hlim : lim + 42000000000 < 1099511627776) (hbr : g0.fs.brk = false) (hk : t0.kind = 2) :
  Calls Tryz.prog 13 #[.pointer (some ⟨B.wb, 0, none⟩)] w0 (BelRet s i p B objs tg0 w0 g0 t0 lim (thingsR objs (fcOf objs g0.fl) 5 [] t0)) := by
 have h := below_all 5 [] tg0 w0 g0 t0 t0 lim 42000000000 (by decide) hQ hlim hbr (at_nil _ _) hk rfl
 exact all_walk B.wb w0 _ h
end
end Go.Proofs.YtajopoddmfdejaaGreat

namespace Go.Proofs.YtajopoddmfdejaaGreat
open Go.RowKit Go.Sort Go.Shelf
set_option linter.unusedVariables false
theorem flatT_at : ∀ (L : List Thing8) (k : Nat) (hk : k < L.length), (flatT L)[k * 3]? = some (.string (L[k]).1) /\ (flatT L)[k * 3 + 1]? = some (.int .i64 (L[k]).2.1) /\ (flatT L)[k * 3 + 2]? = some (.string (L[k]).2.2)
 | [], k, hk => absurd hk (Nat.not_lt_zero _)
 | x :: L, 0, _ => ⟨rfl, rfl, rfl⟩
 | x :: L, k + 1, hk => by
  obtain ⟨h0, h1, h2⟩ := flatT_at L k (by simpa using hk)
  have e : flatT (x :: L) = encT x ++ flatT L := rfl
  have hl : (encT x).length = 3 := rfl
  rw [e, List.getElem_cons_succ]
  rw [List.getElem?_append_right (by omega), List.getElem?_append_right (by omega), List.getElem?_append_right (by omega), hl]
  rw [show (k + 1) * 3 - 3 = k * 3 by omega, show (k + 1) * 3 + 1 - 3 = k * 3 + 1 by omega, show (k + 1) * 3 + 2 - 3 = k * 3 + 2 by omega]
  exact ⟨h0, h1, h2⟩
theorem rowT_cells {w : World} {base : Nat} {v : Value} {n : Nat} {L : List Thing8} (h : w.ownsRow base 40 3 v n (flatT L)) (hn : n = L.length) {k : Nat} (hk : k < L.length) : ∃ g c, v = .slice (some ⟨g, 0, none⟩) n c /\ g < w.heap.size /\ w.cell? ⟨g, k * 3, none⟩ = some (.string (L[k]).1) /\ w.cell? ⟨g, k * 3 + 1, none⟩ = some (.int .i64 (L[k]).2.1) /\ w.cell? ⟨g, k * 3 + 2, none⟩ = some (.string (L[k]).2.2) := by
 obtain ⟨g, c, rfl⟩ := slice_of_owns h (by omega)
 obtain ⟨h0, h1, h2⟩ := flatT_at L k hk
 have hc := World.ownsRow.cells h (g := g) rfl
 refine ⟨g, c, rfl, ownsRow_lt h rfl, ?_, ?_, ?_⟩
 ·have := hc _ _ h0; rwa [add_plain, Nat.zero_add] at this
 ·have := hc _ _ h1; rwa [add_plain, Nat.zero_add] at this
 ·have := hc _ _ h2; rwa [add_plain, Nat.zero_add] at this
theorem rowT_shape {w : World} {base : Nat} {v : Value} {n : Nat} {xs : List Value} (h : w.ownsRow base 40 3 v n xs) : ∃ a c, v = .slice a n c := by
 rcases h.2 with ⟨rfl, h0⟩ | ⟨g, c, cur, rfl, _⟩
 ·exact ⟨none, 0, by rw [h0]⟩
 ·exact ⟨_, c, rfl⟩
end Go.Proofs.YtajopoddmfdejaaGreat

namespace Go.Proofs.YtajopoddmfdejaaGreat
open Go.RowKit Go.Sort Go.Shelf
set_option linter.unusedVariables false
def SemEq (a : List Ob) (fc : FileC) (t : LT) (b : List Ob) (fc' : FileC) (u : LT) : Prop := ∀ x, sem a fc t x = sem b fc' u x
theorem kidsE_none {a : List Ob} {t : LT} (h : kids a t = none) : kidsE a t = (5, []) := by cases t <;> simp [kids, kidsE] at h ⊢
theorem kidsE_some {a : List Ob} {t : LT} {ks : Kids} (h : kids a t = some ks) : kidsE a t = (0, ks) := by cases t <;> simp [kids, kidsE] at h ⊢ <;> exact h
section
variable {a b : List Ob} {fc fc' : FileC}
theorem SemEq.kind {t u : LT} (h : SemEq a fc t b fc' u) : t.kind = u.kind := nd_kind (sem_nd (h []))
theorem SemEq.kids2 {t u : LT} (h : SemEq a fc t b fc' u) : (kids a t = none /\ kids b u = none) \/ ∃ ks ku, kids a t = some ks /\ kids b u = some ku := by
 by_cases hk : t.kind = 2
 ·obtain ⟨ks, hks⟩ := kids_some (a := a) hk
  obtain ⟨ku, hku⟩ := kids_some (a := b) (h.kind ▸ hk)
  exact .inr ⟨ks, ku, hks, hku⟩
 ·exact .inl ⟨kids_none hk, kids_none (by rw [<- h.kind]; exact hk)⟩
theorem SemEq.pick {t u : LT} (h : SemEq a fc t b fc' u) {ks ku : Kids} (hk : kids a t = some ks) (hu : kids b u = some ku) (n : ByteArray) : (pickK ks n = none /\ pickK ku n = none) \/ ∃ c d, pickK ks n = some c /\ pickK ku n = some d /\ SemEq a fc c b fc' d := by
 have hn : ∀ r, ((pickK ks n).bind fun c => sem a fc c r) = ((pickK ku n).bind fun c => sem b fc' c r) := by
  intro r
  have := h (n :: r)
  rw [sem_cons, sem_cons, hk, hu, Option.bind_some, Option.bind_some] at this
  exact this
 cases h1 : pickK ks n with
 | none =>
  cases h2 : pickK ku n with
  | none => exact .inl ⟨rfl, rfl⟩
  | some d => have := hn []; rw [h1, h2] at this; simp [sem_nil] at this
 | some c =>
  cases h2 : pickK ku n with
  | none => have := hn []; rw [h1, h2] at this; simp [sem_nil] at this
  | some d => exact .inr ⟨c, d, rfl, rfl, fun x => by have := hn x; rw [h1, h2] at this; exact this⟩
theorem SemEq.length {t u : LT} (h : SemEq a fc t b fc' u) (hA : Sound a) (hB : Sound b) {n m : Nat} (ht : LTok a n t) (hu : LTok b m u) {ks ku : Kids} (hk : kids a t = some ks) (hku : kids b u = some ku) : ks.length = ku.length := by
 have := congrArg List.length (kid_sem2 h hk hku (ok_kids hA ht hk).1 (ok_kids hB hu hku).1).1
 simpa using this
theorem find_two {t u : LT} (h : SemEq a fc t b fc' u) : ∀ r, (findE a t r).1 = (findE b u r).1 /\ ((findE a t r).1 = 0 -> SemEq a fc (findE a t r).2 b fc' (findE b u r).2)
 | [] => ⟨rfl, fun _ => h⟩
 | n :: r => by
  obtain ⟨h1, h2⟩ := find_two h r
  rw [findE, findE]
  simp only
  by_cases h0 : (findE a t r).1 ≠ 0
  ·have h0' : (findE b u r).1 ≠ 0 := by rw [<- h1]; exact h0
   rw [if_pos h0, if_pos h0']
   exact ⟨h1, fun e => absurd e h0⟩
  ·have h0' : ¬ (findE b u r).1 ≠ 0 := by rw [<- h1]; exact h0
   rw [if_neg h0, if_neg h0']
   have hs := h2 (Decidable.not_not.1 h0)
   rcases hs.kids2 with ⟨k1, k2⟩ | ⟨ks, ku, k1, k2⟩
   ·rw [kidsE_none k1, kidsE_none k2]
    exact ⟨rfl, fun e => by simp at e⟩
   ·rw [kidsE_some k1, kidsE_some k2]
    simp only [ne_eq, not_true_eq_false, if_false]
    rcases hs.pick k1 k2 n with ⟨p1, p2⟩ | ⟨c, d, p1, p2, hs'⟩
    ·rw [p1, p2]
     exact ⟨rfl, fun e => by simp at e⟩
    ·rw [p1, p2]
     exact ⟨rfl, fun _ => hs'⟩
theorem find_at {t : LT} {r : List ByteArray} (h : (findE a t r).1 = 0) : t.at a r.reverse = some (findE a t r).2 := by
 rcases find_sem a (fun _ => ⟨#[]⟩) t r with ⟨_, h2⟩ | ⟨h1, _⟩
 ·exact h2
 ·exact absurd h h1
theorem look_two {t u : LT} (h : SemEq a fc t b fc' u) (r : List ByteArray) : ((lookE a t r).1 ≠ 0 /\ (lookE b u r).1 = (lookE a t r).1) \/
  ∃ d e ks ku, t.at a r.reverse = some d /\ u.at b r.reverse = some e /\ SemEq a fc d b fc' e /\ kids a d = some ks /\ kids b e = some ku /\ lookE a t r = (0, ks) /\ lookE b u r = (0, ku) := by
 obtain ⟨h1, h2⟩ := find_two h r
 unfold lookE
 simp only
 by_cases h0 : (findE a t r).1 ≠ 0
 ·have h0' : (findE b u r).1 ≠ 0 := by rw [<- h1]; exact h0
  rw [if_pos h0, if_pos h0']
  exact .inl ⟨h0, h1.symm⟩
 ·have h0' : ¬ (findE b u r).1 ≠ 0 := by rw [<- h1]; exact h0
  rw [if_neg h0, if_neg h0']
  have z := Decidable.not_not.1 h0
  have hs := h2 z
  rcases hs.kids2 with ⟨k1, k2⟩ | ⟨ks, ku, k1, k2⟩
  ·rw [kidsE_none k1, kidsE_none k2]
   exact .inl ⟨by simp, rfl⟩
  ·refine .inr ⟨_, _, ks, ku, find_at z, find_at (h1 ▸ z), hs, k1, k2, kidsE_some k1, kidsE_some k2⟩
theorem vacant_two {t u : LT} (h : SemEq a fc t b fc' u) (hA : Sound a) (hB : Sound b) {n m : Nat} (ht : LTok a n t) (hu : LTok b m u) : (vacantG a fsAll t).2 = (vacantG b fsAll u).2 := by
 unfold vacantG
 rw [h.kind]
 split
 ·rfl
 ·simp only [all_kids]
  rcases h.kids2 with ⟨k1, k2⟩ | ⟨ks, ku, k1, k2⟩
  ·rw [kidsE_none k1, kidsE_none k2]
  ·rw [kidsE_some k1, kidsE_some k2]
   simp only [h.length hA hB ht hu k1 k2]
theorem hgt_kids {a : List Ob} (hX : Exact a) {n : Nat} {t : LT} {ks : Kids} (hk : kids a t = some ks) (hkd : ∀ id, t = .dir id -> kindOf a id = 2) : hgt a (n + 1) t = ks.foldl (fun h x => max h (1 + hgt a n x.2)) 0 := by
 cases t with
 | file id => cases hk
 | held f => cases hk
 | own es => cases hk; rw [hgt]
 | dir id =>
  cases hk
  rw [hgt, hX.high id (hkd id rfl), List.foldl_map]
  unfold highs
  congr 1
  funext h e
  unfold kidOf ltOf
  split <;> rw [hgt]
theorem foldl_two {α β : Type} {f : Int -> α -> Int} {g : Int -> β -> Int} : ∀ {l : List α} {m : List β}, l.length = m.length -> (∀ k (h1 : k < l.length) (h2 : k < m.length) z, f z l[k] = g z m[k]) -> ∀ z, l.foldl f z = m.foldl g z
 | [], [], _, _, z => rfl
 | [], y :: m, h, _, _ => by cases h
 | x :: l, [], h, _, _ => by cases h
 | x :: l, y :: m, h, hf, z => by
  rw [List.foldl_cons, List.foldl_cons]
  have h0 := hf 0 (by simp) (by simp) z
  simp only [List.getElem_cons_zero] at h0
  rw [h0]
  exact foldl_two (by simpa using h) (fun k h1 h2 z => by have := hf (k + 1) (by simpa using h1) (by simpa using h2) z; simpa using this) _
theorem ok_dirkind {a : List Ob} {n : Nat} {t : LT} (h : LTok a n t) : ∀ id, t = .dir id -> kindOf a id = 2 := fun id e => by subst e; rw [LTok] at h; exact h.1
theorem hgt_file {a : List Ob} (hX : Exact a) {n m : Nat} {t : LT} (h : LTok a m t) (hk : t.kind ≠ 2) : hgt a n t = 0 := by
 cases t with
 | file id => rw [hgt]; rw [LTok] at h; exact hX.low id h
 | held f => rw [hgt]
 | own es => exact absurd rfl hk
 | dir id => exact absurd rfl hk
theorem hgt_two (hXa : Exact a) (hXb : Exact b) : ∀ (n m : Nat) (t u : LT), n <= m -> LTok a n t -> LTok b n u -> SemEq a fc t b fc' u -> hgt a m t = hgt b m u
 | 0, m, t, u, _, ht, hu, h => by
  by_cases hk : t.kind = 2
  ·obtain ⟨ks, k1⟩ := kids_some (a := a) hk
   obtain ⟨ku, k2⟩ := kids_some (a := b) (h.kind ▸ hk)
   have e1 : ks = [] := by
    cases ks with
    | nil => rfl
    | cons x r => obtain ⟨_, m, e, _⟩ := (ok_kids hXa.sound ht k1).2.2 x (List.mem_cons_self ..); omega
   have e2 : ku = [] := by
    cases ku with
    | nil => rfl
    | cons x r => obtain ⟨_, m, e, _⟩ := (ok_kids hXb.sound hu k2).2.2 x (List.mem_cons_self ..); omega
   subst e1
   subst e2
   cases m with
   | zero =>
    have z : ∀ {a : List Ob} {t : LT}, Exact a -> LTok a 0 t -> kids a t = some [] -> hgt a 0 t = 0 := by
     intro a t hX ht hk
     cases t with
     | file id => cases hk
     | held f => cases hk
     | own es => rw [hgt]
     | dir id =>
      rw [LTok] at ht
      rw [hgt, hX.high id ht.1]
      have : entsOf a id = [] := by
       have := Option.some.inj hk
       exact List.map_eq_nil_iff.1 this
      rw [this]; rfl
    rw [z hXa ht k1, z hXb hu k2]
   | succ m => rw [hgt_kids hXa k1 (ok_dirkind ht), hgt_kids hXb k2 (ok_dirkind hu)]; rfl
  ·rw [hgt_file hXa ht hk, hgt_file hXb hu (by rw [<- h.kind]; exact hk)]
 | n + 1, m, t, u, hm, ht, hu, h => by
  by_cases hk : t.kind = 2
  ·obtain ⟨ks, k1⟩ := kids_some (a := a) hk
   obtain ⟨ku, k2⟩ := kids_some (a := b) (h.kind ▸ hk)
   obtain ⟨rk, _, hk2⟩ := ok_kids hXa.sound ht k1
   obtain ⟨ru, _, hu2⟩ := ok_kids hXb.sound hu k2
   obtain ⟨hn, hs⟩ := kid_sem2 h k1 k2 rk ru
   have hlen : ks.length = ku.length := by have := congrArg List.length hn; simpa using this
   obtain ⟨m', rfl⟩ : ∃ m', m = m' + 1 := ⟨m - 1, by omega⟩
   rw [hgt_kids hXa k1 (ok_dirkind ht), hgt_kids hXb k2 (ok_dirkind hu)]
   refine foldl_two hlen (fun k h1 h2 z => ?_) 0
   obtain ⟨m1, e1, o1⟩ := (hk2 _ (List.getElem_mem h1)).2
   obtain ⟨m2, e2, o2⟩ := (hu2 _ (List.getElem_mem h2)).2
   have e1' : m1 = n := by omega
   have e2' : m2 = n := by omega
   subst e1'
   subst e2'
   rw [hgt_two hXa hXb m2 m' _ _ (by omega) o1 o2 (hs k h1 h2)]
  ·rw [hgt_file hXa ht hk, hgt_file hXb hu (by rw [<- h.kind]; exact hk)]
end
end Go.Proofs.YtajopoddmfdejaaGreat

namespace Go.Proofs.YtajopoddmfdejaaGreat
open Go.RowKit Go.Sort Go.Shelf
set_option linter.unusedVariables false
def stepS (k : Int) (p p' : List ByteArray) (d : ByteArray) (S : List ByteArray -> Option Nd) (x : List ByteArray) : Option Nd :=
 if k < 3 then (if x = p then some (.file d) else if p <+: x then none else S x)
 else if k = 3 then (if x = p then some .dir else if p <+: x then none else S x)
 else if k = 4 then (if p <+: x then none else S x)
 else if p = p' then S x else if p' <+: x then S (p ++ x.drop p'.length) else if p <+: x then none else S x
theorem fair_nobrk {β : Type} {fs fs' : FS} {x all none : β} (h : Fair fs fs' x all none) (hb : fs.brk = false) : x = all := by
 rcases h with ⟨_, h⟩ | ⟨h, _⟩
 ·exact h
 ·rw [h.1] at hb; cases hb
section
variable {a : List Ob} {fc : FileC}
theorem sem_leaf (f : Nat) (x : List ByteArray) : sem a fc (.held f) x = if x = [] then some (.file (fc f)) else none := by
 cases x with
 | nil => rw [sem_nil]; rfl
 | cons n r => rw [sem_cons, if_neg (by simp)]; rfl
theorem sem_empty (x : List ByteArray) : sem a fc (.own []) x = if x = [] then some .dir else none := by
 cases x with
 | nil => rw [sem_nil]; rfl
 | cons n r => rw [sem_cons, if_neg (by simp)]; rfl
theorem look_not14 {t : LT} {r : List ByteArray} : (lookE a t r).1 ≠ 14 := by
 unfold lookE
 simp only
 rcases find_sem a (fun _ => ⟨#[]⟩) t r with ⟨h, _⟩ | ⟨h, _, h2⟩
 ·rw [if_neg (by simp [h])]; exact kidsE_not14 _ _
 ·rw [if_pos h]
  show (findE a t r).1 ≠ 14
  omega
theorem look_atE {t : LT} {r : List ByteArray} (h : (lookE a t r).1 = 0) : ∃ d, t.at a r.reverse = some d /\ kids a d = some (lookE a t r).2 := by
 have := look_at (objs := a) (t := t) (fs := fsAll) (r := r) (by rw [all_look]; exact h)
 rw [all_look] at this
 exact this
theorem put_sem {t d c : LT} {q : List ByteArray} {n : ByteArray} {ks : Kids} (ha : t.at a q = some d) (hk : kids a d = some ks) (hr : RisingK ks) (x : List ByteArray) :
  sem a fc (modG a (fun ks => putK ks n c) q t) x = if q ++ [n] <+: x then sem a fc c (x.drop (q ++ [n]).length) else sem a fc t x := by
 obtain ⟨p1, p2⟩ := sem_put (fc := fc) (n := n) hr ha hk c
 by_cases hx : (q ++ [n]) <+: x
 ·rw [if_pos hx]
  obtain ⟨r, rfl⟩ := hx
  rw [List.drop_left, show q ++ [n] ++ r = q ++ n :: r by simp, p1]
 ·rw [if_neg hx, p2 x hx]
theorem drop_nil_iff {p x : List ByteArray} (h : p <+: x) : x.drop p.length = [] ↔ x = p := by
 obtain ⟨r, rfl⟩ := h
 rw [List.drop_left]
 constructor
 ·rintro rfl; simp
 ·intro e; simpa using e
theorem code_mkdir {t : LT} (hS : Sound a) (hok : LTok a 5 t) (n : ByteArray) (r : List ByteArray) {er : Int} {t' : LT} (h : (mkdirR a t fsAll (n :: r)).2 = (er, t')) :
  er ≠ 14 /\ (er ≠ 0 -> t' = t) /\ (er = 0 -> sem a fc t (r.reverse ++ [n]) = none /\ ∀ x, sem a fc t' x = if x = r.reverse ++ [n] then some .dir else if r.reverse ++ [n] <+: x then none else sem a fc t x) := by
 unfold mkdirR at h
 simp only [all_look] at h
 split at h
 ·rename_i h0
  cases h
  exact ⟨look_not14, fun _ => rfl, fun e => absurd e h0⟩
 ·rename_i h0
  have z := Decidable.not_not.1 h0
  obtain ⟨d, ha, hk⟩ := look_atE z
  have hr := (ok_kids hS (ok_at hS _ hok ha).2.1 hk).1
  split at h
  ·cases h; exact ⟨by decide, fun _ => rfl, fun e => by cases e⟩
  ·rename_i hp
   split at h
   ·cases h; exact ⟨by decide, fun _ => rfl, fun e => by cases e⟩
   ·cases h
    refine ⟨by decide, fun e => absurd rfl e, fun _ => ⟨?_, fun x => ?_⟩⟩
    ·rw [sem_kid ha hk]
     cases hpk : pickK (lookE a t r).2 n with
     | none => rfl
     | some c => rw [hpk] at hp; exact absurd rfl hp
    ·rw [put_sem ha hk hr, sem_empty]
     by_cases hx : r.reverse ++ [n] <+: x
     ·rw [if_pos hx]
      by_cases e : x = r.reverse ++ [n]
      ·rw [if_pos ((drop_nil_iff hx).2 e), if_pos e]
      ·rw [if_neg (fun h => e ((drop_nil_iff hx).1 h)), if_neg e, if_pos hx]
     ·rw [if_neg hx, if_neg (fun e => hx (by rw [e]; exact List.prefix_refl _)), if_neg hx]
theorem find_way2 {t : LT} {n : ByteArray} {r : List ByteArray} (h : (findE a t (n :: r)).1 = 0) : ∃ d ks, t.at a r.reverse = some d /\ kids a d = some ks /\ pickK ks n = some (findE a t (n :: r)).2 /\ t.at a (r.reverse ++ [n]) = some (findE a t (n :: r)).2 := by
 have := find_at h
 rw [List.reverse_cons] at this
 obtain ⟨d, ks, h1, h2, h3⟩ := at_snoc this
 exact ⟨d, ks, h1, h2, h3, this⟩
theorem find_not14 {t : LT} {r : List ByteArray} : (findE a t r).1 ≠ 14 := by
 rcases find_sem a (fun _ => ⟨#[]⟩) t r with ⟨h, _⟩ | ⟨h, _, h2⟩ <;> omega
theorem vacant_code (c : LT) : (vacantG a fsAll c).2 = 0 \/ (vacantG a fsAll c).2 = 5 \/ (vacantG a fsAll c).2 = 8 := by
 unfold vacantG
 simp only [all_kids]
 split
 ·exact .inl rfl
 ·split
  ·exact .inr (.inr rfl)
  ·show (kidsE a c).1 = 0 \/ (kidsE a c).1 = 5 \/ (kidsE a c).1 = 8
   cases c <;> simp [kidsE]
theorem room_code (b : Bool) (ks : Kids) (n : ByteArray) (c : LT) : (roomG a fsAll b ks n c).2 ≠ 14 := by
 unfold roomG
 cases pickK ks n with
 | none => simp only; split <;> simp
 | some e =>
  simp only
  unfold yieldsG
  split
  ·simp
  ·split
   ·simp
   ·have := vacant_code (a := a) e
    omega
theorem code_remove {t : LT} (hS : Sound a) (hok : LTok a 5 t) (n : ByteArray) (r : List ByteArray) {er : Int} {t' : LT} (h : (removeR a t fsAll (n :: r)).2 = (er, t')) :
  er ≠ 14 /\ (er ≠ 0 -> t' = t) /\ (er = 0 -> sem a fc t (r.reverse ++ [n]) ≠ none /\ ∀ x, sem a fc t' x = if r.reverse ++ [n] <+: x then none else sem a fc t x) := by
 unfold removeR at h
 simp only [all_find] at h
 split at h
 ·rename_i h0
  cases h
  exact ⟨find_not14, fun _ => rfl, fun e => absurd e h0⟩
 ·rename_i h0
  have z := Decidable.not_not.1 h0
  obtain ⟨d, ks, ha, hk, hp, hat⟩ := find_way2 z
  have hr := (ok_kids hS (ok_at hS _ hok ha).2.1 hk).1
  split at h
  ·rename_i hv
   cases h
   have := vacant_code (a := a) (findE a t (n :: r)).2
   exact ⟨by omega, fun _ => rfl, fun e => absurd e hv⟩
  ·cases h
   obtain ⟨s1, s2⟩ := sem_drop (fc := fc) hr (by rw [<- pick_there hr, hp]; rfl) ha hk
   refine ⟨by decide, fun e => absurd rfl e, fun _ => ⟨by unfold sem; rw [hat]; simp, fun x => ?_⟩⟩
   by_cases hx : r.reverse ++ [n] <+: x
   ·rw [if_pos hx]
    obtain ⟨y, rfl⟩ := hx
    rw [show r.reverse ++ [n] ++ y = r.reverse ++ n :: y by simp, s1]
   ·rw [if_neg hx, s2 x hx]
theorem code_rename {t : LT} (hS : Sound a) (hok : LTok a 5 t) (n m : ByteArray) (r q : List ByteArray) {er : Int} {t' : LT} (h : (renameR a t fsAll (n :: r) (m :: q)).2 = (er, t')) :
  er ≠ 14 /\ (er ≠ 0 -> t' = t) /\ (er = 0 -> sem a fc t (r.reverse ++ [n]) ≠ none /\ (r.reverse ++ [n] ≠ q.reverse ++ [m] -> ¬ r.reverse ++ [n] <+: q.reverse ++ [m]) /\ ∀ x, sem a fc t' x = if r.reverse ++ [n] = q.reverse ++ [m] then sem a fc t x else if q.reverse ++ [m] <+: x then sem a fc t (r.reverse ++ [n] ++ x.drop (q.reverse ++ [m]).length) else if r.reverse ++ [n] <+: x then none else sem a fc t x) := by
 have hinj : n :: r = m :: q ↔ r.reverse ++ [n] = q.reverse ++ [m] := by
  rw [<- List.reverse_cons, <- List.reverse_cons]
  exact ⟨fun e => by rw [e], fun e => List.reverse_inj.1 e⟩
 unfold renameR at h
 simp only [all_find, all_look, List.reverse_cons] at h
 split at h
 ·rename_i h0
  cases h
  exact ⟨find_not14, fun _ => rfl, fun e => absurd e h0⟩
 ·rename_i h0
  have z := Decidable.not_not.1 h0
  obtain ⟨d, ks, ha, hk, hp, hat⟩ := find_way2 z
  have hr := (ok_kids hS (ok_at hS _ hok ha).2.1 hk).1
  have hne : sem a fc t (r.reverse ++ [n]) ≠ none := by unfold sem; rw [hat]; simp
  split at h
  ·cases h; exact ⟨by decide, fun _ => rfl, fun e => by cases e⟩
  ·rename_i hpre
   split at h
   ·rename_i hl
    cases h
    refine ⟨look_not14, fun _ => rfl, fun e => ?_⟩
    rcases hl with hl | hl
    ·exact absurd e hl
    ·exact ⟨hne, fun h => absurd (hinj.1 hl) h, fun x => by rw [if_pos (hinj.1 hl)]⟩
   ·rename_i hl
    have hl0 : (lookE a t q).1 = 0 := Decidable.not_not.1 (fun h => hl (.inl h))
    have hle : ¬ n :: r = m :: q := fun h => hl (.inr h)
    have hnp : ¬ r.reverse ++ [n] <+: q.reverse ++ [m] := fun h => hpre ⟨h, hle⟩
    split at h
    ·rename_i hv
     cases h
     exact ⟨room_code _ _ _ _, fun _ => rfl, fun e => absurd e hv⟩
    ·split at h
     ·cases h; exact ⟨by decide, fun _ => rfl, fun e => by cases e⟩
     ·cases h
      obtain ⟨dt, hat', hkt⟩ := look_atE hl0
      refine ⟨by decide, fun e => absurd rfl e, fun _ => ⟨hne, fun _ => hnp, fun x => ?_⟩⟩
      rw [if_neg (fun e => hle (hinj.2 e))]
      exact sem_rename (fc := fc) hS hok ha hk hp hat' hkt hnp x
end
end Go.Proofs.YtajopoddmfdejaaGreat

namespace Go.Proofs.YtajopoddmfdejaaGreat
open Go.RowKit Go.Sort Go.Shelf
set_option linter.unusedVariables false
section
variable {a : List Ob}
theorem code_put {g g' : WG} {t t' : LT} (hS : Sound a) (hok : LTok a 5 t) (hheld : ∀ x f, t.at a x = some (.held f) -> ∃ y, g.fl f = some y) (hinj : HeldInj a t) (hbr : g.fs.brk = false) {n : ByteArray} {r : List ByteArray} {d : ByteArray} {er : Int} (h : PutTo a g t n r d er g' t') :
  er ≠ 14 /\ (er ≠ 0 -> t' = t /\ g'.fl = g.fl) /\ (er = 0 -> ∀ x, sem a (fcOf a g'.fl) t' x = if x = r.reverse ++ [n] then some (.file d) else if r.reverse ++ [n] <+: x then none else sem a (fcOf a g.fl) t x) := by
 obtain ⟨_, _, h⟩ := h
 rw [look_nobrk hbr] at h
 rcases h with ⟨h0, he, ht, hf⟩ | ⟨h0, h1, he, ht, hf⟩ | ⟨h0, h1, he, f, hf, hx, hh⟩
 ·rw [he]; exact ⟨look_not14, fun _ => ⟨ht, hf⟩, fun e => absurd e h0⟩
 ·rw [he]
  refine ⟨?_, fun _ => ⟨ht, hf⟩, fun e => absurd e h1⟩
  unfold openE
  cases pickK (lookE a t r).2 n with
  | none => simp only; split <;> (try split) <;> simp
  | some c => simp only; split <;> (try split) <;> simp
 ·subst he
  refine ⟨by decide, fun e => absurd rfl e, fun _ x => ?_⟩
  obtain ⟨dd, had, hkd⟩ := look_atE h0
  have hr := (ok_kids hS (ok_at hS _ hok had).2.1 hkd).1
  have hff : fcOf a g'.fl f = d := by unfold fcOf; rw [hf]; simp
  rcases hh with ⟨hp, rfl⟩ | ⟨_, hfn, rfl⟩
  ·have hat : t'.at a (r.reverse ++ [n]) = some (.held f) := by rw [at_kid had hkd, hp, Option.bind_some, at_nil]
   by_cases e : x = r.reverse ++ [n]
   ·rw [if_pos e, e]
    unfold sem
    rw [hat, Option.map_some, nd, hff]
   ·rw [if_neg e]
    by_cases hx2 : r.reverse ++ [n] <+: x
    ·rw [if_pos hx2]
     obtain ⟨y, rfl⟩ := hx2
     cases y with
     | nil => exact absurd (by simp) e
     | cons z y =>
      unfold sem
      rw [at_append, hat, Option.bind_some, at_cons]; rfl
    ·rw [if_neg hx2]
     unfold sem
     cases hc : t'.at a x with
     | none => rfl
     | some c =>
      cases c with
      | file i => rfl
      | dir i => rfl
      | own es => rfl
      | held f' =>
       have hne : f' ≠ f := fun e' => by
        subst e'
        exact e (hinj x _ f' hc hat)
       simp only [Option.map_some, nd]
       unfold fcOf
       rw [hx f' hne]
  ·have hfc : ∀ y f', t.at a y = some (.held f') -> fcOf a g'.fl f' = fcOf a g.fl f' := fun y f' hy => by
    obtain ⟨z, hz⟩ := hheld y f' hy
    have hne : f' ≠ f := fun e' => by rw [e', hfn] at hz; cases hz
    unfold fcOf
    rw [hx f' hne]
   rw [put_sem had hkd hr, sem_leaf, hff, sem_fc hfc x]
   by_cases hx2 : r.reverse ++ [n] <+: x
   ·rw [if_pos hx2]
    by_cases e : x = r.reverse ++ [n]
    ·rw [if_pos ((drop_nil_iff hx2).2 e), if_pos e]
    ·rw [if_neg (fun h => e ((drop_nil_iff hx2).1 h)), if_neg e, if_pos hx2]
   ·rw [if_neg hx2, if_neg (fun e => hx2 (by rw [e]; exact List.prefix_refl _)), if_neg hx2]
theorem step_sem {g g' : WG} {t t' : LT} (hS : Sound a) (hok : LTok a 5 t) (hheld : ∀ x f, t.at a x = some (.held f) -> ∃ y, g.fl f = some y) (hinj : HeldInj a t) (hbr : g.fs.brk = false) {k : Int} {na nb : ByteArray} {ra rb : List ByteArray} {d : ByteArray} {er : Int} (h : StepTo a g t k na nb ra rb d er g' t') :
  er ≠ 14 /\ (er ≠ 0 -> t' = t /\ g'.fl = g.fl) /\ (er = 0 -> (∀ x, sem a (fcOf a g'.fl) t' x = stepS k (ra.reverse ++ [na]) (rb.reverse ++ [nb]) d (sem a (fcOf a g.fl) t) x) /\ (k = 3 -> sem a (fcOf a g.fl) t (ra.reverse ++ [na]) = none) /\ (k = 4 -> sem a (fcOf a g.fl) t (ra.reverse ++ [na]) ≠ none) /\ (k = 5 -> sem a (fcOf a g.fl) t (ra.reverse ++ [na]) ≠ none /\ (ra.reverse ++ [na] ≠ rb.reverse ++ [nb] -> ¬ ra.reverse ++ [na] <+: rb.reverse ++ [nb]))) := by
 rcases h with ⟨hk, h⟩ | ⟨hk, he, ht, _, hf, _⟩ | ⟨hk, he, ht, _, hf, _⟩ | ⟨hk, he, ht, _, hf, _⟩
 ·obtain ⟨h1, h2, h3⟩ := code_put hS hok hheld hinj hbr h
  refine ⟨h1, h2, fun e => ⟨fun x => ?_, fun e => by omega, fun e => by omega, fun e => by omega⟩⟩
  rw [h3 e x]
  unfold stepS
  rw [if_pos hk]
 ·have hm := fair_nobrk (fair_mkdir a t g.fs (na :: ra)) hbr
  obtain ⟨h1, h2, h3⟩ := code_mkdir (fc := fcOf a g.fl) hS hok na ra (er := er) (t' := t') (by rw [<- hm, he, ht])
  refine ⟨h1, fun e => ⟨h2 e, hf⟩, fun e => ⟨fun x => ?_, fun _ => (h3 e).1, fun e => by omega, fun e => by omega⟩⟩
  rw [hf, (h3 e).2 x]
  have e1 : ¬ k < 3 := by omega
  unfold stepS
  rw [if_neg e1, if_pos hk]
 ·have hm := fair_nobrk (fair_remove a t g.fs (na :: ra)) hbr
  obtain ⟨h1, h2, h3⟩ := code_remove (fc := fcOf a g.fl) hS hok na ra (er := er) (t' := t') (by rw [<- hm, he, ht])
  refine ⟨h1, fun e => ⟨h2 e, hf⟩, fun e => ⟨fun x => ?_, fun e => by omega, fun _ => (h3 e).1, fun e => by omega⟩⟩
  rw [hf, (h3 e).2 x]
  have e1 : ¬ k < 3 := by omega
  have e2 : ¬ k = 3 := by omega
  unfold stepS
  rw [if_neg e1, if_neg e2, if_pos hk]
 ·have hm := fair_nobrk (fair_rename a t g.fs (na :: ra) (nb :: rb)) hbr
  obtain ⟨h1, h2, h3⟩ := code_rename (fc := fcOf a g.fl) hS hok na nb ra rb (er := er) (t' := t') (by rw [<- hm, he, ht])
  refine ⟨h1, fun e => ⟨h2 e, hf⟩, fun e => ⟨fun x => ?_, fun e => by omega, fun e => by omega, fun _ => ⟨(h3 e).1, (h3 e).2.1⟩⟩⟩
  rw [hf, (h3 e).2.2 x]
  have e1 : ¬ k < 3 := by omega
  have e2 : ¬ k = 3 := by omega
  have e3 : ¬ k = 4 := by omega
  unfold stepS
  rw [if_neg e1, if_neg e2, if_neg e3]
theorem step_inj {g g' : WG} {t t' : LT} (hS : Sound a) (hok : LTok a 5 t) (hheld : ∀ x f, t.at a x = some (.held f) -> ∃ y, g.fl f = some y) (hinj : HeldInj a t) {k : Int} {na nb : ByteArray} {ra rb : List ByteArray} {d : ByteArray} {er : Int} (hra : ra.length <= 4) (hrb : rb.length <= 4) (h : StepTo a g t k na nb ra rb d er g' t') : HeldInj a t' /\ big a 5 t' <= big a 5 t + 1 := by
 rcases h with ⟨_, _, _, ⟨_, _, h2, h3⟩ | ⟨_, _, _, h2, h3⟩ | ⟨h0, _, _, f, hf, hx, hh⟩⟩ | ⟨_, _, h1, _, h3, _⟩ | ⟨_, _, h1, _, h3, _⟩ | ⟨_, _, h1, _, h3, _⟩
 ·rw [h2]; exact ⟨hinj, by omega⟩
 ·rw [h2]; exact ⟨hinj, by omega⟩
 ·obtain ⟨dd, had, hkd⟩ := look_at h0
  have hr := (ok_kids hS (ok_at hS _ hok had).2.1 hkd).1
  rcases hh with ⟨hp, rfl⟩ | ⟨_, hfn, rfl⟩
  ·exact ⟨hinj, by omega⟩
  ·have hheld0 : ∀ r b, (LT.held f).at a r = some (.held b) -> r = [] /\ b = f := by
    intro r b hr
    cases r with
    | nil => rw [at_nil] at hr; cases hr; exact ⟨rfl, rfl⟩
    | cons m r => rw [at_cons] at hr; simp [kids] at hr
   refine ⟨inj_put hinj hr had hkd (fun x y b h1 h2 => by rw [(hheld0 x b h1).1, (hheld0 y b h2).1]) (fun r b y h1 h2 => ?_), ?_⟩
   ·obtain ⟨_, rfl⟩ := hheld0 r b h1
    obtain ⟨z, hz⟩ := hheld y b h2
    rw [hfn] at hz; cases hz
   ·have hb1 : ∀ k, big a k (.held f) = 1 := by intro k; cases k <;> (rw [big]; try rfl)
    have := big_put hS (c := .held f) hok had hkd (by simpa using hra) na
    rw [hb1] at this
    omega
 ·rw [h1]; exact ⟨inj_mkdir hS hok hinj _ _ _, big_mkdir hS hok g.fs (n := na) hra⟩
 ·rw [h1]; exact ⟨inj_remove hS hok hinj _ _ _, by have := big_remove hS hok g.fs (n := na) (r := ra); omega⟩
 ·rw [h1]; exact ⟨inj_rename hS hok hinj _ _ _ _ _, by have := big_rename hS hok g.fs (n := na) (m := nb) (r := ra) hrb; omega⟩
end
section
variable {a b : List Ob} {fc fc' : FileC}
theorem mkdir_two {t u : LT} (h : SemEq a fc t b fc' u) (hA : Sound a) (hB : Sound b) (ht : LTok a 5 t) (hu : LTok b 5 u) (n : ByteArray) (r : List ByteArray) : (mkdirR a t fsAll (n :: r)).2.1 = (mkdirR b u fsAll (n :: r)).2.1 := by
 unfold mkdirR
 simp only [all_look]
 rcases look_two h r with ⟨h1, h2⟩ | ⟨d, e, ks, ku, h1, h2, h3, h4, h5, h6, h7⟩
 ·rw [if_pos h1, if_pos (by rw [h2]; exact h1)]; exact h2.symm
 ·rw [h6, h7]
  simp only [ne_eq, not_true_eq_false, if_false]
  rcases h3.pick h4 h5 n with ⟨p1, p2⟩ | ⟨c, c', p1, p2, _⟩
  ·rw [p1, p2, h3.length hA hB (ok_at hA _ ht h1).2.1 (ok_at hB _ hu h2).2.1 h4 h5]
   split <;> (try split) <;> rfl
  ·rw [p1, p2]; rfl
theorem open_two {t u : LT} (h : SemEq a fc t b fc' u) (hA : Sound a) (hB : Sound b) (ht : LTok a 5 t) (hu : LTok b 5 u) (n : ByteArray) (r : List ByteArray) : (lookE a t r).1 = (lookE b u r).1 /\ ((lookE a t r).1 = 0 -> openE (lookE a t r).2 n false true = openE (lookE b u r).2 n false true) := by
 rcases look_two h r with ⟨h1, h2⟩ | ⟨d, e, ks, ku, h1, h2, h3, h4, h5, h6, h7⟩
 ·exact ⟨h2.symm, fun e => absurd e h1⟩
 ·rw [h6, h7]
  refine ⟨rfl, fun _ => ?_⟩
  unfold openE
  rcases h3.pick h4 h5 n with ⟨p1, p2⟩ | ⟨c, c', p1, p2, hs⟩
  ·simp only [p1, p2, h3.length hA hB (ok_at hA _ ht h1).2.1 (ok_at hB _ hu h2).2.1 h4 h5]
  ·simp only [p1, p2, hs.kind]
theorem remove_two {t u : LT} (h : SemEq a fc t b fc' u) (hA : Sound a) (hB : Sound b) (ht : LTok a 5 t) (hu : LTok b 5 u) (n : ByteArray) (r : List ByteArray) : (removeR a t fsAll (n :: r)).2.1 = (removeR b u fsAll (n :: r)).2.1 := by
 unfold removeR
 simp only [all_find]
 obtain ⟨h1, h2⟩ := find_two h (n :: r)
 by_cases h0 : (findE a t (n :: r)).1 ≠ 0
 ·rw [if_pos h0, if_pos (by rw [<- h1]; exact h0)]; exact h1
 ·have h0' : ¬ (findE b u (n :: r)).1 ≠ 0 := by rw [<- h1]; exact h0
  rw [if_neg h0, if_neg h0']
  have z := Decidable.not_not.1 h0
  have hv := vacant_two (h2 z) hA hB (ok_at hA _ ht (find_at z)).2.1 (ok_at hB _ hu (find_at (h1 ▸ z))).2.1
  rw [hv]
  split <;> rfl
theorem rename_two {t u : LT} (h : SemEq a fc t b fc' u) (hXa : Exact a) (hXb : Exact b) (ht : LTok a 5 t) (hu : LTok b 5 u) (n m : ByteArray) (r q : List ByteArray) : (renameR a t fsAll (n :: r) (m :: q)).2.1 = (renameR b u fsAll (n :: r) (m :: q)).2.1 := by
 have hA := hXa.sound
 have hB := hXb.sound
 unfold renameR
 simp only [all_find, all_look]
 obtain ⟨h1, h2⟩ := find_two h (n :: r)
 by_cases h0 : (findE a t (n :: r)).1 ≠ 0
 ·rw [if_pos h0, if_pos (by rw [<- h1]; exact h0)]; exact h1
 ·have h0' : ¬ (findE b u (n :: r)).1 ≠ 0 := by rw [<- h1]; exact h0
  rw [if_neg h0, if_neg h0']
  have z := Decidable.not_not.1 h0
  have hs := h2 z
  have oa := (ok_at hA _ ht (find_at z)).2.1
  have ob := (ok_at hB _ hu (find_at (h1 ▸ z))).2.1
  have hg := hgt_two hXa hXb _ 5 _ _ (by omega) oa ob hs
  split
  ·rfl
  ·rcases look_two h q with ⟨l1, l2⟩ | ⟨d, e, ks, ku, l1, l2, l3, l4, l5, l6, l7⟩
   ·rw [if_pos (.inl l1), if_pos (.inl (by rw [l2]; exact l1))]; exact l2.symm
   ·rw [l6, l7]
    simp only [ne_eq, not_true_eq_false, false_or]
    split
    ·rfl
    ·have hroom : (roomG a fsAll (decide (r = q)) ks m (findE a t (n :: r)).2).2 = (roomG b fsAll (decide (r = q)) ku m (findE b u (n :: r)).2).2 := by
      unfold roomG
      rcases l3.pick l4 l5 m with ⟨p1, p2⟩ | ⟨c, c', p1, p2, hs'⟩
      ·rw [p1, p2]
       simp only [l3.length hA hB (ok_at hA _ ht l1).2.1 (ok_at hB _ hu l2).2.1 l4 l5]
      ·rw [p1, p2]
       simp only
       unfold yieldsG
       have hca : t.at a (q.reverse ++ [m]) = some c := by rw [at_kid l1 l4, p1, Option.bind_some, at_nil]
       have hcb : u.at b (q.reverse ++ [m]) = some c' := by rw [at_kid l2 l5, p2, Option.bind_some, at_nil]
       rw [hs'.kind, hs.kind]
       split
       ·rfl
       ·split
        ·rfl
        ·exact vacant_two hs' hA hB (ok_at hA _ ht hca).2.1 (ok_at hB _ hu hcb).2.1
     rw [hroom, hg]
     split
     ·rfl
     ·split <;> rfl
theorem step_two {g g' h h' : WG} {t t' u u' : LT} (hXa : Exact a) (hXb : Exact b) (ht : LTok a 5 t) (hu : LTok b 5 u) (hht : ∀ x f, t.at a x = some (.held f) -> ∃ y, g.fl f = some y) (hhu : ∀ x f, u.at b x = some (.held f) -> ∃ y, h.fl f = some y) (hit : HeldInj a t) (hiu : HeldInj b u) (hbt : g.fs.brk = false) (hbu : h.fs.brk = false)
  (hs : SemEq a (fcOf a g.fl) t b (fcOf b h.fl) u) {k : Int} {na nb : ByteArray} {ra rb : List ByteArray} {d : ByteArray} {er er' : Int} (h1 : StepTo a g t k na nb ra rb d er g' t') (h2 : StepTo b h u k na nb ra rb d er' h' u') : er = er' /\ SemEq a (fcOf a g'.fl) t' b (fcOf b h'.fl) u' := by
 have hA := hXa.sound
 have hB := hXb.sound
 obtain ⟨_, a2, a3⟩ := step_sem hA ht hht hit hbt h1
 obtain ⟨_, b2, b3⟩ := step_sem hB hu hhu hiu hbu h2
 have hcode : er = er' := by
  rcases h1 with ⟨k1, _, _, h1⟩ | ⟨k1, e1, _⟩ | ⟨k1, e1, _⟩ | ⟨k1, e1, _⟩ <;> rcases h2 with ⟨k2, _, _, h2⟩ | ⟨k2, e2, _⟩ | ⟨k2, e2, _⟩ | ⟨k2, e2, _⟩ <;> try omega
  ·rw [look_nobrk hbt] at h1
   rw [look_nobrk hbu] at h2
   obtain ⟨o1, o2⟩ := open_two hs hA hB ht hu na ra
   rcases h1 with ⟨x0, x1, _⟩ | ⟨x0, x1, x2, _⟩ | ⟨x0, x1, x2, _⟩ <;> rcases h2 with ⟨y0, y1, _⟩ | ⟨y0, y1, y2, _⟩ | ⟨y0, y1, y2, _⟩
   ·rw [x1, y1]; exact o1
   ·exact absurd (o1.trans y0) x0
   ·exact absurd (o1.trans y0) x0
   ·exact absurd (o1.symm.trans x0) y0
   ·rw [x2, y2]; exact o2 x0
   ·exact absurd ((o2 x0).trans y1) x1
   ·exact absurd (o1.symm.trans x0) y0
   ·exact absurd ((o2 x0).symm.trans x1) y1
   ·rw [x2, y2]
  ·rw [e1, e2, fair_nobrk (fair_mkdir a t g.fs (na :: ra)) hbt, fair_nobrk (fair_mkdir b u h.fs (na :: ra)) hbu]
   exact mkdir_two hs hA hB ht hu na ra
  ·rw [e1, e2, fair_nobrk (fair_remove a t g.fs (na :: ra)) hbt, fair_nobrk (fair_remove b u h.fs (na :: ra)) hbu]
   exact remove_two hs hA hB ht hu na ra
  ·rw [e1, e2, fair_nobrk (fair_rename a t g.fs (na :: ra) (nb :: rb)) hbt, fair_nobrk (fair_rename b u h.fs (na :: ra) (nb :: rb)) hbu]
   exact rename_two hs hXa hXb ht hu na nb ra rb
 refine ⟨hcode, fun x => ?_⟩
 by_cases e : er = 0
 ·rw [(a3 e).1 x, (b3 (hcode ▸ e)).1 x]
  have : sem a (fcOf a g.fl) t = sem b (fcOf b h.fl) u := funext hs
  rw [this]
 ·obtain ⟨q1, q2⟩ := a2 e
  obtain ⟨r1, r2⟩ := b2 (hcode ▸ e)
  rw [q1, q2, r1, r2]
  exact hs x
end
end Go.Proofs.YtajopoddmfdejaaGreat

namespace Go.Proofs.YtajopoddmfdejaaGreat
open Go.RowKit Go.Sort Go.Shelf
set_option linter.unusedVariables false
abbrev Slot := Nat × WB × WG × LT
structure WsAt (tg : Tags) (w : World) (p : Nat) (objs : List Ob) (lim : Nat) (x : Slot) : Prop where
 two : 2 <= x.1
 wp : WPart tg w x.1 p x.2.1 objs x.2.2.1 lim
 flat : Flat objs x.2.2.2 x.2.2.1.ft
 ok : LTok objs 5 x.2.2.2
 fl : FlOk objs x.2.2.1.fl
 op : ∀ k, x.2.2.1.op k = none
 inj : HeldInj objs x.2.2.2
def RowsT (tg : Tags) (w : World) (rows : List (Value × List Thing8)) : Prop := ∀ r ∈ rows, w.ownsRow 0 40 3 r.1 r.2.length (flatT r.2) /\ ∀ b, r.1.ownBlock = some b -> tg b = (0, 0)
def setGot (g : WG) (got : List Int) : WG := { g with fs := { g.fs with got := got, brk := false } }
def Many (W wr : World) (s p : Nat) (objs : List Ob) (lim : Nat) (ws : List Slot) (rows : List (Value × List Thing8)) : Prop :=
 ∃ tg got, Old W wr tg /\ SInv tg wr s p objs got false lim /\ (∀ x ∈ ws, WsAt tg wr p objs lim x) /\ (ws.map (·.1)).Nodup /\ RowsT tg wr rows
theorem RowsT.any {P : Nat × Nat -> Prop} {tg tg' : Tags} {w w' : World} {rows : List (Value × List Thing8)} (h : RowsT tg w rows) (hP : ¬ P (0, 0)) (m : Moves P tg tg' w w') : RowsT tg' w' rows := by
 intro r hr
 obtain ⟨h1, h2⟩ := h r hr
 have hk : ∀ b, r.1.ownBlock = some b -> w'.heap[b]? = w.heap[b]? /\ tg' b = (0, 0) := fun b hb => by
  have hlt := ownsRow_lt h1 hb
  exact ⟨m.block b hlt (by rw [h2 b hb]; exact hP), (m.tags b hlt).trans (h2 b hb)⟩
 exact ⟨ownsRow_keep h1 (fun g hg => (hk g hg).1), fun b hb => (hk b hb).2⟩
theorem WsAt.moves {P : Nat × Nat -> Prop} {tg tg' : Tags} {w w' : World} {p : Nat} {objs : List Ob} {lim : Nat} {x : Slot} (h : WsAt tg w p objs lim x) (m : Moves P tg tg' w w') (hn : ∀ k, ¬ P (x.1, k)) : WsAt tg' w' p objs lim x := ⟨h.two, h.wp.moves m hn, h.flat, h.ok, h.fl, h.op, h.inj⟩
section
variable {W wr : World} {s p : Nat} {objs : List Ob} {lim : Nat} {ws : List Slot} {rows : List (Value × List Thing8)}
theorem Many.old (h : Many W wr s p objs lim ws rows) : Below W.heap.size W wr := by
 obtain ⟨tg, got, hO, _⟩ := h
 exact hO.1
theorem Many.below {w' : World} (h : Many W wr s p objs lim ws rows) (hb : Below wr.heap.size wr w') : Many W w' s p objs lim ws rows := by
 obtain ⟨tg, got, hO, hS, hw, hn, hr⟩ := h
 have m : Moves (fun _ => False) tg tg wr w' := Moves.of_below hb
 exact ⟨tg, got, hO.any (fun h => h) m, hS.moves m (fun h => h) (fun h => h), fun x hx => (hw x hx).moves m (fun _ h => h), hn, hr.any (fun h => h) m⟩
theorem Many.row (h : Many W wr s p objs lim ws rows) {r : Value × List Thing8} (hr : r ∈ rows) : wr.ownsRow 0 40 3 r.1 r.2.length (flatT r.2) := by
 obtain ⟨tg, got, hO, hS, hw, hn, hR⟩ := h
 exact (hR r hr).1
theorem Many.sound (h : Many W wr s p objs lim ws rows) : Sound objs := by
 obtain ⟨tg, got, hO, hS, _⟩ := h
 exact hS.sound
theorem Many.head {i : Nat} {B : WB} {g : WG} {t : LT} (h : Many W wr s p objs lim ((i, B, g, t) :: ws) rows) : ∃ tg got, QInv tg wr s i p B objs (setGot g got) lim t /\ HeldInj objs t /\
  ∀ {tg' : Tags} {w' : World} {g' : WG} {t' : LT} {lim' : Nat}, lim <= lim' -> Moves (Mine i) tg tg' wr w' -> QInv tg' w' s i p B objs g' lim' t' -> g'.fs.brk = false -> HeldInj objs t' -> Many W w' s p objs lim' ((i, B, g', t') :: ws) rows /\ ∀ v L, ThRow tg' w' wr.heap.size v L.length L -> Many W w' s p objs lim' ((i, B, g', t') :: ws) ((v, L) :: rows) := by
 obtain ⟨tg, got, hO, hS, hw, hn, hr⟩ := h
 have hx := hw _ (List.mem_cons_self ..)
 have h2 : 2 <= i := hx.two
 refine ⟨tg, got, ⟨⟨hx.two, hS, ?_⟩, hx.flat, hx.ok, hx.fl, hx.op⟩, hx.inj, fun {tg' w' g' t' lim'} hl m hQ hb hi => ?_⟩
 ·exact ⟨hx.wp.tree, hx.wp.keptF, hx.wp.keptD, hx.wp.ownF, hx.wp.ownD, hx.wp.files, hx.wp.held, hx.wp.opens, hx.wp.ok⟩
 ·have hS' := hQ.inv.st
  rw [hb] at hS'
  have h0 := mine0 h2
  rw [List.map_cons, List.nodup_cons] at hn
  have hws : ∀ x ∈ ((i, B, g', t') :: ws : List Slot), WsAt tg' w' p objs lim' x := fun x hxx => by
   rcases List.mem_cons.1 hxx with rfl | hxx
   ·exact ⟨h2, hQ.inv.wp, hQ.flat, hQ.ok, hQ.fl, hQ.op, hi⟩
   ·have hx1 := hw x (List.mem_cons_of_mem _ hxx)
    have hne : x.1 ≠ i := fun e => hn.1 (List.mem_map.2 ⟨x, hxx, e⟩)
    have hm := hx1.moves m (fun k hk => by
     rcases hk with hk | hk
     ·have := hx1.two
      simp only at hk
      omega
     ·exact hne hk)
    exact ⟨hm.two, hm.wp.mono hl, hm.flat, hm.ok, hm.fl, hm.op, hm.inj⟩
  have hnd : (((i, B, g', t') :: ws : List Slot).map (·.1)).Nodup := by
   rw [List.map_cons, List.nodup_cons]; exact hn
  refine ⟨⟨tg', _, hO.any h0 m, hS', hws, hnd, hr.any h0 m⟩, fun v L hv => ⟨tg', _, hO.any h0 m, hS', hws, hnd, fun r hrr => ?_⟩⟩
  rcases List.mem_cons.1 hrr with rfl | hrr
  ·exact ⟨row_base0 hv.1, hv.2.2⟩
  ·exact hr.any h0 m r hrr
theorem many_work (h : Many W wr s p objs lim ws rows) {i : Nat} (hi : 2 <= i) (hn : ∀ x ∈ ws, x.1 ≠ i) {id : Int} (hok : LTok objs 5 (.dir id)) :
  Calls Tryz.prog 12 #[.pointer (some ⟨s, 0, none⟩), .int .i64 id] wr fun e w' => ∃ (B : WB) (g : WG), e = .returned (.tuple #[.pointer (some ⟨B.wb, 0, none⟩), .bool true]) /\ g.fl = (fun _ => none) /\ g.base = id /\ Many W w' s p objs lim ((i, B, g, .dir id) :: ws) rows := by
 obtain ⟨tg, got, hO, hS, hw, hnd, hr⟩ := h
 refine (work_walk s id (fun wb w' => ∃ (B : WB) (g : WG), B.wb = wb /\ g.fl = (fun _ => none) /\ g.base = id /\ Many W w' s p objs lim ((i, B, g, .dir id) :: ws) rows) wr ((qcheckout (i := i) hS hi hok).mono ?_)).mono ?_
 ·rintro e w' ⟨B, he, tg', m, hQ⟩
  refine ⟨B.wb, he, B, wg0 id got, rfl, rfl, rfl, tg', got, hO.any (fun h => h) m, hQ.inv.st, fun x hx => ?_, ?_, hr.any (fun h => h) m⟩
  ·rcases List.mem_cons.1 hx with rfl | hx
   ·refine ⟨hi, hQ.inv.wp, hQ.flat, hQ.ok, hQ.fl, hQ.op, fun x y b h1 h2 => ?_⟩
    obtain ⟨z, hz⟩ := hQ.held x b h1
    cases hz
   ·exact (hw x hx).moves m (fun _ h => h)
  ·rw [List.map_cons, List.nodup_cons]
   exact ⟨fun hm => by obtain ⟨x, hx, e⟩ := List.mem_map.1 hm; exact hn x hx e, hnd⟩
 ·rintro e w' ⟨wb, he, B, g, rfl, h1, h2, h3⟩
  exact ⟨B, g, he, h1, h2, h3⟩
theorem many_do {i : Nat} {B : WB} {g : WG} {t : LT} (h : Many W wr s p objs lim ((i, B, g, t) :: ws) rows) (hl : lim + 1000 < 1099511627776) {kd a b : Int} {d : ByteArray} (hk : i64 kd) (ha : i64 a) (hb : i64 b) (hd : d.size <= maxLen) {na nb : ByteArray} {ra rb : List ByteArray} (hpa : pathL a = ra.reverse ++ [na]) (hpb : pathL b = rb.reverse ++ [nb]) :
  Calls Tryz.prog 14 #[.pointer (some ⟨B.wb, 0, none⟩), .agg #[.int .i64 kd, .int .i64 a, .int .i64 b, .string d]] wr fun e w' => ∃ er g' t', e = .returned (.int .i64 er) /\ (∃ g1 : WG, g1.fl = g.fl /\ g1.fs.brk = false /\ StepTo objs g1 t (pickN kd 6) na nb ra rb (shortB d) er g' t') /\ big objs 5 t' <= big objs 5 t + 1 /\ Many W w' s p objs (lim + 500) ((i, B, g', t') :: ws) rows := by
 obtain ⟨tg, got, hQ, hinj, hnext⟩ := h.head
 have hla := (pathL_letters a).len
 have hlb := (pathL_letters b).len
 rw [hpa] at hla
 rw [hpb] at hlb
 simp at hla hlb
 refine (do_exact hQ hl kd a b d hk ha hb hd hpa hpb).mono ?_
 rintro e w' ⟨er, he, tg', g', t', m, hQ', hs⟩
 obtain ⟨hi', hbig⟩ := step_inj hQ.inv.st.sound hQ.ok hQ.held hinj (by omega) (by omega) hs
 exact ⟨er, g', t', he, ⟨setGot g got, rfl, rfl, hs⟩, hbig, (hnext (by omega) m hQ' (step_brk rfl hs) hi').1⟩
theorem many_all {i : Nat} {B : WB} {g : WG} {t : LT} (h : Many W wr s p objs lim ((i, B, g, t) :: ws) rows) (hl : lim + 42000000000 < 1099511627776) (hk : t.kind = 2) :
  Calls Tryz.prog 13 #[.pointer (some ⟨B.wb, 0, none⟩)] wr fun e w' => ∃ v g' t', e = .returned (.tuple #[v, .bool true]) /\ (∀ x, sem objs (fcOf objs g'.fl) t' x = sem objs (fcOf objs g.fl) t x) /\ (thingsR objs (fcOf objs g.fl) 5 [] t).length <= 1118480 /\ Many W w' s p objs (lim + 4000000000) ((i, B, g', t') :: ws) ((v, thingsR objs (fcOf objs g.fl) 5 [] t) :: rows) := by
 obtain ⟨tg, got, hQ, hinj, hnext⟩ := h.head
 have hb := things_bound (fc := fcOf objs g.fl) hQ.inv.st.sound 5 [] t hQ.ok
 have hb5 := tBound_le (n := 5) (Nat.le_refl _)
 refine (all_any hQ hl rfl hk).mono ?_
 rintro e w' ⟨v, he, _, tg', g', t', m, hQ', hA, hrow⟩
 have hlen : (thingsR objs (fcOf objs g.fl) 5 [] t).length <= 1118480 := by omega
 exact ⟨v, g', t', he, hA.sem, hlen, (hnext (lim' := lim + 4000000000) (by omega) m (hQ'.mono (by
  have : (thingsR objs (fcOf objs (setGot g got).fl) 5 [] t).length <= 1118480 := hlen
  omega)) hA.brk (hA.inj hinj)).2 v _ hrow⟩
end
end Go.Proofs.YtajopoddmfdejaaGreat

namespace Go.Proofs.YtajopoddmfdejaaGreat
open Go.RowKit Go.Sort Go.Shelf
set_option linter.unusedVariables false
def refOf (k id : Int) : LT := if k = 2 then .dir id else .file id
theorem refOf_ent (n : ByteArray) (k id : Int) : ltOf (n, k, id) = refOf k id := rfl
theorem stored8 (a : List Ob) : ∀ (x : List ByteArray) (t : LT), ((∃ i, t = .file i) \/ ∃ i, t = .dir i) -> ∀ f, t.at a x ≠ some (.held f)
 | [], t, h, f, e => by
  rw [at_nil] at e
  rcases h with ⟨i, rfl⟩ | ⟨i, rfl⟩ <;> cases e
 | n :: r, t, h, f, e => by
  rw [at_cons] at e
  rcases h with ⟨i, rfl⟩ | ⟨i, rfl⟩
  ·cases e
  ·rw [show kids a (.dir i) = some ((entsOf a i).map kidOf) from rfl, Option.bind_some] at e
   cases hp : pickK ((entsOf a i).map kidOf) n with
   | none => rw [hp] at e; cases e
   | some c =>
    rw [hp, Option.bind_some] at e
    obtain ⟨y, hy, hc⟩ : ∃ y ∈ entsOf a i, c = ltOf y := by
     unfold pickK at hp
     obtain ⟨z, hz, rfl⟩ := Option.map_eq_some_iff.1 hp
     obtain ⟨y, hy, rfl⟩ := List.mem_map.1 (List.mem_of_find?_eq_some hz)
     exact ⟨y, hy, rfl⟩
    refine stored8 a r c ?_ f e
    rw [hc]
    unfold ltOf
    split
    ·exact .inr ⟨_, rfl⟩
    ·exact .inl ⟨_, rfl⟩
theorem stored_fc {a : List Ob} {t : LT} (h : (∃ i, t = .file i) \/ ∃ i, t = .dir i) (fc fc' : FileC) : SemEq a fc t a fc' t := fun x => sem_fc (fun x f hx => absurd hx (stored8 a x t h f)) x
theorem sem_app {a : List Ob} (hS : Sound a) (l : List Ob) (fc : FileC) : ∀ (x : List ByteArray) (n : Nat) (t : LT), LTok a n t -> sem (a ++ l) fc t x = sem a fc t x
 | [], n, t, h => by
  rw [sem_nil, sem_nil]
  cases t with
  | file i => rw [LTok] at h; simp only [nd]; rw [bytesOf_app l (by rw [h]; decide)]
  | held f => rfl
  | dir i => rfl
  | own es => rfl
 | m :: r, n, t, h => by
  have hk : kids (a ++ l) t = kids a t := by
   cases t with
   | file i => rfl
   | held f => rfl
   | dir i => rw [LTok] at h; simp only [kids]; rw [entsOf_app l (by rw [h.1]; decide)]
   | own es => rfl
  rw [sem_cons, sem_cons, hk]
  cases hkk : kids a t with
  | none => rfl
  | some ks =>
   rw [Option.bind_some, Option.bind_some]
   cases hp : pickK ks m with
   | none => rfl
   | some c =>
    rw [Option.bind_some, Option.bind_some]
    have hmem : ∃ y ∈ ks, y.2 = c := by
     unfold pickK at hp
     obtain ⟨z, hz, e⟩ := Option.map_eq_some_iff.1 hp
     exact ⟨z, List.mem_of_find?_eq_some hz, e⟩
    obtain ⟨y, hy, e⟩ := hmem
    obtain ⟨k, _, hok⟩ := ((ok_kids hS h hkk).2.2 y hy).2
    rw [e] at hok
    exact sem_app hS l fc r k c hok
theorem fc_app {a : List Ob} {fl : Nat -> Option (Int × ByteArray)} (h : FlSz a fl) (l : List Ob) : fcOf (a ++ l) fl = fcOf a fl := by
 funext f
 unfold fcOf
 cases hf : fl f with
 | none => rfl
 | some x =>
  obtain ⟨id, d⟩ := x
  simp only
  split
  ·rename_i h0
   rw [bytesOf_app l (by rw [(h f id d hf).1 h0]; decide)]
  ·rfl
theorem sem_file (a : List Ob) (fc : FileC) (i : Int) (x : List ByteArray) : sem a fc (.file i) x = if x = [] then some (.file (bytesOf a i)) else none := by
 cases x with
 | nil => rw [sem_nil]; rfl
 | cons n r => rw [sem_cons, if_neg (by simp)]; rfl
theorem sem_held (a : List Ob) (fc : FileC) (f : Nat) (x : List ByteArray) : sem a fc (.held f) x = if x = [] then some (.file (fc f)) else none := by
 cases x with
 | nil => rw [sem_nil]; rfl
 | cons n r => rw [sem_cons, if_neg (by simp)]; rfl
theorem pick_lists {a b : List Ob} {fc fc' : FileC} {ks ku : Kids} (hl : ks.length = ku.length) (h : ∀ k (h1 : k < ks.length) (h2 : k < ku.length), (ks[k]).1 = (ku[k]).1 /\ SemEq a fc (ks[k]).2 b fc' (ku[k]).2) (n : ByteArray) (x : List ByteArray) : ((pickK ks n).bind fun c => sem a fc c x) = ((pickK ku n).bind fun c => sem b fc' c x) := by
 induction ks generalizing ku with
 | nil =>
  cases ku with
  | nil => rfl
  | cons y r => cases hl
 | cons z r ih =>
  cases ku with
  | nil => cases hl
  | cons y r' =>
   have h0 := h 0 (by simp) (by simp)
   simp only [List.getElem_cons_zero] at h0
   have ihr := ih (ku := r') (by simpa using hl) (fun k h1 h2 => by have := h (k + 1) (by simpa using h1) (by simpa using h2); simpa using this)
   unfold pickK at ihr ⊢
   rw [List.find?_cons, List.find?_cons, h0.1]
   by_cases e : y.1 = n
   ·simp only [e, decide_true, Option.map_some, Option.bind_some]
    exact h0.2 x
   ·simp only [e, decide_false]
    exact ihr
theorem kids_reads (fl : Nat -> Option (Int × ByteArray)) (n : Nat) (hn : n <= 5) (fc0 : FileC) (ih : ∀ (c : LT) (a : List Ob), Exact a -> LTok a n c -> FlSz a fl -> SemEq (objR fl n c a).2 fc0 (refOf c.kind (objR fl n c a).1) a (fcOf a fl) c) : ∀ (l : Kids) (a : List Ob), Exact a -> FlSz a fl -> (∀ x ∈ l.reverse, validB x.1 = true /\ LTok a n x.2) ->
  (kidsR fl n l.reverse a).1.length = l.reverse.length /\ ∀ k (h1 : k < (kidsR fl n l.reverse a).1.length) (h2 : k < l.reverse.length), ((kidsR fl n l.reverse a).1[k]).1 = (l.reverse[k]).1 /\ SemEq (kidsR fl n l.reverse a).2 fc0 (ltOf ((kidsR fl n l.reverse a).1[k])) a (fcOf a fl) (l.reverse[k]).2 := by
 intro l
 induction l with
 | nil => intro a _ _ _; exact ⟨rfl, fun k h1 => absurd h1 (Nat.not_lt_zero _)⟩
 | cons x r ihl =>
  intro a he hf hx
  have hv : ∀ y ∈ r.reverse, validB y.1 = true /\ LTok a n y.2 := fun y hy => hx y (by rw [List.reverse_cons]; simp [List.mem_reverse.1 hy])
  obtain ⟨i1, i2⟩ := ihl a he hf hv
  obtain ⟨k1, k2, k3, k4⟩ := kidsR_ok fl n (fun c a hX hok hfl => objR_ok fl n hn c a hX hok hfl) r.reverse a he hf hv
  obtain ⟨l1, hl1⟩ := k1.app
  obtain ⟨_, hok⟩ := hx x (by simp)
  have hok' : LTok (kidsR fl n r.reverse a).2 n x.2 := by rw [hl1]; exact LTok_app l1 n _ hok
  have hfl' : FlSz (kidsR fl n r.reverse a).2 fl := by rw [hl1]; exact hf.app l1
  have hX1 := k1.exact he
  have hob := objR_ok fl n hn x.2 (kidsR fl n r.reverse a).2 hX1 hok' hfl'
  obtain ⟨l2, hl2⟩ := hob.dr.app
  have hsem := ih x.2 (kidsR fl n r.reverse a).2 hX1 hok' hfl'
  rw [List.reverse_cons, kidsR_snoc]
  simp only
  refine ⟨by rw [List.length_append, i1, List.length_append]; rfl, fun k h1 h2 => ?_⟩
  by_cases hk : k < r.reverse.length
  ·have hk' : k < (kidsR fl n r.reverse a).1.length := by rw [i1]; exact hk
   rw [List.getElem_append_left hk', List.getElem_append_left hk]
   obtain ⟨j1, j2⟩ := i2 k hk' hk
   refine ⟨j1, fun y => ?_⟩
   rw [<- j2 y, hl2]
   obtain ⟨_, _, q3, q4⟩ := k3 _ (List.getElem_mem hk')
   refine sem_app hX1.sound l2 fc0 y n _ ?_
   unfold ltOf
   split
   ·rename_i e; rw [LTok]; exact ⟨by rw [q3, e], q4⟩
   ·rename_i e
    rw [LTok, q3]
    rcases (k3 _ (List.getElem_mem hk')).2.1 with e' | e'
    ·exact e'
    ·exact absurd e' e
  ·have hke : k = r.reverse.length := by
    rw [List.length_append] at h2
    simp at h2 hk ⊢
    omega
   subst hke
   have e1 : ((kidsR fl n r.reverse a).1 ++ [(x.1, x.2.kind, (objR fl n x.2 (kidsR fl n r.reverse a).2).1)])[r.reverse.length]'h1 = (x.1, x.2.kind, (objR fl n x.2 (kidsR fl n r.reverse a).2).1) := by
    rw [List.getElem_append_right (by rw [i1]; exact Nat.le_refl _)]
    simp [i1]
   have e2 : (r.reverse ++ [x])[r.reverse.length]'h2 = x := by
    rw [List.getElem_append_right (Nat.le_refl _)]
    simp
   rw [e1, e2]
   refine ⟨rfl, fun y => ?_⟩
   rw [refOf_ent, hsem y, hl1, fc_app hf l1]
   exact sem_app he.sound l1 _ y n _ hok
theorem objR_reads (fl : Nat -> Option (Int × ByteArray)) (fc0 : FileC) : ∀ (n : Nat), n <= 5 -> ∀ (c : LT) (a : List Ob), Exact a -> LTok a n c -> FlSz a fl -> SemEq (objR fl n c a).2 fc0 (refOf c.kind (objR fl n c a).1) a (fcOf a fl) c := by
 have hfd : ∀ (n f : Nat) (a : List Ob), Exact a -> FlSz a fl -> SemEq (heldR (fl f) a).2 fc0 (.file (heldR (fl f) a).1) a (fcOf a fl) (.held f) := by
  intro n f a he hf x
  rw [sem_file, sem_held]
  have : bytesOf (heldR (fl f) a).2 (heldR (fl f) a).1 = fcOf a fl f := by
   unfold fcOf
   cases hx : fl f with
   | none => exact (fileD_ok he (d := ⟨#[]⟩) (by decide)).2.2.1
   | some y =>
    obtain ⟨id, d⟩ := y
    simp only
    by_cases h0 : id ≠ 0
    ·rw [if_pos h0, show heldR (some (id, d)) a = (id, a) by simp [heldR, h0]]
    ·rw [if_neg h0, show heldR (some (id, d)) a = fileD a d by simp [heldR, h0]]
     exact (fileD_ok he (d := d) ((hf f id d hx).2 (Decidable.not_not.1 h0))).2.2.1
  rw [this]
 intro n
 induction n with
 | zero =>
  intro _ c a he hok hf
  cases c with
  | file id => rw [objR]; exact stored_fc (.inl ⟨_, rfl⟩) _ _
  | dir id => rw [objR]; exact stored_fc (.inr ⟨_, rfl⟩) _ _
  | held f => rw [objR]; exact hfd 0 f a he hf
  | own es =>
   have hes : es = [] := by
    cases es with
    | nil => rfl
    | cons x r => obtain ⟨_, m, e, _⟩ := (ok_kids he.sound hok (ks := x :: r) rfl).2.2 x (List.mem_cons_self ..); omega
   subst hes
   rw [objR]
   obtain ⟨d1, d2, d3, _⟩ := dirD_ok he (es := []) (by show (0 : Int) <= 5; decide) List.Pairwise.nil (by simp) (fun e h => by cases h)
   intro x
   show sem (dirD a []).2 fc0 (.dir (dirD a []).1) x = _
   cases x with
   | nil => rw [sem_nil, sem_nil]; rfl
   | cons m r => rw [sem_cons, sem_cons]; simp only [kids, d3]; rfl
 | succ n ih =>
  intro hn c a he hok hf
  cases c with
  | file id => rw [objR]; exact stored_fc (.inl ⟨_, rfl⟩) _ _
  | dir id => rw [objR]; exact stored_fc (.inr ⟨_, rfl⟩) _ _
  | held f => rw [objR]; exact hfd n f a he hf
  | own es =>
   obtain ⟨hr, h16, hk⟩ := ok_kids he.sound hok (ks := es) rfl
   have hv : ∀ y ∈ es, validB y.1 = true /\ LTok a n y.2 := fun y hy => by
    obtain ⟨h1, m, e, h2⟩ := hk y hy
    have : m = n := by omega
    subst this
    exact ⟨h1, h2⟩
   obtain ⟨k1, k2, k3, k4⟩ := kidsR_ok fl n (fun c a hX hok hfl => objR_ok fl n (by omega) c a hX hok hfl) es a he hf hv
   have hkr := kids_reads fl n (by omega) fc0 (fun c a hX hok hfl => ih (by omega) c a hX hok hfl) es.reverse a he hf (by rw [List.reverse_reverse]; exact hv)
   simp only [List.reverse_reverse] at hkr
   obtain ⟨r1, r2⟩ := hkr
   rw [objR_own]
   have hX1 := k1.exact he
   obtain ⟨d1, d2, d3, _⟩ := dirD_ok hX1 (es := (kidsR fl n es a).1) (highs_le.2 ⟨by decide, fun e hee => by have := (k3 e hee).2.2.2; omega⟩) (rising_names k2 hr) (by rw [r1]; exact h16) (fun e hee => ⟨(k3 e hee).1, (k3 e hee).2.1, (k3 e hee).2.2.1⟩)
   obtain ⟨l2, hl2⟩ := d1.app
   intro x
   show sem (dirD (kidsR fl n es a).2 (kidsR fl n es a).1).2 fc0 (.dir (dirD (kidsR fl n es a).2 (kidsR fl n es a).1).1) x = _
   cases x with
   | nil => rw [sem_nil, sem_nil]; rfl
   | cons m y =>
    rw [sem_cons, sem_cons]
    simp only [kids, d3, Option.bind_some]
    refine pick_lists (by rw [List.length_map, r1]) (fun k h1 h2 => ?_) m y
    rw [List.length_map] at h1
    obtain ⟨j1, j2⟩ := r2 k h1 h2
    rw [List.getElem_map]
    refine ⟨j1, fun z => ?_⟩
    rw [<- j2 z, hl2]
    obtain ⟨_, q2, q3, q4⟩ := k3 _ (List.getElem_mem h1)
    refine sem_app hX1.sound l2 fc0 z n _ ?_
    show LTok (kidsR fl n es a).2 n (ltOf _)
    unfold ltOf
    split
    ·rename_i e; rw [LTok]; exact ⟨by rw [q3, e], q4⟩
    ·rename_i e
     rw [LTok, q3]
     rcases q2 with e' | e'
     ·exact e'
     ·exact absurd e' e
theorem sum_len {α β : Type} (f : α -> Nat) (g : α -> List β) : ∀ (l : List α), (∀ x ∈ l, (g x).length = f x) -> (l.flatMap g).length = (l.map f).sum
 | [], _ => rfl
 | x :: r, h => by
  rw [List.flatMap_cons, List.length_append, List.map_cons, List.sum_cons, h x (List.mem_cons_self ..), sum_len f g r (fun y hy => h y (List.mem_cons_of_mem _ hy))]
theorem big_things {a : List Ob} (hS : Sound a) (fc : FileC) : ∀ (n : Nat) (q : List ByteArray) (t : LT), LTok a n t -> big a n t = 1 + (thingsR a fc n q t).length
 | 0, q, t, _ => by rw [thingsR, big]; rfl
 | n + 1, q, t, ht => by
  rw [big_succ]
  by_cases hk : t.kind = 2
  ·obtain ⟨ks, hks⟩ := kids_some (a := a) hk
   rw [things_succ hks, hks, Option.getD_some]
   unfold bigs
   rw [sum_len (fun x => big a n x.2) (thingsX a fc n q) ks (fun x hx => ?_)]
   obtain ⟨m, e, o⟩ := ((ok_kids hS ht hks).2.2 x hx).2
   have e' : m = n := by omega
   subst e'
   unfold thingsX
   rw [List.length_cons]
   split
   ·rw [big_things hS fc m (q ++ [x.1]) x.2 o]; omega
   ·rename_i h2
    have : big a m x.2 = 1 := by
     cases m with
     | zero => rw [big]
     | succ m => rw [big_succ, kids_none h2]; rfl
    rw [this]; rfl
  ·rw [thingsR, kids_none hk]; rfl
theorem big_sem {a b : List Ob} {fc fc' : FileC} (hA : Sound a) (hB : Sound b) {t u : LT} (ht : LTok a 5 t) (hu : LTok b 5 u) (h : SemEq a fc t b fc' u) : big a 5 t = big b 5 u := by
 rw [big_things hA fc 5 [] t ht, big_things hB fc' 5 [] u hu, things_sem hA hB 5 [] t u ht hu h]
theorem sem_same {a b : List Ob} (hS : Sound a) (hs : Same a b) (fc : FileC) : ∀ (x : List ByteArray) (n : Nat) (t : LT), LTok a n t -> sem a fc t x = sem b fc t x
 | [], n, t, h => by
  rw [sem_nil, sem_nil]
  cases t with
  | file i => rw [LTok] at h; simp only [nd]; rw [hs.bytes h]
  | held f => rfl
  | dir i => rfl
  | own es => rfl
 | m :: r, n, t, h => by
  have hk : kids a t = kids b t := by
   cases t with
   | file i => rfl
   | held f => rfl
   | dir i => rw [LTok] at h; simp only [kids]; rw [hs.ents h.1]
   | own es => rfl
  rw [sem_cons, sem_cons, <- hk]
  cases hkk : kids a t with
  | none => rfl
  | some ks =>
   rw [Option.bind_some, Option.bind_some]
   cases hp : pickK ks m with
   | none => rfl
   | some c =>
    rw [Option.bind_some, Option.bind_some]
    have hmem : ∃ y ∈ ks, y.2 = c := by
     unfold pickK at hp
     obtain ⟨z, hz, e⟩ := Option.map_eq_some_iff.1 hp
     exact ⟨z, List.mem_of_find?_eq_some hz, e⟩
    obtain ⟨y, hy, e⟩ := hmem
    obtain ⟨k, _, hok⟩ := ((ok_kids hS h hkk).2.2 y hy).2
    rw [e] at hok
    exact sem_same hS hs fc r k c hok
end Go.Proofs.YtajopoddmfdejaaGreat
