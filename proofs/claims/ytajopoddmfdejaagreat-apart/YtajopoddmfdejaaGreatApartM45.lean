/-
  What is proved here: canopykeep's below and all answer all that stands in a tree, in order; the tree reads as it did. canopykeep's same answers true of two lists of the same things. what reads the same answers the same: what stands at a path, what is in it, why it can't go; how high it is; how much there is. what a step makes of what is read, and that two workspaces that read the same answer a step the same and read the same behind it. what a step makes of what is read; two workspaces that read the same answer a step the same, and read the same behind it. several workspaces over one store: what a call of one leaves of the others. the calls of canopykeep's Apart, one by one.
-/
import Derived.Test.YtajopoddmfdejaaGreatApartM44
import Derived.Test.YtajopoddmfdejaaGreatApartM41
import Derived.Test.YtajopoddmfdejaaGreatApartM39
import Derived.Test.YtajopoddmfdejaaGreatApartM34
import Derived.Test.YtajopoddmfdejaaGreatApartM40
namespace Go.Proofs.YtajopoddmfdejaaGreat
open Go.RowKit Go.Sort Go.Shelf
set_option linter.unusedVariables false
section
variable {s i p : Nat} {B : WB} {objs : List Ob}
theorem tBound_le {n : Nat} (h : n ≤ 5) : tBound n ≤ 1118480 := by
  have : n = 0 ∨ n = 1 ∨ n = 2 ∨ n = 3 ∨ n = 4 ∨ n = 5 := by omega
  rcases this with rfl | rfl | rfl | rfl | rfl | rfl <;> decide
theorem below_all : ∀ (nn : Nat) (q : List ByteArray) (tg0 : Tags) (w0 : World) (g0 : WG) (t0 c0 : LT) (lim R0 : Nat), R0 = 7000000000 * (nn + 1) → QInv tg0 w0 s i p B objs g0 lim t0 → lim + R0 < 1099511627776 → g0.fs.brk = false → t0.at objs q = some c0 → c0.kind = 2 → nn + q.length = 5 →
    Calls Tryz.prog 42 #[.pointer (some ⟨B.wb, 0, none⟩), .string (joinB q), .int .i64 (q.length : Int)] w0 (BelRet s i p B objs tg0 w0 g0 t0 lim (thingsR objs (fcOf objs g0.fl) nn q c0)) := by
  intro nn
  induction nn with
  | zero =>
    intro q tg0 w0 g0 t0 c0 lim R0 hR0 hQ hlim hbr h0 hk2 hlen
    have hS := hQ.inv.st.sound
    obtain ⟨ks, hk0⟩ := kids_some (a := objs) hk2
    obtain ⟨hql, hok, hval⟩ := ok_at hS _ hQ.ok h0
    rw [show 5 - q.length = 0 by omega] at hok
    have hnil : ks = [] := by
      cases ks with
      | nil => rfl
      | cons x r => obtain ⟨_, m, e, _⟩ := (ok_kids hS hok hk0).2.2 x (List.mem_cons_self ..); omega
    subst hnil
    have hq : q ≠ [] := fun e => by rw [e] at hlen; simp at hlen
    have := below_deep (R := 0) hQ (by omega) hbr hq h0 hk0 List.Pairwise.nil (by simp) ⟨hval, by omega⟩ (fun k hk => absurd hk (Nat.not_lt_zero _)) 0 (by simp) (q.length : Int) (by omega) (by omega) (fun k hk => absurd hk (Nat.not_lt_zero _))
    rw [thingsR]
    exact this
  | succ nn ih =>
    intro q tg0 w0 g0 t0 c0 lim R0 hR0 hQ hlim hbr h0 hk2 hlen
    have hS := hQ.inv.st.sound
    obtain ⟨ks, hk0⟩ := kids_some (a := objs) hk2
    obtain ⟨hql, hok, hval⟩ := ok_at hS _ hQ.ok h0
    rw [show 5 - q.length = nn + 1 by omega] at hok
    obtain ⟨hr, h16, hkid⟩ := ok_kids hS hok hk0
    have hG : Good q := ⟨hval, by omega⟩
    have hGk : ∀ k (hk : k < ks.length), Good (q ++ [(ks[k]).1]) := fun k hk => ⟨hval.append (fun x hx => by
      rw [List.mem_singleton.1 hx]; exact (hkid _ (List.getElem_mem hk)).1), by rw [List.length_append]; simp; omega⟩
    have htot := things_bound (fc := fcOf objs g0.fl) hS (nn + 1) q c0 hok
    have htb := tBound_le (n := nn + 1) (by omega)
    rw [things_succ hk0] at htot ⊢
    obtain ⟨R, hR⟩ : ∃ R, R = R0 - 7000000000 := ⟨_, rfl⟩
    have hR' : R = 7000000000 * (nn + 1) := by omega
    have hlR : lim + 7000000000 + R < 1099511627776 := by omega
    have hrec : ∀ k (hk : k < ks.length), (ks[k]).2.kind = 2 → ∀ tg w g t l, QInv tg w s i p B objs g l t → Alike objs g0 t0 g t → l + R < 1099511627776 → Calls Tryz.prog 42 #[.pointer (some ⟨B.wb, 0, none⟩), .string (joinB (q ++ [(ks[k]).1])), .int .i64 ((q.length : Int) + 1)] w (BelRet s i p B objs tg w g t l (thingsR objs (fcOf objs g0.fl) nn (q ++ [(ks[k]).1]) (ks[k]).2)) := by
      intro k hk hkd tg w g t l hq hA hl
      obtain ⟨c, hc, hnd, hki, hsem⟩ := bel_kid hq hA h0 hk0 hr hk
      have := ih (q ++ [(ks[k]).1]) tg w g t c l R hR' hq hl hA.brk hc (by rw [hki]; exact hkd) (by rw [List.length_append]; simp; omega)
      obtain ⟨m1, e1, o1⟩ := (hkid _ (List.getElem_mem hk)).2
      have e1' : m1 = nn := by omega
      subst e1'
      have hokc := (ok_at hS _ hq.ok hc).2.1
      rw [show 5 - (q ++ [(ks[k]).1]).length = m1 by rw [List.length_append]; simp; omega] at hokc
      rw [things_sem hS hS m1 (q ++ [(ks[k]).1]) c (ks[k]).2 hokc o1 hsem] at this
      rw [show ((q ++ [(ks[k]).1]).length : Int) = (q.length : Int) + 1 by rw [List.length_append]; simp] at this
      exact this
    by_cases hq : q = []
    · exact below_root (R := R) hQ hlR hbr hq h0 hk0 hr h16 hG hGk nn (by omega) (q.length : Int) (by omega) (by omega) hrec
    · exact below_deep (R := R) hQ hlR hbr hq h0 hk0 hr h16 hG hGk nn (by omega) (q.length : Int) (by omega) (by omega) hrec
set_option maxRecDepth 100000 in
set_option maxHeartbeats 1000000 in
theorem all_walk (wb : Nat) (w : World) (X : Value → World → Prop) (hc : Calls Tryz.prog 42 #[.pointer (some ⟨wb, 0, none⟩), .string ⟨#[]⟩, .int .i64 0] w fun e w' => ∃ v, e = .returned (.tuple #[v, .bool true]) ∧ X v w') :
    Calls Tryz.prog 13 #[.pointer (some ⟨wb, 0, none⟩)] w fun e w' => ∃ v, e = .returned (.tuple #[v, .bool true]) ∧ X v w' := by
  go_enter Tryz.func13, Tryz.ntmps13
  go_wp2_with fail
  refine Calls.mono hc ?_
  rintro e w1 ⟨v, rfl, hX⟩
  have HX : Hid _ := hX
  clear hX hc
  go_wp2
  go_ret2
  exact ⟨v, rfl, HX.out⟩
theorem all_any {tg0 : Tags} {w0 : World} {g0 : WG} {t0 : LT} {lim : Nat} (hQ : QInv tg0 w0 s i p B objs g0 lim t0) (hlim : lim + 42000000000 < 1099511627776) (hbr : g0.fs.brk = false) (hk : t0.kind = 2) :
    Calls Tryz.prog 13 #[.pointer (some ⟨B.wb, 0, none⟩)] w0 (BelRet s i p B objs tg0 w0 g0 t0 lim (thingsR objs (fcOf objs g0.fl) 5 [] t0)) := by
  have h := below_all 5 [] tg0 w0 g0 t0 t0 lim 42000000000 (by decide) hQ hlim hbr (at_nil _ _) hk rfl
  exact all_walk B.wb w0 _ h
end
end Go.Proofs.YtajopoddmfdejaaGreat

namespace Go.Proofs.YtajopoddmfdejaaGreat
open Go.RowKit Go.Sort Go.Shelf
set_option linter.unusedVariables false
theorem flatT_at : ∀ (L : List Thing8) (k : Nat) (hk : k < L.length), (flatT L)[k * 3]? = some (.string (L[k]).1) ∧ (flatT L)[k * 3 + 1]? = some (.int .i64 (L[k]).2.1) ∧ (flatT L)[k * 3 + 2]? = some (.string (L[k]).2.2)
  | [], k, hk => absurd hk (Nat.not_lt_zero _)
  | x :: L, 0, _ => ⟨rfl, rfl, rfl⟩
  | x :: L, k + 1, hk => by
    obtain ⟨h0, h1, h2⟩ := flatT_at L k (by simpa using hk)
    have e : flatT (x :: L) = encT x ++ flatT L := rfl
    have hl : (encT x).length = 3 := rfl
    rw [e, List.getElem_cons_succ]
    rw [List.getElem?_append_right (by omega), List.getElem?_append_right (by omega), List.getElem?_append_right (by omega), hl]
    rw [show (k + 1) * 3 - 3 = k * 3 by omega, show (k + 1) * 3 + 1 - 3 = k * 3 + 1 by omega, show (k + 1) * 3 + 2 - 3 = k * 3 + 2 by omega]
    exact ⟨h0, h1, h2⟩
theorem rowT_cells {w : World} {base : Nat} {v : Value} {n : Nat} {L : List Thing8} (h : w.ownsRow base 40 3 v n (flatT L)) (hn : n = L.length) {k : Nat} (hk : k < L.length) : ∃ g c, v = .slice (some ⟨g, 0, none⟩) n c ∧ g < w.heap.size ∧ w.cell? ⟨g, k * 3, none⟩ = some (.string (L[k]).1) ∧ w.cell? ⟨g, k * 3 + 1, none⟩ = some (.int .i64 (L[k]).2.1) ∧ w.cell? ⟨g, k * 3 + 2, none⟩ = some (.string (L[k]).2.2) := by
  obtain ⟨g, c, rfl⟩ := slice_of_owns h (by omega)
  obtain ⟨h0, h1, h2⟩ := flatT_at L k hk
  have hc := World.ownsRow.cells h (g := g) rfl
  refine ⟨g, c, rfl, ownsRow_lt h rfl, ?_, ?_, ?_⟩
  · have := hc _ _ h0; rwa [add_plain, Nat.zero_add] at this
  · have := hc _ _ h1; rwa [add_plain, Nat.zero_add] at this
  · have := hc _ _ h2; rwa [add_plain, Nat.zero_add] at this
theorem rowT_below {base : Nat} {W W1 : World} {e : TypeId} {size n : Nat} {v : Value} {xs : List Value} (h : W.ownsRow base e size v n xs) (hb : Below W.heap.size W W1) : W1.ownsRow base e size v n xs := ownsRow_keep h (fun g hg => hb.block g (ownsRow_lt h hg))
theorem rowT_shape {w : World} {base : Nat} {v : Value} {n : Nat} {xs : List Value} (h : w.ownsRow base 40 3 v n xs) : ∃ a c, v = .slice a n c := by
  rcases h.2 with ⟨rfl, h0⟩ | ⟨g, c, cur, rfl, _⟩
  · exact ⟨none, 0, by rw [h0]⟩
  · exact ⟨_, c, rfl⟩
set_option maxRecDepth 100000 in
set_option maxHeartbeats 2000000 in
theorem same_eq (v v' : Value) (n : Nat) (L : List Thing8) (base base' : Nat) (w : World) (h : w.ownsRow base 40 3 v n (flatT L)) (h' : w.ownsRow base' 40 3 v' n (flatT L)) (hn : n = L.length) (hb : n ≤ 2000000) :
    Calls Tryz.prog 15 #[v, v'] w fun e w' => e = .returned (.bool true) ∧ Below w.heap.size w w' := by
  obtain ⟨a, c, rfl⟩ := rowT_shape h
  obtain ⟨a', c', rfl⟩ := rowT_shape h'
  have H : Hid _ := h
  have H' : Hid _ := h'
  have HN : Hid _ := hn
  clear h h' hn
  go_enter Tryz.func15, Tryz.ntmps15
  go_wp2
  go_loopw [5] (fun iv wr => ∃ k : Nat, k ≤ n ∧ iv = .int .i64 (k : Int) ∧ Below w.heap.size w wr) (fun iv _ => n - (intOf iv).toNat)
  case atStart => exact ⟨0, Nat.zero_le _, rfl, Below.refl _ _⟩
  case round =>
    obtain ⟨k, hk, rfl, hbr⟩ := hrel
    rename World => wr
    by_cases hkn : k < n
    · have hkl : k < L.length := by rw [← HN.out]; exact hkn
      obtain ⟨g, c1, e1, hg, x0, x1, x2⟩ := rowT_cells (rowT_below H.out hbr) HN.out hkl
      obtain ⟨g', c1', e1', hg', y0, y1, y2⟩ := rowT_cells (rowT_below H'.out hbr) HN.out hkl
      cases e1
      cases e1'
      generalize (L[k]).1 = z0 at x0 y0
      generalize (L[k]).2.1 = z1 at x1 y1
      generalize (L[k]).2.2 = z2 at x2 y2
      go_wp2
      go_quiet (fail)
      go_wp2
      exact ⟨⟨k + 1, by omega, by simp, below_drewN hbr _⟩, by simp [intOf]; omega⟩
    · go_wp2
      go_ret
      exact ⟨rfl, hbr⟩
end Go.Proofs.YtajopoddmfdejaaGreat

namespace Go.Proofs.YtajopoddmfdejaaGreat
open Go.RowKit Go.Sort Go.Shelf
set_option linter.unusedVariables false
def SemEq (a : List Ob) (fc : FileC) (t : LT) (b : List Ob) (fc' : FileC) (u : LT) : Prop := ∀ x, sem a fc t x = sem b fc' u x
theorem kidsE_none {a : List Ob} {t : LT} (h : kids a t = none) : kidsE a t = (5, []) := by cases t <;> simp [kids, kidsE] at h ⊢
theorem kidsE_some {a : List Ob} {t : LT} {ks : Kids} (h : kids a t = some ks) : kidsE a t = (0, ks) := by cases t <;> simp [kids, kidsE] at h ⊢ <;> exact h
section
variable {a b : List Ob} {fc fc' : FileC}
theorem SemEq.symm {t u : LT} (h : SemEq a fc t b fc' u) : SemEq b fc' u a fc t := fun x => (h x).symm
theorem SemEq.kind {t u : LT} (h : SemEq a fc t b fc' u) : t.kind = u.kind := nd_kind (sem_nd (h []))
theorem SemEq.kids2 {t u : LT} (h : SemEq a fc t b fc' u) : (kids a t = none ∧ kids b u = none) ∨ ∃ ks ku, kids a t = some ks ∧ kids b u = some ku := by
  by_cases hk : t.kind = 2
  · obtain ⟨ks, hks⟩ := kids_some (a := a) hk
    obtain ⟨ku, hku⟩ := kids_some (a := b) (h.kind ▸ hk)
    exact .inr ⟨ks, ku, hks, hku⟩
  · exact .inl ⟨kids_none hk, kids_none (by rw [← h.kind]; exact hk)⟩
theorem SemEq.pick {t u : LT} (h : SemEq a fc t b fc' u) {ks ku : Kids} (hk : kids a t = some ks) (hu : kids b u = some ku) (n : ByteArray) : (pickK ks n = none ∧ pickK ku n = none) ∨ ∃ c d, pickK ks n = some c ∧ pickK ku n = some d ∧ SemEq a fc c b fc' d := by
  have hn : ∀ r, ((pickK ks n).bind fun c => sem a fc c r) = ((pickK ku n).bind fun c => sem b fc' c r) := by
    intro r
    have := h (n :: r)
    rw [sem_cons, sem_cons, hk, hu, Option.bind_some, Option.bind_some] at this
    exact this
  cases h1 : pickK ks n with
  | none =>
    cases h2 : pickK ku n with
    | none => exact .inl ⟨rfl, rfl⟩
    | some d => have := hn []; rw [h1, h2] at this; simp [sem_nil] at this
  | some c =>
    cases h2 : pickK ku n with
    | none => have := hn []; rw [h1, h2] at this; simp [sem_nil] at this
    | some d => exact .inr ⟨c, d, rfl, rfl, fun x => by have := hn x; rw [h1, h2] at this; exact this⟩
theorem SemEq.length {t u : LT} (h : SemEq a fc t b fc' u) (hA : Sound a) (hB : Sound b) {n m : Nat} (ht : LTok a n t) (hu : LTok b m u) {ks ku : Kids} (hk : kids a t = some ks) (hku : kids b u = some ku) : ks.length = ku.length := by
  have := congrArg List.length (kid_sem2 h hk hku (ok_kids hA ht hk).1 (ok_kids hB hu hku).1).1
  simpa using this
theorem find_two {t u : LT} (h : SemEq a fc t b fc' u) : ∀ r, (findE a t r).1 = (findE b u r).1 ∧ ((findE a t r).1 = 0 → SemEq a fc (findE a t r).2 b fc' (findE b u r).2)
  | [] => ⟨rfl, fun _ => h⟩
  | n :: r => by
    obtain ⟨h1, h2⟩ := find_two h r
    rw [findE, findE]
    simp only
    by_cases h0 : (findE a t r).1 ≠ 0
    · have h0' : (findE b u r).1 ≠ 0 := by rw [← h1]; exact h0
      rw [if_pos h0, if_pos h0']
      exact ⟨h1, fun e => absurd e h0⟩
    · have h0' : ¬ (findE b u r).1 ≠ 0 := by rw [← h1]; exact h0
      rw [if_neg h0, if_neg h0']
      have hs := h2 (Decidable.not_not.1 h0)
      rcases hs.kids2 with ⟨k1, k2⟩ | ⟨ks, ku, k1, k2⟩
      · rw [kidsE_none k1, kidsE_none k2]
        exact ⟨rfl, fun e => by simp at e⟩
      · rw [kidsE_some k1, kidsE_some k2]
        simp only [ne_eq, not_true_eq_false, if_false]
        rcases hs.pick k1 k2 n with ⟨p1, p2⟩ | ⟨c, d, p1, p2, hs'⟩
        · rw [p1, p2]
          exact ⟨rfl, fun e => by simp at e⟩
        · rw [p1, p2]
          exact ⟨rfl, fun _ => hs'⟩
theorem find_at {t : LT} {r : List ByteArray} (h : (findE a t r).1 = 0) : t.at a r.reverse = some (findE a t r).2 := by
  rcases find_sem a (fun _ => ⟨#[]⟩) t r with ⟨_, h2⟩ | ⟨h1, _⟩
  · exact h2
  · exact absurd h h1
theorem look_two {t u : LT} (h : SemEq a fc t b fc' u) (r : List ByteArray) : ((lookE a t r).1 ≠ 0 ∧ (lookE b u r).1 = (lookE a t r).1) ∨
    ∃ d e ks ku, t.at a r.reverse = some d ∧ u.at b r.reverse = some e ∧ SemEq a fc d b fc' e ∧ kids a d = some ks ∧ kids b e = some ku ∧ lookE a t r = (0, ks) ∧ lookE b u r = (0, ku) := by
  obtain ⟨h1, h2⟩ := find_two h r
  unfold lookE
  simp only
  by_cases h0 : (findE a t r).1 ≠ 0
  · have h0' : (findE b u r).1 ≠ 0 := by rw [← h1]; exact h0
    rw [if_pos h0, if_pos h0']
    exact .inl ⟨h0, h1.symm⟩
  · have h0' : ¬ (findE b u r).1 ≠ 0 := by rw [← h1]; exact h0
    rw [if_neg h0, if_neg h0']
    have z := Decidable.not_not.1 h0
    have hs := h2 z
    rcases hs.kids2 with ⟨k1, k2⟩ | ⟨ks, ku, k1, k2⟩
    · rw [kidsE_none k1, kidsE_none k2]
      exact .inl ⟨by simp, rfl⟩
    · refine .inr ⟨_, _, ks, ku, find_at z, find_at (h1 ▸ z), hs, k1, k2, kidsE_some k1, kidsE_some k2⟩
theorem vacant_two {t u : LT} (h : SemEq a fc t b fc' u) (hA : Sound a) (hB : Sound b) {n m : Nat} (ht : LTok a n t) (hu : LTok b m u) : (vacantG a fsAll t).2 = (vacantG b fsAll u).2 := by
  unfold vacantG
  rw [h.kind]
  split
  · rfl
  · simp only [all_kids]
    rcases h.kids2 with ⟨k1, k2⟩ | ⟨ks, ku, k1, k2⟩
    · rw [kidsE_none k1, kidsE_none k2]
    · rw [kidsE_some k1, kidsE_some k2]
      simp only [h.length hA hB ht hu k1 k2]
theorem hgt_kids {a : List Ob} (hX : Exact a) {n : Nat} {t : LT} {ks : Kids} (hk : kids a t = some ks) (hkd : ∀ id, t = .dir id → kindOf a id = 2) : hgt a (n + 1) t = ks.foldl (fun h x => max h (1 + hgt a n x.2)) 0 := by
  cases t with
  | file id => cases hk
  | held f => cases hk
  | own es => cases hk; rw [hgt]
  | dir id =>
    cases hk
    rw [hgt, hX.high id (hkd id rfl), List.foldl_map]
    unfold highs
    congr 1
    funext h e
    unfold kidOf ltOf
    split <;> rw [hgt]
theorem foldl_two {α β : Type} {f : Int → α → Int} {g : Int → β → Int} : ∀ {l : List α} {m : List β}, l.length = m.length → (∀ k (h1 : k < l.length) (h2 : k < m.length) z, f z l[k] = g z m[k]) → ∀ z, l.foldl f z = m.foldl g z
  | [], [], _, _, z => rfl
  | [], y :: m, h, _, _ => by cases h
  | x :: l, [], h, _, _ => by cases h
  | x :: l, y :: m, h, hf, z => by
    rw [List.foldl_cons, List.foldl_cons]
    have h0 := hf 0 (by simp) (by simp) z
    simp only [List.getElem_cons_zero] at h0
    rw [h0]
    exact foldl_two (by simpa using h) (fun k h1 h2 z => by have := hf (k + 1) (by simpa using h1) (by simpa using h2) z; simpa using this) _
theorem ok_dirkind {a : List Ob} {n : Nat} {t : LT} (h : LTok a n t) : ∀ id, t = .dir id → kindOf a id = 2 := fun id e => by subst e; rw [LTok] at h; exact h.1
theorem hgt_file {a : List Ob} (hX : Exact a) {n m : Nat} {t : LT} (h : LTok a m t) (hk : t.kind ≠ 2) : hgt a n t = 0 := by
  cases t with
  | file id => rw [hgt]; rw [LTok] at h; exact hX.low id h
  | held f => rw [hgt]
  | own es => exact absurd rfl hk
  | dir id => exact absurd rfl hk
theorem hgt_two (hXa : Exact a) (hXb : Exact b) : ∀ (n m : Nat) (t u : LT), n ≤ m → LTok a n t → LTok b n u → SemEq a fc t b fc' u → hgt a m t = hgt b m u
  | 0, m, t, u, _, ht, hu, h => by
    by_cases hk : t.kind = 2
    · obtain ⟨ks, k1⟩ := kids_some (a := a) hk
      obtain ⟨ku, k2⟩ := kids_some (a := b) (h.kind ▸ hk)
      have e1 : ks = [] := by
        cases ks with
        | nil => rfl
        | cons x r => obtain ⟨_, m, e, _⟩ := (ok_kids hXa.sound ht k1).2.2 x (List.mem_cons_self ..); omega
      have e2 : ku = [] := by
        cases ku with
        | nil => rfl
        | cons x r => obtain ⟨_, m, e, _⟩ := (ok_kids hXb.sound hu k2).2.2 x (List.mem_cons_self ..); omega
      subst e1
      subst e2
      cases m with
      | zero =>
        have z : ∀ {a : List Ob} {t : LT}, Exact a → LTok a 0 t → kids a t = some [] → hgt a 0 t = 0 := by
          intro a t hX ht hk
          cases t with
          | file id => cases hk
          | held f => cases hk
          | own es => rw [hgt]
          | dir id =>
            rw [LTok] at ht
            rw [hgt, hX.high id ht.1]
            have : entsOf a id = [] := by
              have := Option.some.inj hk
              exact List.map_eq_nil_iff.1 this
            rw [this]; rfl
        rw [z hXa ht k1, z hXb hu k2]
      | succ m => rw [hgt_kids hXa k1 (ok_dirkind ht), hgt_kids hXb k2 (ok_dirkind hu)]; rfl
    · rw [hgt_file hXa ht hk, hgt_file hXb hu (by rw [← h.kind]; exact hk)]
  | n + 1, m, t, u, hm, ht, hu, h => by
    by_cases hk : t.kind = 2
    · obtain ⟨ks, k1⟩ := kids_some (a := a) hk
      obtain ⟨ku, k2⟩ := kids_some (a := b) (h.kind ▸ hk)
      obtain ⟨rk, _, hk2⟩ := ok_kids hXa.sound ht k1
      obtain ⟨ru, _, hu2⟩ := ok_kids hXb.sound hu k2
      obtain ⟨hn, hs⟩ := kid_sem2 h k1 k2 rk ru
      have hlen : ks.length = ku.length := by have := congrArg List.length hn; simpa using this
      obtain ⟨m', rfl⟩ : ∃ m', m = m' + 1 := ⟨m - 1, by omega⟩
      rw [hgt_kids hXa k1 (ok_dirkind ht), hgt_kids hXb k2 (ok_dirkind hu)]
      refine foldl_two hlen (fun k h1 h2 z => ?_) 0
      obtain ⟨m1, e1, o1⟩ := (hk2 _ (List.getElem_mem h1)).2
      obtain ⟨m2, e2, o2⟩ := (hu2 _ (List.getElem_mem h2)).2
      have e1' : m1 = n := by omega
      have e2' : m2 = n := by omega
      subst e1'
      subst e2'
      rw [hgt_two hXa hXb m2 m' _ _ (by omega) o1 o2 (hs k h1 h2)]
    · rw [hgt_file hXa ht hk, hgt_file hXb hu (by rw [← h.kind]; exact hk)]
end
end Go.Proofs.YtajopoddmfdejaaGreat

namespace Go.Proofs.YtajopoddmfdejaaGreat
open Go.RowKit Go.Sort Go.Shelf
set_option linter.unusedVariables false
def stepS (k : Int) (p p' : List ByteArray) (d : ByteArray) (S : List ByteArray → Option Nd) (x : List ByteArray) : Option Nd :=
  if k < 3 then (if x = p then some (.file d) else if p <+: x then none else S x)
  else if k = 3 then (if x = p then some .dir else if p <+: x then none else S x)
  else if k = 4 then (if p <+: x then none else S x)
  else if p = p' then S x else if p' <+: x then S (p ++ x.drop p'.length) else if p <+: x then none else S x
theorem fair_nobrk {β : Type} {fs fs' : FS} {x all none : β} (h : Fair fs fs' x all none) (hb : fs.brk = false) : x = all := by
  rcases h with ⟨_, h⟩ | ⟨h, _⟩
  · exact h
  · rw [h.1] at hb; cases hb
section
variable {a : List Ob} {fc : FileC}
theorem sem_leaf (f : Nat) (x : List ByteArray) : sem a fc (.held f) x = if x = [] then some (.file (fc f)) else none := by
  cases x with
  | nil => rw [sem_nil]; rfl
  | cons n r => rw [sem_cons, if_neg (by simp)]; rfl
theorem sem_empty (x : List ByteArray) : sem a fc (.own []) x = if x = [] then some .dir else none := by
  cases x with
  | nil => rw [sem_nil]; rfl
  | cons n r => rw [sem_cons, if_neg (by simp)]; rfl
theorem look_not14 {t : LT} {r : List ByteArray} : (lookE a t r).1 ≠ 14 := by
  unfold lookE
  simp only
  rcases find_sem a (fun _ => ⟨#[]⟩) t r with ⟨h, _⟩ | ⟨h, _, h2⟩
  · rw [if_neg (by simp [h])]; exact kidsE_not14 _ _
  · rw [if_pos h]
    show (findE a t r).1 ≠ 14
    omega
theorem look_atE {t : LT} {r : List ByteArray} (h : (lookE a t r).1 = 0) : ∃ d, t.at a r.reverse = some d ∧ kids a d = some (lookE a t r).2 := by
  have := look_at (objs := a) (t := t) (fs := fsAll) (r := r) (by rw [all_look]; exact h)
  rw [all_look] at this
  exact this
theorem put_sem {t d c : LT} {q : List ByteArray} {n : ByteArray} {ks : Kids} (ha : t.at a q = some d) (hk : kids a d = some ks) (hr : RisingK ks) (x : List ByteArray) :
    sem a fc (modG a (fun ks => putK ks n c) q t) x = if q ++ [n] <+: x then sem a fc c (x.drop (q ++ [n]).length) else sem a fc t x := by
  obtain ⟨p1, p2⟩ := sem_put (fc := fc) (n := n) hr ha hk c
  by_cases hx : (q ++ [n]) <+: x
  · rw [if_pos hx]
    obtain ⟨r, rfl⟩ := hx
    rw [List.drop_left, show q ++ [n] ++ r = q ++ n :: r by simp, p1]
  · rw [if_neg hx, p2 x hx]
theorem drop_nil_iff {p x : List ByteArray} (h : p <+: x) : x.drop p.length = [] ↔ x = p := by
  obtain ⟨r, rfl⟩ := h
  rw [List.drop_left]
  constructor
  · rintro rfl; simp
  · intro e; simpa using e
theorem code_mkdir {t : LT} (hS : Sound a) (hok : LTok a 5 t) (n : ByteArray) (r : List ByteArray) {er : Int} {t' : LT} (h : (mkdirR a t fsAll (n :: r)).2 = (er, t')) :
    er ≠ 14 ∧ (er ≠ 0 → t' = t) ∧ (er = 0 → sem a fc t (r.reverse ++ [n]) = none ∧ ∀ x, sem a fc t' x = if x = r.reverse ++ [n] then some .dir else if r.reverse ++ [n] <+: x then none else sem a fc t x) := by
  unfold mkdirR at h
  simp only [all_look] at h
  split at h
  · rename_i h0
    cases h
    exact ⟨look_not14, fun _ => rfl, fun e => absurd e h0⟩
  · rename_i h0
    have z := Decidable.not_not.1 h0
    obtain ⟨d, ha, hk⟩ := look_atE z
    have hr := (ok_kids hS (ok_at hS _ hok ha).2.1 hk).1
    split at h
    · cases h; exact ⟨by decide, fun _ => rfl, fun e => by cases e⟩
    · rename_i hp
      split at h
      · cases h; exact ⟨by decide, fun _ => rfl, fun e => by cases e⟩
      · cases h
        refine ⟨by decide, fun e => absurd rfl e, fun _ => ⟨?_, fun x => ?_⟩⟩
        · rw [sem_kid ha hk]
          cases hpk : pickK (lookE a t r).2 n with
          | none => rfl
          | some c => rw [hpk] at hp; exact absurd rfl hp
        · rw [put_sem ha hk hr, sem_empty]
          by_cases hx : r.reverse ++ [n] <+: x
          · rw [if_pos hx]
            by_cases e : x = r.reverse ++ [n]
            · rw [if_pos ((drop_nil_iff hx).2 e), if_pos e]
            · rw [if_neg (fun h => e ((drop_nil_iff hx).1 h)), if_neg e, if_pos hx]
          · rw [if_neg hx, if_neg (fun e => hx (by rw [e]; exact List.prefix_refl _)), if_neg hx]
theorem find_way2 {t : LT} {n : ByteArray} {r : List ByteArray} (h : (findE a t (n :: r)).1 = 0) : ∃ d ks, t.at a r.reverse = some d ∧ kids a d = some ks ∧ pickK ks n = some (findE a t (n :: r)).2 ∧ t.at a (r.reverse ++ [n]) = some (findE a t (n :: r)).2 := by
  have := find_at h
  rw [List.reverse_cons] at this
  obtain ⟨d, ks, h1, h2, h3⟩ := at_snoc this
  exact ⟨d, ks, h1, h2, h3, this⟩
theorem find_not14 {t : LT} {r : List ByteArray} : (findE a t r).1 ≠ 14 := by
  rcases find_sem a (fun _ => ⟨#[]⟩) t r with ⟨h, _⟩ | ⟨h, _, h2⟩ <;> omega
theorem vacant_code (c : LT) : (vacantG a fsAll c).2 = 0 ∨ (vacantG a fsAll c).2 = 5 ∨ (vacantG a fsAll c).2 = 8 := by
  unfold vacantG
  simp only [all_kids]
  split
  · exact .inl rfl
  · split
    · exact .inr (.inr rfl)
    · show (kidsE a c).1 = 0 ∨ (kidsE a c).1 = 5 ∨ (kidsE a c).1 = 8
      cases c <;> simp [kidsE]
theorem room_code (b : Bool) (ks : Kids) (n : ByteArray) (c : LT) : (roomG a fsAll b ks n c).2 ≠ 14 := by
  unfold roomG
  cases pickK ks n with
  | none => simp only; split <;> simp
  | some e =>
    simp only
    unfold yieldsG
    split
    · simp
    · split
      · simp
      · have := vacant_code (a := a) e
        omega
theorem code_remove {t : LT} (hS : Sound a) (hok : LTok a 5 t) (n : ByteArray) (r : List ByteArray) {er : Int} {t' : LT} (h : (removeR a t fsAll (n :: r)).2 = (er, t')) :
    er ≠ 14 ∧ (er ≠ 0 → t' = t) ∧ (er = 0 → sem a fc t (r.reverse ++ [n]) ≠ none ∧ ∀ x, sem a fc t' x = if r.reverse ++ [n] <+: x then none else sem a fc t x) := by
  unfold removeR at h
  simp only [all_find] at h
  split at h
  · rename_i h0
    cases h
    exact ⟨find_not14, fun _ => rfl, fun e => absurd e h0⟩
  · rename_i h0
    have z := Decidable.not_not.1 h0
    obtain ⟨d, ks, ha, hk, hp, hat⟩ := find_way2 z
    have hr := (ok_kids hS (ok_at hS _ hok ha).2.1 hk).1
    split at h
    · rename_i hv
      cases h
      have := vacant_code (a := a) (findE a t (n :: r)).2
      exact ⟨by omega, fun _ => rfl, fun e => absurd e hv⟩
    · cases h
      obtain ⟨s1, s2⟩ := sem_drop (fc := fc) hr (by rw [← pick_there hr, hp]; rfl) ha hk
      refine ⟨by decide, fun e => absurd rfl e, fun _ => ⟨by unfold sem; rw [hat]; simp, fun x => ?_⟩⟩
      by_cases hx : r.reverse ++ [n] <+: x
      · rw [if_pos hx]
        obtain ⟨y, rfl⟩ := hx
        rw [show r.reverse ++ [n] ++ y = r.reverse ++ n :: y by simp, s1]
      · rw [if_neg hx, s2 x hx]
theorem code_rename {t : LT} (hS : Sound a) (hok : LTok a 5 t) (n m : ByteArray) (r q : List ByteArray) {er : Int} {t' : LT} (h : (renameR a t fsAll (n :: r) (m :: q)).2 = (er, t')) :
    er ≠ 14 ∧ (er ≠ 0 → t' = t) ∧ (er = 0 → sem a fc t (r.reverse ++ [n]) ≠ none ∧ (r.reverse ++ [n] ≠ q.reverse ++ [m] → ¬ r.reverse ++ [n] <+: q.reverse ++ [m]) ∧ ∀ x, sem a fc t' x = if r.reverse ++ [n] = q.reverse ++ [m] then sem a fc t x else if q.reverse ++ [m] <+: x then sem a fc t (r.reverse ++ [n] ++ x.drop (q.reverse ++ [m]).length) else if r.reverse ++ [n] <+: x then none else sem a fc t x) := by
  have hinj : n :: r = m :: q ↔ r.reverse ++ [n] = q.reverse ++ [m] := by
    rw [← List.reverse_cons, ← List.reverse_cons]
    exact ⟨fun e => by rw [e], fun e => List.reverse_inj.1 e⟩
  unfold renameR at h
  simp only [all_find, all_look, List.reverse_cons] at h
  split at h
  · rename_i h0
    cases h
    exact ⟨find_not14, fun _ => rfl, fun e => absurd e h0⟩
  · rename_i h0
    have z := Decidable.not_not.1 h0
    obtain ⟨d, ks, ha, hk, hp, hat⟩ := find_way2 z
    have hr := (ok_kids hS (ok_at hS _ hok ha).2.1 hk).1
    have hne : sem a fc t (r.reverse ++ [n]) ≠ none := by unfold sem; rw [hat]; simp
    split at h
    · cases h; exact ⟨by decide, fun _ => rfl, fun e => by cases e⟩
    · rename_i hpre
      split at h
      · rename_i hl
        cases h
        refine ⟨look_not14, fun _ => rfl, fun e => ?_⟩
        rcases hl with hl | hl
        · exact absurd e hl
        · exact ⟨hne, fun h => absurd (hinj.1 hl) h, fun x => by rw [if_pos (hinj.1 hl)]⟩
      · rename_i hl
        have hl0 : (lookE a t q).1 = 0 := Decidable.not_not.1 (fun h => hl (.inl h))
        have hle : ¬ n :: r = m :: q := fun h => hl (.inr h)
        have hnp : ¬ r.reverse ++ [n] <+: q.reverse ++ [m] := fun h => hpre ⟨h, hle⟩
        split at h
        · rename_i hv
          cases h
          exact ⟨room_code _ _ _ _, fun _ => rfl, fun e => absurd e hv⟩
        · split at h
          · cases h; exact ⟨by decide, fun _ => rfl, fun e => by cases e⟩
          · cases h
            obtain ⟨dt, hat', hkt⟩ := look_atE hl0
            refine ⟨by decide, fun e => absurd rfl e, fun _ => ⟨hne, fun _ => hnp, fun x => ?_⟩⟩
            rw [if_neg (fun e => hle (hinj.2 e))]
            exact sem_rename (fc := fc) hS hok ha hk hp hat' hkt hnp x
end
end Go.Proofs.YtajopoddmfdejaaGreat

namespace Go.Proofs.YtajopoddmfdejaaGreat
open Go.RowKit Go.Sort Go.Shelf
set_option linter.unusedVariables false
section
variable {a : List Ob}
theorem code_put {g g' : WG} {t t' : LT} (hS : Sound a) (hok : LTok a 5 t) (hheld : ∀ x f, t.at a x = some (.held f) → ∃ y, g.fl f = some y) (hinj : HeldInj a t) (hbr : g.fs.brk = false) {n : ByteArray} {r : List ByteArray} {d : ByteArray} {er : Int} (h : PutTo a g t n r d er g' t') :
    er ≠ 14 ∧ (er ≠ 0 → t' = t ∧ g'.fl = g.fl) ∧ (er = 0 → ∀ x, sem a (fcOf a g'.fl) t' x = if x = r.reverse ++ [n] then some (.file d) else if r.reverse ++ [n] <+: x then none else sem a (fcOf a g.fl) t x) := by
  obtain ⟨_, _, h⟩ := h
  rw [look_nobrk hbr] at h
  rcases h with ⟨h0, he, ht, hf⟩ | ⟨h0, h1, he, ht, hf⟩ | ⟨h0, h1, he, f, hf, hx, hh⟩
  · rw [he]; exact ⟨look_not14, fun _ => ⟨ht, hf⟩, fun e => absurd e h0⟩
  · rw [he]
    refine ⟨?_, fun _ => ⟨ht, hf⟩, fun e => absurd e h1⟩
    unfold openE
    cases pickK (lookE a t r).2 n with
    | none => simp only; split <;> (try split) <;> simp
    | some c => simp only; split <;> (try split) <;> simp
  · subst he
    refine ⟨by decide, fun e => absurd rfl e, fun _ x => ?_⟩
    obtain ⟨dd, had, hkd⟩ := look_atE h0
    have hr := (ok_kids hS (ok_at hS _ hok had).2.1 hkd).1
    have hff : fcOf a g'.fl f = d := by unfold fcOf; rw [hf]; simp
    rcases hh with ⟨hp, rfl⟩ | ⟨_, hfn, rfl⟩
    · have hat : t'.at a (r.reverse ++ [n]) = some (.held f) := by rw [at_kid had hkd, hp, Option.bind_some, at_nil]
      by_cases e : x = r.reverse ++ [n]
      · rw [if_pos e, e]
        unfold sem
        rw [hat, Option.map_some, nd, hff]
      · rw [if_neg e]
        by_cases hx2 : r.reverse ++ [n] <+: x
        · rw [if_pos hx2]
          obtain ⟨y, rfl⟩ := hx2
          cases y with
          | nil => exact absurd (by simp) e
          | cons z y =>
            unfold sem
            rw [at_append, hat, Option.bind_some, at_cons]; rfl
        · rw [if_neg hx2]
          unfold sem
          cases hc : t'.at a x with
          | none => rfl
          | some c =>
            cases c with
            | file i => rfl
            | dir i => rfl
            | own es => rfl
            | held f' =>
              have hne : f' ≠ f := fun e' => by
                subst e'
                exact e (hinj x _ f' hc hat)
              simp only [Option.map_some, nd]
              unfold fcOf
              rw [hx f' hne]
    · have hfc : ∀ y f', t.at a y = some (.held f') → fcOf a g'.fl f' = fcOf a g.fl f' := fun y f' hy => by
        obtain ⟨z, hz⟩ := hheld y f' hy
        have hne : f' ≠ f := fun e' => by rw [e', hfn] at hz; cases hz
        unfold fcOf
        rw [hx f' hne]
      rw [put_sem had hkd hr, sem_leaf, hff, sem_fc hfc x]
      by_cases hx2 : r.reverse ++ [n] <+: x
      · rw [if_pos hx2]
        by_cases e : x = r.reverse ++ [n]
        · rw [if_pos ((drop_nil_iff hx2).2 e), if_pos e]
        · rw [if_neg (fun h => e ((drop_nil_iff hx2).1 h)), if_neg e, if_pos hx2]
      · rw [if_neg hx2, if_neg (fun e => hx2 (by rw [e]; exact List.prefix_refl _)), if_neg hx2]
theorem step_sem {g g' : WG} {t t' : LT} (hS : Sound a) (hok : LTok a 5 t) (hheld : ∀ x f, t.at a x = some (.held f) → ∃ y, g.fl f = some y) (hinj : HeldInj a t) (hbr : g.fs.brk = false) {k : Int} {na nb : ByteArray} {ra rb : List ByteArray} {d : ByteArray} {er : Int} (h : StepTo a g t k na nb ra rb d er g' t') :
    er ≠ 14 ∧ (er ≠ 0 → t' = t ∧ g'.fl = g.fl) ∧ (er = 0 → (∀ x, sem a (fcOf a g'.fl) t' x = stepS k (ra.reverse ++ [na]) (rb.reverse ++ [nb]) d (sem a (fcOf a g.fl) t) x) ∧ (k = 3 → sem a (fcOf a g.fl) t (ra.reverse ++ [na]) = none) ∧ (k = 4 → sem a (fcOf a g.fl) t (ra.reverse ++ [na]) ≠ none) ∧ (k = 5 → sem a (fcOf a g.fl) t (ra.reverse ++ [na]) ≠ none ∧ (ra.reverse ++ [na] ≠ rb.reverse ++ [nb] → ¬ ra.reverse ++ [na] <+: rb.reverse ++ [nb]))) := by
  rcases h with ⟨hk, h⟩ | ⟨hk, he, ht, _, hf, _⟩ | ⟨hk, he, ht, _, hf, _⟩ | ⟨hk, he, ht, _, hf, _⟩
  · obtain ⟨h1, h2, h3⟩ := code_put hS hok hheld hinj hbr h
    refine ⟨h1, h2, fun e => ⟨fun x => ?_, fun e => by omega, fun e => by omega, fun e => by omega⟩⟩
    rw [h3 e x]
    unfold stepS
    rw [if_pos hk]
  · have hm := fair_nobrk (fair_mkdir a t g.fs (na :: ra)) hbr
    obtain ⟨h1, h2, h3⟩ := code_mkdir (fc := fcOf a g.fl) hS hok na ra (er := er) (t' := t') (by rw [← hm, he, ht])
    refine ⟨h1, fun e => ⟨h2 e, hf⟩, fun e => ⟨fun x => ?_, fun _ => (h3 e).1, fun e => by omega, fun e => by omega⟩⟩
    rw [hf, (h3 e).2 x]
    have e1 : ¬ k < 3 := by omega
    unfold stepS
    rw [if_neg e1, if_pos hk]
  · have hm := fair_nobrk (fair_remove a t g.fs (na :: ra)) hbr
    obtain ⟨h1, h2, h3⟩ := code_remove (fc := fcOf a g.fl) hS hok na ra (er := er) (t' := t') (by rw [← hm, he, ht])
    refine ⟨h1, fun e => ⟨h2 e, hf⟩, fun e => ⟨fun x => ?_, fun e => by omega, fun _ => (h3 e).1, fun e => by omega⟩⟩
    rw [hf, (h3 e).2 x]
    have e1 : ¬ k < 3 := by omega
    have e2 : ¬ k = 3 := by omega
    unfold stepS
    rw [if_neg e1, if_neg e2, if_pos hk]
  · have hm := fair_nobrk (fair_rename a t g.fs (na :: ra) (nb :: rb)) hbr
    obtain ⟨h1, h2, h3⟩ := code_rename (fc := fcOf a g.fl) hS hok na nb ra rb (er := er) (t' := t') (by rw [← hm, he, ht])
    refine ⟨h1, fun e => ⟨h2 e, hf⟩, fun e => ⟨fun x => ?_, fun e => by omega, fun e => by omega, fun _ => ⟨(h3 e).1, (h3 e).2.1⟩⟩⟩
    rw [hf, (h3 e).2.2 x]
    have e1 : ¬ k < 3 := by omega
    have e2 : ¬ k = 3 := by omega
    have e3 : ¬ k = 4 := by omega
    unfold stepS
    rw [if_neg e1, if_neg e2, if_neg e3]
theorem step_inj {g g' : WG} {t t' : LT} (hS : Sound a) (hok : LTok a 5 t) (hheld : ∀ x f, t.at a x = some (.held f) → ∃ y, g.fl f = some y) (hinj : HeldInj a t) {k : Int} {na nb : ByteArray} {ra rb : List ByteArray} {d : ByteArray} {er : Int} (hra : ra.length ≤ 4) (hrb : rb.length ≤ 4) (h : StepTo a g t k na nb ra rb d er g' t') : HeldInj a t' ∧ big a 5 t' ≤ big a 5 t + 1 := by
  rcases h with ⟨_, _, _, ⟨_, _, h2, h3⟩ | ⟨_, _, _, h2, h3⟩ | ⟨h0, _, _, f, hf, hx, hh⟩⟩ | ⟨_, _, h1, _, h3, _⟩ | ⟨_, _, h1, _, h3, _⟩ | ⟨_, _, h1, _, h3, _⟩
  · rw [h2]; exact ⟨hinj, by omega⟩
  · rw [h2]; exact ⟨hinj, by omega⟩
  · obtain ⟨dd, had, hkd⟩ := look_at h0
    have hr := (ok_kids hS (ok_at hS _ hok had).2.1 hkd).1
    rcases hh with ⟨hp, rfl⟩ | ⟨_, hfn, rfl⟩
    · exact ⟨hinj, by omega⟩
    · have hheld0 : ∀ r b, (LT.held f).at a r = some (.held b) → r = [] ∧ b = f := by
        intro r b hr
        cases r with
        | nil => rw [at_nil] at hr; cases hr; exact ⟨rfl, rfl⟩
        | cons m r => rw [at_cons] at hr; simp [kids] at hr
      refine ⟨inj_put hinj hr had hkd (fun x y b h1 h2 => by rw [(hheld0 x b h1).1, (hheld0 y b h2).1]) (fun r b y h1 h2 => ?_), ?_⟩
      · obtain ⟨_, rfl⟩ := hheld0 r b h1
        obtain ⟨z, hz⟩ := hheld y b h2
        rw [hfn] at hz; cases hz
      · have hb1 : ∀ k, big a k (.held f) = 1 := by intro k; cases k <;> (rw [big]; try rfl)
        have := big_put hS (c := .held f) hok had hkd (by simpa using hra) na
        rw [hb1] at this
        omega
  · rw [h1]; exact ⟨inj_mkdir hS hok hinj _ _ _, big_mkdir hS hok g.fs (n := na) hra⟩
  · rw [h1]; exact ⟨inj_remove hS hok hinj _ _ _, by have := big_remove hS hok g.fs (n := na) (r := ra); omega⟩
  · rw [h1]; exact ⟨inj_rename hS hok hinj _ _ _ _ _, by have := big_rename hS hok g.fs (n := na) (m := nb) (r := ra) hrb; omega⟩
end
section
variable {a b : List Ob} {fc fc' : FileC}
theorem mkdir_two {t u : LT} (h : SemEq a fc t b fc' u) (hA : Sound a) (hB : Sound b) (ht : LTok a 5 t) (hu : LTok b 5 u) (n : ByteArray) (r : List ByteArray) : (mkdirR a t fsAll (n :: r)).2.1 = (mkdirR b u fsAll (n :: r)).2.1 := by
  unfold mkdirR
  simp only [all_look]
  rcases look_two h r with ⟨h1, h2⟩ | ⟨d, e, ks, ku, h1, h2, h3, h4, h5, h6, h7⟩
  · rw [if_pos h1, if_pos (by rw [h2]; exact h1)]; exact h2.symm
  · rw [h6, h7]
    simp only [ne_eq, not_true_eq_false, if_false]
    rcases h3.pick h4 h5 n with ⟨p1, p2⟩ | ⟨c, c', p1, p2, _⟩
    · rw [p1, p2, h3.length hA hB (ok_at hA _ ht h1).2.1 (ok_at hB _ hu h2).2.1 h4 h5]
      split <;> (try split) <;> rfl
    · rw [p1, p2]; rfl
theorem open_two {t u : LT} (h : SemEq a fc t b fc' u) (hA : Sound a) (hB : Sound b) (ht : LTok a 5 t) (hu : LTok b 5 u) (n : ByteArray) (r : List ByteArray) : (lookE a t r).1 = (lookE b u r).1 ∧ ((lookE a t r).1 = 0 → openE (lookE a t r).2 n false true = openE (lookE b u r).2 n false true) := by
  rcases look_two h r with ⟨h1, h2⟩ | ⟨d, e, ks, ku, h1, h2, h3, h4, h5, h6, h7⟩
  · exact ⟨h2.symm, fun e => absurd e h1⟩
  · rw [h6, h7]
    refine ⟨rfl, fun _ => ?_⟩
    unfold openE
    rcases h3.pick h4 h5 n with ⟨p1, p2⟩ | ⟨c, c', p1, p2, hs⟩
    · simp only [p1, p2, h3.length hA hB (ok_at hA _ ht h1).2.1 (ok_at hB _ hu h2).2.1 h4 h5]
    · simp only [p1, p2, hs.kind]
theorem remove_two {t u : LT} (h : SemEq a fc t b fc' u) (hA : Sound a) (hB : Sound b) (ht : LTok a 5 t) (hu : LTok b 5 u) (n : ByteArray) (r : List ByteArray) : (removeR a t fsAll (n :: r)).2.1 = (removeR b u fsAll (n :: r)).2.1 := by
  unfold removeR
  simp only [all_find]
  obtain ⟨h1, h2⟩ := find_two h (n :: r)
  by_cases h0 : (findE a t (n :: r)).1 ≠ 0
  · rw [if_pos h0, if_pos (by rw [← h1]; exact h0)]; exact h1
  · have h0' : ¬ (findE b u (n :: r)).1 ≠ 0 := by rw [← h1]; exact h0
    rw [if_neg h0, if_neg h0']
    have z := Decidable.not_not.1 h0
    have hv := vacant_two (h2 z) hA hB (ok_at hA _ ht (find_at z)).2.1 (ok_at hB _ hu (find_at (h1 ▸ z))).2.1
    rw [hv]
    split <;> rfl
theorem rename_two {t u : LT} (h : SemEq a fc t b fc' u) (hXa : Exact a) (hXb : Exact b) (ht : LTok a 5 t) (hu : LTok b 5 u) (n m : ByteArray) (r q : List ByteArray) : (renameR a t fsAll (n :: r) (m :: q)).2.1 = (renameR b u fsAll (n :: r) (m :: q)).2.1 := by
  have hA := hXa.sound
  have hB := hXb.sound
  unfold renameR
  simp only [all_find, all_look]
  obtain ⟨h1, h2⟩ := find_two h (n :: r)
  by_cases h0 : (findE a t (n :: r)).1 ≠ 0
  · rw [if_pos h0, if_pos (by rw [← h1]; exact h0)]; exact h1
  · have h0' : ¬ (findE b u (n :: r)).1 ≠ 0 := by rw [← h1]; exact h0
    rw [if_neg h0, if_neg h0']
    have z := Decidable.not_not.1 h0
    have hs := h2 z
    have oa := (ok_at hA _ ht (find_at z)).2.1
    have ob := (ok_at hB _ hu (find_at (h1 ▸ z))).2.1
    have hg := hgt_two hXa hXb _ 5 _ _ (by omega) oa ob hs
    split
    · rfl
    · rcases look_two h q with ⟨l1, l2⟩ | ⟨d, e, ks, ku, l1, l2, l3, l4, l5, l6, l7⟩
      · rw [if_pos (.inl l1), if_pos (.inl (by rw [l2]; exact l1))]; exact l2.symm
      · rw [l6, l7]
        simp only [ne_eq, not_true_eq_false, false_or]
        split
        · rfl
        · have hroom : (roomG a fsAll (decide (r = q)) ks m (findE a t (n :: r)).2).2 = (roomG b fsAll (decide (r = q)) ku m (findE b u (n :: r)).2).2 := by
            unfold roomG
            rcases l3.pick l4 l5 m with ⟨p1, p2⟩ | ⟨c, c', p1, p2, hs'⟩
            · rw [p1, p2]
              simp only [l3.length hA hB (ok_at hA _ ht l1).2.1 (ok_at hB _ hu l2).2.1 l4 l5]
            · rw [p1, p2]
              simp only
              unfold yieldsG
              have hca : t.at a (q.reverse ++ [m]) = some c := by rw [at_kid l1 l4, p1, Option.bind_some, at_nil]
              have hcb : u.at b (q.reverse ++ [m]) = some c' := by rw [at_kid l2 l5, p2, Option.bind_some, at_nil]
              rw [hs'.kind, hs.kind]
              split
              · rfl
              · split
                · rfl
                · exact vacant_two hs' hA hB (ok_at hA _ ht hca).2.1 (ok_at hB _ hu hcb).2.1
          rw [hroom, hg]
          split
          · rfl
          · split <;> rfl
theorem step_two {g g' h h' : WG} {t t' u u' : LT} (hXa : Exact a) (hXb : Exact b) (ht : LTok a 5 t) (hu : LTok b 5 u) (hht : ∀ x f, t.at a x = some (.held f) → ∃ y, g.fl f = some y) (hhu : ∀ x f, u.at b x = some (.held f) → ∃ y, h.fl f = some y) (hit : HeldInj a t) (hiu : HeldInj b u) (hbt : g.fs.brk = false) (hbu : h.fs.brk = false)
    (hs : SemEq a (fcOf a g.fl) t b (fcOf b h.fl) u) {k : Int} {na nb : ByteArray} {ra rb : List ByteArray} {d : ByteArray} {er er' : Int} (h1 : StepTo a g t k na nb ra rb d er g' t') (h2 : StepTo b h u k na nb ra rb d er' h' u') : er = er' ∧ SemEq a (fcOf a g'.fl) t' b (fcOf b h'.fl) u' := by
  have hA := hXa.sound
  have hB := hXb.sound
  obtain ⟨_, a2, a3⟩ := step_sem hA ht hht hit hbt h1
  obtain ⟨_, b2, b3⟩ := step_sem hB hu hhu hiu hbu h2
  have hcode : er = er' := by
    rcases h1 with ⟨k1, _, _, h1⟩ | ⟨k1, e1, _⟩ | ⟨k1, e1, _⟩ | ⟨k1, e1, _⟩ <;> rcases h2 with ⟨k2, _, _, h2⟩ | ⟨k2, e2, _⟩ | ⟨k2, e2, _⟩ | ⟨k2, e2, _⟩ <;> try omega
    · rw [look_nobrk hbt] at h1
      rw [look_nobrk hbu] at h2
      obtain ⟨o1, o2⟩ := open_two hs hA hB ht hu na ra
      rcases h1 with ⟨x0, x1, _⟩ | ⟨x0, x1, x2, _⟩ | ⟨x0, x1, x2, _⟩ <;> rcases h2 with ⟨y0, y1, _⟩ | ⟨y0, y1, y2, _⟩ | ⟨y0, y1, y2, _⟩
      · rw [x1, y1]; exact o1
      · exact absurd (o1.trans y0) x0
      · exact absurd (o1.trans y0) x0
      · exact absurd (o1.symm.trans x0) y0
      · rw [x2, y2]; exact o2 x0
      · exact absurd ((o2 x0).trans y1) x1
      · exact absurd (o1.symm.trans x0) y0
      · exact absurd ((o2 x0).symm.trans x1) y1
      · rw [x2, y2]
    · rw [e1, e2, fair_nobrk (fair_mkdir a t g.fs (na :: ra)) hbt, fair_nobrk (fair_mkdir b u h.fs (na :: ra)) hbu]
      exact mkdir_two hs hA hB ht hu na ra
    · rw [e1, e2, fair_nobrk (fair_remove a t g.fs (na :: ra)) hbt, fair_nobrk (fair_remove b u h.fs (na :: ra)) hbu]
      exact remove_two hs hA hB ht hu na ra
    · rw [e1, e2, fair_nobrk (fair_rename a t g.fs (na :: ra) (nb :: rb)) hbt, fair_nobrk (fair_rename b u h.fs (na :: ra) (nb :: rb)) hbu]
      exact rename_two hs hXa hXb ht hu na nb ra rb
  refine ⟨hcode, fun x => ?_⟩
  by_cases e : er = 0
  · rw [(a3 e).1 x, (b3 (hcode ▸ e)).1 x]
    have : sem a (fcOf a g.fl) t = sem b (fcOf b h.fl) u := funext hs
    rw [this]
  · obtain ⟨q1, q2⟩ := a2 e
    obtain ⟨r1, r2⟩ := b2 (hcode ▸ e)
    rw [q1, q2, r1, r2]
    exact hs x
end
end Go.Proofs.YtajopoddmfdejaaGreat

namespace Go.Proofs.YtajopoddmfdejaaGreat
open Go.RowKit Go.Sort Go.Shelf
set_option linter.unusedVariables false
abbrev Slot := Nat × WB × WG × LT
structure WsAt (tg : Tags) (w : World) (p : Nat) (objs : List Ob) (lim : Nat) (x : Slot) : Prop where
  two : 2 ≤ x.1
  wp : WPart tg w x.1 p x.2.1 objs x.2.2.1 lim
  flat : Flat objs x.2.2.2 x.2.2.1.ft
  ok : LTok objs 5 x.2.2.2
  fl : FlOk objs x.2.2.1.fl
  op : ∀ k, x.2.2.1.op k = none
  inj : HeldInj objs x.2.2.2
def RowsT (tg : Tags) (w : World) (rows : List (Value × List Thing8)) : Prop := ∀ r ∈ rows, w.ownsRow 0 40 3 r.1 r.2.length (flatT r.2) ∧ ∀ b, r.1.ownBlock = some b → tg b = (0, 0)
def setGot (g : WG) (got : List Int) : WG := { g with fs := { g.fs with got := got, brk := false } }
def Many (W wr : World) (s p : Nat) (objs : List Ob) (lim : Nat) (ws : List Slot) (rows : List (Value × List Thing8)) : Prop :=
  ∃ tg got, Old W wr tg ∧ SInv tg wr s p objs got false lim ∧ (∀ x ∈ ws, WsAt tg wr p objs lim x) ∧ (ws.map (·.1)).Nodup ∧ RowsT tg wr rows
theorem RowsT.any {P : Nat × Nat → Prop} {tg tg' : Tags} {w w' : World} {rows : List (Value × List Thing8)} (h : RowsT tg w rows) (hP : ¬ P (0, 0)) (m : Moves P tg tg' w w') : RowsT tg' w' rows := by
  intro r hr
  obtain ⟨h1, h2⟩ := h r hr
  have hk : ∀ b, r.1.ownBlock = some b → w'.heap[b]? = w.heap[b]? ∧ tg' b = (0, 0) := fun b hb => by
    have hlt := ownsRow_lt h1 hb
    exact ⟨m.block b hlt (by rw [h2 b hb]; exact hP), (m.tags b hlt).trans (h2 b hb)⟩
  exact ⟨ownsRow_keep h1 (fun g hg => (hk g hg).1), fun b hb => (hk b hb).2⟩
theorem WsAt.moves {P : Nat × Nat → Prop} {tg tg' : Tags} {w w' : World} {p : Nat} {objs : List Ob} {lim : Nat} {x : Slot} (h : WsAt tg w p objs lim x) (m : Moves P tg tg' w w') (hn : ∀ k, ¬ P (x.1, k)) : WsAt tg' w' p objs lim x := ⟨h.two, h.wp.moves m hn, h.flat, h.ok, h.fl, h.op, h.inj⟩
section
variable {W wr : World} {s p : Nat} {objs : List Ob} {lim : Nat} {ws : List Slot} {rows : List (Value × List Thing8)}
theorem Many.perm {ws' : List Slot} (h : Many W wr s p objs lim ws rows) (hp : ws.Perm ws') : Many W wr s p objs lim ws' rows := by
  obtain ⟨tg, got, hO, hS, hw, hn, hr⟩ := h
  exact ⟨tg, got, hO, hS, fun x hx => hw x (hp.mem_iff.2 hx), (hp.map _).nodup_iff.1 hn, hr⟩
theorem Many.old (h : Many W wr s p objs lim ws rows) : Below W.heap.size W wr := by
  obtain ⟨tg, got, hO, _⟩ := h
  exact hO.1
theorem Many.below {w' : World} (h : Many W wr s p objs lim ws rows) (hb : Below wr.heap.size wr w') : Many W w' s p objs lim ws rows := by
  obtain ⟨tg, got, hO, hS, hw, hn, hr⟩ := h
  have m : Moves (fun _ => False) tg tg wr w' := Moves.of_below hb
  exact ⟨tg, got, hO.any (fun h => h) m, hS.moves m (fun h => h) (fun h => h), fun x hx => (hw x hx).moves m (fun _ h => h), hn, hr.any (fun h => h) m⟩
theorem Many.row (h : Many W wr s p objs lim ws rows) {r : Value × List Thing8} (hr : r ∈ rows) : wr.ownsRow 0 40 3 r.1 r.2.length (flatT r.2) := by
  obtain ⟨tg, got, hO, hS, hw, hn, hR⟩ := h
  exact (hR r hr).1
theorem Many.sound (h : Many W wr s p objs lim ws rows) : Sound objs := by
  obtain ⟨tg, got, hO, hS, _⟩ := h
  exact hS.sound
theorem Many.head {i : Nat} {B : WB} {g : WG} {t : LT} (h : Many W wr s p objs lim ((i, B, g, t) :: ws) rows) : ∃ tg got, QInv tg wr s i p B objs (setGot g got) lim t ∧ HeldInj objs t ∧
    ∀ {tg' : Tags} {w' : World} {g' : WG} {t' : LT} {lim' : Nat}, lim ≤ lim' → Moves (Mine i) tg tg' wr w' → QInv tg' w' s i p B objs g' lim' t' → g'.fs.brk = false → HeldInj objs t' → Many W w' s p objs lim' ((i, B, g', t') :: ws) rows ∧ ∀ v L, ThRow tg' w' wr.heap.size v L.length L → Many W w' s p objs lim' ((i, B, g', t') :: ws) ((v, L) :: rows) := by
  obtain ⟨tg, got, hO, hS, hw, hn, hr⟩ := h
  have hx := hw _ (List.mem_cons_self ..)
  have h2 : 2 ≤ i := hx.two
  refine ⟨tg, got, ⟨⟨hx.two, hS, ?_⟩, hx.flat, hx.ok, hx.fl, hx.op⟩, hx.inj, fun {tg' w' g' t' lim'} hl m hQ hb hi => ?_⟩
  · exact ⟨hx.wp.tree, hx.wp.keptF, hx.wp.keptD, hx.wp.ownF, hx.wp.ownD, hx.wp.files, hx.wp.held, hx.wp.opens, hx.wp.ok⟩
  · have hS' := hQ.inv.st
    rw [hb] at hS'
    have h0 := mine0 h2
    rw [List.map_cons, List.nodup_cons] at hn
    have hws : ∀ x ∈ ((i, B, g', t') :: ws : List Slot), WsAt tg' w' p objs lim' x := fun x hxx => by
      rcases List.mem_cons.1 hxx with rfl | hxx
      · exact ⟨h2, hQ.inv.wp, hQ.flat, hQ.ok, hQ.fl, hQ.op, hi⟩
      · have hx1 := hw x (List.mem_cons_of_mem _ hxx)
        have hne : x.1 ≠ i := fun e => hn.1 (List.mem_map.2 ⟨x, hxx, e⟩)
        have hm := hx1.moves m (fun k hk => by
          rcases hk with hk | hk
          · have := hx1.two
            simp only at hk
            omega
          · exact hne hk)
        exact ⟨hm.two, hm.wp.mono hl, hm.flat, hm.ok, hm.fl, hm.op, hm.inj⟩
    have hnd : (((i, B, g', t') :: ws : List Slot).map (·.1)).Nodup := by
      rw [List.map_cons, List.nodup_cons]; exact hn
    refine ⟨⟨tg', _, hO.any h0 m, hS', hws, hnd, hr.any h0 m⟩, fun v L hv => ⟨tg', _, hO.any h0 m, hS', hws, hnd, fun r hrr => ?_⟩⟩
    rcases List.mem_cons.1 hrr with rfl | hrr
    · exact ⟨row_base0 hv.1, hv.2.2⟩
    · exact hr.any h0 m r hrr
theorem many_made {id : Int} (h : Made W wr s p id) : ∃ objs, Obs8 objs id ∧ Many W wr s p objs 60000 [] [] := by
  obtain ⟨tg, objs, got, hO, hS, hX, hOn, hok, hlen, hid⟩ := h
  exact ⟨objs, ⟨hX, hOn, hok, hlen⟩, tg, got, hO, hS, (fun x hx => by cases hx), List.nodup_nil, (fun r hr => by cases hr)⟩
theorem many_work (h : Many W wr s p objs lim ws rows) {i : Nat} (hi : 2 ≤ i) (hn : ∀ x ∈ ws, x.1 ≠ i) {id : Int} (hok : LTok objs 5 (.dir id)) :
    Calls Tryz.prog 12 #[.pointer (some ⟨s, 0, none⟩), .int .i64 id] wr fun e w' => ∃ (B : WB) (g : WG), e = .returned (.tuple #[.pointer (some ⟨B.wb, 0, none⟩), .bool true]) ∧ g.fl = (fun _ => none) ∧ g.base = id ∧ Many W w' s p objs lim ((i, B, g, .dir id) :: ws) rows := by
  obtain ⟨tg, got, hO, hS, hw, hnd, hr⟩ := h
  refine (work_walk s id (fun wb w' => ∃ (B : WB) (g : WG), B.wb = wb ∧ g.fl = (fun _ => none) ∧ g.base = id ∧ Many W w' s p objs lim ((i, B, g, .dir id) :: ws) rows) wr ((qcheckout (i := i) hS hi hok).mono ?_)).mono ?_
  · rintro e w' ⟨B, he, tg', m, hQ⟩
    refine ⟨B.wb, he, B, wg0 id got, rfl, rfl, rfl, tg', got, hO.any (fun h => h) m, hQ.inv.st, fun x hx => ?_, ?_, hr.any (fun h => h) m⟩
    · rcases List.mem_cons.1 hx with rfl | hx
      · refine ⟨hi, hQ.inv.wp, hQ.flat, hQ.ok, hQ.fl, hQ.op, fun x y b h1 h2 => ?_⟩
        obtain ⟨z, hz⟩ := hQ.held x b h1
        cases hz
      · exact (hw x hx).moves m (fun _ h => h)
    · rw [List.map_cons, List.nodup_cons]
      exact ⟨fun hm => by obtain ⟨x, hx, e⟩ := List.mem_map.1 hm; exact hn x hx e, hnd⟩
  · rintro e w' ⟨wb, he, B, g, rfl, h1, h2, h3⟩
    exact ⟨B, g, he, h1, h2, h3⟩
theorem many_do {i : Nat} {B : WB} {g : WG} {t : LT} (h : Many W wr s p objs lim ((i, B, g, t) :: ws) rows) (hl : lim + 1000 < 1099511627776) {kd a b : Int} {d : ByteArray} (hk : i64 kd) (ha : i64 a) (hb : i64 b) (hd : d.size ≤ maxLen) {na nb : ByteArray} {ra rb : List ByteArray} (hpa : pathL a = ra.reverse ++ [na]) (hpb : pathL b = rb.reverse ++ [nb]) :
    Calls Tryz.prog 14 #[.pointer (some ⟨B.wb, 0, none⟩), .agg #[.int .i64 kd, .int .i64 a, .int .i64 b, .string d]] wr fun e w' => ∃ er g' t', e = .returned (.int .i64 er) ∧ (∃ g1 : WG, g1.fl = g.fl ∧ g1.fs.brk = false ∧ StepTo objs g1 t (pickN kd 6) na nb ra rb (shortB d) er g' t') ∧ big objs 5 t' ≤ big objs 5 t + 1 ∧ Many W w' s p objs (lim + 500) ((i, B, g', t') :: ws) rows := by
  obtain ⟨tg, got, hQ, hinj, hnext⟩ := h.head
  have hla := (pathL_letters a).len
  have hlb := (pathL_letters b).len
  rw [hpa] at hla
  rw [hpb] at hlb
  simp at hla hlb
  refine (do_exact hQ hl kd a b d hk ha hb hd hpa hpb).mono ?_
  rintro e w' ⟨er, he, tg', g', t', m, hQ', hs⟩
  obtain ⟨hi', hbig⟩ := step_inj hQ.inv.st.sound hQ.ok hQ.held hinj (by omega) (by omega) hs
  exact ⟨er, g', t', he, ⟨setGot g got, rfl, rfl, hs⟩, hbig, (hnext (by omega) m hQ' (step_brk rfl hs) hi').1⟩
theorem many_all {i : Nat} {B : WB} {g : WG} {t : LT} (h : Many W wr s p objs lim ((i, B, g, t) :: ws) rows) (hl : lim + 42000000000 < 1099511627776) (hk : t.kind = 2) :
    Calls Tryz.prog 13 #[.pointer (some ⟨B.wb, 0, none⟩)] wr fun e w' => ∃ v g' t', e = .returned (.tuple #[v, .bool true]) ∧ (∀ x, sem objs (fcOf objs g'.fl) t' x = sem objs (fcOf objs g.fl) t x) ∧ (thingsR objs (fcOf objs g.fl) 5 [] t).length ≤ 1118480 ∧ Many W w' s p objs (lim + 4000000000) ((i, B, g', t') :: ws) ((v, thingsR objs (fcOf objs g.fl) 5 [] t) :: rows) := by
  obtain ⟨tg, got, hQ, hinj, hnext⟩ := h.head
  have hb := things_bound (fc := fcOf objs g.fl) hQ.inv.st.sound 5 [] t hQ.ok
  have hb5 := tBound_le (n := 5) (Nat.le_refl _)
  refine (all_any hQ hl rfl hk).mono ?_
  rintro e w' ⟨v, he, _, tg', g', t', m, hQ', hA, hrow⟩
  have hlen : (thingsR objs (fcOf objs g.fl) 5 [] t).length ≤ 1118480 := by omega
  exact ⟨v, g', t', he, hA.sem, hlen, (hnext (lim' := lim + 4000000000) (by omega) m (hQ'.mono (by
    have : (thingsR objs (fcOf objs (setGot g got).fl) 5 [] t).length ≤ 1118480 := hlen
    omega)) hA.brk (hA.inj hinj)).2 v _ hrow⟩
end
end Go.Proofs.YtajopoddmfdejaaGreat

namespace Go.Proofs.YtajopoddmfdejaaGreat
open Go.RowKit Go.Sort Go.Shelf
set_option linter.unusedVariables false
def ApSt (W wr : World) (s p : Nat) (objs : List Ob) (B3 B4 B5 : WB) (lim : Nat) : Prop :=
  ∃ g3 t3 g4 t4 g5 t5, Many W wr s p objs lim [(3, B3, g3, t3), (4, B4, g4, t4), (5, B5, g5, t5)] [] ∧ SemEq objs (fcOf objs g3.fl) t3 objs (fcOf objs g5.fl) t5 ∧ t3.kind = 2
def ApMid (W wr : World) (s p : Nat) (objs : List Ob) (B3 B4 B5 : WB) (kd a b : Int) (d : ByteArray) (er : Int) (lim : Nat) : Prop :=
  ∃ na nb ra rb g3 t3 g4 t4 g5 t5, pathL a = ra.reverse ++ [na] ∧ pathL b = rb.reverse ++ [nb] ∧ Many W wr s p objs lim [(3, B3, g3, t3), (4, B4, g4, t4), (5, B5, g5, t5)] [] ∧ t3.kind = 2 ∧
    ∀ g1 g5' t5' er', g1.fl = g5.fl → g1.fs.brk = false → StepTo objs g1 t5 (pickN kd 6) na nb ra rb (shortB d) er' g5' t5' → er' = er ∧ SemEq objs (fcOf objs g3.fl) t3 objs (fcOf objs g5'.fl) t5'
def ApOne (W wr : World) (s p : Nat) (objs : List Ob) (B3 B4 B5 : WB) (lim : Nat) (v : Value) (L : List Thing8) : Prop :=
  ∃ g3 t3 g4 t4 g5 t5, Many W wr s p objs lim [(5, B5, g5, t5), (3, B3, g3, t3), (4, B4, g4, t4)] [(v, L)] ∧ thingsR objs (fcOf objs g5.fl) 5 [] t5 = L ∧ t5.kind = 2 ∧ L.length ≤ 1118480
theorem ThreeP {α : Type} (a b c : α) : [a, b, c].Perm [c, a, b] := (List.Perm.trans (List.Perm.cons a (List.Perm.swap c b [])) (List.Perm.swap c a [b]))
theorem ThreeQ {α : Type} (a b c : α) : [a, b, c].Perm [b, a, c] := List.Perm.swap b a [c]
theorem Many.slot {W wr : World} {s p : Nat} {objs : List Ob} {lim : Nat} {ws : List Slot} {rows : List (Value × List Thing8)} (h : Many W wr s p objs lim ws rows) {i : Nat} {B : WB} {g : WG} {t : LT} (hx : (i, B, g, t) ∈ ws) : LTok objs 5 t ∧ HeldInj objs t ∧ ∀ x f, t.at objs x = some (.held f) → ∃ y, g.fl f = some y := by
  obtain ⟨tg, got, hO, hS, hw, _⟩ := h
  have h1 := hw _ hx
  exact ⟨h1.ok, h1.inj, fun x f ha => h1.wp.held x f (by rw [h1.flat.of, ha]; rfl)⟩
theorem stepS_nil {k : Int} {p p' : List ByteArray} {d : ByteArray} {S : List ByteArray → Option Nd} (hp : p ≠ []) (hp' : p' ≠ []) : stepS k p p' d S [] = S [] := by
  have h1 : ¬ ([] : List ByteArray) = p := fun e => hp e.symm
  have h2 : ¬ p <+: [] := fun e => hp (List.prefix_nil.1 e)
  have h3 : ¬ p' <+: [] := fun e => hp' (List.prefix_nil.1 e)
  unfold stepS
  simp only [if_neg h1, if_neg h2, if_neg h3, ite_self]
theorem step_kind {a : List Ob} {g g' : WG} {t t' : LT} (hS : Sound a) (hok : LTok a 5 t) (hheld : ∀ x f, t.at a x = some (.held f) → ∃ y, g.fl f = some y) (hinj : HeldInj a t) (hbr : g.fs.brk = false) {k : Int} {na nb : ByteArray} {ra rb : List ByteArray} {d : ByteArray} {er : Int} (h : StepTo a g t k na nb ra rb d er g' t') : t'.kind = t.kind := by
  obtain ⟨_, h2, h3⟩ := step_sem hS hok hheld hinj hbr h
  by_cases e : er = 0
  · have := (h3 e).1 []
    rw [stepS_nil (by simp) (by simp)] at this
    exact nd_kind (sem_nd this)
  · rw [(h2 e).1]
section
variable {W wr : World} {s p : Nat} {objs : List Ob} {id : Int} {B3 B4 B5 : WB} {lim : Nat}
theorem ap_begin {g3 g4 g5 : WG} (h5 : g5.fl = fun _ => none) (h3 : g3.fl = fun _ => none) (h : Many W wr s p objs lim [(5, B5, g5, .dir id), (4, B4, g4, .dir id), (3, B3, g3, .dir id)] []) : ApSt W wr s p objs B3 B4 B5 lim :=
  ⟨g3, .dir id, g4, .dir id, g5, .dir id, h.perm ((List.Perm.swap _ _ _).trans ((List.Perm.cons _ (List.Perm.swap _ _ _)).trans (List.Perm.trans (List.Perm.swap _ _ _) (List.Perm.refl _)))), fun x => by rw [h3, h5], rfl⟩
theorem ap_do3 (hObs : Obs8 objs id) (h : ApSt W wr s p objs B3 B4 B5 lim) (hl : lim + 1000 < 1099511627776) {kd a b : Int} {d : ByteArray} (hk : i64 kd) (ha : i64 a) (hb : i64 b) (hd : d.size ≤ maxLen) :
    Calls Tryz.prog 14 #[.pointer (some ⟨B3.wb, 0, none⟩), .agg #[.int .i64 kd, .int .i64 a, .int .i64 b, .string d]] wr fun e w' => ∃ er, e = .returned (.int .i64 er) ∧ ApMid W w' s p objs B3 B4 B5 kd a b d er (lim + 500) := by
  obtain ⟨g3, t3, g4, t4, g5, t5, hM, hs, hk3⟩ := h
  obtain ⟨na, ra, hpa⟩ := (pathL_letters a).split
  obtain ⟨nb, rb, hpb⟩ := (pathL_letters b).split
  obtain ⟨o3, i3, l3⟩ := hM.slot (List.mem_cons_self ..)
  obtain ⟨o5, i5, l5⟩ := hM.slot (i := 5) (B := B5) (g := g5) (t := t5) (by simp)
  refine (many_do hM hl hk ha hb hd hpa hpb).mono ?_
  rintro e w' ⟨er, g', t', he, ⟨g1, q1, q2, hst⟩, _, hM'⟩
  have l3' : ∀ x f, t3.at objs x = some (.held f) → ∃ y, g1.fl f = some y := fun x f hx => by rw [q1]; exact l3 x f hx
  refine ⟨er, he, na, nb, ra, rb, g', t', g4, t4, g5, t5, hpa, hpb, hM', (step_kind hM.sound o3 l3' i3 q2 hst).trans hk3, fun g2 g5' t5' er' r1 r2 hst' => ?_⟩
  have := step_two hObs.exact hObs.exact o3 o5 l3' (fun x f hx => by rw [r1]; exact l5 x f hx) i3 i5 q2 r2 (by rw [q1, r1]; exact hs) hst hst'
  exact ⟨this.1.symm, this.2⟩
theorem ap_do5 {er : Int} {kd a b : Int} {d : ByteArray} (h : ApMid W wr s p objs B3 B4 B5 kd a b d er lim) (hl : lim + 1000 < 1099511627776) (hk : i64 kd) (ha : i64 a) (hb : i64 b) (hd : d.size ≤ maxLen) :
    Calls Tryz.prog 14 #[.pointer (some ⟨B5.wb, 0, none⟩), .agg #[.int .i64 kd, .int .i64 a, .int .i64 b, .string d]] wr fun e w' => e = .returned (.int .i64 er) ∧ ApSt W w' s p objs B3 B4 B5 (lim + 500) := by
  obtain ⟨na, nb, ra, rb, g3, t3, g4, t4, g5, t5, hpa, hpb, hM, hk3, hall⟩ := h
  refine (many_do (hM.perm (ThreeP _ _ _)) hl hk ha hb hd hpa hpb).mono ?_
  rintro e w' ⟨er', g', t', he, ⟨g1, q1, q2, hst⟩, _, hM'⟩
  obtain ⟨e1, e2⟩ := hall g1 g' t' er' q1 q2 hst
  rw [e1] at he
  exact ⟨he, g3, t3, g4, t4, g', t', hM'.perm (ThreeP _ _ _ |>.trans (ThreeP _ _ _)), e2, hk3⟩
theorem ap_do4 (h : ApSt W wr s p objs B3 B4 B5 lim) (hl : lim + 1000 < 1099511627776) {kd a b : Int} {d : ByteArray} (hk : i64 kd) (ha : i64 a) (hb : i64 b) (hd : d.size ≤ maxLen) :
    Calls Tryz.prog 14 #[.pointer (some ⟨B4.wb, 0, none⟩), .agg #[.int .i64 kd, .int .i64 a, .int .i64 b, .string d]] wr fun e w' => ∃ er, e = .returned (.int .i64 er) ∧ ApSt W w' s p objs B3 B4 B5 (lim + 500) := by
  obtain ⟨g3, t3, g4, t4, g5, t5, hM, hs, hk3⟩ := h
  obtain ⟨na, ra, hpa⟩ := (pathL_letters a).split
  obtain ⟨nb, rb, hpb⟩ := (pathL_letters b).split
  refine (many_do (hM.perm (ThreeQ _ _ _)) hl hk ha hb hd hpa hpb).mono ?_
  rintro e w' ⟨er', g', t', he, _, _, hM'⟩
  exact ⟨er', he, g3, t3, g', t', g5, t5, hM'.perm (ThreeQ _ _ _), hs, hk3⟩
theorem ap_all3 (h : ApSt W wr s p objs B3 B4 B5 lim) (hl : lim + 42000000000 < 1099511627776) :
    Calls Tryz.prog 13 #[.pointer (some ⟨B3.wb, 0, none⟩)] wr fun e w' => ∃ v L, e = .returned (.tuple #[v, .bool true]) ∧ ApOne W w' s p objs B3 B4 B5 (lim + 4000000000) v L := by
  obtain ⟨g3, t3, g4, t4, g5, t5, hM, hs, hk3⟩ := h
  obtain ⟨o3, i3, l3⟩ := hM.slot (List.mem_cons_self ..)
  obtain ⟨o5, i5, l5⟩ := hM.slot (i := 5) (B := B5) (g := g5) (t := t5) (by simp)
  refine (many_all hM hl hk3).mono ?_
  rintro e w' ⟨v, g', t', he, _, hlen, hM'⟩
  exact ⟨v, _, he, g', t', g4, t4, g5, t5, hM'.perm (ThreeP _ _ _), (things_sem hM.sound hM.sound 5 [] t3 t5 o3 o5 hs).symm, hs.kind ▸ hk3, hlen⟩
theorem ap_all5 {v : Value} {L : List Thing8} (h : ApOne W wr s p objs B3 B4 B5 lim v L) (hl : lim + 42000000000 < 1099511627776) :
    Calls Tryz.prog 13 #[.pointer (some ⟨B5.wb, 0, none⟩)] wr fun e w' => ∃ v', e = .returned (.tuple #[v', .bool true]) ∧ Below W.heap.size W w' ∧ Calls Tryz.prog 15 #[v, v'] w' fun e w'' => e = .returned (.bool true) ∧ Below w'.heap.size w' w'' := by
  obtain ⟨g3, t3, g4, t4, g5, t5, hM, hL, hk5, hlen⟩ := h
  refine (many_all hM hl hk5).mono ?_
  rintro e w' ⟨v', g', t', he, _, _, hM'⟩
  refine ⟨v', he, hM'.old, ?_⟩
  have r1 := hM'.row (r := (v', _)) (List.mem_cons_self ..)
  have r2 := hM'.row (r := (v, L)) (by simp)
  rw [hL] at r1
  exact same_eq v v' L.length L 0 0 w' r2 r1 rfl (by omega)
theorem ApSt.old (h : ApSt W wr s p objs B3 B4 B5 lim) : Below W.heap.size W wr := by
  obtain ⟨g3, t3, g4, t4, g5, t5, hM, _⟩ := h
  exact hM.old
theorem ApMid.old {er : Int} {kd a b : Int} {d : ByteArray} (h : ApMid W wr s p objs B3 B4 B5 kd a b d er lim) : Below W.heap.size W wr := by
  obtain ⟨na, nb, ra, rb, g3, t3, g4, t4, g5, t5, hpa, hpb, hM, _⟩ := h
  exact hM.old
theorem ApSt.mono {lim' : Nat} (h : ApSt W wr s p objs B3 B4 B5 lim) (hl : lim ≤ lim') : ApSt W wr s p objs B3 B4 B5 lim' := by
  obtain ⟨g3, t3, g4, t4, g5, t5, ⟨tg, got, hO, hS, hw, hn, hr⟩, h2⟩ := h
  exact ⟨g3, t3, g4, t4, g5, t5, ⟨tg, got, hO, hS.mono hl, fun x hx => by
    have := hw x hx
    exact ⟨this.two, this.wp.mono hl, this.flat, this.ok, this.fl, this.op, this.inj⟩, hn, hr⟩, h2⟩
end
end Go.Proofs.YtajopoddmfdejaaGreat
