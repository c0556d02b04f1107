/-
  What is proved here: the calls of canopykeep's Shown, one by one. a tree that is built anew, thing by thing, in the order in which all that stands in it is told: each may be put, and what is read at the end is what was read. the calls of canopykeep's Committed, one by one.
-/
import Derived.Test.YtajopoddmfdejaaGreatComtdM46
import Derived.Test.YtajopoddmfdejaaGreatComtdM40
namespace Go.Proofs.YtajopoddmfdejaaGreat
open Go.RowKit Go.Sort Go.Shelf
set_option linter.unusedVariables false
def ShOne (W wr : World) (s p : Nat) (objs : List Ob) (B : WB) (lim : Nat) (v : Value) (L : List Thing8) (rows : List (Value × List Thing8)) (N : Nat) : Prop :=
 ∃ g t, Many W wr s p objs lim [(3, B, g, t)] ((v, L) :: rows) /\ thingsR objs (fcOf objs g.fl) 5 [] t = L /\ t.kind = 2 /\ big objs 5 t <= N /\ L.length <= 1118480
section
variable {W wr : World} {s p : Nat} {objs : List Ob} {id : Int} {B : WB} {lim : Nat} {v v' : Value} {L L' : List Thing8} {rows : List (Value × List Thing8)}
theorem Many.slot8 {ws : List Slot} (h : Many W wr s p objs lim ws rows) {i : Nat} {B : WB} {g : WG} {t : LT} (hx : (i, B, g, t) ∈ ws) : LTok objs 5 t /\ HeldInj objs t /\ ∀ x f, t.at objs x = some (.held f) -> ∃ y, g.fl f = some y := by
 obtain ⟨tg, got, hO, hS, hw, _⟩ := h
 have h1 := hw _ hx
 exact ⟨h1.ok, h1.inj, fun x f ha => h1.wp.held x f (by rw [h1.flat.of, ha]; rfl)⟩
theorem sh_all {g : WG} {t : LT} {N : Nat} (h : Many W wr s p objs lim [(3, B, g, t)] rows) (hl : lim + 42000000000 < 1099511627776) (hk : t.kind = 2) (hb : big objs 5 t <= N) :
  Calls Tryz.prog 13 #[.pointer (some ⟨B.wb, 0, none⟩)] wr fun e w' => ∃ v, e = .returned (.tuple #[v, .bool true]) /\ ShOne W w' s p objs B (lim + 4000000000) v (thingsR objs (fcOf objs g.fl) 5 [] t) rows N := by
 refine (many_all h hl hk).mono ?_
 rintro e w' ⟨v, g', t', he, hs, hlen, hM⟩
 obtain ⟨o, _, _⟩ := h.slot8 (List.mem_cons_self ..)
 obtain ⟨o', _, _⟩ := hM.slot8 (List.mem_cons_self ..)
 have hS := h.sound
 exact ⟨v, he, g', t', hM, things_sem hS hS 5 [] t' t o' o hs, (nd_kind (sem_nd (hs []))).trans hk, by rw [big_sem hS hS o' o hs]; exact hb, hlen⟩
end
end Go.Proofs.YtajopoddmfdejaaGreat

namespace Go.Proofs.YtajopoddmfdejaaGreat
open Go.RowKit Go.Sort Go.Shelf
set_option linter.unusedVariables false
def thingsP (a : List Ob) (fc : FileC) : Nat -> List ByteArray -> LT -> List (List ByteArray × Nd)
 | 0, _, _ => []
 | n + 1, q, c => ((kids a c).getD []).flatMap fun x => (q ++ [x.1], nd a fc x.2) :: (if x.2.kind = 2 then thingsP a fc n (q ++ [x.1]) x.2 else [])
theorem things_path {a : List Ob} {fc : FileC} : ∀ (n : Nat) (q : List ByteArray) (t : LT), thingsR a fc n q t = (thingsP a fc n q t).map fun x => thingAt x.1 x.2
 | 0, q, t => rfl
 | n + 1, q, t => by
  rw [thingsR, thingsP, List.map_flatMap]
  congr 1
  funext x
  rw [List.map_cons]
  unfold thingAt
  rw [ndK_nd]
  split
  ·rw [things_path n (q ++ [x.1]) x.2]; rfl
  ·rfl
theorem path_long {a : List Ob} {fc : FileC} : ∀ (n : Nat) (q : List ByteArray) (t : LT) z, z ∈ thingsP a fc n q t -> ∃ y, y ≠ [] /\ z.1 = q ++ y
 | 0, q, t, z, h => by cases h
 | n + 1, q, t, z, h => by
  rw [thingsP] at h
  obtain ⟨x, hx, h⟩ := List.mem_flatMap.1 h
  rcases List.mem_cons.1 h with rfl | h
  ·exact ⟨[x.1], by simp, rfl⟩
  ·split at h
   ·obtain ⟨y, hy, e⟩ := path_long n (q ++ [x.1]) x.2 z h
    exact ⟨x.1 :: y, by simp, by rw [e, List.append_assoc]; rfl⟩
   ·cases h
theorem path_order {a : List Ob} (hS : Sound a) {fc : FileC} : ∀ (n : Nat) (q : List ByteArray) (t : LT), LTok a n t -> (thingsP a fc n q t).Pairwise fun x y => ¬ y.1 <+: x.1
 | 0, q, t, _ => List.Pairwise.nil
 | n + 1, q, t, ht => by
  rw [thingsP]
  by_cases hk : t.kind = 2
  ·obtain ⟨ks, hks⟩ := kids_some (a := a) hk
   obtain ⟨hr, _, hkid⟩ := ok_kids hS ht hks
   rw [hks, Option.getD_some, List.pairwise_flatMap]
   refine ⟨fun x hx => ?_, ?_⟩
   ·obtain ⟨m, e, o⟩ := (hkid x hx).2
    have e' : m = n := by omega
    subst e'
    refine List.pairwise_cons.2 ⟨fun z hz hp => ?_, ?_⟩
    ·split at hz
     ·obtain ⟨y, hy, e⟩ := path_long m (q ++ [x.1]) x.2 z hz
      rw [e] at hp
      have := hp.length_le
      rw [List.length_append] at this
      have : 0 < y.length := List.length_pos_iff.2 hy
      simp only at *
      omega
     ·cases hz
    ·split
     ·exact path_order hS m (q ++ [x.1]) x.2 o
     ·exact List.Pairwise.nil
   ·refine List.Pairwise.imp ?_ hr
    intro x1 x2 hlt z1 hz1 z2 hz2 hp
    have key : ∀ (x : ByteArray × LT) z, z ∈ ((q ++ [x.1], nd a fc x.2) :: (if x.2.kind = 2 then thingsP a fc n (q ++ [x.1]) x.2 else [])) -> ∃ y, z.1 = q ++ x.1 :: y := by
     intro x z hz
     rcases List.mem_cons.1 hz with rfl | hz
     ·exact ⟨[], rfl⟩
     ·split at hz
      ·obtain ⟨y, hy, e⟩ := path_long n (q ++ [x.1]) x.2 z hz
       exact ⟨y, by rw [e, List.append_assoc]; rfl⟩
      ·cases hz
    obtain ⟨y1, e1⟩ := key x1 z1 hz1
    obtain ⟨y2, e2⟩ := key x2 z2 hz2
    rw [e1, e2, List.prefix_append_right_inj, List.cons_prefix_cons] at hp
    rw [hp.1, cmpN_self] at hlt
    omega
  ·rw [kids_none hk]; exact List.Pairwise.nil
theorem path_mem {a : List Ob} (hS : Sound a) {fc : FileC} {t : LT} (ht : LTok a 5 t) {y : List ByteArray} {x : Nd} : (y, x) ∈ thingsP a fc 5 [] t ↔ y ≠ [] /\ sem a fc t y = some x := by
 have key : ∀ (n : Nat) (q : List ByteArray) (t : LT), LTok a n t -> ∀ z, z ∈ thingsP a fc n q t ↔ ∃ y x, y ≠ [] /\ sem a fc t y = some x /\ z = (q ++ y, x) := by
  intro n
  induction n with
  | zero =>
   intro q t ht z
   rw [thingsP]
   constructor
   ·intro h; cases h
   ·rintro ⟨y, x, hy, hs, _⟩
    unfold sem at hs
    obtain ⟨c, hc, _⟩ := Option.map_eq_some_iff.1 hs
    have := (ok_at hS _ ht hc).1
    exact absurd (List.length_eq_zero_iff.1 (by omega)) hy
  | succ n ih =>
   intro q t ht z
   rw [thingsP]
   by_cases hk : t.kind = 2
   ·obtain ⟨ks, hks⟩ := kids_some (a := a) hk
    obtain ⟨hr, _, hkid⟩ := ok_kids hS ht hks
    rw [hks, Option.getD_some, List.mem_flatMap]
    have hpick : ∀ w ∈ ks, pickK ks w.1 = some w.2 := fun w hw => by
     obtain ⟨k, hk, rfl⟩ := List.getElem_of_mem hw
     exact pick_getK hr hk
    constructor
    ·rintro ⟨w, hw, hz⟩
     obtain ⟨m, e, o⟩ := (hkid w hw).2
     have e' : m = n := by omega
     subst e'
     rcases List.mem_cons.1 hz with hz | hz
     ·exact ⟨[w.1], nd a fc w.2, by simp, by rw [sem_cons, hks, Option.bind_some, hpick w hw, Option.bind_some, sem_nil], hz⟩
     ·split at hz
      ·obtain ⟨y, x, hy, hs, e⟩ := (ih (q ++ [w.1]) w.2 o z).1 hz
       exact ⟨w.1 :: y, x, by simp, by rw [sem_cons, hks, Option.bind_some, hpick w hw, Option.bind_some]; exact hs, by rw [e, List.append_assoc]; rfl⟩
      ·cases hz
    ·rintro ⟨y, x, hy, hs, e⟩
     cases y with
     | nil => exact absurd rfl hy
     | cons b y =>
      rw [sem_cons, hks, Option.bind_some] at hs
      obtain ⟨c, hc, hs⟩ := Option.bind_eq_some_iff.1 hs
      have hmem : ∃ w ∈ ks, w.1 = b /\ w.2 = c := by
       unfold pickK at hc
       obtain ⟨w, hw, e2⟩ := Option.map_eq_some_iff.1 hc
       exact ⟨w, List.mem_of_find?_eq_some hw, by simpa using List.find?_some hw, e2⟩
      obtain ⟨w, hw, rfl, rfl⟩ := hmem
      obtain ⟨m, e1, o⟩ := (hkid w hw).2
      have e' : m = n := by omega
      subst e'
      refine ⟨w, hw, ?_⟩
      cases y with
      | nil =>
       rw [sem_nil] at hs
       rw [e, <- Option.some.inj hs]
       exact List.mem_cons_self ..
      | cons b2 y =>
       refine List.mem_cons_of_mem _ ?_
       have hk2 : w.2.kind = 2 := by
        by_cases h2 : w.2.kind = 2
        ·exact h2
        ·rw [sem_cons, kids_none h2] at hs; cases hs
       rw [if_pos hk2]
       exact (ih (q ++ [w.1]) w.2 o z).2 ⟨b2 :: y, x, by simp, hs, by rw [e, List.append_assoc]; rfl⟩
   ·rw [kids_none hk]
    constructor
    ·intro h; cases h
    ·rintro ⟨y, x, hy, hs, _⟩
     cases y with
     | nil => exact absurd rfl hy
     | cons b y => rw [sem_cons, kids_none hk] at hs; cases hs
 rw [key 5 [] t ht]
 constructor
 ·rintro ⟨y', x', hy, hs, e⟩
  cases e
  exact ⟨hy, hs⟩
 ·rintro ⟨hy, hs⟩
  exact ⟨y, x, hy, hs, rfl⟩
noncomputable def buildS (T : List (List ByteArray × Nd)) (S : List ByteArray -> Option Nd) (k : Nat) (x : List ByteArray) : Option Nd :=
 if x = [] then some .dir else @ite _ (x ∈ (T.take k).map Prod.fst) (Classical.propDecidable _) (S x) none
theorem len_sub {α : Type} [DecidableEq α] : ∀ (l m : List α), l.Nodup -> (∀ x ∈ l, x ∈ m) -> l.length <= m.length
 | [], m, _, _ => Nat.zero_le _
 | x :: l, m, hn, hs => by
  obtain ⟨h1, h2⟩ := List.nodup_cons.1 hn
  have hx := hs x (List.mem_cons_self ..)
  have := len_sub l (m.erase x) h2 (fun y hy => (List.mem_erase_of_ne (fun e => h1 (by rw [<- e]; exact hy))).2 (hs y (List.mem_cons_of_mem _ hy)))
  rw [List.length_erase_of_mem hx] at this
  have hp := List.length_pos_of_mem hx
  rw [List.length_cons]
  omega
section
variable {a b : List Ob} {fc fu : FileC} {t u : LT}
theorem build_done (hS : Sound a) (ht : LTok a 5 t) (hk : t.kind = 2) (x : List ByteArray) : buildS (thingsP a fc 5 [] t) (sem a fc t) (thingsP a fc 5 [] t).length x = sem a fc t x := by
 unfold buildS
 rw [List.take_length]
 by_cases h0 : x = []
 ·rw [if_pos h0, h0, sem_nil]
  cases t with
  | file i => cases hk
  | held f => cases hk
  | dir i => rfl
  | own es => rfl
 ·rw [if_neg h0]
  split
  ·rfl
  ·rename_i hn
   cases hs : sem a fc t x with
   | none => rfl
   | some n => exact absurd (List.mem_map.2 ⟨(x, n), (path_mem hS ht).2 ⟨h0, hs⟩, rfl⟩) hn
theorem build_next (hS : Sound a) (ht : LTok a 5 t) (hB : Sound b) (hu : LTok b 5 u) {k : Nat} (hk : k < (thingsP a fc 5 [] t).length) (hs : ∀ x, sem b fu u x = buildS (thingsP a fc 5 [] t) (sem a fc t) k x) :
  ∃ q n x, (thingsP a fc 5 [] t)[k] = (q ++ [n], x) /\ Good (q ++ [n]) /\ sem a fc t (q ++ [n]) = some x /\ (∃ e ku, u.at b q = some e /\ kids b e = some ku /\ RisingK ku /\ pickK ku n = none /\ ku.length < 16) /\
   ∀ y, (if y = q ++ [n] then some x else if q ++ [n] <+: y then none else buildS (thingsP a fc 5 [] t) (sem a fc t) k y) = buildS (thingsP a fc 5 [] t) (sem a fc t) (k + 1) y := by
 obtain ⟨y, x, hyx⟩ : ∃ y x, (thingsP a fc 5 [] t)[k] = (y, x) := ⟨_, _, rfl⟩
 have hmem : (y, x) ∈ thingsP a fc 5 [] t := hyx ▸ List.getElem_mem hk
 obtain ⟨hy, hsy⟩ := (path_mem hS ht).1 hmem
 obtain ⟨q, n, rfl⟩ : ∃ q n, y = q ++ [n] := ⟨y.dropLast, y.getLast hy, (List.dropLast_concat_getLast hy).symm⟩
 have hord := path_order (fc := fc) hS 5 [] t ht
 have hat := hsy
 unfold sem at hat
 obtain ⟨c, hc, _⟩ := Option.map_eq_some_iff.1 hat
 obtain ⟨hl, _, hval⟩ := ok_at hS _ ht hc
 obtain ⟨d, ks, hd, hks, hp⟩ := at_snoc hc
 have hbefore : ∀ z, z ∈ ((thingsP a fc 5 [] t).take k).map Prod.fst -> ¬ q ++ [n] <+: z := by
  intro z hz hpre
  obtain ⟨w, hw, rfl⟩ := List.mem_map.1 hz
  obtain ⟨j, hj, rfl⟩ := List.getElem_of_mem hw
  rw [List.length_take] at hj
  rw [List.getElem_take] at hpre
  have := List.pairwise_iff_getElem.1 hord j k (by omega) hk (by omega)
  rw [hyx] at this
  exact this hpre
 have hparent : q = [] \/ q ∈ ((thingsP a fc 5 [] t).take k).map Prod.fst := by
  by_cases h0 : q = []
  ·exact .inl h0
  ·right
   have hsq : sem a fc t q = some .dir := by
    unfold sem
    rw [hd]
    cases d with
    | file i => cases hks
    | held f => cases hks
    | dir i => rfl
    | own es => rfl
   have hm := (path_mem hS ht).2 ⟨h0, hsq⟩
   obtain ⟨j, hj, hje⟩ := List.getElem_of_mem hm
   have hjk : j < k := by
    rcases Nat.lt_trichotomy j k with h | h | h
    ·exact h
    ·subst h
     rw [hyx] at hje
     have := congrArg (fun z : List ByteArray × Nd => z.1.length) hje
     simp at this
    ·have := List.pairwise_iff_getElem.1 hord k j hk hj h
     rw [hyx, hje] at this
     exact absurd (List.prefix_append q [n]) this
   refine List.mem_map.2 ⟨(q, .dir), ?_, rfl⟩
   rw [<- hje]
   exact List.mem_iff_getElem.2 ⟨j, by rw [List.length_take]; omega, by rw [List.getElem_take]⟩
 have hsub : sem b fu u q = some .dir := by
  rw [hs q]
  unfold buildS
  rcases hparent with h | h
  ·rw [if_pos h]
  ·split
   ·rfl
   ·unfold sem
    rw [hd]
    cases d with
    | file i => cases hks
    | held f => cases hks
    | dir i => rfl
    | own es => rfl
 have hue := hsub
 unfold sem at hue
 obtain ⟨e, he, hne⟩ := Option.map_eq_some_iff.1 hue
 have hek : e.kind = 2 := by cases e <;> simp [nd] at hne <;> rfl
 obtain ⟨ku, hku⟩ := kids_some (a := b) hek
 have hru := (ok_kids hB (ok_at hB _ hu he).2.1 hku).1
 have hrk := ok_kids hS (ok_at hS _ ht hd).2.1 hks
 have hnone : sem b fu u (q ++ [n]) = none := by
  rw [hs]
  unfold buildS
  rw [if_neg (by simp), if_neg (fun h => hbefore _ h (List.prefix_refl _))]
 have hpick : pickK ku n = none := by
  rw [sem_kid he hku] at hnone
  cases hpk : pickK ku n with
  | none => rfl
  | some z => rw [hpk, Option.bind_some, sem_nil] at hnone; cases hnone
 refine ⟨q, n, x, hyx, ⟨hval, hl⟩, hsy, ⟨e, ku, he, hku, hru, hpick, ?_⟩, fun y => ?_⟩
 ·have hnd : ∀ {l : Kids}, RisingK l -> (l.map (·.1)).Nodup := fun h => by
   unfold List.Nodup
   rw [List.pairwise_map]
   refine List.Pairwise.imp ?_ h
   intro z1 z2 hlt e
   rw [e, cmpN_self] at hlt
   omega
  have hnn : n ∉ ku.map (·.1) := fun h => by
   obtain ⟨z, hz, rfl⟩ := List.mem_map.1 h
   obtain ⟨j, hj, rfl⟩ := List.getElem_of_mem hz
   rw [pick_getK hru hj] at hpick
   cases hpick
  have := len_sub (n :: ku.map (·.1)) (ks.map (·.1)) (List.nodup_cons.2 ⟨hnn, hnd hru⟩) (fun z hz => by
   rcases List.mem_cons.1 hz with rfl | hz
   ·unfold pickK at hp
    obtain ⟨w, hw, _⟩ := Option.map_eq_some_iff.1 hp
    exact List.mem_map.2 ⟨w, List.mem_of_find?_eq_some hw, by simpa using List.find?_some hw⟩
   ·obtain ⟨w, hw, rfl⟩ := List.mem_map.1 hz
    obtain ⟨j, hj, rfl⟩ := List.getElem_of_mem hw
    have h1 : sem b fu u (q ++ [(ku[j]).1]) ≠ none := by
     rw [sem_kid he hku, pick_getK hru hj, Option.bind_some, sem_nil]; simp
    rw [hs] at h1
    unfold buildS at h1
    rw [if_neg (by simp)] at h1
    split at h1
    ·rw [sem_kid hd hks] at h1
     cases hpk : pickK ks (ku[j]).1 with
     | none => rw [hpk] at h1; exact absurd rfl h1
     | some z =>
      unfold pickK at hpk
      obtain ⟨w, hw, _⟩ := Option.map_eq_some_iff.1 hpk
      exact List.mem_map.2 ⟨w, List.mem_of_find?_eq_some hw, by simpa using List.find?_some hw⟩
    ·exact absurd rfl h1)
  have h16 := hrk.2.1
  simp only [List.length_cons, List.length_map] at this
  omega
 ·have htk : (thingsP a fc 5 [] t).take (k + 1) = (thingsP a fc 5 [] t).take k ++ [(q ++ [n], x)] := by rw [List.take_succ_eq_append_getElem hk, hyx]
  by_cases h1 : y = q ++ [n]
  ·rw [if_pos h1, h1]
   unfold buildS
   have hin : q ++ [n] ∈ ((thingsP a fc 5 [] t).take (k + 1)).map Prod.fst := by rw [htk]; simp
   rw [if_neg (by simp), if_pos hin, hsy]
  ·rw [if_neg h1]
   have hiff : y ∈ ((thingsP a fc 5 [] t).take (k + 1)).map Prod.fst ↔ y ∈ ((thingsP a fc 5 [] t).take k).map Prod.fst := by
    rw [htk, List.map_append, List.mem_append]
    simp [h1]
   by_cases h2 : q ++ [n] <+: y
   ·rw [if_pos h2]
    unfold buildS
    rw [if_neg (fun e => by rw [e] at h2; simpa using List.prefix_nil.1 h2), if_neg (fun h => hbefore y (hiff.1 h) h2)]
   ·rw [if_neg h2]
    unfold buildS
    by_cases h3 : y = []
    ·rw [if_pos h3, if_pos h3]
    ·rw [if_neg h3, if_neg h3]
     by_cases h4 : y ∈ ((thingsP a fc 5 [] t).take k).map Prod.fst
     ·rw [if_pos h4, if_pos (hiff.2 h4)]
     ·rw [if_neg h4, if_neg (fun h => h4 (hiff.1 h))]
end
end Go.Proofs.YtajopoddmfdejaaGreat

namespace Go.Proofs.YtajopoddmfdejaaGreat
open Go.RowKit Go.Sort Go.Shelf
set_option linter.unusedVariables false
def nameZ : ByteArray := ⟨#[122]⟩
def nameY : ByteArray := ⟨#[121]⟩
theorem nameZ_ok : validB nameZ = true := by unfold nameZ validB; simp only [ByteArray.toList_eq]; decide
theorem nameY_ok : validB nameY = true := by unfold nameY validB; simp only [ByteArray.toList_eq]; decide
theorem goodZ : Good ([].reverse ++ [nameZ]) := ⟨fun x hx => by simp at hx; rw [hx]; exact nameZ_ok, by simp⟩
theorem goodY : Good ([].reverse ++ [nameY]) := ⟨fun x hx => by simp at hx; rw [hx]; exact nameY_ok, by simp⟩
theorem zy : nameZ ≠ nameY := by unfold nameZ nameY; decide
def ghost : WG := ⟨0, ⟨0, fun _ => none, fun _ => none⟩, fsAll, fun _ => none, fun _ => none⟩
theorem ghost_mkdir (b : List Ob) : StepTo b ghost (.own []) 3 nameZ nameZ [] [] ⟨#[]⟩ 0 ghost (.own [(nameZ, .own [])]) := by
 refine .inr (.inl ⟨rfl, ?_, ?_, ?_, rfl, rfl⟩)
 ·show (0 : Int) = (mkdirR b (.own []) fsAll [nameZ]).2.1
  simp [mkdirR, all_look, lookE, findE, kidsE, pickK]
 ·show _ = (mkdirR b (.own []) fsAll [nameZ]).2.2
  simp [mkdirR, all_look, lookE, findE, kidsE, pickK, modG, kids, putK, idxK, thereK]
 ·show fsAll = (mkdirR b (.own []) fsAll [nameZ]).1
  simp [mkdirR, all_look, lookE, findE, kidsE, pickK]
theorem ghost_rename (b : List Ob) : StepTo b ghost (.own [(nameZ, .own [])]) 5 nameZ nameY [] [] ⟨#[]⟩ 0 ghost (.own [(nameY, .own [])]) := by
 refine .inr (.inr (.inr ⟨rfl, ?_, ?_, ?_, rfl, rfl⟩))
 ·show (0 : Int) = (renameR b (.own [(nameZ, .own [])]) fsAll [nameZ] [nameY]).2.1
  simp [renameR, all_look, all_find, lookE, findE, kidsE, pickK, roomG, zy, hgt]
 ·show _ = (renameR b (.own [(nameZ, .own [])]) fsAll [nameZ] [nameY]).2.2
  simp [renameR, all_look, all_find, lookE, findE, kidsE, pickK, roomG, zy, hgt, modG, kids, putK, dropK, idxK, thereK, cmpN_self]
 ·show fsAll = (renameR b (.own [(nameZ, .own [])]) fsAll [nameZ] [nameY]).1
  simp [renameR, all_look, all_find, lookE, findE, kidsE, pickK, roomG, zy, hgt]
theorem ghost_remove (b : List Ob) : StepTo b ghost (.own [(nameY, .own [])]) 4 nameY nameY [] [] ⟨#[]⟩ 0 ghost (.own []) := by
 refine .inr (.inr (.inl ⟨rfl, ?_, ?_, ?_, rfl, rfl⟩))
 ·show (0 : Int) = (removeR b (.own [(nameY, .own [])]) fsAll [nameY]).2.1
  simp [removeR, all_find, findE, kidsE, pickK, vacantG, all_kids, LT.kind]
 ·show _ = (removeR b (.own [(nameY, .own [])]) fsAll [nameY]).2.2
  simp [removeR, all_find, findE, kidsE, pickK, vacantG, all_kids, LT.kind, modG, kids, dropK, idxK, cmpN_self]
 ·show fsAll = (removeR b (.own [(nameY, .own [])]) fsAll [nameY]).1
  simp [removeR, all_find, findE, kidsE, pickK, vacantG, all_kids, LT.kind]
theorem did_kind {a : List Ob} {g g' : WG} {t t' : LT} (hS : Sound a) (hok : LTok a 5 t) (hheld : ∀ x f, t.at a x = some (.held f) -> ∃ y, g.fl f = some y) (hinj : HeldInj a t) (hbr : g.fs.brk = false) {k : Int} {na nb : ByteArray} {ra rb : List ByteArray} {d : ByteArray} {er : Int} (h : StepTo a g t k na nb ra rb d er g' t') : t'.kind = t.kind := by
 obtain ⟨_, z2, z3⟩ := step_sem hS hok hheld hinj hbr h
 by_cases e : er = 0
 ·have := (z3 e).1 []
  have hn : stepS k (ra.reverse ++ [na]) (rb.reverse ++ [nb]) d (sem a (fcOf a g.fl) t) [] = sem a (fcOf a g.fl) t [] := by
   have p1 : ¬ ([] : List ByteArray) = ra.reverse ++ [na] := by simp
   have p2 : ¬ ra.reverse ++ [na] <+: [] := fun h => by simpa using List.prefix_nil.1 h
   have p3 : ¬ rb.reverse ++ [nb] <+: [] := fun h => by simpa using List.prefix_nil.1 h
   unfold stepS
   simp only [if_neg p1, if_neg p2, if_neg p3, ite_self]
  rw [hn] at this
  exact nd_kind (sem_nd this)
 ·rw [(z2 e).1]
abbrev fc0 : FileC := fun _ => ⟨#[]⟩
structure CmX (x : List Ob) (c : Int) (L : List Thing8) : Prop where
 exact : Exact x
 once : Once x
 ok : LTok x 5 (.dir c)
 things : thingsR x fc0 5 [] (.dir c) = L
 len : x.length <= 300
 few : L.length <= 190
def CmW (W wr : World) (s p : Nat) (objs : List Ob) (B : WB) (lim N : Nat) : Prop := ∃ g t, Many W wr s p objs lim [(3, B, g, t)] [] /\ t.kind = 2 /\ big objs 5 t <= N
def CmU (W wr : World) (s p : Nat) (x : List Ob) (B : WB) (lim : Nat) (v : Value) (L : List Thing8) (u : LT) : Prop := ∃ g t, Many W wr s p x lim [(3, B, g, t)] [(v, L)] /\ SemEq x (fcOf x g.fl) t x (fcOf x ghost.fl) u
def CmK (W wr : World) (s p : Nat) (x : List Ob) (c : Int) (B : WB) (lim : Nat) (v : Value) (L : List Thing8) (k : Nat) : Prop := ∃ g t, Many W wr s p x lim [(3, B, g, t)] [(v, L)] /\ (∀ y, sem x (fcOf x g.fl) t y = buildS (thingsP x fc0 5 [] (.dir c)) (sem x fc0 (.dir c)) k y) /\ big x 5 t <= 1 + k /\ t.kind = 2
section
variable {W wr : World} {s p : Nat} {objs x : List Ob} {id c : Int} {B : WB} {lim N : Nat} {v : Value} {L : List Thing8}
theorem Many.slot9 {ws : List Slot} {rows : List (Value × List Thing8)} (h : Many W wr s p objs lim ws rows) {i : Nat} {B : WB} {g : WG} {t : LT} (hx : (i, B, g, t) ∈ ws) : LTok objs 5 t /\ HeldInj objs t /\ (∀ x f, t.at objs x = some (.held f) -> ∃ y, g.fl f = some y) /\ (Exact objs -> FlSz objs g.fl) := by
 obtain ⟨tg, got, hO, hS, hw, _⟩ := h
 have h1 := hw _ hx
 refine ⟨h1.ok, h1.inj, fun x f ha => h1.wp.held x f (by rw [h1.flat.of, ha]; rfl), fun hX f id d hf => ⟨fun h0 => h1.fl f id d hf h0, fun _ => (h1.wp.files f id d hf).2.2⟩⟩
theorem cm_work (hbig : big objs 5 (.dir id) <= 95) (hok : LTok objs 5 (.dir id)) (h : Many W wr s p objs 60000 [] []) :
  Calls Tryz.prog 12 #[.pointer (some ⟨s, 0, none⟩), .int .i64 id] wr fun e w' => ∃ (B : WB) (g : WG), e = .returned (.tuple #[.pointer (some ⟨B.wb, 0, none⟩), .bool true]) /\ Many W w' s p objs 60000 [(3, B, g, .dir id)] [] := by
 refine (many_work h (i := 3) (by decide) (fun x hx => by cases hx) hok).mono ?_
 rintro e w' ⟨B, g, he, hg, _, hM⟩
 exact ⟨B, g, he, hM⟩
theorem cm_first {g : WG} (hO : Obs8 objs id) (hbig : big objs 5 (.dir id) <= 95) (h : Many W wr s p objs 60000 [(3, B, g, .dir id)] []) :
  Calls Tryz.prog 20 #[.pointer (some ⟨B.wb, 0, none⟩)] wr fun e w' => e = .returned (.tuple #[.int .i64 id, .int .i64 0]) /\ CmW W w' s p objs B 60000 95 := by
 have hr := objR_dir g.fl 5 id objs
 have hl := hO.len
 have hcn : cntO 5 (.dir id) = 0 := by rw [cntO]
 refine (many_commit3 h hO.exact hO.once (by rw [hcn]; omega) (by rw [hr]; show objs.length <= 400; omega) rfl).mono ?_
 rintro e w' ⟨x', he, _, _, ⟨l, hl'⟩, hlen, _, _, _, hkeep⟩
 rw [hr] at he hlen
 have hx : x' = objs := by
  rw [hl', List.length_append] at hlen
  have : l = [] := List.length_eq_zero_iff.1 (by simp only at hlen; omega)
  rw [hl', this, List.append_nil]
 exact ⟨he, g, .dir id, hkeep hx, rfl, hbig⟩
theorem cm_do (h : CmW W wr s p objs B lim N) (hl : lim + 1000 < 1099511627776) {kd a b : Int} {d : ByteArray} (hk : i64 kd) (ha : i64 a) (hb : i64 b) (hd : d.size <= maxLen) :
  Calls Tryz.prog 14 #[.pointer (some ⟨B.wb, 0, none⟩), .agg #[.int .i64 kd, .int .i64 a, .int .i64 b, .string d]] wr fun e w' => ∃ er, e = .returned (.int .i64 er) /\ CmW W w' s p objs B (lim + 500) (N + 1) := by
 obtain ⟨g, t, hM, hk2, hbig⟩ := h
 obtain ⟨na, ra, hpa⟩ := (pathL_letters a).split
 obtain ⟨nb, rb, hpb⟩ := (pathL_letters b).split
 obtain ⟨o, i3, l3, _⟩ := hM.slot9 (List.mem_cons_self ..)
 refine (many_do hM hl hk ha hb hd hpa hpb).mono ?_
 rintro e w' ⟨er, g', t', he, ⟨g1, q1, q2, hst⟩, hb', hM'⟩
 exact ⟨er, he, g', t', hM', (did_kind hM.sound o (fun x f hx => by rw [q1]; exact l3 x f hx) i3 q2 hst).trans hk2, by omega⟩
theorem cm_all (h : CmW W wr s p objs B lim N) (hN : N <= 185) (hl : lim + 42000000000 < 1099511627776) :
  Calls Tryz.prog 13 #[.pointer (some ⟨B.wb, 0, none⟩)] wr fun e w' => ∃ v L, e = .returned (.tuple #[v, .bool true]) /\ ShOne W w' s p objs B (lim + 4000000000) v L [] 185 := by
 obtain ⟨g, t, hM, hk2, hbig⟩ := h
 refine (sh_all hM hl hk2 (Nat.le_trans hbig hN)).mono ?_
 rintro e w' ⟨v, he, h⟩
 exact ⟨v, _, he, h⟩
def CmC (W wr : World) (s p : Nat) (c : Int) (lim : Nat) (v : Value) (L : List Thing8) : Prop := ∃ x, Exact x /\ Once x /\ LTok x 5 (.dir c) /\ thingsR x fc0 5 [] (.dir c) = L /\ x.length <= 299 /\ L.length <= 190 /\ Many W wr s p x lim [] [(v, L)]
theorem cm_commit (hO : Obs8 objs id) (h : ShOne W wr s p objs B lim v L [] 185) :
  Calls Tryz.prog 20 #[.pointer (some ⟨B.wb, 0, none⟩)] wr fun e w' => ∃ c, e = .returned (.tuple #[.int .i64 c, .int .i64 0]) /\ CmC W w' s p c lim v L := by
 obtain ⟨g, t, hM, hL, hk, hbig, _⟩ := h
 obtain ⟨o, _, _, hfs⟩ := hM.slot9 (List.mem_cons_self ..)
 have hcb := cnt_big objs 5 t
 have hl := hO.len
 have hob := (objR_ok g.fl 5 (Nat.le_refl _) t objs hO.exact o (hfs hO.exact)).len
 have hbt := big_things (fc := fcOf objs g.fl) hM.sound 5 [] t o
 rw [hL] at hbt
 refine (many_commit3 hM hO.exact hO.once (by omega) (by omega) hk).mono ?_
 rintro e w' ⟨x', he, hX', hO', _, hlen, hok', hs, hM', _⟩
 exact ⟨_, he, x', hX', hO', hok', (things_sem hX'.sound hO.exact.sound 5 [] _ _ hok' o hs).trans hL, by omega, by omega, hM'⟩
theorem cm_nil (h : CmC W wr s p c lim v L) :
  Calls Tryz.prog 22 #[.pointer (some ⟨s, 0, none⟩), .slice none 0 0] wr fun e w' => ∃ r x, e = .returned (.tuple #[.int .i64 r, .int .i64 0]) /\ CmX x c L /\ LTok x 5 (.dir r) /\ entsOf x r = [] /\ Many W w' s p x lim [] [(v, L)] := by
 obtain ⟨x, hX, hO, hok, hL, hlen, hfew, hM⟩ := h
 refine (many_putnil hM hX hO (by omega)).mono ?_
 rintro e w' ⟨r, x', l, he, hx', hl, hX', hO', hokr, hen, hM'⟩
 have hok' : LTok x' 5 (.dir c) := by rw [hx']; exact LTok_app l 5 _ hok
 have hth : thingsR x' fc0 5 [] (.dir c) = L := by
  rw [<- hL]
  exact things_sem hX'.sound hX.sound 5 [] _ _ hok' hok (fun y => by rw [hx']; exact sem_app hX.sound l fc0 y 5 _ hok)
 exact ⟨r, x', he, ⟨hX', hO', hok', hth, by rw [hx', List.length_append]; omega, hfew⟩, hokr, hen, hM'⟩
theorem cm_anew {r : Int} (hokr : LTok x 5 (.dir r)) (hen : entsOf x r = []) (h : Many W wr s p x lim [] [(v, L)]) :
  Calls Tryz.prog 12 #[.pointer (some ⟨s, 0, none⟩), .int .i64 r] wr fun e w' => ∃ B : WB, e = .returned (.tuple #[.pointer (some ⟨B.wb, 0, none⟩), .bool true]) /\ CmU W w' s p x B lim v L (.own []) := by
 refine (many_work h (i := 3) (by decide) (fun x hx => by cases hx) hokr).mono ?_
 rintro e w' ⟨B, g, he, hg, _, hM⟩
 refine ⟨B, he, g, .dir r, hM, fun y => ?_⟩
 cases y with
 | nil => rw [sem_nil, sem_nil]; rfl
 | cons m y => rw [sem_cons, sem_cons]; simp only [kids, hen]; rfl
theorem ok_one8 (x : List Ob) (n : Nat) (m : ByteArray) (hm : validB m = true) : LTok x (n + 2) (.own [(m, .own [])]) := by
 rw [LTok]
 refine ⟨List.pairwise_singleton _ _, by simp, fun z hz => ?_⟩
 rw [List.mem_singleton.1 hz]
 exact ⟨hm, by rw [LTok]; exact ⟨List.Pairwise.nil, by simp, fun z hz => by cases hz⟩⟩
theorem ok_own0 (x : List Ob) (n : Nat) : LTok x (n + 1) (.own []) := by rw [LTok]; exact ⟨List.Pairwise.nil, by simp, fun z hz => by cases hz⟩
theorem cm_ghost (hX : Exact x) {u u' : LT} {g : WG} {t : LT} {k : Int} {na nb : ByteArray} {ra rb : List ByteArray} {d : ByteArray} {er : Int} {w' : World} {lim' : Nat} (hM : Many W wr s p x lim [(3, B, g, t)] [(v, L)]) (hs : SemEq x (fcOf x g.fl) t x (fcOf x ghost.fl) u) (hd : Did8 W w' s p x lim' [] [(v, L)] 3 B g t k na nb ra rb d er) (hu : LTok x 5 u) (hnh : ∀ y f, u.at x y ≠ some (.held f)) (hg : StepTo x ghost u k na nb ra rb d 0 ghost u') : er = 0 /\ CmU W w' s p x B lim' v L u' := by
 obtain ⟨g', t', g1, q1, q2, hst, hbig, hM'⟩ := hd
 obtain ⟨o, i3, l3, _⟩ := hM.slot9 (List.mem_cons_self ..)
 obtain ⟨e1, e2⟩ := step_two hX hX o hu (fun y f hy => by rw [q1]; exact l3 y f hy) (fun y f hy => absurd hy (hnh y f)) i3 (fun y z f hy => absurd hy (hnh y f)) q2 rfl (by rw [q1]; exact hs) hst hg
 exact ⟨e1, g', t', hM', e2⟩
theorem no_held (x : List Ob) (m : ByteArray) : ∀ y f, (LT.own [(m, .own [])]).at x y ≠ some (.held f) := by
 intro y f h
 cases y with
 | nil => rw [at_nil] at h; cases h
 | cons n y =>
  rw [at_cons] at h
  simp only [kids, Option.bind_some] at h
  by_cases e : m = n
  ·have hp : pickK [(m, LT.own [])] n = some (.own []) := by simp [pickK, e]
   rw [hp, Option.bind_some] at h
   exact own_none x y f h
  ·have hp : pickK [(m, LT.own [])] n = none := by simp [pickK, e]
   rw [hp] at h; cases h
theorem cm_z (hX : Exact x) (hl : lim + 1000 < 1099511627776) (h : CmU W wr s p x B lim v L (.own [])) :
  Calls Tryz.prog 23 #[.pointer (some ⟨B.wb, 0, none⟩), .string ⟨#[122]⟩] wr fun e w' => e = .returned (.int .i64 0) /\ CmU W w' s p x B (lim + 500) v L (.own [(nameZ, .own [])]) := by
 obtain ⟨g, t, hM, hs⟩ := h
 have hc := many_mkdir hM hl (n := nameZ) (r := []) goodZ
 refine Calls.mono hc ?_
 rintro e w' ⟨er, he, hd⟩
 obtain ⟨e1, e2⟩ := cm_ghost hX hM hs hd (ok_own0 x 4) (own_none x) (ghost_mkdir x)
 rw [e1] at he
 exact ⟨he, e2⟩
theorem cm_zy (hX : Exact x) (hl : lim + 1000 < 1099511627776) (h : CmU W wr s p x B lim v L (.own [(nameZ, .own [])])) :
  Calls Tryz.prog 24 #[.pointer (some ⟨B.wb, 0, none⟩), .string ⟨#[122]⟩, .string ⟨#[121]⟩] wr fun e w' => e = .returned (.int .i64 0) /\ CmU W w' s p x B (lim + 500) v L (.own [(nameY, .own [])]) := by
 obtain ⟨g, t, hM, hs⟩ := h
 have hc := many_rename hM hl (n := nameZ) (n' := nameY) (r := []) (r' := []) goodZ goodY
 refine Calls.mono hc ?_
 rintro e w' ⟨er, he, hd⟩
 obtain ⟨e1, e2⟩ := cm_ghost hX hM hs hd (ok_one8 x 3 nameZ nameZ_ok) (no_held x nameZ) (ghost_rename x)
 rw [e1] at he
 exact ⟨he, e2⟩
theorem cm_y (hX : Exact x) (hl : lim + 1000 < 1099511627776) (h : CmU W wr s p x B lim v L (.own [(nameY, .own [])])) :
  Calls Tryz.prog 25 #[.pointer (some ⟨B.wb, 0, none⟩), .string ⟨#[121]⟩] wr fun e w' => e = .returned (.int .i64 0) /\ CmU W w' s p x B (lim + 500) v L (.own []) := by
 obtain ⟨g, t, hM, hs⟩ := h
 have hc := many_remove hM hl (n := nameY) (r := []) goodY
 refine Calls.mono hc ?_
 rintro e w' ⟨er, he, hd⟩
 obtain ⟨e1, e2⟩ := cm_ghost hX hM hs hd (ok_one8 x 3 nameY nameY_ok) (no_held x nameY) (ghost_remove x)
 rw [e1] at he
 exact ⟨he, e2⟩
theorem many_ob {ws : List Slot} {rows : List (Value × List Thing8)} (h : Many W wr s p objs lim ws rows) (id : Int) (hk : kindOf objs id = 1) : (bytesOf objs id).size <= 256 := by
 obtain ⟨tg, got, hO, ⟨hfr, ft, hb, hI, _⟩, hw, _⟩ := h
 obtain ⟨a, cap, bf, bd, Df, Dd, hI⟩ := hI
 obtain ⟨h1, h2⟩ := kindOf_pos (a := objs) (id := id) (by rw [hk]; decide)
 obtain ⟨j, hj, rfl⟩ : ∃ j, ∃ hj : j < objs.length, id = (j : Int) + 1 := ⟨(id - 1).toNat, h2, by omega⟩
 rw [kindOf_in hj] at hk
 have hd := hI.obs objs[j] (List.getElem_mem hj)
 have hbz : bytesOf objs ((j : Int) + 1) = objs[j].data := by
  unfold bytesOf
  rw [show ((j : Int) + 1 - 1).toNat = j by omega, List.getElem?_eq_getElem hj]; rfl
 rw [hbz]
 rcases hd with ⟨_, _, h3⟩ | ⟨h3, _⟩
 ·exact h3
 ·rw [hk] at h3; cases h3
theorem many_fsize {ws : List Slot} {rows : List (Value × List Thing8)} (h : Many W wr s p objs lim ws rows) (hok : LTok objs 5 (.dir c)) {y : List ByteArray} {d : ByteArray} (hs : sem objs fc0 (.dir c) y = some (.file d)) : d.size <= 256 := by
 unfold sem at hs
 obtain ⟨z, hz, e⟩ := Option.map_eq_some_iff.1 hs
 cases z with
 | file id =>
  have hk : kindOf objs id = 1 := by have := (ok_at h.sound _ hok hz).2.1; rw [LTok] at this; exact this
  cases e
  exact many_ob h id hk
 | held f => exact absurd hz (stored8 objs y (.dir c) (.inr ⟨_, rfl⟩) f)
 | dir id => cases e
 | own es => cases e
theorem look_there {a : List Ob} {t e : LT} {q : List ByteArray} {ku : Kids} (he : t.at a q = some e) (hku : kids a e = some ku) : lookE a t q.reverse = (0, ku) := by
 unfold lookE
 rw [findE_some (r := q.reverse) (by rw [List.reverse_reverse]; exact he)]
 simp only [ne_eq, not_true_eq_false, if_false]
 exact kidsE_some hku
theorem mkdir_code0 {a : List Ob} {t e : LT} {q : List ByteArray} {ku : Kids} (he : t.at a q = some e) (hku : kids a e = some ku) {n : ByteArray} (hp : pickK ku n = none) (h16 : ku.length < 16) : (mkdirR a t fsAll (n :: q.reverse)).2.1 = 0 := by
 unfold mkdirR
 simp only [all_look, look_there he hku]
 simp [hp, Nat.not_le.2 h16]
theorem cm_begin (h : CmU W wr s p x B lim v L (.own [])) : CmK W wr s p x c B lim v L 0 := by
 obtain ⟨g, t, hM, hs⟩ := h
 obtain ⟨o, _⟩ := hM.slot9 (List.mem_cons_self ..)
 have hS := hM.sound
 refine ⟨g, t, hM, fun y => ?_, ?_, hs.kind⟩
 ·rw [hs y]
  unfold buildS
  by_cases h0 : y = []
  ·rw [if_pos h0, h0, sem_nil]; rfl
  ·rw [if_neg h0, if_neg (by simp)]
   cases y with
   | nil => exact absurd rfl h0
   | cons m y => rw [sem_cons]; rfl
 ·rw [big_sem hS hS o (ok_own0 x 4) hs, big_succ]; simp [kids, bigs]
theorem cm_thing (hC : CmX x c L) {k : Nat} (hk : k < L.length) : ∃ hk' : k < (thingsP x fc0 5 [] (.dir c)).length, L[k] = thingAt ((thingsP x fc0 5 [] (.dir c))[k]).1 ((thingsP x fc0 5 [] (.dir c))[k]).2 := by
 have e := hC.things
 rw [things_path] at e
 have hl : (thingsP x fc0 5 [] (.dir c)).length = L.length := by rw [<- e, List.length_map]
 refine ⟨by omega, ?_⟩
 have : L[k] = ((thingsP x fc0 5 [] (.dir c)).map fun x => thingAt x.1 x.2)[k]'(by rw [List.length_map]; omega) := by simp only [e]
 rw [this, List.getElem_map]
theorem cm_mkdir (hC : CmX x c L) {k : Nat} (hk : k < L.length) (hd : (L[k]).2.1 = 2) (hl : lim + 1000 < 1099511627776) (h : CmK W wr s p x c B lim v L k) :
  Calls Tryz.prog 23 #[.pointer (some ⟨B.wb, 0, none⟩), .string (L[k]).1] wr fun e w' => e = .returned (.int .i64 0) /\ CmK W w' s p x c B (lim + 500) v L (k + 1) := by
 obtain ⟨g, t, hM, hs, hbig, hk2⟩ := h
 obtain ⟨o, i3, l3, _⟩ := hM.slot9 (List.mem_cons_self ..)
 have hS := hM.sound
 obtain ⟨hk', hLk⟩ := cm_thing hC hk
 obtain ⟨q, n, z, hT, hG, hsz, ⟨e0, ku, he0, hku, hru, hp, h16⟩, hstep⟩ := build_next hC.exact.sound hC.ok hS o hk' hs
 rw [hT] at hLk
 rw [hLk] at hd ⊢
 have hz : z = .dir := by
  cases z with
  | dir => rfl
  | file d => exact absurd hd (by show ¬ (1 : Int) = 2; decide)
 subst hz
 have hrev : q.reverse.reverse = q := List.reverse_reverse _
 have hc := many_mkdir hM hl (n := n) (r := q.reverse) (by rw [hrev]; exact hG)
 rw [hrev] at hc
 refine Calls.mono hc ?_
 rintro e w' ⟨er, he, g', t', g1, q1, q2, hst, hb', hM'⟩
 have l3' : ∀ y f, t.at x y = some (.held f) -> ∃ z, g1.fl f = some z := fun y f hy => by rw [q1]; exact l3 y f hy
 have her : er = 0 := by
  rcases hst with ⟨k1, _⟩ | ⟨_, k1, _⟩ | ⟨k1, _⟩ | ⟨k1, _⟩
  ·exact absurd k1 (by decide)
  ·rw [k1, fair_nobrk (fair_mkdir x t g1.fs (n :: q.reverse)) q2]; exact mkdir_code0 he0 hku hp h16
  ·exact absurd k1 (by decide)
  ·exact absurd k1 (by decide)
 obtain ⟨_, _, h3⟩ := step_sem hS o l3' i3 q2 hst
 have h4 := (h3 her).1
 rw [her] at he
 refine ⟨he, g', t', hM', fun y => ?_, by omega, (did_kind hS o l3' i3 q2 hst).trans hk2⟩
 rw [h4 y, <- hstep y, hrev, q1, funext hs]
 unfold stepS
 rfl
theorem cm_put (hC : CmX x c L) {k : Nat} (hk : k < L.length) (hd : (L[k]).2.1 ≠ 2) (hl : lim + 1000 < 1099511627776) (h : CmK W wr s p x c B lim v L k) :
  Calls Tryz.prog 26 #[.pointer (some ⟨B.wb, 0, none⟩), .string (L[k]).1, .string (L[k]).2.2] wr fun e w' => e = .returned (.int .i64 0) /\ CmK W w' s p x c B (lim + 500) v L (k + 1) := by
 obtain ⟨g, t, hM, hs, hbig, hk2⟩ := h
 obtain ⟨o, i3, l3, _⟩ := hM.slot9 (List.mem_cons_self ..)
 have hS := hM.sound
 obtain ⟨hk', hLk⟩ := cm_thing hC hk
 obtain ⟨q, n, z, hT, hG, hsz, ⟨e0, ku, he0, hku, hru, hp, h16⟩, hstep⟩ := build_next hC.exact.sound hC.ok hS o hk' hs
 rw [hT] at hLk
 rw [hLk] at hd ⊢
 cases z with
 | dir => exact absurd rfl hd
 | file d =>
  have hds := many_fsize hM hC.ok hsz
  have hsh : shortB d = d := by unfold shortB; rw [if_neg (by omega)]
  have hrev : q.reverse.reverse = q := List.reverse_reverse _
  have hc := many_put hM hl (n := n) (r := q.reverse) (by rw [hrev]; exact hG) d (by unfold maxLen; omega)
  rw [hrev, hsh] at hc
  refine Calls.mono hc ?_
  rintro e w' ⟨er, he, g', t', g1, q1, q2, hst, hb', hM'⟩
  have l3' : ∀ y f, t.at x y = some (.held f) -> ∃ z, g1.fl f = some z := fun y f hy => by rw [q1]; exact l3 y f hy
  have her : er = 0 := by
   rcases hst with ⟨_, _, _, k1⟩ | ⟨k1, _⟩ | ⟨k1, _⟩ | ⟨k1, _⟩
   ·rw [look_nobrk q2, look_there he0 hku] at k1
    rcases k1 with ⟨z1, _⟩ | ⟨_, z1, _⟩ | ⟨_, _, z1, _⟩
    ·exact absurd rfl z1
    ·exact absurd (by rw [openE_none hp]; simp [Nat.not_le.2 h16]) z1
    ·exact z1
   ·exact absurd k1 (by decide)
   ·exact absurd k1 (by decide)
   ·exact absurd k1 (by decide)
  obtain ⟨_, _, h3⟩ := step_sem hS o l3' i3 q2 hst
  have h4 := (h3 her).1
  rw [her] at he
  refine ⟨he, g', t', hM', fun y => ?_, by omega, (did_kind hS o l3' i3 q2 hst).trans hk2⟩
  rw [h4 y, <- hstep y, hrev, q1, funext hs]
  unfold stepS
  rfl
theorem cm_objects {k : Nat} (h : CmK W wr s p x c B lim v L k) : Calls Tryz.prog 21 #[.pointer (some ⟨s, 0, none⟩)] wr fun e w' => e = .returned (.int .i64 (x.length : Int)) /\ w' = wr := by
 obtain ⟨g, t, hM, _⟩ := h
 exact many_objects hM
theorem cm_last (hC : CmX x c L) (h : CmK W wr s p x c B lim v L L.length) :
  Calls Tryz.prog 20 #[.pointer (some ⟨B.wb, 0, none⟩)] wr fun e w' => e = .returned (.tuple #[.int .i64 c, .int .i64 0]) /\ Below W.heap.size W w' /\ Calls Tryz.prog 21 #[.pointer (some ⟨s, 0, none⟩)] w' fun e w'' => e = .returned (.int .i64 (x.length : Int)) /\ w'' = w' := by
 obtain ⟨g, t, hM, hs, hbig, hk2⟩ := h
 obtain ⟨o, i3, l3, hfs⟩ := hM.slot9 (List.mem_cons_self ..)
 have hl : (thingsP x fc0 5 [] (.dir c)).length = L.length := by rw [<- hC.things, things_path, List.length_map]
 have hsem : ∀ y, sem x (fcOf x g.fl) t y = sem x (fcOf x g.fl) (.dir c) y := fun y => by
  rw [hs y, <- hl, build_done hC.exact.sound hC.ok rfl y]
  exact stored_fc (.inr ⟨_, rfl⟩) _ _ y
 have hr := objR_sem hC.exact hC.once (hfs hC.exact) 5 t (.dir c) o hC.ok (.inr ⟨_, rfl⟩) hsem
 have hid : (LT.dir c).id = c := rfl
 rw [hid] at hr
 have hcb := cnt_big x 5 t
 have hxl := hC.len
 have hfew := hC.few
 refine (many_commit3 hM hC.exact hC.once (by omega) (by rw [hr]; show x.length <= 400; omega) hk2).mono ?_
 rintro e w' ⟨x', he, _, _, _, hlen, _, _, hM', _⟩
 rw [hr] at he hlen
 refine ⟨he, hM'.old, ?_⟩
 have := many_objects hM'
 rw [hlen] at this
 exact this
end
end Go.Proofs.YtajopoddmfdejaaGreat
