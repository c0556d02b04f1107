/-
  What is proved here: the store's answers and the document's are one (plain lists, no memory).
-/
import Derived.Test.YtogeefmegegnnaaGreatLawD
namespace Go.Proofs.YtogeefmegegnnaaGreat
open Go.RowKit Go.Sort Go.Shelf
set_option linter.unusedVariables false

def Twin (objs ros : List Ob) : Prop := objs.length = ros.length ∧ (∀ i (h1 : i < objs.length) (h2 : i < ros.length), Alike objs[i] ros[i]) ∧ ∀ o ∈ objs, o.kind = 1 ∨ o.kind = 2

theorem findIdx_twin {α β : Type} (p : α → Bool) (q : β → Bool) : ∀ (xs : List α) (ys : List β), xs.length = ys.length → (∀ i (h1 : i < xs.length) (h2 : i < ys.length), p xs[i] = q ys[i]) → xs.findIdx? p = ys.findIdx? q
  | [], [], _, _ => rfl
  | [], _ :: _, h, _ => by simp at h
  | _ :: _, [], h, _ => by simp at h
  | x :: xs, y :: ys, h, hp => by
    have h0 := hp 0 (by simp) (by simp)
    simp only [List.getElem_cons_zero] at h0
    rw [List.findIdx?_cons, List.findIdx?_cons, h0, findIdx_twin p q xs ys (by simpa using h) (fun i h1 h2 => by have := hp (i + 1) (by simpa using h1) (by simpa using h2); simpa using this)]

theorem toItem_inj {a b : Ent} (h : toItem a = toItem b) : a = b := by
  unfold toItem at h
  simp only [Prod.mk.injEq] at h
  obtain ⟨h1, h2, h3⟩ := h
  exact Prod.ext h1 (Prod.ext h2 (by omega))

theorem map_inj_list {α β : Type} (f : α → β) (hf : ∀ a b, f a = f b → a = b) : ∀ (xs ys : List α), xs.map f = ys.map f → xs = ys
  | [], [], _ => rfl
  | [], _ :: _, h => by simp at h
  | _ :: _, [], h => by simp at h
  | x :: xs, y :: ys, h => by
    simp only [List.map_cons, List.cons.injEq] at h
    rw [hf x y h.1, map_inj_list f hf xs ys h.2]

theorem file_twin {objs ros : List Ob} (h : Twin objs ros) (d : ByteArray) : findAt ros (fileOb d) = fileAt objs d := by
  refine (findIdx_twin _ _ objs ros h.1 fun i h1 h2 => ?_).symm
  have a := h.2.1 i h1 h2
  unfold sameB fileOb
  by_cases hk : objs[i].kind = 1
  · rw [a.kind, hk, a.data hk, a.none hk]; simp
  · rw [a.kind]; simp [hk]

theorem dir_twin {objs ros : List Ob} (h : Twin objs ros) (v : Option Addr × Nat) (m : Nat) (es : List Ent) : findAt ros (dirR v m (es.map toItem)) = dirAt objs es := by
  refine (findIdx_twin _ _ objs ros h.1 fun i h1 h2 => ?_).symm
  have a := h.2.1 i h1 h2
  unfold sameB dirR
  by_cases hk : objs[i].kind = 2
  · rw [a.kind, hk, a.empty hk, a.ents hk]
    have : decide (objs[i].ents.map toItem = es.map toItem) = decide (objs[i].ents = es) := by
      by_cases e : objs[i].ents = es
      · rw [e]; simp
      · rw [decide_eq_false e, decide_eq_false (fun h => e (map_inj_list toItem (fun a b => toItem_inj) _ _ h))]
    rw [this]; simp
  · rw [a.kind]; simp [hk]

/-! ### Rising lists -/
theorem mem_tw {α : Type} (p : α → Bool) : ∀ (l : List α) {y : α}, y ∈ l.takeWhile p → p y = true
  | [], y, h => by cases h
  | x :: l, y, h => by
    cases hx : p x with
    | true =>
      rw [List.takeWhile_cons_of_pos hx] at h
      rcases List.mem_cons.1 h with rfl | h
      · exact hx
      · exact mem_tw p l h
    | false =>
      rw [List.takeWhile_cons_of_neg (by simp [hx])] at h
      cases h
theorem rising_insE {out : List Ent} {x : Ent} (h : Rising out) (hx : ∀ y ∈ out, y.1 ≠ x.1) : Rising (insE out x) := by
  unfold insE
  have hsplit := List.takeWhile_append_dropWhile (p := fun y : Ent => lessB y.1 x.1) (l := out)
  have hpw : Rising (out.takeWhile (fun y => lessB y.1 x.1) ++ out.dropWhile (fun y => lessB y.1 x.1)) := by rw [hsplit]; exact h
  obtain ⟨p1, p2, p3⟩ := List.pairwise_append.1 hpw
  have low : ∀ y ∈ out.takeWhile (fun y => lessB y.1 x.1), cfE y x < 0 := fun y hy => by
    have := mem_tw _ _ hy
    unfold lessB at this
    exact of_decide_eq_true this
  have high : ∀ y ∈ out.dropWhile (fun y => lessB y.1 x.1), cfE x y < 0 := by
    cases hd : out.dropWhile (fun y => lessB y.1 x.1) with
    | nil => intro y hy; cases hy
    | cons z zs =>
      have hz : lessB z.1 x.1 = false := by
        have := List.head?_dropWhile_not (p := fun y : Ent => lessB y.1 x.1) out
        rw [hd] at this
        simpa using this
      have hzm : z ∈ out := by rw [← hsplit, hd]; simp
      have hxz : cfE x z < 0 := by
        unfold cfE
        unfold lessB at hz
        have hn := of_decide_eq_false hz
        have hsw := cmp_swap z.1.data.toList x.1.data.toList
        by_cases h0 : Lib.compareBytes z.1.data.toList x.1.data.toList = 0
        · exact absurd (bytes_inj (cmp_eq_zero _ _ h0)) (hx z hzm)
        · omega
      intro y hy
      rcases List.mem_cons.1 hy with rfl | hy
      · exact hxz
      · rw [hd] at p2
        exact cmp_trans _ _ _ hxz ((List.pairwise_cons.1 p2).1 y hy)
  refine List.pairwise_append.2 ⟨p1, List.pairwise_cons.2 ⟨high, p2⟩, fun a ha b hb => ?_⟩
  rcases List.mem_cons.1 hb with rfl | hb
  · exact low a ha
  · exact p3 a ha b hb

theorem rising_insAll_aux : ∀ (ls out : List Ent), Rising out → ((ls ++ out).map (·.1)).Nodup → Rising (ls.foldl insE out)
  | [], out, h, _ => h
  | x :: r, out, h, hn => by
    rw [List.foldl_cons]
    have hn' : (x.1 :: ((r ++ out).map (·.1))).Nodup := by simpa using hn
    obtain ⟨n1, n2⟩ := List.nodup_cons.1 hn'
    refine rising_insAll_aux r (insE out x) (rising_insE h fun y hy e => n1 (by rw [← e]; exact List.mem_map_of_mem (List.mem_append_right _ hy))) ?_
    have hp : (r ++ insE out x).Perm (x :: (r ++ out)) := ((insE_perm out x).append_left r).trans List.perm_middle
    exact (hp.map (·.1)).nodup_iff.2 (by simpa using hn')

theorem rising_insAll {ls : List Ent} (hn : (ls.map (·.1)).Nodup) : Rising (insAll ls) := rising_insAll_aux ls [] List.Pairwise.nil (by simpa using hn)

theorem rising_unique : ∀ {xs ys : List Ent}, Rising xs → Rising ys → xs.Perm ys → xs = ys
  | [], ys, _, _, h => (List.nil_perm.1 h).symm ▸ rfl
  | x :: xs, [], _, _, h => by have := h.length_eq; simp at this
  | x :: xs, y :: ys, hx, hy, h => by
    have irr : ∀ a : Ent, ¬ cfE a a < 0 := fun a => by unfold cfE; rw [cmp_self]; omega
    obtain ⟨x1, x2⟩ := List.pairwise_cons.1 hx
    obtain ⟨y1, y2⟩ := List.pairwise_cons.1 hy
    have e : x = y := by
      have hxm : x ∈ y :: ys := h.mem_iff.1 (List.mem_cons_self ..)
      have hym : y ∈ x :: xs := h.mem_iff.2 (List.mem_cons_self ..)
      rcases List.mem_cons.1 hxm with e | hxm
      · exact e
      · rcases List.mem_cons.1 hym with e | hym
        · exact e.symm
        · have a := y1 x hxm
          have b := x1 y hym
          exact absurd (cmp_trans _ _ _ a b) (irr y)
    subst e
    rw [rising_unique x2 y2 (List.Perm.cons_inv h)]

/-! ### Entries with IDs, items with places -/
def toAt (n : Nat) (e : Ent) : Ent := (e.1, e.2.1, if 1 ≤ e.2.2 ∧ e.2.2 ≤ (n : Int) then e.2.2 - 1 else -1)

theorem toAt_in {n : Nat} {e : Ent} (h : 1 ≤ e.2.2 ∧ e.2.2 ≤ (n : Int)) : toAt n e = toItem e := by unfold toAt toItem; rw [if_pos h]

theorem kinds_pos {objs ros : List Ob} (h : Twin objs ros) {j : Nat} (hj : j < objs.length) : objs[j].kind ≠ 0 := by
  rcases h.2.2 _ (List.getElem_mem hj) with e | e <;> rw [e] <;> decide

theorem good_twin {objs ros : List Ob} (h : Twin objs ros) (e : Ent) : rgood ros (toAt objs.length e) = goodE objs e := by
  unfold rgood goodE toAt
  by_cases hr : 1 ≤ e.2.2 ∧ e.2.2 ≤ (objs.length : Int)
  · obtain ⟨j, hj⟩ : ∃ j : Nat, e.2.2 = (j : Int) + 1 := ⟨(e.2.2 - 1).toNat, by omega⟩
    have hjl : j < objs.length := by omega
    have hjr : j < ros.length := by rw [← h.1]; exact hjl
    simp only [hr, and_self, if_true]
    rw [hj, kindOf_in hjl, show ((j : Int) + 1 - 1) = (j : Int) by omega, Int.toNat_natCast, List.getElem?_eq_getElem hjr]
    have hk := (h.2.1 j hjl hjr).kind
    have h0 := kinds_pos h hjl
    simp only [Option.map_some, Option.getD_some, hk]
    rw [decide_eq_true (by omega)]
    have hz : (objs[j].kind == 0) = false := by simpa using h0
    rw [hz]
    by_cases hke : objs[j].kind = e.2.1
    · rw [decide_eq_true hke, beq_iff_eq.2 hke]; rfl
    · rw [decide_eq_false hke, beq_false_of_ne hke]; rfl
  · rw [if_neg hr, kindOf_out (by omega)]
    simp

theorem good_range {objs : List Ob} {e : Ent} (h : goodE objs e = true) : 1 ≤ e.2.2 ∧ e.2.2 ≤ (objs.length : Int) := by
  by_cases hid : e.2.2 < 1 ∨ (objs.length : Int) < e.2.2
  · unfold goodE at h; rw [kindOf_out hid] at h; simp at h
  · omega

theorem high_twin {objs ros : List Ob} (h : Twin objs ros) {e : Ent} (hg : goodE objs e = true) : rhigh ros (toAt objs.length e) = highOf objs e.2.2 := by
  have hr := good_range hg
  obtain ⟨j, hj⟩ : ∃ j : Nat, e.2.2 = (j : Int) + 1 := ⟨(e.2.2 - 1).toNat, by omega⟩
  have hjl : j < objs.length := by omega
  have hjr : j < ros.length := by rw [← h.1]; exact hjl
  unfold rhigh toAt
  simp only [hr, and_self, if_true]
  rw [hj, highOf_in hjl, show ((j : Int) + 1 - 1) = (j : Int) by omega, Int.toNat_natCast, List.getElem?_eq_getElem hjr]
  exact (h.2.1 j hjl hjr).high

theorem highs_twin {objs ros : List Ob} (h : Twin objs ros) : ∀ (es : List Ent) (a : Int), (∀ e ∈ es, goodE objs e = true) → (es.map (toAt objs.length)).foldl (fun h e => max h (1 + rhigh ros e)) a = es.foldl (fun h e => max h (1 + highOf objs e.2.2)) a
  | [], _, _ => rfl
  | e :: r, a, hg => by
    simp only [List.map_cons, List.foldl_cons]
    rw [high_twin h (hg e (List.mem_cons_self ..))]
    exact highs_twin h r _ (fun x hx => hg x (List.mem_cons_of_mem _ hx))

theorem names_at (n : Nat) (ls : List Ent) : (ls.map (toAt n)).map (·.1) = ls.map (·.1) := by
  rw [List.map_map]; rfl

/-- The store's answer (an ID, an error) and the document's (a place, an error). -/
def Agreed (objs objs' ros ros' : List Ob) (id ec x y : Int) : Prop :=
  ec = y ∧ Twin objs' ros' ∧ ((y ≠ 0 ∧ id = 0 ∧ objs' = objs ∧ ros' = ros) ∨ (y = 0 ∧ ∃ j : Nat, x = (j : Int) ∧ id = (j : Int) + 1 ∧ ((objs' = objs ∧ ros' = ros ∧ j < objs.length) ∨ (j = objs.length ∧ objs'.length = objs.length + 1))))

theorem twin_snoc {objs ros : List Ob} (h : Twin objs ros) {o x : Ob} (ha : Alike o x) (hk : o.kind = 1 ∨ o.kind = 2) : Twin (objs ++ [o]) (ros ++ [x]) := by
  refine ⟨by simp [h.1], fun i h1 h2 => ?_, fun y hy => ?_⟩
  · by_cases hi : i < objs.length
    · rw [List.getElem_append_left hi, List.getElem_append_left (by rw [← h.1]; exact hi)]
      exact h.2.1 i hi _
    · have e : i = objs.length := by simp at h1; omega
      subst e
      have e1 : (objs ++ [o])[objs.length] = o := by simp
      have e2 : (ros ++ [x])[objs.length]'h2 = x := by simp [h.1]
      rw [e1, e2]; exact ha
  · rcases List.mem_append.1 hy with hy | hy
    · exact h.2.2 y hy
    · rw [List.mem_singleton.1 hy]; exact hk

theorem find_lt {objs : List Ob} {p : Ob → Bool} {i : Nat} (h : objs.findIdx? p = some i) : i < objs.length := (List.findIdx?_eq_some_iff_getElem.1 h).1

theorem agree_file {objs objs' ros ros' : List Ob} {d : ByteArray} {e : Ending} {x y : Int} (h : Twin objs ros) (hf : FilePut objs objs' d e) (hr : RFilePut ros ros' d x y) :
    ∃ id ec, e = .returned (.tuple #[.int .i64 id, .int .i64 ec]) ∧ Agreed objs objs' ros ros' id ec x y := by
  have ht := file_twin h d
  rcases hf with ⟨h1, h2, h3⟩ | ⟨h1, h2, i, h3, h4⟩ | ⟨h1, h2, h3, h4, h5⟩ | ⟨h1, h2, h3, h4, h5⟩
  · rcases hr with ⟨_, r2, r3, r4⟩ | ⟨r1, _⟩
    · subst h2 r2 r3 r4
      exact ⟨_, _, h3, rfl, h, .inl ⟨by decide, rfl, rfl, rfl⟩⟩
    · omega
  · rcases hr with ⟨r1, _⟩ | ⟨_, ⟨k, r1, r2, r3, r4⟩ | ⟨r1, _⟩ | ⟨r1, _⟩⟩
    · omega
    · rw [ht, h3] at r1
      cases r1
      subst h2 r2 r3 r4
      exact ⟨_, _, h4, rfl, h, .inr ⟨rfl, i, rfl, rfl, .inl ⟨rfl, rfl, find_lt h3⟩⟩⟩
    · rw [ht, h3] at r1; cases r1
    · rw [ht, h3] at r1; cases r1
  · rcases hr with ⟨r1, _⟩ | ⟨_, ⟨k, r1, r2, r3, r4⟩ | ⟨r1, r2, r3, r4, r5⟩ | ⟨r1, r2, _⟩⟩
    · omega
    · rw [ht, h2] at r1; cases r1
    · subst h4 r3 r4 r5
      exact ⟨_, _, h5, rfl, h, .inl ⟨by decide, rfl, rfl, rfl⟩⟩
    · have := h.1; omega
  · rcases hr with ⟨r1, _⟩ | ⟨_, ⟨k, r1, r2, r3, r4⟩ | ⟨r1, r2, _⟩ | ⟨r1, r2, r3, r4, r5⟩⟩
    · omega
    · rw [ht, h2] at r1; cases r1
    · have := h.1; omega
    · subst h4 r3 r4 r5
      refine ⟨_, _, h5, rfl, twin_snoc h ⟨rfl, fun _ => rfl, fun h => absurd h (show ¬ (1 : Int) = 2 by decide), rfl, fun _ => rfl, fun h => absurd h (show ¬ (1 : Int) = 2 by decide)⟩ (.inl rfl), .inr ⟨rfl, objs.length, by rw [h.1], rfl, .inr ⟨rfl, by simp⟩⟩⟩

theorem agree_dir {objs objs' ros ros' : List Ob} {ls : List Ent} {e : Ending} {x y : Int} (h : Twin objs ros) (hf : DirPutG objs objs' ls e) (hr : RDirPut ros ros' (ls.map (toAt objs.length)) x y) :
    ∃ id ec, e = .returned (.tuple #[.int .i64 id, .int .i64 ec]) ∧ Agreed objs objs' ros ros' id ec x y := by
  have nm := names_at objs.length ls
  have val : (∃ e ∈ ls.map (toAt objs.length), validB e.1 = false) ↔ ∃ e ∈ ls, validB e.1 = false := by
    constructor
    · rintro ⟨e, he, hv⟩
      obtain ⟨a, ha, rfl⟩ := List.mem_map.1 he
      exact ⟨a, ha, hv⟩
    · rintro ⟨a, ha, hv⟩
      exact ⟨_, List.mem_map_of_mem ha, hv⟩
  have gd : (∃ e ∈ ls.map (toAt objs.length), rgood ros e = false) ↔ ∃ e ∈ ls, goodE objs e = false := by
    constructor
    · rintro ⟨e, he, hv⟩
      obtain ⟨a, ha, rfl⟩ := List.mem_map.1 he
      exact ⟨a, ha, by rw [← good_twin h]; exact hv⟩
    · rintro ⟨a, ha, hv⟩
      exact ⟨_, List.mem_map_of_mem ha, by rw [good_twin h]; exact hv⟩
  have ln : (ls.map (toAt objs.length)).length = ls.length := List.length_map ..
  have nov : ∀ {P : Ent → Bool} {l : List Ent}, (∀ e ∈ l, P e = true) → ¬ ∃ e ∈ l, P e = false := fun h1 ⟨e, he, hv⟩ => by rw [h1 e he] at hv; cases hv
  unfold RDirPut at hr
  rw [nm, ln, val, gd] at hr
  rcases hf with ⟨f1, f2, f3⟩ | ⟨f1, hf⟩
  · rcases hr with ⟨_, r2, r3, r4⟩ | ⟨r1, _⟩
    · subst f2 r2 r3 r4
      exact ⟨_, _, f3, rfl, h, .inl ⟨by decide, rfl, rfl, rfl⟩⟩
    · exact absurd (val.2 f1) (nov r1)
  · rcases hr with ⟨r1, _⟩ | ⟨_, hr⟩
    · exact absurd r1 (nov f1)
    · rcases hf with ⟨g1, g2, g3⟩ | ⟨g1, g2, g3, g4⟩ | ⟨g1, g2, g3, g4, g5⟩ | ⟨g1, g2, g3, es', gp, grs, gnm, hg⟩
      · rcases hr with ⟨_, r2, r3, r4⟩ | ⟨r1, _⟩ | ⟨r1, _⟩ | ⟨r1, _⟩ | ⟨r1, _⟩
        · subst g2 r2 r3 r4
          exact ⟨_, _, g3, rfl, h, .inl ⟨by decide, rfl, rfl, rfl⟩⟩
        all_goals exact absurd r1 g1
      · rcases hr with ⟨r1, _⟩ | ⟨_, _, r2, r3, r4⟩ | ⟨_, r1, _⟩ | ⟨_, r1, _⟩ | ⟨_, r1, _⟩
        · exact absurd g1 r1
        · subst g3 r2 r3 r4
          exact ⟨_, _, g4, rfl, h, .inl ⟨by decide, rfl, rfl, rfl⟩⟩
        all_goals omega
      · rcases hr with ⟨r1, _⟩ | ⟨_, r1, _⟩ | ⟨_, _, _, r2, r3, r4⟩ | ⟨_, _, r1, _⟩ | ⟨_, _, r1, _⟩
        · exact absurd g1 r1
        · omega
        · subst g4 r2 r3 r4
          exact ⟨_, _, g5, rfl, h, .inl ⟨by decide, rfl, rfl, rfl⟩⟩
        all_goals exact absurd (gd.2 g3) (nov r1)
      · have hgp : ∀ z ∈ es', goodE objs z = true := fun z hz => g3 z (gp.mem_iff.1 hz)
        have hhi : rhighs ros (ls.map (toAt objs.length)) = highs objs es' := by
          rw [rhighs_perm ros (gp.map (toAt objs.length)).symm]
          exact highs_twin h es' 0 hgp
        have hmap : es'.map (toAt objs.length) = es'.map toItem := List.map_congr_left fun z hz => toAt_in (good_range (hgp z hz))
        have hris : Rising (es'.map toItem) := List.pairwise_map.2 (grs.imp fun h => h)
        have hins : insAll (ls.map (toAt objs.length)) = es'.map toItem := by
          refine rising_unique (rising_insAll (by rw [nm]; exact g1)) hris ?_
          rw [← hmap]
          exact (insAll_perm _).trans (gp.map _).symm
        have hdt := fun v m => dir_twin h v m es'
        rcases hr with ⟨r1, _⟩ | ⟨_, r1, _⟩ | ⟨_, _, r1, _⟩ | ⟨_, _, _, r1, r2, r3, r4⟩ | ⟨_, _, _, r1, v, z, rp, rz⟩
        · exact absurd g1 r1
        · omega
        · exact absurd r1 (nov g3)
        · rw [hhi] at r1
          rcases hg with ⟨k1, k2, k3⟩ | ⟨k1, _⟩ | ⟨k1, _⟩ | ⟨k1, _⟩
          · subst k2 r2 r3 r4
            exact ⟨_, _, k3, rfl, h, .inl ⟨by decide, rfl, rfl, rfl⟩⟩
          all_goals omega
        · rw [hhi] at r1
          rw [hins] at rp
          unfold RPutG at rp
          rw [hdt] at rp
          rcases hg with ⟨k1, _⟩ | ⟨k1, k2, i, k3, k4⟩ | ⟨k1, k2, k3, k4, k5⟩ | ⟨k1, k2, k3, ⟨o, o1, o2, o3, o4⟩, k5⟩
          · omega
          · rcases rp with ⟨j, p1, p2, p3⟩ | ⟨p1, _⟩ | ⟨p1, _⟩
            · rw [k3] at p1
              cases p1
              rcases rz with ⟨z1, _⟩ | ⟨_, z2, z3⟩
              · omega
              · subst k2 p2 z3
                exact ⟨_, _, k4, rfl, h, .inr ⟨rfl, i, by omega, rfl, .inl ⟨rfl, rfl, find_lt k3⟩⟩⟩
            · rw [k3] at p1; cases p1
            · rw [k3] at p1; cases p1
          · rcases rp with ⟨j, p1, _⟩ | ⟨p1, p2, p3, p4⟩ | ⟨p1, p2, _⟩
            · rw [k2] at p1; cases p1
            · rcases rz with ⟨_, z2, z3⟩ | ⟨z1, _⟩
              · subst k4 p3 z2 z3
                exact ⟨_, _, k5, rfl, h, .inl ⟨by decide, rfl, rfl, rfl⟩⟩
              · omega
            · have := h.1; omega
          · rcases rp with ⟨j, p1, _⟩ | ⟨p1, p2, _⟩ | ⟨p1, p2, p3, p4⟩
            · rw [k2] at p1; cases p1
            · have := h.1; omega
            · rcases rz with ⟨z1, _⟩ | ⟨_, z2, z3⟩
              · omega
              · subst o4 p3 z3
                refine ⟨_, _, k5, rfl, twin_snoc h ⟨o1.symm, fun h => by rw [o1] at h; exact absurd h (by decide), fun _ => by rw [o2]; rfl, ?_, fun h => by rw [o1] at h; exact absurd h (by decide), fun _ => rfl⟩ (.inr o1), .inr ⟨rfl, objs.length, by rw [z2, p4, h.1], rfl, .inr ⟨rfl, by simp⟩⟩⟩
                show rhighs ros (es'.map toItem) = o.high
                rw [o3, ← hhi, ← hmap]
                exact rhighs_perm ros (gp.map _)
end Go.Proofs.YtogeefmegegnnaaGreat
