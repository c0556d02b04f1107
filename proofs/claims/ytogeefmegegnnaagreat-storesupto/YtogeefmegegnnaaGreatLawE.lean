/-
  What is proved here: 'learns': an object's ID, when all are known; when it is the last and new.
-/
import Derived.Test.YtogeefmegegnnaaGreatLawD
import Derived.Laws.OwnMore
namespace Go.Proofs.YtogeefmegegnnaaGreat
open Go.RowKit Go.Sort Go.Shelf
set_option linter.unusedVariables false
variable {ft : PTail}

def idsN (n : Nat) : List Int := (List.range n).map fun i : Nat => (i : Int) + 1
theorem idsN_len (n : Nat) : (idsN n).length = n := by simp [idsN]
theorem idsN_get {n j : Nat} (h : j < n) : (idsN n)[j]? = some ((j : Int) + 1) := by simp [idsN, h]
theorem idsN_succ (n : Nat) : idsN (n + 1) = idsN n ++ [(n : Int) + 1] := by simp [idsN, List.range_succ]

theorem place_idsN {n j : Nat} (h : j < n) (zs : List Int) : placeOf (idsN n ++ zs) ((j : Int) + 1) = some j := by
  unfold placeOf
  rw [if_pos (by omega)]
  have hl : j < (idsN n ++ zs).length := by simp [idsN_len]; omega
  refine List.findIdx?_eq_some_iff_getElem.2 ⟨hl, ?_, fun i hi => ?_⟩
  · have : (idsN n ++ zs)[j]? = some ((j : Int) + 1) := by rw [List.getElem?_append_left (by rw [idsN_len]; exact h)]; exact idsN_get h
    obtain ⟨_, e⟩ := List.getElem?_eq_some_iff.1 this
    rw [e]; simp
  · have : (idsN n ++ zs)[i]? = some ((i : Int) + 1) := by rw [List.getElem?_append_left (by rw [idsN_len]; omega)]; exact idsN_get (by omega)
    obtain ⟨_, e⟩ := List.getElem?_eq_some_iff.1 this
    rw [e]; simp; omega

theorem place_out {n : Nat} {id : Int} (h : id < 1 ∨ (n : Int) < id) (zs : List Int) (hz : ∀ z ∈ zs, z = 0) : placeOf (idsN n ++ zs) id = none := by
  unfold placeOf
  split
  · next hp =>
    refine List.findIdx?_eq_none_iff.2 fun x hx => ?_
    rcases List.mem_append.1 hx with hx | hx
    · simp only [idsN, List.mem_map, List.mem_range] at hx
      obtain ⟨i, hi, rfl⟩ := hx
      simp; omega
    · rw [hz x hx]; simp; omega
  · rfl

section
variable {F G Fs : Nat → Prop} {w : World} {W s r : Nat} {ia ka pa : Option Addr} {ic kc pc : Nat} {ids : List Int} {known : List Bool} {paths : List Int} {c5 c6 c7 c8 c9 c10 c11 : Value} {ros objs : List Ob}

theorem keeps_set {F : Nat → Prop} {w : World} {g j : Nat} {v : Value} (hg : F g) : Keeps F w (w.setCell ⟨g, j, none⟩ v) :=
  ⟨rfl, rfl, rfl, by simp, fun k hk hn => Below.heap_setCell _ _ _ _ (fun e => hn (by cases e; exact hg))⟩

theorem row_set_other {w : World} {b : Nat} {t t' : TypeId} {z n : Nat} {v u : Value} {xs : List Value} {g j : Nat} {cur : Array Value} (h : w.ownsRow b t z v n xs) (hg : w.heap[g]? = some (.cells cur t' (0, 0))) (ht : t' ≠ t) : (w.setCell ⟨g, j, none⟩ u).ownsRow b t z v n xs :=
  ownsRow_keep h (fun k hk => Below.heap_setCell _ _ _ _ (fun e => owns_ne_cells h hg ht (by cases e; exact hk.symm)))

theorem LawAt.setI {g : Nat} (h : LawAt F w W s r (some ⟨g, 0, none⟩) ka pa ic kc pc ids known paths c5 c6 c7 c8 c9 c10 c11) (j : Nat) (x : Int) :
    LawAt F (w.setCell ⟨g, j, none⟩ (.int .i64 x)) W s r (some ⟨g, 0, none⟩) ka pa ic kc pc (ids.set j x) known paths c5 c6 c7 c8 c9 c10 c11 ∧ Keeps F w (w.setCell ⟨g, j, none⟩ (.int .i64 x)) := by
  obtain ⟨cur, hc⟩ := owns_block h.rowI rfl
  have hl : (ids.set j x).length = ids.length := by simp
  refine ⟨⟨h.fw, ?_, ?_, row_set_other h.rowK hc (by decide), row_set_other h.rowP hc (by decide), ?_, h.fk, h.fp⟩, keeps_set (h.fi g rfl)⟩
  · rw [hl, Below.heap_setCell _ _ _ _ (fun e => owns_ne_cells h.rowI h.hW (by decide) (by rw [show W = g from e]; rfl))]; exact h.hW
  · rw [hl]
    have := (h.rowI.stored j (.int .i64 x)).1
    rw [encI, List.map_set]
    exact this
  · rw [hl]; exact h.fi

theorem LawAt.setK {g : Nat} (h : LawAt F w W s r ia (some ⟨g, 0, none⟩) pa ic kc pc ids known paths c5 c6 c7 c8 c9 c10 c11) (j : Nat) (x : Bool) :
    LawAt F (w.setCell ⟨g, j, none⟩ (.bool x)) W s r ia (some ⟨g, 0, none⟩) pa ic kc pc ids (known.set j x) paths c5 c6 c7 c8 c9 c10 c11 ∧ Keeps F w (w.setCell ⟨g, j, none⟩ (.bool x)) := by
  obtain ⟨cur, hc⟩ := owns_block h.rowK rfl
  have hl : (known.set j x).length = known.length := by simp
  refine ⟨⟨h.fw, ?_, row_set_other h.rowI hc (by decide), ?_, row_set_other h.rowP hc (by decide), h.fi, ?_, h.fp⟩, keeps_set (h.fk g rfl)⟩
  · rw [hl, Below.heap_setCell _ _ _ _ (fun e => owns_ne_cells h.rowK h.hW (by decide) (by rw [show W = g from e]; rfl))]; exact h.hW
  · rw [hl]
    have := (h.rowK.stored j (.bool x)).1
    rw [encB, List.map_set]
    exact this
  · rw [hl]; exact h.fk

/-- All n objects are known: 1, 2, .. -/
def LawS (F : Nat → Prop) (w : World) (W s r n : Nat) (c5 c6 c7 c8 c9 c10 c11 : Value) : Prop :=
  ∃ ia ka pa ic kc pc paths, LawAt F w W s r ia ka pa ic kc pc (idsN n) (List.replicate n true) paths c5 c6 c7 c8 c9 c10 c11 ∧ paths.length = n ∧ ∀ p ∈ paths, 0 ≤ p ∧ p ≤ 301

def Below0 (ros : List Ob) : Prop := ∀ i (hi : i < ros.length), ∀ e ∈ ros[i].ents, 0 ≤ e.2.2 ∧ e.2.2 < (i : Int)

set_option maxRecDepth 100000 in
set_option maxHeartbeats 4000000 in
theorem learns_known {n : Nat} (h : LawS F w W s r n c5 c6 c7 c8 c9 c10 c11) (hr : RefInv G w r ros) (hGF : ∀ k, G k → k < w.heap.size ∧ ¬ F k) (hn : ros.length = n) (hA : Below0 ros) (j : Nat) (hj : j < n) :
    Calls Tryz.prog 76 #[.pointer (some ⟨W, 0, none⟩), .int .i64 (j : Int), .int .i64 ((j : Int) + 1)] w fun e w' => e = .returned (.bool true) ∧ LawS (NewF F w w') w' W s r n c5 c6 c7 c8 c9 c10 c11 ∧ Keeps F w w' := by
  obtain ⟨ia, ka, pa, ic, kc, pc, paths, hl, hpl, hpr⟩ := h
  have hm : n ≤ 400 := by obtain ⟨_, _, h⟩ := hr; rw [← hn]; exact h.many
  have hgr := grows_any hl hr hGF (by simp [idsN_len]) (by rw [hpl, idsN_len]) (by rw [idsN_len]; omega) hA hpr
  rw [idsN_len, hn, Nat.sub_self] at hgr
  clear hl hr hpl hpr
  go_enter Tryz.func76, Tryz.ntmps76
  go_wp2_with fail
  refine hgr.mono ?_
  rintro e w1 ⟨rfl, ia, ka, pa, ic, kc, pc, paths, hl, hpl, hpr, hkp⟩
  simp only [List.replicate_zero, List.append_nil, Nat.add_zero] at hl hpl
  clear hgr
  have hpc := place_any hl ((j : Int) + 1) (by rw [idsN_len]; exact hm)
  have e := place_idsN hj []
  rw [List.append_nil] at e
  rw [e] at hpc
  have hpc' : Calls Tryz.prog 80 #[.pointer (some ⟨W, 0, none⟩), .int .i64 ((j : Int) + 1)] w1 fun e w' => e = .returned (.int .i64 (j : Int)) ∧ w' = w1 := hpc
  clear hpc e
  have k2 := hl.c2
  have k3 := hl.c3
  rw [idsN_len] at k2
  rw [List.length_replicate] at k3
  have hWl := hl.lt
  obtain ⟨g, hia, hgl, cc, _⟩ := row_one hl.rowI (i := j) (v := .int .i64 ((j : Int) + 1)) (by simp [encI, idsN_get hj])
  subst hia
  obtain ⟨gk, hka, hgkl, ck, _⟩ := row_one hl.rowK (i := j) (v := .bool true) (by simp [encB, hj])
  subst hka
  have hfz : w1.frozen? ⟨g, j, none⟩ = false := by have := hl.rowI; rw [idsN_len] at this; exact this.frozenAt j
  have hsame := setCell_self cc
  have n1 : ¬ (j : Int) + 1 < 1 := by omega
  have n1' : decide ((j : Int) + 1 < 1) = false := decide_eq_false n1
  have n2 : ((j : Int) + 1 != 0) = true := by simp; omega
  have n3 : ((j : Int) + 1 != (j : Int) + 1) = false := by simp
  have n4 : ((j : Int) != (j : Int)) = false := by simp
  have HF : Hid (LawS (NewF F w w1) w1 W s r n c5 c6 c7 c8 c9 c10 c11 ∧ Keeps F w w1) := ⟨⟨_, _, pa, ic, kc, pc, paths, hl, hpl, hpr⟩, hkp⟩
  clear hl hpr hkp
  go_wp2_with fail
  refine hpc'.mono ?_
  rintro e w2 ⟨rfl, rfl⟩
  go_wp2
  go_ret
  exact ⟨rfl, HF.out⟩

theorem Inv.keep {F F' : Nat → Prop} {w w' : World} {s : Nat} {objs : List Ob} (h : Inv ft F w s objs) (hF : ∀ k, F k → F' k) (hk : ∀ k, F k → w'.heap[k]? = w.heap[k]?) : Inv ft F' w' s objs := by
  obtain ⟨p, a, cap, bf, bd, Df, Dd, i⟩ := h
  refine ⟨p, a, cap, bf, bd, Df, Dd, ⟨hF _ i.fs, hF _ i.fp, hF _ i.ff, hF _ i.fd, fun g hg => hF g (i.fr g hg), (hk s i.fs).trans i.hs, ⟨?_, ownsRow_keep i.pool.row (fun g hg => hk g (i.fr g hg)), i.pool.len, i.pool.many⟩, i.ne,
    ownsMap_keep i.files (hk _ i.ff), i.filesOk, ownsMap_keep i.dirs (hk _ i.fd), i.dirsOk, fun o ho => ?_⟩⟩
  · have := i.pool.at_
    unfold PoolAt at this ⊢
    rw [hk p i.fp]; exact this
  · rcases i.obs o ho with h | ⟨h1, h2, h3, h4, h5, h6, g, h7, h8, h9⟩
    · exact .inl h
    · exact .inr ⟨h1, h2, h3, h4, h5, h6, g, h7, hF g h8, ownsRow_keep h9 (fun k hg => by rw [h7] at hg; cases hg; exact hk g h8)⟩

theorem keeps_below {F : Nat → Prop} {w w1 w2 : World} (h : Keeps F w w1) (hb : Below w1.heap.size w1 w2) : Keeps F w w2 :=
  ⟨hb.os.trans h.os, hb.tape.trans h.tape, hb.output.trans h.output, Nat.le_trans h.size hb.size, fun k hk hn => (hb.block k (Nat.lt_of_lt_of_le hk h.size)).trans (h.block k hk hn)⟩
theorem LawS.mono {F F' : Nat → Prop} {w : World} {W s r n : Nat} {c5 c6 c7 c8 c9 c10 c11 : Value} (h : LawS F w W s r n c5 c6 c7 c8 c9 c10 c11) (hF : ∀ k, F k → F' k) : LawS F' w W s r n c5 c6 c7 c8 c9 c10 c11 := by
  obtain ⟨ia, ka, pa, ic, kc, pc, paths, hl, hp⟩ := h
  exact ⟨ia, ka, pa, ic, kc, pc, paths, hl.mono hF, hp⟩

theorem LawS.drew {F : Nat → Prop} {w : World} {W s r n : Nat} {c5 c6 c7 c8 c9 c10 c11 : Value} (h : LawS F w W s r n c5 c6 c7 c8 c9 c10 c11) : LawS F w.drew W s r n c5 c6 c7 c8 c9 c10 c11 := by
  obtain ⟨ia, ka, pa, ic, kc, pc, paths, hl, hp⟩ := h
  exact ⟨ia, ka, pa, ic, kc, pc, paths, hl.keep (fun _ h => h) (fun _ _ => rfl), hp⟩

theorem set_last (n : Nat) (x : Int) : (idsN n ++ [(0 : Int)]).set n x = idsN n ++ [x] := by
  rw [List.set_append_right _ _ (by rw [idsN_len]; exact Nat.le_refl _), idsN_len, Nat.sub_self]; rfl
theorem set_lastB (n : Nat) : (List.replicate n true ++ [false]).set n true = List.replicate (n + 1) true := by
  rw [List.set_append_right _ _ (by simp), List.length_replicate, Nat.sub_self, List.replicate_succ']; rfl

set_option maxRecDepth 100000 in
set_option maxHeartbeats 8000000 in
theorem learns_new {n : Nat} (h : LawS F w W s r n c5 c6 c7 c8 c9 c10 c11) (hr : RefInv G w r ros) (hs : Inv ft Fs w s objs) (hGF : ∀ k, G k → k < w.heap.size ∧ ¬ F k) (hSF : ∀ k, Fs k → k < w.heap.size ∧ ¬ F k) (hFl : ∀ k, F k → k < w.heap.size)
    (hn : ros.length = n + 1) (ho : objs.length = n + 1) (hA : Below0 ros) (hx : Alike (objs[n]'(by omega)) (ros[n]'(by omega))) :
    Calls Tryz.prog 76 #[.pointer (some ⟨W, 0, none⟩), .int .i64 (n : Int), .int .i64 ((n : Int) + 1)] w fun e w' => e = .returned (.bool true) ∧ LawS (NewF F w w') w' W s r (n + 1) c5 c6 c7 c8 c9 c10 c11 ∧ Keeps F w w' := by
  obtain ⟨ia, ka, pa, ic, kc, pc, paths, hl, hpl, hpr⟩ := h
  have hm : n + 1 ≤ 400 := by obtain ⟨_, _, h⟩ := hr; rw [← hn]; exact h.many
  have hgr := grows_any hl hr hGF (by simp [idsN_len]) (by rw [hpl, idsN_len]) (by rw [idsN_len]; omega) hA hpr
  rw [idsN_len, hn, Nat.add_sub_cancel_left] at hgr
  have HR : Hid (RefInv G w r ros) := hr
  have HI : Hid (Inv ft Fs w s objs) := hs
  have HG : Hid (∀ k, G k → k < w.heap.size ∧ ¬ F k) := hGF
  have HS : Hid (∀ k, Fs k → k < w.heap.size ∧ ¬ F k) := hSF
  have HFl : Hid (∀ k, F k → k < w.heap.size) := hFl
  have HA : Hid (Below0 ros) := hA
  have HN : Hid (ros.length = n + 1) := hn
  have HO : Hid (objs.length = n + 1) := ho
  have hnr : n < ros.length := by omega
  have hno : n < objs.length := by omega
  have HX : Hid (Alike objs[n] ros[n]) := hx
  clear hl hr hpl hpr hs hGF hSF hFl hA hx hn ho
  go_enter Tryz.func76, Tryz.ntmps76
  go_wp2_with fail
  refine hgr.mono ?_
  rintro e w1 ⟨rfl, ia, ka, pa, ic, kc, pc, paths, hl, hpl, hpr, hkp⟩
  simp only [List.replicate_one] at hl
  clear hgr
  have hpc := place_any hl ((n : Int) + 1) (by simp [idsN_len]; omega)
  rw [place_out (.inr (by omega)) [0] (fun z hz => List.mem_singleton.1 hz)] at hpc
  have hpc' : Calls Tryz.prog 80 #[.pointer (some ⟨W, 0, none⟩), .int .i64 ((n : Int) + 1)] w1 fun e w' => e = .returned (.int .i64 (-1)) ∧ w' = w1 := hpc
  clear hpc
  have k2 := hl.c2
  have k3 := hl.c3
  have li : (idsN n ++ [(0 : Int)]).length = n + 1 := by simp [idsN_len]
  have lk : (List.replicate n true ++ [false]).length = n + 1 := by simp
  rw [li] at k2
  rw [lk] at k3
  have hWl := hl.lt
  obtain ⟨g, hia, hgl, cc, _⟩ := row_one hl.rowI (i := n) (v := .int .i64 0) (by simp [encI, idsN_len])
  subst hia
  obtain ⟨gk, hka, hgkl, ck, _⟩ := row_one hl.rowK (i := n) (v := .bool false) (by simp [encB])
  subst hka
  have hfz : w1.frozen? ⟨g, n, none⟩ = false := by have := hl.rowI; rw [li] at this; exact this.frozenAt n
  have hfk : w1.frozen? ⟨gk, n, none⟩ = false := by have := hl.rowK; rw [lk] at this; exact this.frozenAt n
  have ggk : g ≠ gk := by
    obtain ⟨_, h1⟩ := owns_block hl.rowI rfl
    obtain ⟨_, h2⟩ := owns_block hl.rowK rfl
    exact cells_ne h1 h2 (by decide)
  have gW : g ≠ W := by
    obtain ⟨_, h1⟩ := owns_block hl.rowI rfl
    exact cells_ne h1 hl.hW (by decide)
  have gkW : gk ≠ W := by
    obtain ⟨_, h1⟩ := owns_block hl.rowK rfl
    exact cells_ne h1 hl.hW (by decide)
  have n1' : decide ((n : Int) + 1 < 1) = false := decide_eq_false (by omega)
  have nn : (n : Int) < (n : Int) + 1 := by omega
  have L2 := hl.setI n ((n : Int) + 1)
  have L3 := L2.1.setK n true
  rw [set_last, ← idsN_succ, set_lastB] at L3
  have HL3 : Hid _ := L3
  have HK3 : Hid (Keeps F w ((w1.setCell ⟨g, n, none⟩ (.int .i64 ((n : Int) + 1))).setCell ⟨gk, n, none⟩ (.bool true))) := by
    have a : Keeps (NewF F w w1) w1 ((w1.setCell ⟨g, n, none⟩ (.int .i64 ((n : Int) + 1))).setCell ⟨gk, n, none⟩ (.bool true)) := ⟨rfl, rfl, rfl, by simp, fun k hk hnF => (L3.2.block k (by simpa using hk) hnF).trans (L2.2.block k hk hnF)⟩
    exact keeps_trans hkp a
  have HP : Hid (paths.length = n + 1 ∧ ∀ p ∈ paths, 0 ≤ p ∧ p ≤ 301) := ⟨hpl, hpr⟩
  clear hl hpr hkp L2 L3 hpl
  go_wp2_with fail
  refine hpc'.mono ?_
  rintro e w2 ⟨rfl, rfl⟩
  clear hpc'
  go_wp2_with fail
  have hss : w2.heap.size = ((w2.setCell ⟨g, n, none⟩ (.int .i64 ((n : Int) + 1))).setCell ⟨gk, n, none⟩ (.bool true)).heap.size := by simp
  obtain ⟨w3, hw3⟩ : ∃ w3, w3 = (w2.setCell ⟨g, n, none⟩ (.int .i64 ((n : Int) + 1))).setCell ⟨gk, n, none⟩ (.bool true) := ⟨_, rfl⟩
  rw [← hw3] at HL3 HK3 hss ⊢
  have hl3 : LawAt (NewF F w w3) w3 W s r (some ⟨g, 0, none⟩) (some ⟨gk, 0, none⟩) pa ic kc pc (idsN (n + 1)) (List.replicate (n + 1) true) paths c5 c6 c7 c8 c9 c10 c11 := HL3.out.1.mono (fun k hk => by rcases hk with h | h; exact .inl h; exact .inr ⟨h.1, by omega⟩)
  have HL : Hid (LawAt (NewF F w w3) w3 W s r (some ⟨g, 0, none⟩) (some ⟨gk, 0, none⟩) pa ic kc pc (idsN (n + 1)) (List.replicate (n + 1) true) paths c5 c6 c7 c8 c9 c10 c11) := hl3
  have R3 : Hid (RefInv G w3 r ros) := ref_stays HR.out HG.out HK3.out
  have I3 : Hid (Inv ft Fs w3 s objs) := HI.out.keep (fun _ h => h) (fun k hk => HK3.out.block k (HS.out k hk).1 (HS.out k hk).2)
  clear hl3 cc ck hfz hfk k2 k3 hgl hgkl hw3 HL3 hWl li lk
  have hkinds : objs[n].kind = 1 ∨ objs[n].kind = 2 := by obtain ⟨_, _, _, _, _, _, _, i⟩ := I3.out; exact i.kinds _ (List.getElem_mem hno)
  rcases hkinds with hkd | hkd
  · have hho := holds_file HL.out R3.out I3.out n hno hnr hkd HX.out
    clear hkd
    refine hho.mono ?_
    rintro e w4 ⟨rfl, hb4⟩
    clear hho
    have HF : Hid (LawS (NewF F w w4) w4 W s r (n + 1) c5 c6 c7 c8 c9 c10 c11 ∧ Keeps F w w4) := ⟨⟨_, _, pa, ic, kc, pc, paths, (HL.out.below hb4).mono (fun k hk => by rcases hk with h | h; exact .inl h; exact .inr ⟨h.1, Nat.lt_of_lt_of_le h.2 hb4.size⟩), HP.out⟩, keeps_below HK3.out hb4⟩
    go_wp2
    go_loopw [9, 10] (fun o i wr => o = .bool true ∧ i = .int .i64 0 ∧ wr = w4) (fun _ _ _ => 0)
    case atStart => exact ⟨rfl, rfl, rfl⟩
    case round =>
      obtain ⟨rfl, rfl, rfl⟩ := hrel
      go_wp2
      go_ret
      exact ⟨rfl, HF.out⟩
  · have hho := holds_dir HL.out R3.out I3.out n hno hnr hkd HX.out
    have hents := HX.out.ents hkd
    obtain ⟨es, hes⟩ : ∃ es, es = objs[n].ents := ⟨_, rfl⟩
    rw [← hes] at hho hents
    have hat := HA.out n hnr
    rw [hents] at hat
    have HAT : Hid (∀ e ∈ es, 1 ≤ e.2.2 ∧ e.2.2 ≤ (n : Int)) := fun e he => by
      have : 0 ≤ e.2.2 - 1 ∧ e.2.2 - 1 < (n : Int) := hat (toItem e) (List.mem_map_of_mem he)
      omega
    have hfew : Hid (es.length ≤ 16) := by
      obtain ⟨_, _, hra⟩ := R3.out
      have h1 := (hra.obs _ (List.getElem_mem hnr)).len
      have h2 := (hra.obs _ (List.getElem_mem hnr)).few
      rw [hents, List.length_map] at h1
      show _ ≤ _
      omega
    have HEN : Hid (ros[n].ents = es.map toItem) := hents
    clear hkd hents hat hes
    obtain ⟨m, hmm⟩ : ∃ m, m = es.length := ⟨_, rfl⟩
    rw [← hmm] at hho hfew
    have hm16 : m ≤ 16 := hfew.out
    have HM : Hid (m = es.length) := hmm
    clear hmm
    refine hho.mono ?_
    rintro e w4 ⟨gl, rfl, hown4, hb4⟩
    clear hho
    have hl4 : Hid (gl < w4.heap.size ∧ w3.heap.size ≤ gl) := by have := hown4.lt gl rfl; exact ⟨this.2, this.1⟩
    have HO4 : Hid (w4.ownsRow w3.heap.size 112 3 (.slice (some ⟨gl, 0, none⟩) m m) m (flat es)) := hown4
    have hF3 : Hid (∀ k, NewF F w w3 k → k < w3.heap.size) := fun k hk => by rcases hk with h | h; exact Nat.lt_of_lt_of_le (HFl.out k h) HK3.out.size; exact h.2
    have hLS : Hid (LawS (NewF F w w3) w4 W s r (n + 1) c5 c6 c7 c8 c9 c10 c11) := ⟨_, _, pa, ic, kc, pc, paths, HL.out.below hb4, HP.out⟩
    have R4 : Hid (RefInv G w4 r ros) := R3.out.below hb4 (fun _ h => h)
    have HG4 : Hid (∀ k, G k → k < w4.heap.size ∧ ¬ NewF F w w3 k) := fun k hk => ⟨Nat.lt_of_lt_of_le (HG.out k hk).1 (Nat.le_trans HK3.out.size hb4.size), fun h => by rcases h with h | h; exact (HG.out k hk).2 h; have := (HG.out k hk).1; omega⟩
    clear hown4
    go_wp2
    go_loopw [9, 10] (fun o i wr => ∃ k : Nat, k ≤ m ∧ o = .bool true ∧ i = .int .i64 k ∧ Hid (LawS (NewF (NewF F w w3) w4 wr) wr W s r (n + 1) c5 c6 c7 c8 c9 c10 c11 ∧ Keeps (NewF F w w3) w4 wr)) (fun _ i _ => m - (intOf i).toNat)
    case atStart => exact ⟨0, Nat.zero_le _, rfl, rfl, LawS.mono hLS.out (fun k hk => .inl hk), ⟨rfl, rfl, rfl, Nat.le_refl _, fun _ _ _ => rfl⟩⟩
    case round =>
      obtain ⟨k, hk, rfl, rfl, HW⟩ := hrel
      have hkp := HW.out.2
      by_cases hlt : k < m
      · have hke : k < es.length := by rw [← HM.out]; exact hlt
        have R5 := ref_stays R4.out HG4.out hkp
        have hkn := learns_known (w := wr.drew) (LawS.drew HW.out.1) (R5.keep (fun _ h => h) (fun _ _ => rfl)) (fun q hq => ⟨Nat.lt_of_lt_of_le (HG4.out q hq).1 hkp.size, fun h => by rcases h with h | h; exact (HG4.out q hq).2 h; have := (HG4.out q hq).1; omega⟩) HN.out HA.out
        obtain ⟨_, _, _, _, _, _, _, hl5, _⟩ := HW.out.1
        have k1 := hl5.c1
        obtain ⟨ra, rcap, hra⟩ := R5
        have r0 := hra.c0
        rw [HN.out] at r0
        obtain ⟨gr, hga, hgrl, _, _, cI, _⟩ := row_obs hra.row rfl hnr
        subst hga
        have hob := hra.obs _ (List.getElem_mem hnr)
        have hrow := hob.row
        have hlen := hob.len
        rw [HEN.out] at hrow hlen
        rw [List.length_map, ← HM.out] at hlen
        rw [← hlen] at hrow cI
        obtain ⟨gi, ci, hvi⟩ := slice_of_owns hrow (by omega)
        rw [(Value.slice.inj hvi).1] at hrow cI
        obtain ⟨_, _, i2⟩ := row_cells (off := 0) (owns_cells hrow) (i := k) (by simpa using hke)
        rw [Nat.zero_add, List.getElem_map] at i2
        obtain ⟨ha0, ha1⟩ := HAT.out es[k] (List.getElem_mem hke)
        obtain ⟨jj, hjj⟩ : ∃ jj : Nat, es[k].2.2 = (jj : Int) + 1 := ⟨(es[k].2.2 - 1).toNat, by omega⟩
        have i2' : wr.cell? ⟨gi, k * 3 + 2, none⟩ = some (.int .i64 (jj : Int)) := by rw [i2]; unfold toItem; rw [hjj]; simp
        have hO5 : wr.ownsRow 0 112 3 (.slice (some ⟨gl, 0, none⟩) m m) m (flat es) := ownsRow_keep (owns_mono HO4.out (Nat.zero_le _)) (fun q hq => by
          cases hq
          exact hkp.block gl hl4.out.1 (fun h => by have := hF3.out gl h; have := hl4.out.2; omega))
        obtain ⟨_, _, l2⟩ := row_cells (off := 0) (owns_cells hO5) hke
        rw [Nat.zero_add, hjj] at l2
        have hkn' := hkn jj (by omega)
        have hkm : (k : Int) < (m : Int) := by omega
        have HKN : Hid (Calls Tryz.prog 76 #[.pointer (some ⟨W, 0, none⟩), .int .i64 (jj : Int), .int .i64 ((jj : Int) + 1)] wr.drew fun e w' => e = .returned (.bool true) ∧ LawS (NewF (NewF (NewF F w w3) w4 wr) wr.drew w') w' W s r (n + 1) c5 c6 c7 c8 c9 c10 c11 ∧ Keeps (NewF (NewF F w w3) w4 wr) wr.drew w') := hkn'
        clear hkn hkn' hl5 hra hob hlen hrow hvi i2 hO5 ha0 ha1 hjj
        go_wp2
        refine wp_region_still_tail 21 (by kernel_rfl) (by kernel_rfl) ?_
        simp only [List.take_succ_cons, List.take_zero, List.drop_succ_cons, List.drop_zero]
        iterate 21 still_step
        refine wpStill_nil ?_
        go_wp2_with fail
        refine HKN.out.mono ?_
        rintro e w5 ⟨rfl, hls5, hk5⟩
        have HF5 : Hid (LawS (NewF (NewF F w w3) w4 w5) w5 W s r (n + 1) c5 c6 c7 c8 c9 c10 c11 ∧ Keeps (NewF F w w3) w4 w5) := ⟨LawS.mono hls5 (fun q hq => newF_newF hkp.size hk5.size hq), keeps_trans hkp ⟨hk5.os, hk5.tape, hk5.output, hk5.size, hk5.block⟩⟩
        clear hls5 hk5
        go_wp2
        go_roundw
        case rel => exact ⟨k + 1, by omega, rfl, by go_num, HF5.out⟩
        case measure => simp [intOf]; omega
      · have HFF : Hid (LawS (NewF F w wr) wr W s r (n + 1) c5 c6 c7 c8 c9 c10 c11 ∧ Keeps F w wr) := by
          have z1 := HK3.out.size
          have z2 := hb4.size
          have z3 := hkp.size
          refine ⟨LawS.mono HW.out.1 (fun q hq => ?_), ?_⟩
          · rcases hq with (h | h) | h
            · exact .inl h
            · exact .inr ⟨h.1, by omega⟩
            · exact .inr ⟨by omega, h.2⟩
          · refine keeps_trans (keeps_below HK3.out hb4) ⟨hkp.os, hkp.tape, hkp.output, hkp.size, fun q hq hnF => hkp.block q hq (fun h => hnF ?_)⟩
            rcases h with h | h
            · exact .inl h
            · exact .inr ⟨h.1, by omega⟩
        have hnl : decide ((k : Int) < (m : Int)) = false := decide_eq_false (by omega)
        go_wp2
        go_ret
        exact ⟨rfl, HFF.out⟩
end
end Go.Proofs.YtogeefmegegnnaaGreat
