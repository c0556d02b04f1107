/-
  What is proved here: the document's own answer: 'sorted' puts items in by rising names.
-/
import Derived.Test.YtogeefmegegnnaaGreatRefA
import Derived.Test.YtogeefmegegnnaaGreatStore
import Derived.OwnWalk
namespace Go.Proofs.YtogeefmegegnnaaGreat
open Go.RowKit Go.Sort Go.Shelf
set_option linter.unusedVariables false

theorem infoItem : (Tryz.prog.info? 159).map (fun i => (i.zero, i.size, i.bytes)) = some (some (.agg #[.string ByteArray.empty, .int .i64 0, .int .i64 0]), 3, 32) := by kernel_rfl

def insE (out : List Ent) (x : Ent) : List Ent := out.takeWhile (fun y => lessB y.1 x.1) ++ x :: out.dropWhile (fun y => lessB y.1 x.1)
def insAll (ls : List Ent) : List Ent := ls.foldl insE []

theorem takeWhile_eq {α : Type} (p : α → Bool) : ∀ (l : List α) (k : Nat), k ≤ l.length → (∀ j (hj : j < l.length), j < k → p l[j] = true) → (∀ hk : k < l.length, p l[k] = false) → l.takeWhile p = l.take k ∧ l.dropWhile p = l.drop k
  | [], 0, _, _, _ => ⟨rfl, rfl⟩
  | [], k + 1, h, _, _ => by simp at h
  | x :: r, 0, _, _, h => by have := h (by simp); simp only [List.getElem_cons_zero] at this; simp [List.takeWhile, List.dropWhile, this]
  | x :: r, k + 1, h1, h2, h3 => by
    have hx := h2 0 (by simp) (by omega)
    simp only [List.getElem_cons_zero] at hx
    have ih := takeWhile_eq p r k (by simpa using h1) (fun j hj hjk => by have := h2 (j + 1) (by simpa using hj) (by omega); simpa using this) (fun hk => by have := h3 (by simpa using hk); simpa using this)
    simp [List.takeWhile, List.dropWhile, hx, ih.1, ih.2]

theorem insE_len (out : List Ent) (x : Ent) : (insE out x).length = out.length + 1 := by
  unfold insE
  have := congrArg List.length (List.takeWhile_append_dropWhile (p := fun y : Ent => lessB y.1 x.1) (l := out))
  simp only [List.length_append, List.length_cons] at this ⊢
  omega

theorem flat_append (a b : List Ent) : flat (a ++ b) = flat a ++ flat b := by simp [flat]

theorem item_cells (W : World) (x : Ent) (t : TypeId) (n : Nat) (hn : n = W.heap.size) : ∀ j u, (encE x)[j]? = some u → (W.alloc (.cells #[.string x.1, .int .i64 x.2.1, .int .i64 x.2.2] t)).cell? ((⟨n, 0, none⟩ : Addr).add j) = some u := by
  subst hn
  intro j u h
  match j, h with
  | 0, h => simpa [Addr.add, encE] using h
  | 1, h => simpa [Addr.add, encE] using h
  | 2, h => simpa [Addr.add, encE] using h
  | j + 3, h => simp [encE] at h

/-- Onto a row of the round's own: what was there ahead of the round stays. -/
theorem grown_own {B : Nat} {wo W W1 : World} {e : TypeId} {size n : Nat} {v : Value} {xs : List Value} (hb : Below B wo W) (hB : B ≤ W.heap.size) (hown : W.ownsRow B e size v n xs) (hg : W.grownBy W1 v.ownBlock) : Below B wo W1 :=
  hb.grown hg hB (fun k h => (hown.lt k h).1)

theorem owns_cap {w : World} {base : Nat} {e : TypeId} {size g n cap : Nat} {xs : List Value} (h : w.ownsRow base e size (.slice (some ⟨g, 0, none⟩) n cap) n xs) : n ≤ cap ∧ cap ≤ maxLen := by
  rcases h.2 with ⟨h, _⟩ | ⟨g', cap', cur, hv, _, _, h1, h2, _⟩
  · cases h
  · cases hv; exact ⟨h1, h2⟩

theorem flat_cons (x : Ent) (l : List Ent) : flat (x :: l) = encE x ++ flat l := rfl
theorem drop_cells {out : List Ent} {k j : Nat} {u : Value} (h : (flat (out.drop k))[j]? = some u) : (flat out)[k * 3 + j]? = some u := by
  by_cases hk : k ≤ out.length
  · have e : flat out = flat (out.take k) ++ flat (out.drop k) := by rw [← flat_append, List.take_append_drop]
    have hl : (flat (out.take k)).length = k * 3 := by rw [flat_len, List.length_take, Nat.min_eq_left hk]
    rw [e, List.getElem?_append_right (by omega), hl, Nat.add_sub_cancel_left]; exact h
  · rw [List.drop_eq_nil_of_le (by omega)] at h; simp [flat] at h

theorem owns_mono {w : World} {base base' : Nat} {e : TypeId} {size : Nat} {v : Value} {n : Nat} {xs : List Value} (h : w.ownsRow base e size v n xs) (hb : base' ≤ base) : w.ownsRow base' e size v n xs := by
  refine ⟨h.1, ?_⟩
  rcases h.2 with h | ⟨g, c, cur, hv, hg, r⟩
  · exact .inl h
  · exact .inr ⟨g, c, cur, hv, Nat.le_trans hb hg, r⟩

theorem add_flat (g o j : Nat) : (⟨g, o, none⟩ : Addr).add j = ⟨g, o + j, none⟩ := by
  unfold Addr.add
  split
  · next h => subst h; rfl
  · rfl

theorem insE_perm (out : List Ent) (x : Ent) : (insE out x).Perm (x :: out) := by
  unfold insE
  refine List.perm_middle.trans ?_
  rw [List.takeWhile_append_dropWhile]

theorem insAll_perm_aux : ∀ (ls out : List Ent), (ls.foldl insE out).Perm (ls ++ out)
  | [], out => List.Perm.refl _
  | x :: r, out => by
    rw [List.foldl_cons]
    refine (insAll_perm_aux r (insE out x)).trans ?_
    refine ((insE_perm out x).append_left r).trans ?_
    exact List.perm_middle

theorem insAll_perm (ls : List Ent) : (insAll ls).Perm ls := by
  have := insAll_perm_aux ls []
  rwa [List.append_nil] at this

theorem mem_insAll {ls : List Ent} {y : Ent} (h : y ∈ insAll ls) : y ∈ ls := (insAll_perm ls).mem_iff.1 h

theorem flat_one_item (x : Ent) : flat [x] = encE x := by simp [flat]

theorem take_snoc {out : List Ent} {k : Nat} (hk : k < out.length) : flat (out.take k) ++ encE out[k] = flat (out.take (k + 1)) := by
  rw [List.take_succ_eq_append_getElem hk, flat_append, flat_one_item]

set_option maxRecDepth 100000 in
set_option maxHeartbeats 2000000 in
theorem sorted_any (b off m c0 : Nat) (ls : List Ent) (w : World) (hl : ls.length = m) (hm : m ≤ 16) (hbl : b < w.heap.size) (hc : ∀ j u, (flat ls)[j]? = some u → w.cell? ⟨b, off + j, none⟩ = some u) (hsz : ∀ e ∈ ls, e.1.size ≤ maxLen) :
    Calls Tryz.prog 163 #[.slice (some ⟨b, off, none⟩) m c0] w fun e w' => ∃ v, e = .returned v ∧ w'.ownsRow w.heap.size 159 3 v m (flat (insAll ls)) ∧ Below w.heap.size w w' := by
  obtain ⟨i0, hi, hz0, hz1, hz2⟩ := info_parts infoItem
  have HC : Hid (∀ j u, (flat ls)[j]? = some u → w.cell? ⟨b, off + j, none⟩ = some u) := hc
  have HS : Hid (∀ e ∈ ls, e.1.size ≤ maxLen) := hsz
  have HL : Hid (ls.length = m) := hl
  clear hc hsz hl
  go_enter Tryz.func163, Tryz.ntmps163
  go_wp2
  go_loopw [3, 4] (fun v i wo => ∃ k : Nat, k ≤ m ∧ i = .int .i64 k ∧ Below w.heap.size w wo ∧ wo.ownsRow w.heap.size 159 3 v k (flat (insAll (ls.take k))) ∧ (k = 0 → v = .slice none 0 0)) (fun _ i _ => m - (intOf i).toNat)
  case atStart => exact ⟨0, Nat.zero_le _, rfl, Below.refl _ _, World.ownsRow_nil _ _ _ _, fun _ => rfl⟩
  case round =>
    obtain ⟨i, hk, rfl, hb, hown, hnil⟩ := hrel
    by_cases hlt : i < m
    · have hi' : i < ls.length := by rw [HL.out]; exact hlt
      obtain ⟨c0, c1, c2⟩ := row_cells HC.out hi'
      obtain ⟨x, hx⟩ : ∃ x, x = ls[i] := ⟨_, rfl⟩
      rw [← hx] at c0 c1 c2
      obtain ⟨out, hout⟩ : ∃ out, out = insAll (ls.take i) := ⟨_, rfl⟩
      have HO : Hid (insAll (ls.take (i + 1)) = insE out x) := by
        show _ = _
        rw [List.take_succ_eq_append_getElem hi', insAll, List.foldl_append, hout, hx]; rfl
      have HX : Hid (x.1.size ≤ maxLen) := by rw [hx]; exact HS.out _ (List.getElem_mem hi')
      have HO2 : Hid (∀ y ∈ out, y.1.size ≤ maxLen) := by
        intro y hy
        rw [hout] at hy
        exact HS.out y (List.mem_of_mem_take (mem_insAll hy))
      have hol : out.length = i := by
        have := hown.1
        rw [flat_len, ← hout] at this; omega
      rw [← hout] at hown
      clear hout hx
      have x0 := fun (W : World) (hW : Below wr.heap.size wr W) => ((hb.trans (hW.mono hb.size)).cell (p := ⟨b, off + i * 3, none⟩) hbl).trans c0
      have x1 := fun (W : World) (hW : Below wr.heap.size wr W) => ((hb.trans (hW.mono hb.size)).cell (p := ⟨b, off + i * 3 + 1, none⟩) hbl).trans c1
      have x2 := fun (W : World) (hW : Below wr.heap.size wr W) => ((hb.trans (hW.mono hb.size)).cell (p := ⟨b, off + i * 3 + 2, none⟩) hbl).trans c2
      clear c0 c1 c2
      rename World => wo
      go_wp2
      go_loopw [5, 6] (fun v j wq => ∃ k : Nat, k ≤ i ∧ j = .int .i64 k ∧ Below wo.heap.size wo wq ∧ wq.ownsRow wo.heap.size 159 3 v k (flat (out.take k)) ∧ Hid (∀ j (hj : j < out.length), j < k → lessB out[j].1 x.1 = true)) (fun _ j _ => i - (intOf j).toNat)
      case atStart => exact ⟨0, Nat.zero_le _, rfl, Below.refl _ _, World.ownsRow_nil _ _ _ _, fun j hj h => by omega⟩
      case round =>
        obtain ⟨k, hki, rfl, hbq, hownq, HV⟩ := hrel
        have d0 := x0 _ hbq
        have d1 := x1 _ hbq
        have d2 := x2 _ hbq
        by_cases hkl : k < i
        · obtain ⟨g, cap, rfl⟩ := slice_of_owns hown (by omega)
          have hgl : g < wo.heap.size := ownsRow_lt hown rfl
          have hko : k < out.length := by rw [hol]; exact hkl
          obtain ⟨o0, o1, o2⟩ := row_cells (off := 0) (owns_cells hown) hko
          rw [Nat.zero_add] at o0 o1 o2
          have p0 := (hbq.cell (p := ⟨g, k * 3, none⟩) hgl).trans o0
          have p1 := (hbq.cell (p := ⟨g, k * 3 + 1, none⟩) hgl).trans o1
          have p2 := (hbq.cell (p := ⟨g, k * 3 + 2, none⟩) hgl).trans o2
          have hless := fun W => less_any out[k].1 x.1 W (HO2.out _ (List.getElem_mem hko)) HX.out
          cases hlb : lessB out[k].1 x.1 with
          | true =>
            rw [hlb] at hless
            have HB : Hid (lessB out[k].1 x.1 = true) := hlb
            clear hlb o0 o1 o2
            go_wp2
            go_quiet (first | (go_at_call 216; exact Calls.quiet_of (hless _)))
            go_wp2_with (at_builtin; refine wpList_append_own _ rfl (.tmp 30) (.tmp 35) 155 rfl wo.heap.size 159 i0 _ 3 32 Tryz.underlying155 hi hz0 hz1 hz2 rfl (by decide) _ _ _ rfl (hownq.alloc _) ⟨wr.heap.size, 0, none⟩ 1 1 (encE out[k]) rfl rfl ?c1 ?c2 ?c3 ?c4 ?c5 ?_)
            case c1 => exact item_cells (wr.drewN nq) out[k] _ _ rfl
            case c2 => exact encE_one out[k]
            case c3 => unfold maxLen; omega
            case c4 => omega
            case c5 => have := hbq.size; simp; omega
            intro v' w1 hown' hgrow _
            have hB : wo.heap.size ≤ ((wr.drewN nq).alloc (Obj.cells #[Value.string out[k].fst, Value.int IntKind.i64 out[k].snd.fst, Value.int IntKind.i64 out[k].snd.snd] 159)).heap.size := by have := hbq.size; simp; omega
            have hb1 := grown_own ((below_drewN hbq nq).alloc hbq.size _) hB (hownq.alloc _) hgrow
            have hown1 : w1.ownsRow wo.heap.size 159 3 v' (k + 1) (flat (out.take (k + 1))) := by rw [← take_snoc hko]; exact hown'
            clear hown' hgrow hB
            go_wp2
            go_roundw
            case rel =>
              refine ⟨k + 1, by omega, by go_num, hb1, hown1, ?_⟩
              intro j hj hjk
              by_cases e : j = k
              · subst e; exact HB.out
              · exact HV.out j hj (by omega)
            case measure => simp [intOf]; omega
          | false =>
            rw [hlb] at hless
            have HB : Hid (lessB out[k].1 x.1 = false) := hlb
            clear hlb o0 o1 o2
            go_wp2
            go_quiet (first | (go_at_call 216; exact Calls.quiet_of (hless _)))
            go_wp2_with (at_builtin; refine wpList_append_own _ rfl (.tmp 39) (.tmp 44) 155 rfl wo.heap.size 159 i0 _ 3 32 Tryz.underlying155 hi hz0 hz1 hz2 rfl (by decide) _ _ _ rfl (hownq.alloc _) ⟨wr.heap.size, 0, none⟩ 1 1 (encE x) rfl rfl ?c1 ?c2 ?c3 ?c4 ?c5 ?_)
            case c1 => exact item_cells (wr.drewN nq) x _ _ rfl
            case c2 => exact encE_one x
            case c3 => unfold maxLen; omega
            case c4 => omega
            case c5 => have := hbq.size; simp; omega
            intro v' w1 hown' hgrow _
            have hB : wo.heap.size ≤ ((wr.drewN nq).alloc (Obj.cells #[Value.string x.fst, Value.int IntKind.i64 x.snd.fst, Value.int IntKind.i64 x.snd.snd] 159)).heap.size := by have := hbq.size; simp; omega
            have hb1 := grown_own ((below_drewN hbq nq).alloc hbq.size _) hB (hownq.alloc _) hgrow
            obtain ⟨hc1, hc2⟩ := owns_cap hown
            clear hgrow hB
            have hdl : (flat (out.drop k)).length = (i - k) * 3 := by rw [flat_len, List.length_drop, hol]
            have hdc : ∀ j u, (flat (out.drop k))[j]? = some u → w1.cell? ((⟨g, k * 3, none⟩ : Addr).add j) = some u := by
              intro j u hju
              have h1 := drop_cells hju
              have h2 := owns_cells hown _ _ h1
              rw [Nat.zero_add] at h2
              have h3 := (hb1.cell (p := ⟨g, k * 3 + j, none⟩) hgl).trans h2
              rw [add_flat]; exact h3
            have HDC : Hid (∀ j u, (flat (out.drop k))[j]? = some u → w1.cell? ((⟨g, k * 3, none⟩ : Addr).add j) = some u) := hdc
            clear hdc
            go_wp2_with (at_builtin; refine wpList_append_own _ rfl (.tmp 46) (.tmp 49) 155 rfl wo.heap.size 159 i0 _ 3 32 Tryz.underlying155 hi hz0 hz1 hz2 rfl (by decide) _ _ _ rfl hown' ⟨g, k * 3, none⟩ (i - k) _ (flat (out.drop k)) rfl hdl HDC.out (flat_one _) ?c3 ?c4 ?c5 ?_)
            case c3 => unfold maxLen; omega
            case c4 => omega
            case c5 => exact hb1.size
            intro v2 w2 hown2 hgrow2 _
            have hb2 := grown_own hb1 hb1.size hown' hgrow2
            have hown3 : w2.ownsRow w.heap.size 159 3 v2 (i + 1) (flat (insAll (ls.take (i + 1)))) := by
              rw [HO.out]
              have e1 := takeWhile_eq (fun y : Ent => lessB y.1 x.1) out k (by omega) (fun j hj hjk => HV.out j hj hjk) (fun _ => HB.out)
              have := owns_mono hown2 hb.size
              rw [show k + 1 + (i - k) = i + 1 by omega] at this
              unfold insE
              rw [e1.1, e1.2, flat_append, flat_cons]
              simpa only [List.append_assoc] using this
            clear hown2 hgrow2 hown' HDC
            go_wp2
            go_roundw
            case rel => exact ⟨i + 1, by omega, by go_num, hb.trans (hb2.mono hb.size), hown3, fun h => by omega⟩
            case measure => simp [intOf]; omega
        · have hke : k = i := by omega
          subst hke
          have HT : Hid (out.take k = out) := List.take_of_length_le (by rw [hol]; exact Nat.le_refl _)
          have hdk : decide ((k : Int) < (k : Int)) = false := by simp
          rw [HT.out] at hownq
          rcases Nat.eq_zero_or_pos k with hz | hz
          · have hn := hnil hz
            subst hn
            subst hz
            simp only [Nat.zero_mul, Nat.add_zero] at d0 d1 d2
            go_wp2
            go_quiet (fail)
            go_wp2_with (at_builtin; refine wpList_append_own _ rfl (.tmp 39) (.tmp 44) 155 rfl wo.heap.size 159 i0 _ 3 32 Tryz.underlying155 hi hz0 hz1 hz2 rfl (by decide) _ _ _ rfl (hownq.alloc _) ⟨wr.heap.size, 0, none⟩ 1 1 (encE x) rfl rfl ?c1 ?c2 ?c3 ?c4 ?c5 ?_)
            case c1 => exact item_cells (wr.drewN nq) x _ _ rfl
            case c2 => exact encE_one x
            case c3 => unfold maxLen; omega
            case c4 => omega
            case c5 => have := hbq.size; simp; omega
            intro v' w1 hown' hgrow _
            have hB : wo.heap.size ≤ ((wr.drewN nq).alloc (Obj.cells #[Value.string x.fst, Value.int IntKind.i64 x.snd.fst, Value.int IntKind.i64 x.snd.snd] 159)).heap.size := by have := hbq.size; simp; omega
            have hb1 := grown_own ((below_drewN hbq nq).alloc hbq.size _) hB (hownq.alloc _) hgrow
            obtain ⟨g', cap', rfl⟩ := slice_of_owns hown' (by omega)
            obtain ⟨hc3, hc4⟩ := owns_cap hown'
            have hown3 : w1.ownsRow w.heap.size 159 3 (.slice (some ⟨g', 0, none⟩) (0 + 1) cap') (0 + 1) (flat (insAll (ls.take (0 + 1)))) := by
              rw [HO.out]
              have e1 := takeWhile_eq (fun y : Ent => lessB y.1 x.1) out 0 (by omega) (fun j hj hjk => HV.out j hj hjk) (fun h => by omega)
              have := owns_mono hown' hb.size
              unfold insE
              rw [e1.1, e1.2, HT.out, List.drop_eq_nil_of_le (by omega), flat_append, flat_one_item]
              exact this
            clear hown' hgrow hB
            go_wp2
            all_goals
              go_roundw
              case rel => exact ⟨0 + 1, by omega, by go_num, hb.trans (hb1.mono hb.size), hown3, fun h => by omega⟩
              case measure => simp [intOf]; omega
          · obtain ⟨g, cap, rfl⟩ := slice_of_owns hown hz
            obtain ⟨hc1, hc2⟩ := owns_cap hown
            go_wp2
            go_quiet (fail)
            go_wp2_with (at_builtin; refine wpList_append_own _ rfl (.tmp 39) (.tmp 44) 155 rfl wo.heap.size 159 i0 _ 3 32 Tryz.underlying155 hi hz0 hz1 hz2 rfl (by decide) _ _ _ rfl (hownq.alloc _) ⟨wr.heap.size, 0, none⟩ 1 1 (encE x) rfl rfl ?c1 ?c2 ?c3 ?c4 ?c5 ?_)
            case c1 => exact item_cells (wr.drewN nq) x _ _ rfl
            case c2 => exact encE_one x
            case c3 => unfold maxLen; omega
            case c4 => omega
            case c5 => have := hbq.size; simp; omega
            intro v' w1 hown' hgrow _
            have hB : wo.heap.size ≤ ((wr.drewN nq).alloc (Obj.cells #[Value.string x.fst, Value.int IntKind.i64 x.snd.fst, Value.int IntKind.i64 x.snd.snd] 159)).heap.size := by have := hbq.size; simp; omega
            have hb1 := grown_own ((below_drewN hbq nq).alloc hbq.size _) hB (hownq.alloc _) hgrow
            obtain ⟨g', cap', rfl⟩ := slice_of_owns hown' (by omega)
            obtain ⟨hc3, hc4⟩ := owns_cap hown'
            have hown3 : w1.ownsRow w.heap.size 159 3 (.slice (some ⟨g', 0, none⟩) (k + 1) cap') (k + 1) (flat (insAll (ls.take (k + 1)))) := by
              rw [HO.out]
              have e1 := takeWhile_eq (fun y : Ent => lessB y.1 x.1) out k (by omega) (fun j hj hjk => HV.out j hj hjk) (fun h => by omega)
              have := owns_mono hown' hb.size
              unfold insE
              rw [e1.1, e1.2, HT.out, List.drop_eq_nil_of_le (by omega), flat_append, flat_one_item]
              exact this
            clear hown' hgrow hB
            go_wp2
            all_goals
              go_roundw
              case rel => exact ⟨k + 1, by omega, by go_num, hb.trans (hb1.mono hb.size), hown3, fun h => by omega⟩
              case measure => simp [intOf]; omega
    · have him : i = m := by omega
      subst him
      have HT : Hid (ls.take i = ls) := List.take_of_length_le (by rw [HL.out]; omega)
      rw [HT.out] at hown
      go_wp2
      go_ret
      exact ⟨_, rfl, hown, hb⟩
end Go.Proofs.YtogeefmegegnnaaGreat
