/-
  What is proved here: whether what is at a path can go (vacant), and Remove.
-/
import Derived.Test.YtajopoddmfdejaaGreatBackM25
namespace Go.Proofs.YtajopoddmfdejaaGreat
open Go.RowKit Go.Sort Go.Shelf
set_option linter.unusedVariables false

theorem lt_entOk {objs : List Ob} {n : Nat} {c : LT} (h : LTok objs n c) (nm : ByteArray) : EntOk objs (nm, c.kind, c.id) := by
  cases c with
  | file id => exact ⟨.inl rfl, fun _ => by cases n <;> exact h⟩
  | held f => exact ⟨.inl rfl, fun h => absurd rfl h⟩
  | dir id => exact ⟨.inr rfl, fun _ => by cases n <;> exact h.1⟩
  | own es => exact ⟨.inr rfl, fun h => absurd rfl h⟩

section
variable {s i p : Nat} {B : WB} {objs : List Ob}

set_option maxRecDepth 100000 in
set_option maxHeartbeats 1000000 in
theorem vacant_any {tg : Tags} {w : World} {g : WG} {lim : Nat} {t c : LT} (h : WInv tg w s i p B objs g lim) (hl : lim + 10 < 1099511627776) (hF : Flat objs t g.ft) {n : Nat} (hok : LTok objs n t) {q : List ByteArray} (hq : Good q) (ha : t.at objs q = some c) (nm : ByteArray) :
    Calls Tryz.prog 88 #[.pointer (some ⟨B.bt, 0, none⟩), .agg (pathA q), .agg #[.string nm, .int .i64 c.kind, .int .i64 c.id]] w fun en w' => en = .returned (.int .i64 (vacantG objs g.fs c).2) ∧ DidF s i p B objs tg w w' { g with fs := (vacantG objs g.fs c).1 } (lim + 1) := by
  have hS := h.st.sound
  have hc := (ok_at hS _ hok ha).2.1
  have hen := fun W (hb : Below w.heap.size w W) => entries_any (h.below hb) (by omega) hq (lt_entOk hc nm)
  simp only [flat_ents hS hF hc ha] at hen
  have hv : vacantG objs g.fs c = if c.kind = 1 then (g.fs, 0) else if (kidsG objs g.fs c).2.1 = 0 ∧ 0 < (kidsG objs g.fs c).2.2.length then ((kidsG objs g.fs c).1, 8) else ((kidsG objs g.fs c).1, (kidsG objs g.fs c).2.1) := rfl
  generalize vacantG objs g.fs c = V at hv ⊢
  generalize kidsG objs g.fs c = a at hen hv
  obtain ⟨fs', er, ks⟩ := a
  simp only at hen hv
  generalize c.kind = k at hen hv ⊢
  generalize c.id = id at hen ⊢
  obtain ⟨s0, s1, s2, s3, s4, hP⟩ : ∃ s0 s1 s2 s3 s4, pathA q = #[.string s0, .string s1, .string s2, .string s3, .string s4] := ⟨_, _, _, _, _, rfl⟩
  rw [hP]
  simp only [hP] at hen
  have H0 : Hid _ := h
  have HEN : Hid _ := hen
  have HV : Hid _ := hv
  clear h hen hP hv hF hok ha hS hc
  by_cases hk : k = 1
  · subst hk
    go_enter Tryz.func88, Tryz.ntmps88
    go_wp2
    go_ret
    have hv := HV.out
    rw [if_pos (by first | rfl | trivial)] at hv
    subst hv
    have hb : Below w.heap.size w ((w.alloc (.cells #[.string s0, .string s1, .string s2, .string s3, .string s4] 104)).alloc (.cells #[.string nm, .int .i64 1, .int .i64 id] 76)) := ((Below.refl w.heap.size w).alloc (Nat.le_refl _) _).alloc (by simp) _
    exact ⟨rfl, tg, Moves.of_below hb, (H0.out.below hb).mono (by omega)⟩
  · have hk' : (k == 1) = false := by simpa using hk
    go_enter Tryz.func88, Tryz.ntmps88
    go_wp2_with fail
    refine (HEN.out _ (((Below.refl w.heap.size w).alloc (Nat.le_refl _) _).alloc (by simp) _)).mono ?_
    rintro e w1 ⟨v, rfl, tg1, m1, hW1, hs1⟩
    obtain ⟨la, lc, rfl⟩ := hs1.len
    rw [List.length_map]
    have HW1 : Hid _ := hW1
    have HM1 : Hid _ := call_moves (((Below.refl w.heap.size w).alloc (Nat.le_refl _) _).alloc (by simp) _) m1
    clear hs1 hW1 m1
    by_cases her : er = 0
    · subst her
      by_cases hl0 : 0 < ks.length
      · have hl0' : (0 : Int) < (ks.length : Int) := by omega
        go_wp2
        go_ret
        have hv := HV.out
        rw [if_neg hk, if_pos (by first | exact ⟨rfl, hl0⟩ | exact ⟨trivial, hl0⟩)] at hv
        subst hv
        exact ⟨rfl, tg1, HM1.out, HW1.out⟩
      · have hl0' : ¬ (0 : Int) < (ks.length : Int) := by omega
        go_wp2
        go_ret
        have hv := HV.out
        rw [if_neg hk, if_neg (fun h => hl0 h.2)] at hv
        subst hv
        exact ⟨rfl, tg1, HM1.out, HW1.out⟩
    · have her' : (er == 0) = false := by simpa using her
      go_wp2
      go_ret
      have hv := HV.out
      rw [if_neg hk, if_neg (fun h => her h.1)] at hv
      subst hv
      exact ⟨rfl, tg1, HM1.out, HW1.out⟩

set_option maxRecDepth 100000 in
set_option maxHeartbeats 1000000 in
theorem remove_root (t : Nat) (w : World) : Calls Tryz.prog 49 #[.pointer (some ⟨t, 0, none⟩), .agg #[.string ⟨#[]⟩, .string ⟨#[]⟩, .string ⟨#[]⟩, .string ⟨#[]⟩, .string ⟨#[]⟩]] w fun e w' => e = .returned (.int .i64 9) ∧ Below w.heap.size w w' := by
  have hroot := fun W => root_any W
  have heq : ∀ W, (Op.equalIn 10000 104 (pathV []) (pathV [])).run Tryz.prog W = .ok true W := fun W => by
    have := run_eqP Good.nil Good.nil W
    rw [decide_eq_true rfl] at this; exact this
  unfold pathV pathA at hroot heq
  simp only [List.getD_nil] at hroot heq
  go_enter Tryz.func49, Tryz.ntmps49
  go_wp2
  go_region_with (go_at_call 66; refine (hroot _).mono ?_; rintro e w1 ⟨rfl, hb1⟩; obtain ⟨hc1, hf1⟩ := bcell hb1; have hz1 := one_size hb1)
  all_goals
    go_wp2
    go_ret
    exact ⟨rfl, below_via (below_drew ((Below.refl _ _).alloc (Nat.le_refl _) _)) hb1⟩
end

end Go.Proofs.YtajopoddmfdejaaGreat
