/-
  What is proved here: 'create': an empty file at a path at which there is nothing.
-/
import Derived.Test.YtehpnebekgahnaaGreatAskM41
namespace Go.Proofs.YtehpnebekgahnaaGreat
open Go.RowKit Go.Sort Go.Shelf
set_option linter.unusedVariables false

section
variable {s i p : Nat} {B : WB} {objs : List Ob}

set_option maxRecDepth 100000 in
set_option maxHeartbeats 1000000 in
theorem create_full (bt : Nat) (s0 s1 s2 s3 s4 : ByteArray) (m : Int) (w : World) (hm : 16 ≤ m) :
    Calls Tryz.prog 59 #[.pointer (some ⟨bt, 0, none⟩), .agg #[.string s0, .string s1, .string s2, .string s3, .string s4], .int .i64 m] w fun en w' => en = .returned (.tuple #[.pointer none, .int .i64 11]) ∧ Below w.heap.size w w' := by
  go_enter Tryz.func59, Tryz.ntmps59
  go_wp2
  go_ret2
  exact ⟨rfl, (Below.refl _ _).alloc (Nat.le_refl _) _⟩

theorem held_ok (objs : List Ob) (n f : Nat) : LTok objs n (.held f) := by cases n <;> simp [LTok]

set_option maxRecDepth 100000 in
set_option maxHeartbeats 4000000 in
theorem create_new {tg : Tags} {w : World} {g : WG} {lim : Nat} {t d : LT} (h : WInv tg w s i p B objs g lim) (hl : lim + 500 < 1099511627776) (hF : Flat objs t g.ft) (hok : LTok objs 5 t) {q : List ByteArray} {n : ByteArray} (hp : Good (q ++ [n])) {ks : Kids} (ha : t.at objs q = some d) (hk : kids objs d = some ks) (hkw : KeptWay objs t g.fs q) (hpk : pickK ks n = none) (h16 : ks.length < 16) (m : Int) (hm : m < 16) :
    Calls Tryz.prog 59 #[.pointer (some ⟨B.bt, 0, none⟩), .agg (pathA (q ++ [n])), .int .i64 m] w fun en w' => ∃ f tg' ft', en = .returned (.tuple #[.pointer (some ⟨f, 0, none⟩), .int .i64 0]) ∧ w.heap.size ≤ f ∧ Moves (Mine i) tg tg' w w' ∧
      WInv tg' w' s i p B objs { g with ft := ft', fl := updN g.fl f (some (0, ⟨#[]⟩)) } (lim + 200) ∧ Flat objs (modG objs (fun ks => putK ks n (.held f)) q t) ft' := by
  have hS := h.st.sound
  have hi := h.two
  have hdok := (ok_at hS _ hok ha).2.1
  have q1 := (ok_kids hS hdok hk).1
  have hway := ownWay_flat hS hF hok ha hk hkw
  have hcur := cur_at ha hk
  have hE : Ents objs (curK objs t q) := by rw [hcur]; exact ents_kids hS hdok hk
  have hth : thereK (curK objs t q) n = false := by rw [hcur, there_ent, ← pick_there q1, hpk]; rfl
  have h16' : (curK objs t q).length < 16 := by rw [hcur, List.length_map]; exact h16
  have hFl := fun f => flat_create hS hF hok ha hk hkw hpk f
  obtain ⟨vD, hD⟩ := h.wp.ownD
  have hput := fun W (hb : Below w.heap.size w W) => put_new (h.below hb) (hD.moves (Moves.of_below (P := fun _ => False) hb) (fun x => x)) (by omega) hp hway hE hth h16' ⟨#[]⟩ 1 0 ⟨.inl rfl, fun hx => absurd rfl hx⟩
  obtain ⟨s0, s1, s2, s3, s4, hP⟩ : ∃ s0 s1 s2 s3 s4, pathA (q ++ [n]) = #[.string s0, .string s1, .string s2, .string s3, .string s4] := ⟨_, _, _, _, _, rfl⟩
  simp only [hP] at hput
  rw [hP]
  have HPn : Hid _ := hP
  have HPUT : Hid _ := hput
  have HFR : Hid _ := h.st.fresh
  have HGP : Hid _ := hp
  have HFL : Hid _ := hFl
  have hlm : lim + 150 < maxLen := by unfold maxLen; omega
  clear hput hFl hP h hD hF hok hway hcur hE hth h16' ha hk hkw hpk hS hdok q1 hp
  have hem := fun W => empty_walk W
  go_enter Tryz.func59, Tryz.ntmps59
  go_wp2_with fail
  refine Calls.mono (HPUT.out _ ((Below.refl w.heap.size w).alloc (Nat.le_refl _) _)) ?_
  rintro e w2 ⟨rfl, tg2, vD2, m2, hW2, hD2⟩
  have HC0 : Hid (cell5 (w.alloc (.cells #[.string s0, .string s1, .string s2, .string s3, .string s4] 67)) w.heap.size s0 s1 s2 s3 s4) := by
    obtain ⟨_, b0, b1, b2, b3, b4, _⟩ := cells5 (heap_alloc_new w (.cells #[.string s0, .string s1, .string s2, .string s3, .string s4] 67))
    exact ⟨b0, b1, b2, b3, b4⟩
  have HC2 : Hid _ := cell5.keep HC0.out (kept_cell (b := w.heap.size) hi m2 (self_alloc _ _) (HFR.out _ (Nat.le_refl _)))
  have hz2 : w.heap.size < w2.heap.size := Nat.lt_of_lt_of_le (self_alloc _ _) m2.size
  obtain ⟨m3, hW3⟩ := hW2.new_file 0
  rw [if_pos rfl] at m3 hW3
  have hb3 : Below (w2.alloc (.cells #[.pointer none, .int .i64 0, .string ⟨#[]⟩] 170)).heap.size _ (w2.alloc (.cells #[.pointer none, .int .i64 0, .string ⟨#[]⟩] 170)).drew := below_drew (Below.refl _ _)
  obtain ⟨w9, hmu, m9, hW9⟩ := (hW3.below hb3).note_file hlm HGP.out (f := w2.heap.size) (x := (0, ⟨#[]⟩)) (updN_same _ _ _)
  rw [HPn.out] at hmu
  have HEND : Hid _ := And.intro ((call_moves ((Below.refl w.heap.size w).alloc (Nat.le_refl _) _) m2).trans ((m3.mono (fun _ x => x.elim)).trans ((Moves.of_below hb3).trans (m9.mono mine4)))) hW9
  obtain ⟨tb, t7, _⟩ := hW2.treeAt
  obtain ⟨a0, a1, a2, a3, a4⟩ := HC2.out
  clear m2 hW2 hD2 m3 hW3 hb3 m9 hW9
  go_wp2_with (go_at_call 96; refine Calls.mono (hem _) ?_; rintro e w4 ⟨rfl, rfl⟩)
  go_region
  all_goals
    go_wp2
    go_ret2
    exact ⟨w2.heap.size, _, _, rfl, Nat.le_of_lt hz2, HEND.out.1, HEND.out.2.mono (by omega), HFL.out _⟩
end
end Go.Proofs.YtehpnebekgahnaaGreat
