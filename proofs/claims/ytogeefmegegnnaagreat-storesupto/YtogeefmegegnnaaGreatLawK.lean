/-
  What is proved here: the law's steps GetFile and Objects.
-/
import Derived.Test.YtogeefmegegnnaaGreatLawJ
import Derived.BigQuiet
namespace Go.Proofs.YtogeefmegegnnaaGreat
open Go.RowKit Go.Sort Go.Shelf
set_option linter.unusedVariables false
variable {ft : PTail}

theorem idOf_idsN (n : Nat) (x : Int) : idOf (idsN n) x = x := by
  unfold idOf
  split
  · next h =>
    rw [idsN_len] at h
    have hj : (x - 1).toNat < n := by omega
    have : (idsN n)[(x - 1).toNat]? = some (((x - 1).toNat : Int) + 1) := idsN_get hj
    rw [List.getD_eq_getElem?_getD, this]
    show (((x - 1).toNat : Int) + 1) = x
    omega
  · rfl

section
variable {FL FR FS : Nat → Prop} {w : World} {W s r : Nat} {objs ros : List Ob} {c5 c6 c7 c8 c9 c10 c11 : Value}

theorem W3.few (h : W3 ft FL FR FS w W s r objs ros c5 c6 c7 c8 c9 c10 c11) : objs.length ≤ 400 ∧ ros.length = objs.length := by
  obtain ⟨_, _, hr⟩ := h.ref
  have := hr.many
  have := h.twin.1
  omega

theorem w3_id (h : W3 ft FL FR FS w W s r objs ros c5 c6 c7 c8 c9 c10 c11) (x : Int) : Calls Tryz.prog 78 #[.pointer (some ⟨W, 0, none⟩), .int .i64 x] w fun e w' => e = .returned (.int .i64 x) ∧ w' = w := by
  have hf := h.few
  obtain ⟨_, _, _, _, _, _, _, hl, _⟩ := h.law
  have := id_any hl x (by rw [idsN_len]; exact hf.1)
  rw [idOf_idsN] at this
  exact this

theorem w3_place (h : W3 ft FL FR FS w W s r objs ros c5 c6 c7 c8 c9 c10 c11) (j : Nat) (hj : j < objs.length) : Calls Tryz.prog 80 #[.pointer (some ⟨W, 0, none⟩), .int .i64 ((j : Int) + 1)] w fun e w' => e = .returned (.int .i64 (j : Int)) ∧ w' = w := by
  have hf := h.few
  obtain ⟨_, _, _, _, _, _, _, hl, _⟩ := h.law
  have := place_any hl ((j : Int) + 1) (by rw [idsN_len]; exact hf.1)
  have e := place_idsN hj []
  rw [List.append_nil] at e
  rw [e] at this
  exact this

theorem w3_noplace (h : W3 ft FL FR FS w W s r objs ros c5 c6 c7 c8 c9 c10 c11) (x : Int) (hx : x < 1 ∨ (objs.length : Int) < x) : Calls Tryz.prog 80 #[.pointer (some ⟨W, 0, none⟩), .int .i64 x] w fun e w' => e = .returned (.int .i64 (-1)) ∧ w' = w := by
  have hf := h.few
  obtain ⟨_, _, _, _, _, _, _, hl, _⟩ := h.law
  have := place_any hl x (by rw [idsN_len]; exact hf.1)
  have e := place_out hx [] (fun _ h => by cases h)
  rw [List.append_nil] at e
  rw [e] at this
  exact this

theorem w3_kind (h : W3 ft FL FR FS w W s r objs ros c5 c6 c7 c8 c9 c10 c11) (j : Nat) (hj : j < objs.length) : Calls Tryz.prog 81 #[.pointer (some ⟨W, 0, none⟩), .int .i64 (j : Int)] w fun e w' => e = .returned (.int .i64 objs[j].kind) ∧ w' = w := by
  have hf := h.few
  obtain ⟨_, _, _, _, _, _, _, hl, _⟩ := h.law
  have := wkind_at hl h.ref j (by omega)
  rw [(h.twin.2.1 j hj (by omega)).kind] at this
  exact this

theorem getFile_no {F : Nat → Prop} (h : Inv ft F w s objs) (x : Int) (hk : kindOf objs x ≠ 1) :
    Calls Tryz.prog 79 #[.pointer (some ⟨s, 0, none⟩), .int .i64 x] w fun e w' => e = .returned (.tuple #[.string ByteArray.empty, .int .i64 13]) ∧ Below w.heap.size w w' := by
  refine (storeGetFile h x).mono fun e w' ⟨hf, hb⟩ => ⟨?_, hb⟩
  rcases hf with ⟨_, h1⟩ | ⟨j, hj, he, h2, _⟩
  · exact h1
  · rw [he, kindOf_in hj] at hk; exact absurd h2 hk

/-- Where a document's file lies. -/
theorem W3.obj (h : W3 ft FL FR FS w W s r objs ros c5 c6 c7 c8 c9 c10 c11) (j : Nat) (hj : j < objs.length) (hk : objs[j].kind = 1) : ∃ g cap, w.cell? ⟨r, 0, none⟩ = some (.slice (some ⟨g, 0, none⟩) objs.length cap) ∧ r < w.heap.size ∧ g < w.heap.size ∧ w.cell? ⟨g, j * 4 + 1, none⟩ = some (.string objs[j].data) := by
  have hf := h.few
  have hda := (h.twin.2.1 j hj (by omega)).data hk
  obtain ⟨a, cap, hr⟩ := h.ref
  have hl : ros.length = objs.length := hf.2
  obtain ⟨g, rfl, hg, q0, q1, q2, q3⟩ := row_obs hr.row rfl (show j < ros.length by omega)
  refine ⟨g, cap, ?_, hr.lt, hg, ?_⟩
  · rw [← hl]; exact hr.c0
  · rw [← hda]; exact q1

set_option maxRecDepth 100000 in
set_option maxHeartbeats 4000000 in
theorem getFile_out (h : W3 ft FL FR FS w W s r objs ros c5 c6 c7 c8 c9 c10 c11) (a1 N a3 : Int) (S T : ByteArray) (la : Option Addr) (lm lc : Nat) (hN : N < 1 ∨ (objs.length : Int) < N) :
    Calls Tryz.prog 45 #[.pointer (some ⟨W, 0, none⟩), .agg #[.int .i64 3, .int .i64 a1, .int .i64 N, .int .i64 a3, .string S, .string T, .slice la lm lc]] w fun e w' => e = .returned (.bool true) ∧ Below w.heap.size w w' := by
  obtain ⟨k0, k1, hWl, hFW⟩ := h.law.cells
  have b1 : ∀ B, Below w.heap.size w (w.alloc B) := fun B => (Below.refl _ _).alloc (Nat.le_refl _) _
  have hid := fun B => w3_id (h.below (b1 B)) N
  have hget := fun B => getFile_no (h.below (b1 B)).sto N (by rw [kindOf_out hN]; decide)
  have hpl := fun B W2 (hb : Below (w.alloc B).heap.size (w.alloc B) W2) => w3_noplace ((h.below (b1 B)).below hb) N hN
  have hkd := fun (W2 : World) => wkind_neg (W := W) (w := W2) (-1) (by decide)
  have hnum := fun (e : Int) (W' : World) => num_any e W'
  have HI : Hid _ := hid
  have HG : Hid _ := hget
  have HP : Hid _ := hpl
  have HK : Hid _ := hkd
  have HN : Hid _ := hnum
  clear hid hget hpl hkd hnum h hN
  go_enter Tryz.func45, Tryz.ntmps45
  go_wp2_with (first
    | (go_at_call 78; refine Calls.mono (HI.out _) ?_; rintro _ _ ⟨rfl, rfl⟩)
    | (go_at_call 79; refine Calls.mono (HG.out _) ?_; rintro _ w2 ⟨rfl, hb2⟩)
    | (go_at_call 80; refine Calls.mono (HP.out _ _ hb2) ?_; rintro _ _ ⟨rfl, rfl⟩)
    | (go_at_call 81; refine Calls.mono (HK.out _) ?_; rintro _ _ ⟨rfl, rfl⟩)
    | (go_at_call 46; refine Calls.mono (HN.out _ _) ?_; rintro _ _ ⟨rfl, rfl⟩))
  go_ret
  exact ⟨rfl, (b1 _).trans (hb2.mono (by simp))⟩

set_option maxRecDepth 100000 in
set_option maxHeartbeats 4000000 in
theorem getFile_dir (h : W3 ft FL FR FS w W s r objs ros c5 c6 c7 c8 c9 c10 c11) (a1 a3 : Int) (S T : ByteArray) (la : Option Addr) (lm lc : Nat) (j : Nat) (hj : j < objs.length) (hk : objs[j].kind ≠ 1) :
    Calls Tryz.prog 45 #[.pointer (some ⟨W, 0, none⟩), .agg #[.int .i64 3, .int .i64 a1, .int .i64 ((j : Int) + 1), .int .i64 a3, .string S, .string T, .slice la lm lc]] w fun e w' => e = .returned (.bool true) ∧ Below w.heap.size w w' := by
  obtain ⟨k0, k1, hWl, hFW⟩ := h.law.cells
  have b1 : ∀ B, Below w.heap.size w (w.alloc B) := fun B => (Below.refl _ _).alloc (Nat.le_refl _) _
  have hid := fun B => w3_id (h.below (b1 B)) ((j : Int) + 1)
  have hget := fun B => getFile_no (h.below (b1 B)).sto ((j : Int) + 1) (by rw [kindOf_in hj]; exact hk)
  have hpl := fun B W2 (hb : Below (w.alloc B).heap.size (w.alloc B) W2) => w3_place ((h.below (b1 B)).below hb) j hj
  have hkd := fun B W2 (hb : Below (w.alloc B).heap.size (w.alloc B) W2) => w3_kind ((h.below (b1 B)).below hb) j hj
  have hnum := fun (e : Int) (W' : World) => num_any e W'
  obtain ⟨kk, hkk⟩ : ∃ kk, kk = objs[j].kind := ⟨_, rfl⟩
  rw [← hkk] at hk hkd
  have hk' : (kk != 1) = true := by simpa using hk
  have HI : Hid _ := hid
  have HG : Hid _ := hget
  have HP : Hid _ := hpl
  have HK : Hid _ := hkd
  have HN : Hid _ := hnum
  clear hid hget hpl hkd hnum h hkk
  go_enter Tryz.func45, Tryz.ntmps45
  go_wp2_with (first
    | (go_at_call 78; refine Calls.mono (HI.out _) ?_; rintro _ _ ⟨rfl, rfl⟩)
    | (go_at_call 79; refine Calls.mono (HG.out _) ?_; rintro _ w2 ⟨rfl, hb2⟩)
    | (go_at_call 80; refine Calls.mono (HP.out _ _ hb2) ?_; rintro _ _ ⟨rfl, rfl⟩)
    | (go_at_call 81; refine Calls.mono (HK.out _ _ hb2) ?_; rintro _ _ ⟨rfl, rfl⟩)
    | (go_at_call 46; refine Calls.mono (HN.out _ _) ?_; rintro _ _ ⟨rfl, rfl⟩))
  go_ret
  exact ⟨rfl, (b1 _).trans (hb2.mono (by simp))⟩

set_option maxRecDepth 100000 in
set_option maxHeartbeats 4000000 in
theorem getFile_file (h : W3 ft FL FR FS w W s r objs ros c5 c6 c7 c8 c9 c10 c11) (a1 a3 : Int) (S T : ByteArray) (la : Option Addr) (lm lc : Nat) (j : Nat) (hj : j < objs.length) (hk : objs[j].kind = 1) :
    Calls Tryz.prog 45 #[.pointer (some ⟨W, 0, none⟩), .agg #[.int .i64 3, .int .i64 a1, .int .i64 ((j : Int) + 1), .int .i64 a3, .string S, .string T, .slice la lm lc]] w fun e w' => e = .returned (.bool true) ∧ Below w.heap.size w w' := by
  obtain ⟨k0, k1, hWl, hFW⟩ := h.law.cells
  have hf := h.few
  have b1 : ∀ B, Below w.heap.size w (w.alloc B) := fun B => (Below.refl _ _).alloc (Nat.le_refl _) _
  have hid := fun B => w3_id (h.below (b1 B)) ((j : Int) + 1)
  have hget := fun B => getFile_at (h.below (b1 B)).sto j hj hk
  have hpl := fun B W2 (hb : Below (w.alloc B).heap.size (w.alloc B) W2) => w3_place ((h.below (b1 B)).below hb) j hj
  have hkd := fun B W2 (hb : Below (w.alloc B).heap.size (w.alloc B) W2) => w3_kind ((h.below (b1 B)).below hb) j hj
  rw [hk] at hkd
  have hob := fun B W2 (hb : Below (w.alloc B).heap.size (w.alloc B) W2) => W3.obj ((h.below (b1 B)).below hb) j hj hk
  have hw := fun B W2 (hb : Below (w.alloc B).heap.size (w.alloc B) W2) => LawS.cells ((h.below (b1 B)).below hb).law
  have hnum := fun (e : Int) (W' : World) => num_any e W'
  obtain ⟨dd, hdd⟩ : ∃ dd, dd = objs[j].data := ⟨_, rfl⟩
  rw [← hdd] at hob hget
  have HI : Hid _ := hid
  have HG : Hid _ := hget
  have HP : Hid _ := hpl
  have HK : Hid _ := hkd
  have HN : Hid _ := hnum
  have HO : Hid _ := hob
  have HW : Hid _ := hw
  obtain ⟨n, hn⟩ : ∃ n, n = objs.length := ⟨_, rfl⟩
  have hjn : (j : Int) < (n : Int) := by omega
  have HNn : Hid (n = objs.length) := hn
  clear hid hget hpl hkd hnum h hob hw hn hk hdd
  go_enter Tryz.func45, Tryz.ntmps45
  go_wp2_with (first
    | (go_at_call 78; refine Calls.mono (HI.out _) ?_; rintro _ _ ⟨rfl, rfl⟩)
    | (go_at_call 79; refine Calls.mono (HG.out _) ?_; rintro _ w2 ⟨rfl, hb2⟩; obtain ⟨_, m1, mW, _⟩ := HW.out _ _ hb2; obtain ⟨g, cap, o0, orl, ogl, o1⟩ := HO.out _ _ hb2; rw [← HNn.out] at o0)
    | (go_at_call 80; refine Calls.mono (HP.out _ _ hb2) ?_; rintro _ _ ⟨rfl, rfl⟩)
    | (go_at_call 81; refine Calls.mono (HK.out _ _ hb2) ?_; rintro _ _ ⟨rfl, rfl⟩)
    | (go_at_call 46; refine Calls.mono (HN.out _ _) ?_; rintro _ _ ⟨rfl, rfl⟩))
  go_ret
  exact ⟨rfl, (b1 _).trans (hb2.mono (by simp))⟩

theorem stepped_below {w' : World} (h : W3 ft FL FR FS w W s r objs ros c5 c6 c7 c8 c9 c10 c11) (hb : Below w.heap.size w w') : Stepped ft FL FR FS w w' W s r c5 c6 c7 c8 c9 c10 c11 :=
  ⟨FL, FR, FS, objs, ros, h.below hb, fun k hk => .inl hk, Keeps.of_below hb⟩

theorem store_getFile (h : W3 ft FL FR FS w W s r objs ros c5 c6 c7 c8 c9 c10 c11) (a1 N a3 : Int) (S T : ByteArray) (la : Option Addr) (lm lc : Nat) :
    Calls Tryz.prog 45 #[.pointer (some ⟨W, 0, none⟩), .agg #[.int .i64 3, .int .i64 a1, .int .i64 N, .int .i64 a3, .string S, .string T, .slice la lm lc]] w fun e w' => e = .returned (.bool true) ∧ Stepped ft FL FR FS w w' W s r c5 c6 c7 c8 c9 c10 c11 := by
  by_cases hN : N < 1 ∨ (objs.length : Int) < N
  · exact (getFile_out h a1 N a3 S T la lm lc hN).mono fun e w' ⟨he, hb⟩ => ⟨he, stepped_below h hb⟩
  · obtain ⟨j, rfl⟩ : ∃ j : Nat, N = (j : Int) + 1 := ⟨(N - 1).toNat, by omega⟩
    have hj : j < objs.length := by omega
    by_cases hk : objs[j].kind = 1
    · exact (getFile_file h a1 a3 S T la lm lc j hj hk).mono fun e w' ⟨he, hb⟩ => ⟨he, stepped_below h hb⟩
    · exact (getFile_dir h a1 a3 S T la lm lc j hj hk).mono fun e w' ⟨he, hb⟩ => ⟨he, stepped_below h hb⟩

set_option maxRecDepth 100000 in
set_option maxHeartbeats 4000000 in
theorem store_objects (h : W3 ft FL FR FS w W s r objs ros c5 c6 c7 c8 c9 c10 c11) (a1 N a3 : Int) (S T : ByteArray) (la : Option Addr) (lm lc : Nat) :
    Calls Tryz.prog 45 #[.pointer (some ⟨W, 0, none⟩), .agg #[.int .i64 5, .int .i64 a1, .int .i64 N, .int .i64 a3, .string S, .string T, .slice la lm lc]] w fun e w' => e = .returned (.bool true) ∧ Stepped ft FL FR FS w w' W s r c5 c6 c7 c8 c9 c10 c11 := by
  obtain ⟨k0, k1, hWl, hFW⟩ := h.law.cells
  obtain ⟨B, hB⟩ : ∃ B : Obj, B = .cells #[.int .i64 5, .int .i64 a1, .int .i64 N, .int .i64 a3, .string S, .string T, .slice la lm lc] 93 := ⟨_, rfl⟩
  obtain ⟨w1, hw1⟩ : ∃ w1, w1 = w.alloc B := ⟨_, rfl⟩
  have hb0 : Below w.heap.size w w1 := by rw [hw1]; exact (Below.refl _ _).alloc (Nat.le_refl _) B
  have hobj := fun q => storeObjects (h.below (below_drewN hb0 q)).sto
  have HO : Hid _ := hobj
  have k01 := (hb0.cell (p := ⟨W, 0, none⟩) hWl).trans k0
  have k11 := (hb0.cell (p := ⟨W, 1, none⟩) hWl).trans k1
  have hf := h.few
  have r01 : ∃ a cap, w1.cell? ⟨r, 0, none⟩ = some (.slice a objs.length cap) ∧ r < w1.heap.size := by
    obtain ⟨a, cap, hr⟩ := (h.below hb0).ref
    exact ⟨a, cap, by rw [← hf.2]; exact hr.c0, hr.lt⟩
  obtain ⟨ra, rcap, r01, hrl⟩ := r01
  have hWl1 : W < w1.heap.size := Nat.lt_of_lt_of_le hWl hb0.size
  have HS : Hid (∀ q, Stepped ft FL FR FS w (w1.drewN q) W s r c5 c6 c7 c8 c9 c10 c11) := fun q => stepped_below h (below_drewN hb0 q)
  obtain ⟨n, hn⟩ : ∃ n, n = objs.length := ⟨_, rfl⟩
  rw [← hn] at HO r01
  clear hobj h hf hn
  go_enter Tryz.func45, Tryz.ntmps45
  go_wp2
  rw [← hB, ← hw1]
  clear hB hw1
  go_quiet (first | (go_at_call 38; exact Calls.quiet_of_same (HO.out _)))
  go_wp2
  go_ret
  exact ⟨rfl, HS.out _⟩
end
end Go.Proofs.YtogeefmegegnnaaGreat
