/-
  What is proved here: a step PutFile of the law.
-/
import Derived.Test.YtogeefmegegnnaaGreatLawI
namespace Go.Proofs.YtogeefmegegnnaaGreat
open Go.RowKit Go.Sort Go.Shelf
set_option linter.unusedVariables false
variable {ft : PTail}

def Stepped (ft : PTail) (FL FR FS : Nat → Prop) (w w' : World) (W s r : Nat) (c5 c6 c7 c8 c9 c10 c11 : Value) : Prop :=
  ∃ FL' FR' FS' objs' ros', W3 ft FL' FR' FS' w' W s r objs' ros' c5 c6 c7 c8 c9 c10 c11 ∧ (∀ k, F3 FL' FR' FS' k → F3 FL FR FS k ∨ w.heap.size ≤ k) ∧ Keeps (F3 FL FR FS) w w'

section
variable {FL FR FS : Nat → Prop} {w : World} {W s r : Nat} {objs ros : List Ob} {c5 c6 c7 c8 c9 c10 c11 : Value}

theorem LawS.cells {n : Nat} (h : LawS FL w W s r n c5 c6 c7 c8 c9 c10 c11) : w.cell? ⟨W, 0, none⟩ = some (.pointer (some ⟨s, 0, none⟩)) ∧ w.cell? ⟨W, 1, none⟩ = some (.pointer (some ⟨r, 0, none⟩)) ∧ W < w.heap.size ∧ FL W := by
  obtain ⟨_, _, _, _, _, _, _, hl, _⟩ := h
  exact ⟨hl.c0, hl.c1, hl.lt, hl.fw⟩

/-- Behind both puts. -/
theorem put_facts {w1 w2 w3 : World} {objs' ros' : List Ob} {S : ByteArray} {e : Ending} {id ec x y : Int} (h : W3 ft FL FR FS w W s r objs ros c5 c6 c7 c8 c9 c10 c11) (hb : Below w.heap.size w w1) (hk : Keeps FS w1 w2) (hi : Inv ft (NewF FS w1 w2) w2 s objs') (hl : LawS FL w2 W s r objs.length c5 c6 c7 c8 c9 c10 c11)
    (hrk : Keeps FR w2.drew w3) (hri : RefInv (NewF FR w2.drew w3) w3 r ros') (hfp : FilePut objs objs' S e) (hrp : RFilePut ros ros' S x y) (he : e = .returned (.tuple #[.int .i64 id, .int .i64 ec])) :
    Agreed objs objs' ros ros' id ec x y ∧ LawS FL w3 W s r objs.length c5 c6 c7 c8 c9 c10 c11 ∧ Inv ft (NewF FS w1 w2) w3 s objs' ∧ RefInv (NewF FR w2 w3) w3 r ros' ∧ Sep w3 FL (NewF FR w2 w3) (NewF FS w1 w2) ∧ Below0 ros' ∧ Keeps (F3 FL FR FS) w w3 := by
  have z1 := hb.size
  have z2 := hk.size
  have z3 : w2.heap.size ≤ w3.heap.size := hrk.size
  obtain ⟨id', ec', he', hA⟩ := agree_file h.twin hfp hrp
  rw [he] at he'
  have e1 : id = id' ∧ ec = ec' := by simpa using he'
  obtain ⟨rfl, rfl⟩ := e1
  have hrb : ∀ k, k < w2.heap.size → ¬ FR k → w3.heap[k]? = w2.heap[k]? := fun k hk hn => hrk.block k hk hn
  refine ⟨hA, hl.keep (fun _ h => h) (fun k hk' => hrb k (by have := h.sep.ll k hk'; omega) (fun hr => (h.sep.rl k hr).2 hk')), Inv.keep hi (fun _ h => h) (fun k hk' => hrb k ?_ (fun hr => ?_)), hri, ⟨fun k hk' => by have := h.sep.ll k hk'; omega, fun k hk' => ?_, fun k hk' => ?_, fun k hk' hs => ?_⟩, below_file h.at_ hrp, ⟨?_, ?_, ?_, by omega, fun k hk' hn => ?_⟩⟩
  · rcases hk' with h' | h'
    · have := (h.sep.sl k h').1; omega
    · exact h'.2
  · rcases hk' with h' | h'
    · exact h.sep.rs k hr h'
    · have := (h.sep.rl k hr).1; omega
  · rcases hk' with h' | h'
    · exact ⟨by have := (h.sep.rl k h').1; omega, (h.sep.rl k h').2⟩
    · exact ⟨h'.2, fun hf => by have := h.sep.ll k hf; have := h'.1; omega⟩
  · rcases hk' with h' | h'
    · exact ⟨by have := (h.sep.sl k h').1; omega, (h.sep.sl k h').2⟩
    · exact ⟨by have := h'.2; omega, fun hf => by have := h.sep.ll k hf; have := h'.1; omega⟩
  · rcases hk' with h' | h'
    · rcases hs with h2 | h2
      · exact h.sep.rs k h' h2
      · have := (h.sep.rl k h').1; have := h2.1; omega
    · rcases hs with h2 | h2
      · have := (h.sep.sl k h2).1; have := h'.1; omega
      · have := h'.1; have := h2.2; omega
  · exact hrk.os.trans (hk.os.trans hb.os)
  · exact hrk.tape.trans (hk.tape.trans hb.tape)
  · exact hrk.output.trans (hk.output.trans hb.output)
  · rw [hrb k (by omega) (fun hr => hn (.inr (.inl hr))), hk.block k (by omega) (fun hr => hn (.inr (.inr hr))), hb.block k hk']

set_option maxRecDepth 100000 in
set_option maxHeartbeats 4000000 in
theorem store_putFile (h : W3 ft FL FR FS w W s r objs ros c5 c6 c7 c8 c9 c10 c11) (a1 a2 a3 : Int) (S T : ByteArray) (la : Option Addr) (lm lc : Nat) (hS : S.size ≤ maxLen) :
    Calls Tryz.prog 45 #[.pointer (some ⟨W, 0, none⟩), .agg #[.int .i64 1, .int .i64 a1, .int .i64 a2, .int .i64 a3, .string S, .string T, .slice la lm lc]] w fun e w' => e = .returned (.bool true) ∧ Stepped ft FL FR FS w w' W s r c5 c6 c7 c8 c9 c10 c11 := by
  have HW : Hid (W3 ft FL FR FS w W s r objs ros c5 c6 c7 c8 c9 c10 c11) := h
  obtain ⟨k0, k1, hWl, hFW⟩ := h.law.cells
  obtain ⟨B, hB⟩ : ∃ B : Obj, B = .cells #[.int .i64 1, .int .i64 a1, .int .i64 a2, .int .i64 a3, .string S, .string T, .slice la lm lc] 93 := ⟨_, rfl⟩
  obtain ⟨w1, hw1⟩ : ∃ w1, w1 = w.alloc B := ⟨_, rfl⟩
  have hb0 : Below w.heap.size w w1 := by rw [hw1]; exact (Below.refl _ _).alloc (Nat.le_refl _) B
  have hb1 : Below w.heap.size w w1.drew := below_drewN hb0 1
  have h1 := h.below hb1
  have hpf := storePutFile h1.sto S hS
  have HPF : Hid _ := hpf
  have b4 : w1.cell? ⟨w.heap.size, 4, none⟩ = some (.string S) := by rw [hw1, hB]; simp
  have k01 := (hb0.cell (p := ⟨W, 0, none⟩) hWl).trans k0
  have k11 := (hb0.cell (p := ⟨W, 1, none⟩) hWl).trans k1
  have hs1 : w1.heap.size = w.heap.size + 1 := by rw [hw1]; simp
  have H1 : Hid (W3 ft FL FR FS w1.drew W s r objs ros c5 c6 c7 c8 c9 c10 c11) := h1
  clear h hpf h1
  go_enter Tryz.func45, Tryz.ntmps45
  go_wp2
  rw [← hB, ← hw1]
  have HB : Hid (B = .cells #[.int .i64 1, .int .i64 a1, .int .i64 a2, .int .i64 a3, .string S, .string T, .slice la lm lc] 93) := hB
  have HW1 : Hid (w1 = w.alloc B) := hw1
  clear hB hw1
  go_region_with (first | (go_at_call 50; refine Calls.mono HPF.out ?_; rintro e w2 ⟨objs', hfp, hinv, hkp⟩; obtain ⟨id, ec, he⟩ := hfp.shape; have HFP : Hid (FilePut objs objs' S e) := hfp; have HE : Hid (e = .returned (.tuple #[.int .i64 id, .int .i64 ec])) := he; rw [he]; clear hfp he))
  all_goals
    have hkp' : Keeps FS w1 w2 := ⟨hkp.os, hkp.tape, hkp.output, hkp.size, hkp.block⟩
    have hkb : ∀ x, x < w1.heap.size → ¬ FS x → w2.heap[x]? = w1.heap[x]? := fun x hx hn => hkp'.block x hx hn
    have nW : ¬ FS W := fun hf => (H1.out.sep.sl W hf).2 hFW
    have nB : ¬ FS w.heap.size := fun hf => by have := (HW.out.sep.sl _ hf).1; omega
    have k02 := (World.cell?_of_block (a := ⟨W, 0, none⟩) (hkb W (by omega) nW)).trans k01
    have k12 := (World.cell?_of_block (a := ⟨W, 1, none⟩) (hkb W (by omega) nW)).trans k11
    have b42 := (World.cell?_of_block (a := ⟨w.heap.size, 4, none⟩) (hkb w.heap.size (by omega) nB)).trans b4
    have hs2 : w1.heap.size ≤ w2.heap.size := hkp'.size
    have R2 : RefInv FR w2.drew r ros := HW.out.ref.keep (fun _ h => h) (fun k hk => (hkb k (by have := (HW.out.sep.rl k hk).1; omega) (HW.out.sep.rs k hk)).trans (hb0.block k (HW.out.sep.rl k hk).1))
    have L2 : Hid (LawS FL w2 W s r objs.length c5 c6 c7 c8 c9 c10 c11) := HW.out.law.keep (fun _ h => h) (fun k hk => (hkb k (by have := HW.out.sep.ll k hk; omega) (fun hf => (HW.out.sep.sl k hf).2 hk)).trans (hb0.block k (HW.out.sep.ll k hk)))
    have I2 : Hid (Inv ft (NewF FS w1 w2) w2 s objs') := hinv
    have HKP : Hid (Keeps FS w1 w2) := hkp'
    have hrf := rputFile_any R2 S hS
    have HRF : Hid _ := hrf
    clear HPF hinv hkp hkp' hrf R2
    go_frame
    go_wp2
    go_region_with (first | (go_at_call 75; refine Calls.mono HRF.out ?_; rintro e3 w3 ⟨x, y, ros', rfl, hrp, hri, hrk⟩))
    all_goals
      have AF := put_facts HW.out (show Below w.heap.size w w1 from hb0) HKP.out I2.out L2.out hrk hri HFP.out hrp HE.out
      have HAF : Hid _ := AF
      clear AF hrp hri hrk
      go_frame
      have hnum := fun (e : Int) (W' : World) => num_any e W'
      obtain ⟨hec, _, hcase⟩ := HAF.out.1
      subst hec
      by_cases hy : ec = 0
      · have hls := learn_step HAF.out.2.1 HAF.out.2.2.2.1 HAF.out.2.2.1 HAF.out.2.2.2.2.1 HAF.out.2.2.2.2.2.1 HAF.out.1 hy HW.out.twin.1
        subst hy
        clear hcase
        have hz : ((0 : Int) != 0) = false := by simp
        go_wp2_with (first
          | (go_at_call 46; refine Calls.mono (hnum _ _) ?_; rintro _ _ ⟨rfl, rfl⟩)
          | (go_at_call 76; refine Calls.mono hls ?_; rintro _ w4 ⟨rfl, hw4, hk4⟩))
        go_ret
        refine ⟨rfl, _, _, _, objs', ros', hw4, ?_, ?_⟩
        · have zw := HAF.out.2.2.2.2.2.2.size
          rintro k ((h | h) | (h | h) | (h | h))
          · exact .inl (.inl h)
          · exact .inr (Nat.le_trans zw h.1)
          · exact .inl (.inr (.inl h))
          · have := h.1; exact .inr (by omega)
          · exact .inl (.inr (.inr h))
          · have := h.1; exact .inr (by omega)
        · have kk := HAF.out.2.2.2.2.2.2
          exact ⟨hk4.os.trans kk.os, hk4.tape.trans kk.tape, hk4.output.trans kk.output, Nat.le_trans kk.size hk4.size, fun k hk hn => (hk4.block k (Nat.lt_of_lt_of_le hk kk.size) (fun h => hn (.inl h))).trans (kk.block k hk hn)⟩
      · have hid : id = 0 ∧ objs' = objs ∧ ros' = ros := by
          rcases hcase with h | h
          · exact h.2
          · exact absurd h.1 hy
        have hyb : (ec != 0) = true := by simpa using hy
        have hee : (ec == ec) = true := by simp
        obtain ⟨rfl, rfl, rfl⟩ := hid
        clear hcase
        go_wp2_with (go_at_call 46; refine Calls.mono (hnum _ _) ?_; rintro _ _ ⟨rfl, rfl⟩)
        go_ret
        refine ⟨rfl, _, _, _, objs', ros', ⟨HAF.out.2.1, HAF.out.2.2.2.1, HAF.out.2.2.1, HW.out.twin, HW.out.at_, HAF.out.2.2.2.2.1⟩, ?_, HAF.out.2.2.2.2.2.2⟩
        · rintro k (h | (h | h) | (h | h))
          · exact .inl (.inl h)
          · exact .inl (.inr (.inl h))
          · have := h.1; exact .inr (by omega)
          · exact .inl (.inr (.inr h))
          · have := h.1; exact .inr (by omega)
end
end Go.Proofs.YtogeefmegegnnaaGreat
