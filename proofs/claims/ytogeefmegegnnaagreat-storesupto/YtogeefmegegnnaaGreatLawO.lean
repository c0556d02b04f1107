/-
  What is proved here: the law's step PutDir: what holds behind both puts.
-/
import Derived.Test.YtogeefmegegnnaaGreatLawN
import Derived.Deep.RegionLaw
namespace Go.Proofs.YtogeefmegegnnaaGreat
open Go.RowKit Go.Sort Go.Shelf
set_option linter.unusedVariables false
variable {ft : PTail}

section
variable {FL FR FS FH : Nat → Prop} {w : World} {W s r : Nat} {objs ros : List Ob} {c5 c6 c7 c8 c9 c10 c11 : Value}

theorem put_dir_facts {w1 w2 w3 : World} {objs' ros' : List Ob} {es : List Ent} {e : Ending} {id ec x y : Int} (h : W3 ft FL FR FS w W s r objs ros c5 c6 c7 c8 c9 c10 c11) (hb : Below w.heap.size w w1) (hk : Keeps FS w1 w2) (hi : Inv ft (NewF FS w1 w2) w2 s objs')
    (hrk : Keeps FR w2 w3) (hri : RefInv (NewF FR w2 w3) w3 r ros') (hfp : DirPutG objs objs' es e) (hrp : RDirPut ros ros' (es.map (toAt objs.length)) x y) (he : e = .returned (.tuple #[.int .i64 id, .int .i64 ec])) :
    Agreed objs objs' ros ros' id ec x y ∧ LawS FL w3 W s r objs.length c5 c6 c7 c8 c9 c10 c11 ∧ Inv ft (NewF FS w1 w2) w3 s objs' ∧ RefInv (NewF FR w2 w3) w3 r ros' ∧ Sep w3 FL (NewF FR w2 w3) (NewF FS w1 w2) ∧ Below0 ros' ∧ Keeps (F3 FL FR FS) w w3 := by
  have z1 := hb.size
  have z2 := hk.size
  have z3 : w2.heap.size ≤ w3.heap.size := hrk.size
  obtain ⟨id', ec', he', hA⟩ := agree_dir h.twin hfp hrp
  rw [he] at he'
  have e1 : id = id' ∧ ec = ec' := by simpa using he'
  obtain ⟨rfl, rfl⟩ := e1
  have hrb : ∀ k, k < w2.heap.size → ¬ FR k → w3.heap[k]? = w2.heap[k]? := fun k hk hn => hrk.block k hk hn
  have hl : LawS FL w2 W s r objs.length c5 c6 c7 c8 c9 c10 c11 := h.law.keep (fun _ h => h) (fun k hk' => by
    have hlt := h.sep.ll k hk'
    rw [hk.block k (by omega) (fun hf => (h.sep.sl k hf).2 hk'), hb.block k hlt])
  refine ⟨hA, hl.keep (fun _ h => h) (fun k hk' => hrb k (by have := h.sep.ll k hk'; omega) (fun hr => (h.sep.rl k hr).2 hk')), Inv.keep hi (fun _ h => h) (fun k hk' => hrb k ?_ (fun hr => ?_)), hri, ⟨fun k hk' => by have := h.sep.ll k hk'; omega, fun k hk' => ?_, fun k hk' => ?_, fun k hk' hs => ?_⟩, below_dir h.at_ (fun e he => ?_) hrp, ⟨?_, ?_, ?_, by omega, fun k hk' hn => ?_⟩⟩
  · rcases hk' with h' | h'
    · have := (h.sep.sl k h').1; omega
    · exact h'.2
  · rcases hk' with h' | h'
    · exact h.sep.rs k hr h'
    · have := (h.sep.rl k hr).1; omega
  · rcases hk' with h' | h'
    · exact ⟨by have := (h.sep.rl k h').1; omega, (h.sep.rl k h').2⟩
    · exact ⟨h'.2, fun hf => by have := h.sep.ll k hf; have := h'.1; omega⟩
  · rcases hk' with h' | h'
    · exact ⟨by have := (h.sep.sl k h').1; omega, (h.sep.sl k h').2⟩
    · exact ⟨by have := h'.2; omega, fun hf => by have := h.sep.ll k hf; have := h'.1; omega⟩
  · rcases hk' with h' | h'
    · rcases hs with h2 | h2
      · exact h.sep.rs k h' h2
      · have := (h.sep.rl k h').1; have := h2.1; omega
    · rcases hs with h2 | h2
      · have := (h.sep.sl k h2).1; have := h'.1; omega
      · have := h'.1; have := h2.2; omega
  · obtain ⟨e0, _, rfl⟩ := List.mem_map.1 he
    have := h.twin.1
    unfold toAt
    split
    · next hh => show e0.2.2 - 1 < _; omega
    · show (-1 : Int) < _; omega
  · exact hrk.os.trans (hk.os.trans hb.os)
  · exact hrk.tape.trans (hk.tape.trans hb.tape)
  · exact hrk.output.trans (hk.output.trans hb.output)
  · rw [hrb k (by omega) (fun hr => hn (.inr (.inl hr))), hk.block k (by omega) (fun hr => hn (.inr (.inr hr))), hb.block k hk']

/-- Behind both puts only a block of the law's call turns. -/
theorem facts_stay {w3 w4 : World} {FR' FS' : Nat → Prop} {objs' ros' : List Ob} {gi : Nat} (hl : LawS FL w3 W s r objs.length c5 c6 c7 c8 c9 c10 c11) (hi : Inv ft FS' w3 s objs') (hr : RefInv FR' w3 r ros') (hs : Sep w3 FL FR' FS') (hk : Keeps (F3 FL FR FS) w w3)
    (h4 : Keeps (fun k => k = gi) w3 w4) (n1 : ¬ FL gi) (n2 : ¬ FR' gi) (n3 : ¬ FS' gi) (hg : w.heap.size ≤ gi) :
    LawS FL w4 W s r objs.length c5 c6 c7 c8 c9 c10 c11 ∧ Inv ft FS' w4 s objs' ∧ RefInv FR' w4 r ros' ∧ Sep w4 FL FR' FS' ∧ Keeps (F3 FL FR FS) w w4 :=
  ⟨hl.keep (fun _ h => h) (fun k hk' => h4.block k (hs.ll k hk') (fun e => n1 (e ▸ hk'))), Inv.keep hi (fun _ h => h) (fun k hk' => h4.block k (hs.sl k hk').1 (fun e => n3 (e ▸ hk'))), hr.keep (fun _ h => h) (fun k hk' => h4.block k (hs.rl k hk').1 (fun e => n2 (e ▸ hk'))), hs.below h4.size,
    ⟨h4.os.trans hk.os, h4.tape.trans hk.tape, h4.output.trans hk.output, Nat.le_trans hk.size h4.size, fun k hk1 hn => (h4.block k (Nat.lt_of_lt_of_le hk1 hk.size) (fun e => by omega)).trans (hk.block k hk1 hn)⟩⟩
end
end Go.Proofs.YtogeefmegegnnaaGreat
