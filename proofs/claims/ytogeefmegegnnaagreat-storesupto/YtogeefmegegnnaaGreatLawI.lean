/-
  What is proved here: the law's world, the document's store and the program's side by side ('W3'); what is learnt behind a put.
-/
import Derived.Test.YtogeefmegegnnaaGreatLawH
import Derived.Test.YtogeefmegegnnaaGreatAgree
namespace Go.Proofs.YtogeefmegegnnaaGreat
open Go.RowKit Go.Sort Go.Shelf
set_option linter.unusedVariables false
variable {ft : PTail}

/-- Whose blocks are whose. -/
structure Sep (w : World) (FL FR FS : Nat → Prop) : Prop where
  ll : ∀ k, FL k → k < w.heap.size
  rl : ∀ k, FR k → k < w.heap.size ∧ ¬ FL k
  sl : ∀ k, FS k → k < w.heap.size ∧ ¬ FL k
  rs : ∀ k, FR k → ¬ FS k

/-- All three, at one list of objects. -/
structure W3 (ft : PTail) (FL FR FS : Nat → Prop) (w : World) (W s r : Nat) (objs ros : List Ob) (c5 c6 c7 c8 c9 c10 c11 : Value) : Prop where
  law : LawS FL w W s r objs.length c5 c6 c7 c8 c9 c10 c11
  ref : RefInv FR w r ros
  sto : Inv ft FS w s objs
  twin : Twin objs ros
  at_ : Below0 ros
  sep : Sep w FL FR FS

theorem Sep.below {w w' : World} {FL FR FS : Nat → Prop} (h : Sep w FL FR FS) (hb : w.heap.size ≤ w'.heap.size) : Sep w' FL FR FS :=
  ⟨fun k hk => Nat.lt_of_lt_of_le (h.ll k hk) hb, fun k hk => ⟨Nat.lt_of_lt_of_le (h.rl k hk).1 hb, (h.rl k hk).2⟩, fun k hk => ⟨Nat.lt_of_lt_of_le (h.sl k hk).1 hb, (h.sl k hk).2⟩, h.rs⟩

theorem LawS.keep {F F' : Nat → Prop} {w w' : World} {W s r n : Nat} {c5 c6 c7 c8 c9 c10 c11 : Value} (h : LawS F w W s r n c5 c6 c7 c8 c9 c10 c11) (hF : ∀ k, F k → F' k) (hk : ∀ k, F k → w'.heap[k]? = w.heap[k]?) : LawS F' w' W s r n c5 c6 c7 c8 c9 c10 c11 := by
  obtain ⟨ia, ka, pa, ic, kc, pc, paths, hl, hp⟩ := h
  exact ⟨ia, ka, pa, ic, kc, pc, paths, hl.keep hF hk, hp⟩

section
variable {FL FR FS : Nat → Prop} {w : World} {W s r : Nat} {objs ros objs' ros' : List Ob} {c5 c6 c7 c8 c9 c10 c11 : Value}

theorem W3.below {w' : World} (h : W3 ft FL FR FS w W s r objs ros c5 c6 c7 c8 c9 c10 c11) (hb : Below w.heap.size w w') : W3 ft FL FR FS w' W s r objs ros c5 c6 c7 c8 c9 c10 c11 :=
  ⟨h.law.keep (fun _ h => h) (fun k hk => hb.block k (h.sep.ll k hk)), h.ref.keep (fun _ h => h) (fun k hk => hb.block k (h.sep.rl k hk).1), Inv.keep h.sto (fun _ h => h) (fun k hk => hb.block k (h.sep.sl k hk).1), h.twin, h.at_, h.sep.below hb.size⟩

/-- The blocks of all three. -/
def F3 (FL FR FS : Nat → Prop) (k : Nat) : Prop := FL k ∨ FR k ∨ FS k

/-- Behind a put that both answered alike: the object's ID is learnt. -/
theorem learn_step (hl : LawS FL w W s r objs.length c5 c6 c7 c8 c9 c10 c11) (hr : RefInv FR w r ros') (hs : Inv ft FS w s objs') (hsep : Sep w FL FR FS) (hat : Below0 ros') {id ec x y : Int} (ha : Agreed objs objs' ros ros' id ec x y) (hy : y = 0) (hlen : objs.length = ros.length) :
    Calls Tryz.prog 76 #[.pointer (some ⟨W, 0, none⟩), .int .i64 x, .int .i64 id] w fun e w' => e = .returned (.bool true) ∧ W3 ft (NewF FL w w') FR FS w' W s r objs' ros' c5 c6 c7 c8 c9 c10 c11 ∧ Keeps FL w w' := by
  obtain ⟨_, ht, h | ⟨_, j, rfl, rfl, h⟩⟩ := ha
  · exact absurd hy h.1
  · have sep' : ∀ w' : World, Keeps FL w w' → Sep w' (NewF FL w w') FR FS := fun w' hk => ⟨fun k hk' => by rcases hk' with h | h; exact Nat.lt_of_lt_of_le (hsep.ll k h) hk.size; exact h.2,
      fun k hk' => ⟨Nat.lt_of_lt_of_le (hsep.rl k hk').1 hk.size, fun h => by rcases h with h | h; exact (hsep.rl k hk').2 h; have := (hsep.rl k hk').1; omega⟩,
      fun k hk' => ⟨Nat.lt_of_lt_of_le (hsep.sl k hk').1 hk.size, fun h => by rcases h with h | h; exact (hsep.sl k hk').2 h; have := (hsep.sl k hk').1; omega⟩, hsep.rs⟩
    rcases h with ⟨rfl, rfl, hj⟩ | ⟨rfl, hl'⟩
    · refine (learns_known hl hr hsep.rl hlen.symm hat j hj).mono fun e w' ⟨he, hls, hk⟩ => ⟨he, ⟨hls, ref_stays hr hsep.rl hk, Inv.keep hs (fun _ h => h) (fun k hk' => hk.block k (hsep.sl k hk').1 (hsep.sl k hk').2), ht, hat, sep' w' hk⟩, hk⟩
    · have hrl : ros'.length = objs.length + 1 := by rw [← ht.1, hl']
      refine (learns_new hl hr hs hsep.rl hsep.sl hsep.ll hrl hl' hat (ht.2.1 objs.length (by omega) (by omega))).mono fun e w' ⟨he, hls, hk⟩ => ⟨he, ⟨?_, ref_stays hr hsep.rl hk, Inv.keep hs (fun _ h => h) (fun k hk' => hk.block k (hsep.sl k hk').1 (hsep.sl k hk').2), ht, hat, sep' w' hk⟩, hk⟩
      rw [hl']; exact hls
theorem below_snoc {ros : List Ob} {x : Ob} (h : Below0 ros) (hx : ∀ e ∈ x.ents, 0 ≤ e.2.2 ∧ e.2.2 < (ros.length : Int)) : Below0 (ros ++ [x]) := by
  intro i hi e he
  by_cases hlt : i < ros.length
  · rw [List.getElem_append_left hlt] at he
    exact h i hlt e he
  · have ei : i = ros.length := by simp at hi; omega
    subst ei
    rw [List.getElem_append_right (Nat.le_refl _)] at he
    simp at he
    exact hx e he

theorem below_file {ros ros' : List Ob} {d : ByteArray} {x y : Int} (h : Below0 ros) (hr : RFilePut ros ros' d x y) : Below0 ros' := by
  rcases hr with ⟨_, rfl, _⟩ | ⟨_, ⟨_, _, rfl, _⟩ | ⟨_, _, rfl, _⟩ | ⟨_, _, rfl, _⟩⟩
  · exact h
  · exact h
  · exact h
  · exact below_snoc h (fun e he => by cases he)

theorem below_dir {ros ros' : List Ob} {ms : List Ent} {x y : Int} (h : Below0 ros) (hm : ∀ e ∈ ms, e.2.2 < (ros.length : Int)) (hr : RDirPut ros ros' ms x y) : Below0 ros' := by
  rcases hr with ⟨_, rfl, _⟩ | ⟨_, ⟨_, rfl, _⟩ | ⟨_, _, rfl, _⟩ | ⟨_, _, _, rfl, _⟩ | ⟨_, _, _, _, rfl, _⟩ | ⟨_, _, hg, _, v, z, hp, _⟩⟩
  · exact h
  · exact h
  · exact h
  · exact h
  · exact h
  · rcases hp with ⟨_, _, rfl, _⟩ | ⟨_, _, rfl, _⟩ | ⟨_, _, rfl, _⟩
    · exact h
    · exact h
    · refine below_snoc h (fun e he => ?_)
      have he' : e ∈ ms := mem_insAll he
      have h1 := hg e he'
      unfold rgood at h1
      simp only [Bool.and_eq_true, decide_eq_true_eq] at h1
      exact ⟨h1.1, hm e he'⟩

end
end Go.Proofs.YtogeefmegegnnaaGreat
