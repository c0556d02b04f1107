/-
  What is proved here: canopykeep's Lazy returns true, and what was there stands.
-/
import Derived.Test.YtajopoddmfdejaaGreatNearM49
namespace Go.Proofs.YtajopoddmfdejaaGreat
open Go.RowKit Go.Sort Go.Shelf
set_option linter.unusedVariables false

theorem l_made {W wr : World} {s p : Nat} {id : Int} (h : Made W wr s p id) : ∃ objs got, Obs8 objs id ∧ StSt W wr s p objs 60000 got [] [] := by
  obtain ⟨tg, objs, got, hO, hS, hX, hOn, hok, hlen, hid⟩ := h
  exact ⟨objs, got, ⟨hX, hOn, hok, hlen⟩, tg, hO, hS, fun r hr => (by cases hr), fun r hr => (by cases hr)⟩

end Go.Proofs.YtajopoddmfdejaaGreat
