/-
  What is proved here: closed facts of the row of 'Held', each by itself (all in one would take too much memory).
-/
import Derived.Test.YtehpnebekgahnaaGreatRows
import Derived.Test.YtehpnebekgahnaaGreatChecked
import Derived.JoinedCond
namespace Go.Proofs.YtehpnebekgahnaaGreat
open Go

theorem heldPlace : (Rows.heldRow.inPlace == Tryz.pinned.checked.prog.inPlace 3) = true := by kernel_rfl
theorem heldOpen : (Rows.heldRow.unfollowed == Tryz.pinned.checked.prog.unfollowed 3) = true := by kernel_rfl
theorem heldAgain : (Rows.heldRow.recurses == Tryz.pinned.checked.prog.recurses 3) = true := by kernel_rfl
theorem heldNames : (Rows.heldRow.named == Tryz.pinned.checked.prog.varsNamed 3) = true := by kernel_rfl
theorem heldFacts : joinedFacts Tryz.pinned.checked.prog 3 Tryz.f3 Rows.heldSpec Rows.heldRow = true := by
  unfold joinedFacts
  rw [heldPlace, heldOpen, heldAgain, heldNames]
  kernel_rfl

end Go.Proofs.YtehpnebekgahnaaGreat
