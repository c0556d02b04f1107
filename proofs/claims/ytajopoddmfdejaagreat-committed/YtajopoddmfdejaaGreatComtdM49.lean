/-
  What is proved here: closed facts of the row of 'Committed', each by itself (all in one would take too much memory).
-/
import Derived.Test.YtajopoddmfdejaaGreatRows
import Derived.Test.YtajopoddmfdejaaGreatChecked
import Derived.JoinedCond
namespace Go.Proofs.YtajopoddmfdejaaGreat
open Go
theorem committedPlace : (Rows.committedRow.inPlace == Tryz.pinned.checked.prog.inPlace 4) = true := by kernel_rfl
theorem committedOpen : (Rows.committedRow.unfollowed == Tryz.pinned.checked.prog.unfollowed 4) = true := by kernel_rfl
theorem committedAgain : (Rows.committedRow.recurses == Tryz.pinned.checked.prog.recurses 4) = true := by kernel_rfl
theorem committedNames : (Rows.committedRow.named == Tryz.pinned.checked.prog.varsNamed 4) = true := by kernel_rfl
theorem committedFacts : joinedFacts Tryz.pinned.checked.prog 4 Tryz.f4 Rows.committedSpec Rows.committedRow = true := by
 unfold joinedFacts
 rw [committedPlace, committedOpen, committedAgain, committedNames]
 kernel_rfl
end Go.Proofs.YtajopoddmfdejaaGreat
