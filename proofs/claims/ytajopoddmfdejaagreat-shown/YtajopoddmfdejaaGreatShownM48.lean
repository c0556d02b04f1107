/-
  What is proved here: closed facts of the row of 'Shown', each by itself (all in one would take too much memory).
-/
import Derived.Test.YtajopoddmfdejaaGreatRows
import Derived.Test.YtajopoddmfdejaaGreatChecked
import Derived.JoinedCond
namespace Go.Proofs.YtajopoddmfdejaaGreat
open Go
theorem shownPlace : (Rows.shownRow.inPlace == Tryz.pinned.checked.prog.inPlace 3) = true := by kernel_rfl
theorem shownOpen : (Rows.shownRow.unfollowed == Tryz.pinned.checked.prog.unfollowed 3) = true := by kernel_rfl
theorem shownAgain : (Rows.shownRow.recurses == Tryz.pinned.checked.prog.recurses 3) = true := by kernel_rfl
theorem shownNames : (Rows.shownRow.named == Tryz.pinned.checked.prog.varsNamed 3) = true := by kernel_rfl
theorem shownFacts : joinedFacts Tryz.pinned.checked.prog 3 Tryz.f3 Rows.shownSpec Rows.shownRow = true := by
  unfold joinedFacts
  rw [shownPlace, shownOpen, shownAgain, shownNames]
  kernel_rfl
end Go.Proofs.YtajopoddmfdejaaGreat
