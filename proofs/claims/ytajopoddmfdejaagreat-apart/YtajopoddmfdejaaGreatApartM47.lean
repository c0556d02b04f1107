/-
  What is proved here: closed facts of the row of 'Apart', each by itself (all in one would take too much memory).
-/
import Derived.Test.YtajopoddmfdejaaGreatRows
import Derived.Test.YtajopoddmfdejaaGreatChecked
import Derived.JoinedCond
namespace Go.Proofs.YtajopoddmfdejaaGreat
open Go
theorem apartPlace : (Rows.apartRow.inPlace == Tryz.pinned.checked.prog.inPlace 10) = true := by kernel_rfl
theorem apartOpen : (Rows.apartRow.unfollowed == Tryz.pinned.checked.prog.unfollowed 10) = true := by kernel_rfl
theorem apartAgain : (Rows.apartRow.recurses == Tryz.pinned.checked.prog.recurses 10) = true := by kernel_rfl
theorem apartNames : (Rows.apartRow.named == Tryz.pinned.checked.prog.varsNamed 10) = true := by kernel_rfl
theorem apartFacts : joinedFacts Tryz.pinned.checked.prog 10 Tryz.f10 Rows.apartSpec Rows.apartRow = true := by
  unfold joinedFacts
  rw [apartPlace, apartOpen, apartAgain, apartNames]
  kernel_rfl
end Go.Proofs.YtajopoddmfdejaaGreat
