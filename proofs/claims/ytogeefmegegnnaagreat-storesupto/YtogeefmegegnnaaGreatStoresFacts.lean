/-
  What is proved here: closed facts of the row of 'Stores', each by itself (all in one would take too much memory).
-/
import Derived.Test.YtogeefmegegnnaaGreatRows
import Derived.Test.YtogeefmegegnnaaGreatChecked
import Derived.JoinedCond
namespace Go.Proofs.YtogeefmegegnnaaGreat
open Go

theorem storesPlace : (Rows.storesUptoRow.inPlace == Tryz.pinned.checked.prog.inPlace 3) = true := by kernel_rfl
theorem storesOpen : (Rows.storesUptoRow.unfollowed == Tryz.pinned.checked.prog.unfollowed 3) = true := by kernel_rfl
theorem storesAgain : (Rows.storesUptoRow.recurses == Tryz.pinned.checked.prog.recurses 3) = true := by kernel_rfl
theorem storesNames : (Rows.storesUptoRow.named == Tryz.pinned.checked.prog.varsNamed 3) = true := by kernel_rfl
theorem storesFacts : joinedFacts Tryz.pinned.checked.prog 3 Tryz.f3 (Rows.OpenSpec.upto Rows.storesSpec).bare Rows.storesUptoRow = true := by
  unfold joinedFacts
  rw [storesPlace, storesOpen, storesAgain, storesNames]
  kernel_rfl

end Go.Proofs.YtogeefmegegnnaaGreat
