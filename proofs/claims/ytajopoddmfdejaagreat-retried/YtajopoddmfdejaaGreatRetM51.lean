/-
  What is proved here: closed facts of the row of 'Retried', each by itself (all in one would take too much memory).
-/
import Derived.Test.YtajopoddmfdejaaGreatRows
import Derived.Test.YtajopoddmfdejaaGreatChecked
import Derived.JoinedCond
namespace Go.Proofs.YtajopoddmfdejaaGreat
open Go
theorem retriedPlace:(Rows.retriedRow.inPlace == Tryz.pinned.checked.prog.inPlace 9)=true:=by kernel_rfl
theorem retriedOpen:(Rows.retriedRow.unfollowed == Tryz.pinned.checked.prog.unfollowed 9)=true:=by kernel_rfl
theorem retriedAgain:(Rows.retriedRow.recurses == Tryz.pinned.checked.prog.recurses 9)=true:=by kernel_rfl
theorem retriedNames:(Rows.retriedRow.named == Tryz.pinned.checked.prog.varsNamed 9)=true:=by kernel_rfl
theorem retriedFacts:joinedFacts Tryz.pinned.checked.prog 9 Tryz.f9 Rows.retriedSpec Rows.retriedRow=true:=by
 unfold joinedFacts
 rw[retriedPlace,retriedOpen,retriedAgain,retriedNames]
 kernel_rfl
end Go.Proofs.YtajopoddmfdejaaGreat
