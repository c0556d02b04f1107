/-
  What is proved here: closed facts of the row of 'Told', each by itself (all in one would take too much memory).
-/
import Derived.Test.YtajopoddmfdejaaGreatRows
import Derived.Test.YtajopoddmfdejaaGreatChecked
import Derived.JoinedCond
namespace Go.Proofs.YtajopoddmfdejaaGreat
open Go
theorem toldPlace:(Rows.toldRow.inPlace == Tryz.pinned.checked.prog.inPlace 5)=true:=by kernel_rfl
theorem toldOpen:(Rows.toldRow.unfollowed == Tryz.pinned.checked.prog.unfollowed 5)=true:=by kernel_rfl
theorem toldAgain:(Rows.toldRow.recurses == Tryz.pinned.checked.prog.recurses 5)=true:=by kernel_rfl
theorem toldNames:(Rows.toldRow.named == Tryz.pinned.checked.prog.varsNamed 5)=true:=by kernel_rfl
theorem toldFacts:joinedFacts Tryz.pinned.checked.prog 5 Tryz.f5 Rows.toldSpec Rows.toldRow=true:=by
 unfold joinedFacts
 rw[toldPlace,toldOpen,toldAgain,toldNames]
 kernel_rfl
end Go.Proofs.YtajopoddmfdejaaGreat
