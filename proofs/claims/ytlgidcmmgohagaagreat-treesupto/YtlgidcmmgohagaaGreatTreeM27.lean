/- What is proved here: xI below answers all that stands below a abB. -/
import Derived.Test.YtlgidcmmgohagaaGreatTreeM26
import Derived.WalkLawsBesides
namespace Go.Proofs.YtlgidcmmgohagaaGreat
open Go.RowKit Go.Sort Go.Shelf Go.Proofs.Tryz
set_option linter.unusedVariables false
set_option maxRecDepth 100000
set_option maxHeartbeats 16000000
section
variable {s i p:Nat}{B:WB}{ag:List Ob}{tg0:aP}{w0:World}{g0:WG}{t0:LT}
end
end Go.Proofs.YtlgidcmmgohagaaGreat
