/- What is proved here: akX. -/
import Derived.Test.YtlgidcmmgohagaaGreatTreeM23
import Derived.Test.YtlgidcmmgohagaaGreatTreeM17
import Derived.Test.YtlgidcmmgohagaaGreatTreeM15
import Derived.Test.YtlgidcmmgohagaaGreatTreeM21
import Derived.Deep.RegionHeld3
import Derived.Test.YtlgidcmmgohagaaGreatTreeM20
namespace Go.Proofs.YtlgidcmmgohagaaGreat
open Go.RowKit Go.Sort Go.Shelf Go.Proofs.Tryz
set_option linter.unusedVariables false
set_option maxRecDepth 100000
set_option maxHeartbeats 16000000
variable {ft:gA}

variable {ft:gA}
variable {ft:gA}
section
variable {s i p:Nat}{B:WB}{ag:List Ob}
end

theorem Xm {w:World}{b:Nat}{c:Array Value}{t:TypeId}{z:Nat×Nat}(h:w.heap[b]? = some (.cells c t z))(o:Nat):w.cell? ⟨b,o,none⟩=c[o]?:=by simp[World.cell?,h]

section
variable {s i p:Nat}{B:WB}{ag:List Ob}
end
abbrev comp (l:List ByteArray)(k:Nat):ByteArray:=l.getD k ⟨#[]⟩
section
variable {s i p:Nat}{B:WB}{ag:List Ob}
theorem apart {q q':List ByteArray}{x y:ByteArray}(h:x≠y)(h1:q ++ [x] <+: q'):¬q ++ [y] <+: q':=by
 rintro ⟨l,rfl⟩;obtain⟨l2,h2⟩:=h1;rw[List.append_assoc,List.append_assoc] at h2
 have:=List.append_cancel_left h2
 simp at this;exact h this.1
end
end Go.Proofs.YtlgidcmmgohagaaGreat
