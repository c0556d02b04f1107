/-
  What is proved here: canopykeep's allowed answers the objects on the way to a path, and how many of them must be fetched.
-/
import Derived.Test.YtajopoddmfdejaaGreatNearM37
import Derived.Test.YtajopoddmfdejaaGreatNearM34
namespace Go.Proofs.YtajopoddmfdejaaGreat
open Go.RowKit Go.Sort Go.Shelf
set_option linter.unusedVariables false

theorem entsOf_at {objs : List Ob} {j : Nat} (hj : j < objs.length) : entsOf objs ((j : Int) + 1) = objs[j].ents := by
  unfold entsOf
  rw [show ((j : Int) + 1 - 1).toNat = j by omega, List.getElem?_eq_getElem hj]; rfl

theorem row_below {B : Nat} {W W1 : World} {e : TypeId} {size n : Nat} {v : Value} {xs : List Value} (h : W.ownsRow B e size v n xs) (hb : Below W.heap.size W W1) : W1.ownsRow B e size v n xs := ownsRow_keep h (fun g hg => hb.block g (ownsRow_lt h hg))
theorem toList_ne {a b : ByteArray} (h : a ≠ b) : (a.toList == b.toList) = false := beq_eq_false_iff_ne.2 fun e => h (bytes_inj (by rw [ByteArray.toList_eq, ByteArray.toList_eq] at e; exact e))
theorem grown_own8 {B : Nat} {wo W W1 : World} {e : TypeId} {size n : Nat} {v : Value} {xs : List Value} (hb : Below B wo W) (hB : B ≤ W.heap.size) (hown : W.ownsRow B e size v n xs) (hg : W.grownBy W1 v.ownBlock) : Below B wo W1 := hb.grown hg hB (fun k h => (hown.lt k h).1)
end Go.Proofs.YtajopoddmfdejaaGreat
