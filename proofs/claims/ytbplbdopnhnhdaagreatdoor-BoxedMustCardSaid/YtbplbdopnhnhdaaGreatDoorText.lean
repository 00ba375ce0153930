/- Texts: how a walk asks whether two are the same; a number by which names are told apart. -/
import Derived.Test.YtbplbdopnhnhdaaGreatDoorPre1
import Derived.WideShapes
namespace Go.Proofs.YtbplbdopnhnhdaaGreatDoor
theorem txt_ne {a b : ByteArray} (h : a ≠ b) : (a.toList == b.toList) = false := beq_eq_false_iff_ne.2 fun e => h (Go.WideShapes.bytes_inj (by rwa [ByteArray.toList_eq, ByteArray.toList_eq] at e))
theorem txt_eq (a : ByteArray) : (a.toList == a.toList) = true := by simp
/-- A number of a text, by which names are told apart. -/
def textKey (s : ByteArray) : Nat := s.data.toList.foldl (fun a b => a * 3 + b.toNat) 0
end Go.Proofs.YtbplbdopnhnhdaaGreatDoor
