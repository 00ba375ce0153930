/- The walk of the statement HeapPlaces. -/
import Derived.Test.YthkaachdggajkaaHeapPlaces0
import Derived.Test.YthkaachdggajkaaHeapSo
import Derived.Test.YthkaachdggajkaaStructs2
namespace Go.Proofs.Ythkaachdggajkaa.heapPlaces
open Go.RowKit
theorem walk (a0 : Option Addr) (len0 cap0 : Nat) (z0 : Nat → Nat → Int) (w : World) (w0 : IsStructs [.u8, .i64, .u64, .i64] w a0 len0 cap0 z0) :
    Calls Try.prog 3 #[.slice a0 len0 cap0] w fun e w' => e = .returned (.bool true) ∧ Below w.heap.size w w' :=
  walk0 (fun w base p v es h => hsorted w base p v es h) a0 len0 cap0 z0 w w0
end Go.Proofs.Ythkaachdggajkaa.heapPlaces
