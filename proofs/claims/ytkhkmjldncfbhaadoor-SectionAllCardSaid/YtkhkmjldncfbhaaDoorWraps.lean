/- How the machine's integers go round: plain facts on IntKind.wrap. Nothing of the program. -/
import Derived.Test.YtkhkmjldncfbhaaDoorBase
namespace Go.Proofs.YtkhkmjldncfbhaaDoor
set_option linter.unusedVariables false
open Go.RowKit
theorem u64_wrap (x : Int) : IntKind.u64.wrap x = x % 18446744073709551616 := by
  simp [IntKind.wrap, IntKind.bits, IntKind.signed]
theorem i64_wrap (x : Int) : IntKind.i64.wrap x = if x % 18446744073709551616 ≥ 9223372036854775808 then x % 18446744073709551616 - 18446744073709551616 else x % 18446744073709551616 := by
  simp [IntKind.wrap, IntKind.bits, IntKind.signed]
theorem u64_add (x y : Int) : IntKind.u64.wrap (IntKind.u64.wrap x + IntKind.u64.wrap y) = IntKind.u64.wrap (x + y) := by
  simp only [u64_wrap]; omega
theorem u64_i64 (x : Int) : IntKind.u64.wrap (IntKind.i64.wrap x) = IntKind.u64.wrap x := by
  simp only [u64_wrap, i64_wrap]; split <;> omega
theorem wrap64_eq (x : Int) : wrap64 x = IntKind.i64.wrap x := by
  rw [i64_wrap]; unfold wrap64; split <;> omega
end Go.Proofs.YtkhkmjldncfbhaaDoor
