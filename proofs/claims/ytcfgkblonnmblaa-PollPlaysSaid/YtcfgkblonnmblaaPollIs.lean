/- poll.Poll.Is: is a descriptor ready? -/
import Derived.Test.YtcfgkblonnmblaaPoll
namespace Go.Proofs.Ytcfgkblonnmblaa
set_option linter.unusedVariables false
set_option linter.unusedSimpArgs false
open Go.RowKit
section
variable {Z : Nat → Prop} {w w' : World} {p b1 b2 b3 : Nat} {W : List (Int × Int)} {R : List Int}
set_option maxHeartbeats 4000000 in
theorem pis (h : Pq Z w p b1 b2 b3 W R) (a : Int) (r : Bool) (hr : decide (a ∈ R) = r) : Calls Try.prog 20 #[.pointer (some ⟨p, 0, none⟩), .int .u16 a] w fun e w' => e = .returned (.bool r) ∧ w' = w := by
  have c1 : w.cell? ⟨p, 2, none⟩ = some (.map (some b3)) := cellx h.box rfl
  have L := h.rdy a r hr
  clear h hr
  go_enter Try.func20, Try.ntmps20
  go_wp2
  go_ret
  exact ⟨rfl, rfl⟩
end
end Go.Proofs.Ytcfgkblonnmblaa
