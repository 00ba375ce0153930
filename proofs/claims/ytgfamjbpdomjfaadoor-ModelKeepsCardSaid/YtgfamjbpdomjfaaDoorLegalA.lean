/- Contracts of status.Legal. -/
import Derived.Test.YtgfamjbpdomjfaaDoorTabStS
namespace Go.Proofs.YtgfamjbpdomjfaaDoor
open Go.RowKit
set_option linter.unusedVariables false
set_option linter.unusedSimpArgs false
/-- Is a step legal? -/
def stLegal (a b : Int) : Bool := if b = 1 then decide (a = 0) || (decide (2 ≤ a) && decide (a ≤ 5)) else if b = 2 then decide (a = 1) else decide (a = 2) && (decide (3 ≤ b) && decide (b ≤ 6))

set_option maxHeartbeats 8000000 in
theorem slegal_in (a b : Nat) (w : World) (T1 : StSteps w) (ha : a < 7) (hb : b < 7) : Calls Tryd.prog 20 #[.int .u64 a, .int .u64 b] w fun e w' => e = .returned (.bool (stLegal a b)) ∧ w = w' := by
  have hc := T1 a ha
  clear T1
  match a, ha with
  | 0, _ | 1, _ | 2, _ | 3, _ | 4, _ | 5, _ | 6, _ =>
    simp only [stStep0] at hc
    match b, hb with
    | 0, _ | 1, _ | 2, _ | 3, _ | 4, _ | 5, _ | 6, _ =>
      simp only [stLegal]
      go_enter Tryd.func20, Tryd.ntmps20
      go_wp2
      go_ret
      exact ⟨rfl, rfl⟩
theorem slegal_out (a b : Int) (w : World) (h : 7 ≤ a ∨ 7 ≤ b) : Calls Tryd.prog 20 #[.int .u64 a, .int .u64 b] w fun e w' => e = .returned (.bool false) ∧ w = w' := by
  rcases Int.lt_or_le a 7 with h1 | h1
  · have h2 : 7 ≤ b := by omega
    go_enter Tryd.func20, Tryd.ntmps20
    go_wp2
    go_ret
    exact ⟨rfl, rfl⟩
  · go_enter Tryd.func20, Tryd.ntmps20
    go_wp2
    go_ret
    exact ⟨rfl, rfl⟩
end Go.Proofs.YtgfamjbpdomjfaaDoor
