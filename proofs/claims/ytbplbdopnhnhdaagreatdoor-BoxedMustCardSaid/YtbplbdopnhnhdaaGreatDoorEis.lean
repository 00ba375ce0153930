/- event.is. -/
import Derived.Test.YtbplbdopnhnhdaaGreatDoorPre1
namespace Go.Proofs.YtbplbdopnhnhdaaGreatDoor
open Go.RowKit
set_option linter.unusedVariables false
set_option linter.unusedSimpArgs false
theorem eis_in (k : Nat) (w : World) (hk : k < 8) : Calls Tryz.prog 144 #[.int .i64 k] w fun e w' => e = .returned (.bool true) ∧ w = w' := by
  have t1 : decide ((k : Int) < 8) = true := decide_eq_true (by omega)
  have t2 : decide ((0 : Int) ≤ k) = true := decide_eq_true (by omega)
  go_enter Tryz.func144, Tryz.ntmps144
  go_wp2
  go_ret
  exact ⟨rfl, rfl⟩
theorem eis_out (n : Int) (w : World) (hn : n < 0 ∨ 7 < n) : Calls Tryz.prog 144 #[.int .i64 n] w fun e w' => e = .returned (.bool false) ∧ w = w' := by
  rcases hn with h | h
  · have t2 : decide ((0 : Int) ≤ n) = false := decide_eq_false (by omega)
    go_enter Tryz.func144, Tryz.ntmps144
    go_wp2
    go_ret
    exact ⟨rfl, rfl⟩
  · have t1 : decide ((n : Int) < 8) = false := decide_eq_false (by omega)
    have t2 : decide ((0 : Int) ≤ n) = true := decide_eq_true (by omega)
    go_enter Tryz.func144, Tryz.ntmps144
    go_wp2
    go_ret
    exact ⟨rfl, rfl⟩
end Go.Proofs.YtbplbdopnhnhdaaGreatDoor
