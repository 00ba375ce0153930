/- 'lives' of layer 1 answers true, and turns nothing that was there. -/
import Derived.Test.YtdbionbdcjpmaaaCell
namespace Go.Proofs.Ytdbionbdcjpmaaa
set_option linter.unusedVariables false
open Go.RowKit
set_option maxHeartbeats 400000 in
theorem lives1 (w : World) :
    Calls Try.prog 6 #[] w fun e w' => e = .returned (.bool true) ∧ Below w.heap.size w w' := by
  go_enter Try.func6, Try.ntmps6
  go_wp2_with fail
  refine (new_any 2 2 rfl _).mono ?_
  rintro e w1 ⟨rfl, hm, hb, hz⟩
  have hw : IntKind.u64.wrap ((List.replicate 2 (0 : Int)).getD (1 : Int).toNat 0 + IntKind.u64.wrap (-1)) = 18446744073709551615 := by decide
  have A := add_in _ _ _ _ 1 (-1) _ hm (by omega) (by omega) (by simp)
  rw [hw] at A
  clear hw
  go_wp2_with fail
  refine A.mono ?_
  rintro e w2 ⟨rfl, hm2, ho2⟩
  clear A
  go_wp2_with fail
  refine (swap_no _ _ _ _ 1 0 5 _ hm2 (by omega) (by omega) (by simp) (by decide)).mono ?_
  rintro e w3 ⟨rfl, hm3, ho3⟩
  go_wp2
  go_ret
  exact ⟨rfl, hb.trans ((ho2.trans ho3).below (by omega) (by omega) (by omega))⟩
end Go.Proofs.Ytdbionbdcjpmaaa
