/- 'lives' of layer 8 answers true, and turns nothing that was there. -/
import Derived.Test.YtciilbpchejpcaaClock
namespace Go.Proofs.Ytciilbpchejpcaa
set_option linter.unusedVariables false
open Go.RowKit
set_option maxHeartbeats 400000 in
theorem lives8 (w : World) :
    Calls Try.prog 63 #[] w fun e w' => e = .returned (.bool true) ∧ Below w.heap.size w w' := by
  have s1 : sat 0 5 = 5 := by unfold sat; omega
  have s2 : sat 5 9223372036854775807 = 9223372036854775807 := by unfold sat; omega
  have T := fun w => tick_any w.heap.size 0 5 5 _ (Ck.new w 0) (by unfold inI; omega) (by unfold inI; omega) (by omega)
  have A := fun (w1 w : World) (h : Ck w w1.heap.size 5) => after_any w1.heap.size 5 9223372036854775807 9223372036854775807 w h (by unfold inI; omega) (by unfold inI; omega) (by omega)
  rw [s1] at T
  rw [s2] at A
  have HT := hid T
  have HA := hid A
  clear T A s1 s2
  go_enter Try.func63, Try.ntmps63
  go_wp2_with fail
  refine (HT.out _).mono ?_
  rintro e w1 ⟨rfl, hc, ho⟩
  go_wp2_with fail
  refine (HA.out _ _ hc).mono ?_
  rintro e w2 ⟨rfl, rfl⟩
  go_wp2
  go_ret
  exact ⟨rfl, ((Below.refl _ _).alloc (Nat.le_refl _) _).trans (ho.below (by simp) (by simp) (by simp))⟩
end Go.Proofs.Ytciilbpchejpcaa
