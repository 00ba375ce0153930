/- The walk of the statement ClockSums: the law answers true and turns nothing that was there. -/
import Derived.Test.YtciilbpchejpcaaLives08
namespace Go.Proofs.Ytciilbpchejpcaa.clockSums
open Go.RowKit
set_option linter.unusedVariables false
set_option maxHeartbeats 1000000 in
theorem walk (a0 a1 : Int) (w : World) (w0 : (Lit.int .i64 a0).wf = true) (w1 : (Lit.int .i64 a1).wf = true) :
    Calls Try.prog 18 #[.int .i64 a0, .int .i64 a1] w fun e w' => e = .returned (.bool true) ∧ Below w.heap.size w w' := by
  have b0 : inI a0 := bounds_i64 w0
  have b1 : inI a1 := bounds_i64 w1
  have z : inI 0 := by unfold inI; omega
  have s1 : sat a1 a0 = sat a0 a1 := by unfold sat; omega
  have s2 : sat a0 0 = a0 := by unfold inI at b0; unfold sat; omega
  have A1 := fun w => sum_any a0 a1 w b0 b1
  have A2 := fun w => ref_sum a0 a1 w b0 b1
  have A3 := fun w => sum_any a1 a0 w b1 b0
  have A4 := fun w => sum_any a0 0 w b0 z
  rw [s1] at A3
  rw [s2] at A4
  have H1 := hid A1
  have H2 := hid A2
  have H3 := hid A3
  have H4 := hid A4
  clear A1 A2 A3 A4 s1 s2 b0 b1 z w0 w1
  go_enter Try.func18, Try.ntmps18
  go_wp2_with fail
  refine (lives8 _).mono ?_
  rintro e w2 ⟨rfl, hb1⟩
  go_wp2_with fail
  refine (H1.out _).mono ?_
  rintro e w' ⟨rfl, rfl⟩
  go_wp2_with fail
  refine (H2.out _).mono ?_
  rintro e w' ⟨rfl, rfl⟩
  go_wp2_with fail
  refine (H3.out _).mono ?_
  rintro e w' ⟨rfl, rfl⟩
  go_wp2_with fail
  refine (H1.out _).mono ?_
  rintro e w' ⟨rfl, rfl⟩
  go_wp2_with fail
  refine (H4.out _).mono ?_
  rintro e w' ⟨rfl, rfl⟩
  go_wp2
  go_ret
  exact ⟨rfl, hb1⟩
end Go.Proofs.Ytciilbpchejpcaa.clockSums
