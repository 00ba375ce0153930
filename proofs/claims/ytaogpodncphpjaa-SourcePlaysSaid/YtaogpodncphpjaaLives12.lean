/- 'lives' of layer 12: the chapter's example. -/
import Derived.Test.YtaogpodncphpjaaSrcT
namespace Go.Proofs.Ytaogpodncphpjaa
set_option linter.unusedVariables false
set_option linter.unusedSimpArgs false
open Go.RowKit

set_option maxRecDepth 100000 in
set_option maxHeartbeats 8000000 in
theorem lives12 (w : World) : Calls Try.prog 4 #[] w fun e w' => e = .returned (.bool true) ∧ Below w.heap.size w w' := by
  have NEW := hid (snew 1 (by decide) (by decide) w)
  go_enter Try.func4, Try.ntmps4
  go_wp2_with fail
  refine (NEW.out).mono ?_
  rintro e w2 ⟨Z, s, t, p, b1, b2, b3, rfl, q2, bl2, hz, _⟩
  have HZ := hid hz
  have Q2 := hid q2
  have B2 := hid bl2
  clear q2 bl2 hz NEW
  go_wp2_with fail
  refine (ssleep Q2.out 0 7 5 (by decide) (by decide) (by decide) (by decide) (by unfold inI; omega) (by decide) (by decide) (by decide) (by decide) false (by decide)).mono ?_
  rintro e w3 ⟨rfl, es3, f3, q3⟩
  rw [show insF (sat 0 (max 5 0), ((0 : Nat) : Int), 7) [] = [(5, 0, 7)] by decide] at q3
  have Q3 := hid q3
  have B3 := hid (B2.out.trans (f3.below HZ.out B2.out.size))
  clear f3 q3 Q2 B2
  go_wp2_with fail
  refine (stick Q3.out 4 (by unfold inI; omega) false (by decide)).mono ?_
  rintro e w4 ⟨rfl, f4, q4⟩
  rw [show sat 0 (max 4 0) = 4 by decide] at q4
  have Q4 := hid q4
  have B4 := hid (B3.out.trans (f4.below HZ.out B3.out.size))
  clear f4 q4 Q3 B3
  go_wp2_with fail
  refine (stick Q4.out 1 (by unfold inI; omega) true (by decide)).mono ?_
  rintro e w5 ⟨rfl, f5, q5⟩
  rw [show sat 4 (max 1 0) = 5 by decide] at q5
  have Q5 := hid q5
  have B5 := hid (B4.out.trans (f5.below HZ.out B4.out.size))
  clear f5 q5 Q4 B4
  go_wp2_with fail
  refine (stake_t Q5.out (by decide)).mono ?_
  rintro e w6 ⟨rfl, es6, f6, q6⟩
  have B6 := hid (B5.out.trans (f6.below HZ.out B5.out.size))
  clear f6 q6 Q5 B5
  go_wp2
  go_ret
  exact ⟨rfl, B6.out⟩
end Go.Proofs.Ytaogpodncphpjaa
