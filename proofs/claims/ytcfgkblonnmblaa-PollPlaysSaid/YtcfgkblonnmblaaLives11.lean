/- 'lives' of layer 11: the chapter's example. -/
import Derived.Test.YtcfgkblonnmblaaPollX
namespace Go.Proofs.Ytcfgkblonnmblaa
set_option linter.unusedVariables false
set_option linter.unusedSimpArgs false
open Go.RowKit

set_option maxRecDepth 100000 in
set_option maxHeartbeats 8000000 in
theorem lives11 (w : World) : Calls Try.prog 4 #[] w fun e w' => e = .returned (.bool true) ∧ Below w.heap.size w w' := by
  go_enter Try.func4, Try.ntmps4
  go_wp2_with fail
  refine (pnewZ w).mono ?_
  rintro e w2 ⟨Z, p, b1, b2, b3, rfl, q2, bl2, hz, _⟩
  have HZ := hid hz
  have Q2 := hid q2
  have B2 := hid bl2
  clear q2 bl2 hz
  go_wp2_with fail
  refine (pwait Q2.out (by decide) 5 7 (by decide) (by decide) (by decide) (by decide) (by decide)).mono ?_
  rintro e w3 ⟨rfl, f3, q3⟩
  have Q3 := hid q3
  have B3 := hid (B2.out.trans (f3.below HZ.out B2.out.size))
  clear f3 q3 Q2 B2
  go_wp2_with fail
  refine (pready Q3.out (by decide) 4 (by decide)).mono ?_
  rintro e w4 ⟨rfl, f4, q4⟩
  have Q4 := hid q4
  have B4 := hid (B3.out.trans (f4.below HZ.out B3.out.size))
  clear f4 q4 Q3 B3
  have DU := pdue Q4.out
  rw [show anyDue [((5 : Int), (7 : Int))] (addR [] 4) = false by decide] at DU
  have HDU := hid DU
  clear DU
  go_wp2_with fail
  refine (HDU.out).mono ?_
  rintro e w5 ⟨rfl, bl5⟩
  have Q5 := hid (Q4.out.below bl5)
  have B5 := hid (B4.out.trans (bl5.mono B4.out.size))
  clear bl5 Q4 B4 HDU
  go_wp2_with fail
  refine (pready Q5.out (by decide) 5 (by decide)).mono ?_
  rintro e w6 ⟨rfl, f6, q6⟩
  have Q6 := hid q6
  have B6 := hid (B5.out.trans (f6.below HZ.out B5.out.size))
  clear f6 q6 Q5 B5
  go_wp2_with fail
  refine (ptake Q6.out (by decide)).mono ?_
  rintro e w7 ⟨m, y, rfl, hm, _, _, f7, q7⟩
  have B7 := hid (B6.out.trans (f7.below HZ.out B6.out.size))
  simp only [List.mem_cons, List.not_mem_nil, or_false, Prod.mk.injEq] at hm
  obtain ⟨rfl, rfl⟩ := hm
  clear f7 q7 Q6 B6
  go_wp2
  go_ret
  exact ⟨rfl, B7.out⟩
end Go.Proofs.Ytcfgkblonnmblaa
