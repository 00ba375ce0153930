/- 'lives' of layer 4 answers true, and turns nothing that was there. -/
import Derived.Test.YtdljacmagabilaaNote
namespace Go.Proofs.Ytdljacmagabilaa
set_option linter.unusedVariables false
open Go.RowKit
set_option maxHeartbeats 400000 in
theorem lives4 (w : World) :
    Calls Try.prog 39 #[] w fun e w' => e = .returned (.bool true) ∧ Below w.heap.size w w' := by
  have hl : lateB 9223372036854775807 0 = false := by decide
  have HL := hid hl
  clear hl
  go_enter Try.func39, Try.ntmps39
  go_wp2_with fail
  refine (new_ex 1 1 rfl _).mono ?_
  rintro e w1 ⟨b, g, rfl, hm, hb, hg, hb1⟩
  have sb := hm.sb
  have sg := hm.sg
  go_wp2_with fail
  refine (wake_yes b g _ _ 0 _ (hm.alloc _) (by omega) (by omega) (by simp) (by simp)).mono ?_
  rintro e w2 ⟨rfl, hm2, ho2⟩
  have n2 := ho2.new sb sg
  go_wp2_with fail
  refine (wake_no b g _ _ 0 _ hm2 (by omega) (by omega) (by simp) (by simp)).mono ?_
  rintro e w3 ⟨rfl, hm3, ho3⟩
  have n3 := ho3.keep n2 (by omega) (by omega)
  have k0 := cell_of_blk (i := 0) n3 rfl
  have k1 := cell_of_blk (i := 1) n3 rfl
  clear n2
  go_wp2_with fail
  refine (step_woken b g _ _ 0 _ 0 _ hm3 (by omega) (by omega) (by simp) (by simp)).mono ?_
  rintro e w4 ⟨rfl, hm4, ho4⟩
  have n4 := ho4.keep n3 (by omega) (by omega)
  have j0 := cell_of_blk (i := 0) n4 rfl
  have j1 := cell_of_blk (i := 1) n4 rfl
  clear n3 k0 k1
  go_wp2_with fail
  refine (step_other b g _ _ 0 _ 0 _ hm4 (by omega) (by omega) (by simp) (by simp) 0 (by rw [HL.out]; rfl)).mono ?_
  rintro e w5 ⟨rfl, hm5, ho5⟩
  go_wp2
  go_ret
  exact ⟨rfl, hb1.trans (((((Only.alloc _ _).trans ho2).trans ho3).trans ho4).trans ho5 |>.below hb hg hb1.size)⟩
end Go.Proofs.Ytdljacmagabilaa
