/- The walk of the statement NoteDue: the law answers true and turns nothing that was there. -/
import Derived.Test.YtdljacmagabilaaLives04
namespace Go.Proofs.Ytdljacmagabilaa.noteDue
open Go.RowKit
set_option linter.unusedVariables false
set_option maxHeartbeats 1000000 in
theorem walk (a0 a1 : Int) (w : World) (w0 : (Lit.int .i64 a0).wf = true) (w1 : (Lit.int .i64 a1).wf = true) :
    Calls Try.prog 15 #[.int .i64 a0, .int .i64 a1] w fun e w' => e = .returned (.bool true) ∧ Below w.heap.size w w' := by
  have D := due_any 1 a0 a1
  obtain ⟨l, hl⟩ : ∃ l, l = lateB a0 a1 := ⟨_, rfl⟩
  rw [← hl] at D
  have HL := hid hl
  clear w0 w1
  rcases h2 : decide (a0 ≤ a1) with _ | _ <;> rcases h1 : (a0 != 9223372036854775807) with _ | _
  all_goals
    unfold lateB at hl
    rw [h1, h2] at hl
    simp only [Bool.and_true, Bool.and_false] at hl
    subst hl
    go_enter Try.func15, Try.ntmps15
    go_wp2_with fail
    refine (lives4 _).mono ?_
    rintro e w2 ⟨rfl, hb1⟩
    go_wp2_with fail
    refine (new_ex 2 2 rfl _).mono ?_
    rintro e w3 ⟨b, g, rfl, hm, hb, hg, hb3⟩
    have sb := hm.sb
    have sg := hm.sg
    have hs1 := hb1.size
    have hs3 := hb3.size
    go_wp2_with fail
    refine (step_other b g _ _ 1 _ a1 _ (hm.alloc _) (by omega) (by omega) (by simp) (by simp) _ (by rw [← HL.out])).mono ?_
    rintro e w4 ⟨rfl, hm4, ho4⟩
    have n4 := ho4.new sb sg
    have j0 := cell_of_blk (i := 0) n4 rfl
    have j1 := cell_of_blk (i := 1) n4 rfl
    go_wp2_with fail
    refine (D _).mono ?_
    rintro e w5 ⟨rfl, hb5⟩
    go_wp2
    go_ret
    exact ⟨rfl, (hb1.trans (hb3.mono hs1)).trans ((((Only.alloc _ _).trans ho4).trans (Only.of_below hb5)).below (by omega) (by omega) (by omega))⟩
end Go.Proofs.Ytdljacmagabilaa.noteDue
