/- A new world of any config, as it is told: Asleep, Ring, Turns out of range. -/
import Derived.Test.YtfpkgkjmpcoppaaGreatDoorWcR
import Derived.Deep.QuietTactic
namespace Go.Proofs.YtfpkgkjmpcoppaaGreatDoor
open Go.RowKit
set_option linter.unusedVariables false
set_option linter.unusedSimpArgs false
set_option maxRecDepth 20000
section
variable {w : World} {P M : Nat} {G sp nt fr : Int} {W b1 b2 tb q sb ib mb : Nat} {rv lv : Value}
set_option maxHeartbeats 8000000 in
theorem gasleep (h : WH w W P M G sp nt fr b1 b2 rv tb q sb ib mb lv) :
    Calls Tryz.prog 20 #[.pointer (some ⟨W, 0, none⟩), .int .i64 (M : Int)] w fun e w' => e = .returned (.bool false) ∧ Below w.heap.size w w' := by
  have a14 : w.drew.cell? ⟨W, 14, none⟩ = some (.slice (some ⟨mb, 0, none⟩) M M) := blk_cell (i := 14) h rfl
  have a14 := blk_cell (i := 14) h rfl
  have t1 : decide ((0 : Int) ≤ (M : Int)) = true := decide_eq_true (by omega)
  have t2 : decide ((M : Int) < (M : Int)) = false := by simp
  clear h
  go_enter Tryz.func20, Tryz.ntmps20
  go_wp2_with fail
  go_quiet (fail)
  all_goals
    go_wp2
    go_ret
    exact ⟨rfl, ((Quiet.refl _).drewN _).below _⟩
theorem gring {a : Option Addr} {cc : Nat} (h : WH w W P M G sp nt fr b1 b2 (.slice a P cc) tb q sb ib mb lv) :
    Calls Tryz.prog 21 #[.pointer (some ⟨W, 0, none⟩), .int .i64 (P : Int)] w fun e w' => e = .returned (.slice none 0 0) ∧ w' = w := by
  have a9 := blk_cell (i := 9) h rfl
  have t1 : decide ((P : Int) < (0 : Int)) = false := decide_eq_false (by omega)
  have t2 : decide ((P : Int) ≤ (P : Int)) = true := by simp
  clear h
  go_enter Tryz.func21, Tryz.ntmps21
  go_wp2
  go_ret
  exact ⟨rfl, rfl⟩
theorem gturns (w : World) (W : Nat) :
    Calls Tryz.prog 22 #[.pointer (some ⟨W, 0, none⟩), .int .i64 (-1)] w fun e w' => e = .returned (.int .i64 0) ∧ w' = w := by
  go_enter Tryz.func22, Tryz.ntmps22
  go_wp2
  go_ret
  exact ⟨rfl, rfl⟩
end
end Go.Proofs.YtfpkgkjmpcoppaaGreatDoor
