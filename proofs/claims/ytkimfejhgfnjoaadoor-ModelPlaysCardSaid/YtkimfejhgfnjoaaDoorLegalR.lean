/- The contract of the document's Legal. -/
import Derived.Test.YtkimfejhgfnjoaaDoorLegal
namespace Go.Proofs.YtkimfejhgfnjoaaDoor
open Go.RowKit
set_option linter.unusedVariables false
set_option linter.unusedSimpArgs false
theorem rlegal_any (a b : Int) (w : World) : Calls Tryd.prog 19 #[.int .u64 a, .int .u64 b] w fun e w' => e = .returned (.bool (stLegal a b)) ∧ w = w' := by
  by_cases b1 : b = 1
  · subst b1
    by_cases h0 : a = 0
    · rw [show stLegal a 1 = true by simp only [stLegal]; rw [if_pos trivial]; simp; omega]
      have t1 : (a == 0) = true := by simp [h0]
      go_enter Tryd.func19, Tryd.ntmps19
      go_wp2
      go_ret
      exact ⟨rfl, rfl⟩
    by_cases h1 : a < 2
    · rw [show stLegal a 1 = false by simp only [stLegal]; rw [if_pos trivial]; simp; omega]
      have t1 : (a == 0) = false := beq_eq_false_iff_ne.2 h0
      have t2 : decide ((2 : Int) ≤ a) = false := decide_eq_false (by omega)
      go_enter Tryd.func19, Tryd.ntmps19
      go_wp2
      go_ret
      exact ⟨rfl, rfl⟩
    by_cases h2 : a ≤ 5
    · rw [show stLegal a 1 = true by simp only [stLegal]; rw [if_pos trivial]; simp; omega]
      have t1 : (a == 0) = false := beq_eq_false_iff_ne.2 h0
      have t2 : decide ((2 : Int) ≤ a) = true := decide_eq_true (by omega)
      have t3 : decide (a ≤ (5 : Int)) = true := decide_eq_true (by omega)
      go_enter Tryd.func19, Tryd.ntmps19
      go_wp2
      go_ret
      exact ⟨rfl, rfl⟩
    rw [show stLegal a 1 = false by simp only [stLegal]; rw [if_pos trivial]; simp; omega]
    have t1 : (a == 0) = false := beq_eq_false_iff_ne.2 h0
    have t2 : decide ((2 : Int) ≤ a) = true := decide_eq_true (by omega)
    have t3 : decide (a ≤ (5 : Int)) = false := decide_eq_false (by omega)
    go_enter Tryd.func19, Tryd.ntmps19
    go_wp2
    go_ret
    exact ⟨rfl, rfl⟩
  · by_cases b2 : b = 2
    · subst b2
      by_cases g0 : a = 1
      · rw [show stLegal a 2 = true by simp only [stLegal]; rw [if_neg (by omega), if_pos trivial]; simp; omega]
        have t1 : (a == 1) = true := by simp [g0]
        go_enter Tryd.func19, Tryd.ntmps19
        go_wp2
        go_ret
        exact ⟨rfl, rfl⟩
      rw [show stLegal a 2 = false by simp only [stLegal]; rw [if_neg (by omega), if_pos trivial]; simp; omega]
      have t1 : (a == 1) = false := beq_eq_false_iff_ne.2 g0
      go_enter Tryd.func19, Tryd.ntmps19
      go_wp2
      go_ret
      exact ⟨rfl, rfl⟩
    · have q1 : (b == 1) = false := beq_eq_false_iff_ne.2 b1
      have q2 : (b == 2) = false := beq_eq_false_iff_ne.2 b2
      by_cases g0 : a ≠ 2
      · rw [show stLegal a b = false by simp only [stLegal]; rw [if_neg b1, if_neg b2]; simp; omega]
        have t1 : (a == 2) = false := beq_eq_false_iff_ne.2 g0
        go_enter Tryd.func19, Tryd.ntmps19
        go_wp2
        go_ret
        exact ⟨rfl, rfl⟩
      by_cases g1 : b < 3
      · rw [show stLegal a b = false by simp only [stLegal]; rw [if_neg b1, if_neg b2]; simp; omega]
        have t1 : (a == 2) = true := by simp; omega
        have t2 : decide ((3 : Int) ≤ b) = false := decide_eq_false (by omega)
        go_enter Tryd.func19, Tryd.ntmps19
        go_wp2
        go_ret
        exact ⟨rfl, rfl⟩
      by_cases g2 : b ≤ 6
      · rw [show stLegal a b = true by simp only [stLegal]; rw [if_neg b1, if_neg b2]; simp; omega]
        have t1 : (a == 2) = true := by simp; omega
        have t2 : decide ((3 : Int) ≤ b) = true := decide_eq_true (by omega)
        have t3 : decide (b ≤ (6 : Int)) = true := decide_eq_true (by omega)
        go_enter Tryd.func19, Tryd.ntmps19
        go_wp2
        go_ret
        exact ⟨rfl, rfl⟩
      rw [show stLegal a b = false by simp only [stLegal]; rw [if_neg b1, if_neg b2]; simp; omega]
      have t1 : (a == 2) = true := by simp; omega
      have t2 : decide ((3 : Int) ≤ b) = true := decide_eq_true (by omega)
      have t3 : decide (b ≤ (6 : Int)) = false := decide_eq_false (by omega)
      go_enter Tryd.func19, Tryd.ntmps19
      go_wp2
      go_ret
      exact ⟨rfl, rfl⟩
end Go.Proofs.YtkimfejhgfnjoaaDoor
