/- HeapAhead: the order of entries, and the document's Ahead. -/

import Derived.Test.YtlppnkemoomllaaHeapW
import Derived.Test.YtlppnkemoomllaaFlat
import Derived.Deep.CutRange
namespace Go.Proofs.Ytlppnkemoomllaa.heapAhead
open Go.RowKit
set_option linter.unusedVariables false
set_option linter.unusedSimpArgs false

theorem ahead_eq (a1 a2 a3 b1 b2 b3 : Int) : aheadE (a1, a2, a3) (b1, b2, b3) = if a1 ≠ b1 then decide (a1 < b1) else if a2 ≠ b2 then decide (a2 < b2) else decide (a3 < b3) := by
  unfold aheadE cmpE or3
  simp only
  rcases Int.lt_trichotomy a1 b1 with h | h | h
  · rw [c3_lt h]; have : a1 ≠ b1 := by omega
    simp [this, h]
  · subst h
    rw [c3_eq rfl]
    rcases Int.lt_trichotomy a2 b2 with h | h | h
    · rw [c3_lt h]; have : a2 ≠ b2 := by omega
      simp [this, h]
    · subst h
      rw [c3_eq rfl]
      rcases Int.lt_trichotomy a3 b3 with h | h | h
      · rw [c3_lt h]; simp [h]
      · subst h; rw [c3_eq rfl]; simp
      · rw [c3_gt h]; simp; omega
    · rw [c3_gt h]; have : a2 ≠ b2 := by omega
      have : ¬ a2 < b2 := by omega
      simp [*]
  · rw [c3_gt h]; have : a1 ≠ b1 := by omega
    have : ¬ a1 < b1 := by omega
    simp [*]
theorem ahead_not (a1 a2 a3 b1 b2 b3 : Int) (h : aheadE (a1, a2, a3) (b1, b2, b3) = true) : aheadE (b1, b2, b3) (a1, a2, a3) = false ∧ ¬ (a1 = b1 ∧ a2 = b2 ∧ a3 = b3) := by
  rw [ahead_eq] at h ⊢
  split at h
  · simp at h
    rw [if_pos (by omega)]
    exact ⟨by simp; omega, by omega⟩
  · split at h
    · simp at h
      rw [if_neg (by omega), if_pos (by omega)]
      exact ⟨by simp; omega, by omega⟩
    · simp at h
      rw [if_neg (by omega), if_neg (by omega)]
      exact ⟨by simp; omega, by omega⟩
theorem ahead_tot (a1 a2 a3 b1 b2 b3 : Int) (h : aheadE (a1, a2, a3) (b1, b2, b3) = false) (h' : aheadE (b1, b2, b3) (a1, a2, a3) = false) : a1 = b1 ∧ a2 = b2 ∧ a3 = b3 := by
  rw [ahead_eq] at h h'
  split at h
  · rw [if_pos (by omega)] at h'; simp at h h'; omega
  · rw [if_neg (by omega)] at h'
    split at h
    · rw [if_pos (by omega)] at h'; simp at h h'; omega
    · rw [if_neg (by omega)] at h'; simp at h h'; omega
theorem ahead_tr (a1 a2 a3 b1 b2 b3 c1 c2 c3 : Int) (h : aheadE (a1, a2, a3) (b1, b2, b3) = true) (h' : aheadE (b1, b2, b3) (c1, c2, c3) = true) : aheadE (a1, a2, a3) (c1, c2, c3) = true := by
  rw [ahead_eq] at h h' ⊢
  by_cases e1 : a1 = b1
  · subst e1
    simp only [ne_eq, not_true_eq_false, if_false] at h
    by_cases e2 : a1 = c1
    · subst e2
      simp only [ne_eq, not_true_eq_false, if_false] at h' ⊢
      by_cases f1 : a2 = b2
      · subst f1
        simp only [not_true_eq_false, if_false] at h
        by_cases f2 : a2 = c2
        · subst f2
          simp only [not_true_eq_false, if_false] at h' ⊢
          simp at h h' ⊢; omega
        · rw [if_pos f2] at h' ⊢; exact h'
      · rw [if_pos f1] at h
        by_cases f2 : b2 = c2
        · subst f2; rw [if_pos f1]; exact h
        · rw [if_pos f2] at h'
          simp at h h'
          rw [if_pos (by omega)]; simp; omega
    · rw [if_pos e2] at h' ⊢; exact h'
  · rw [if_pos e1] at h
    by_cases e2 : b1 = c1
    · subst e2; rw [if_pos e1]; exact h
    · rw [if_pos e2] at h'
      simp at h h'
      rw [if_pos (by omega)]; simp; omega

set_option maxHeartbeats 4000000 in
theorem ref_ahead (a1 a2 a3 b1 b2 b3 : Int) (r : Bool) (hr : aheadE (a1, a2, a3) (b1, b2, b3) = r) (w : World) :
    Calls Try.prog 33 #[.agg #[.int .i64 a1, .int .u64 a2, .int .i64 a3], .agg #[.int .i64 b1, .int .u64 b2, .int .i64 b3]] w fun e w' => e = .returned (.bool r) ∧ Below w.heap.size w w' := by
  have HB := hid (((Below.refl w.heap.size w).alloc (Nat.le_refl _) (.cells #[.int .i64 a1, .int .u64 a2, .int .i64 a3] 34)).alloc (by simp) (.cells #[.int .i64 b1, .int .u64 b2, .int .i64 b3] 34))
  subst hr
  rw [ahead_eq]
  by_cases h1 : a1 = b1
  · rw [if_neg (by omega)]
    by_cases h2 : a2 = b2
    · rw [if_neg (by omega)]
      have t1 : (a1 != b1) = false := by simp [h1]
      have t2 : (a2 != b2) = false := by simp [h2]
      clear h1 h2
      go_enter Try.func33, Try.ntmps33
      go_wp2
      go_ret
      exact ⟨rfl, HB.out⟩
    · rw [if_pos h2]
      have t1 : (a1 != b1) = false := by simp [h1]
      have t2 : (a2 != b2) = true := by simp [h2]
      clear h1
      go_enter Try.func33, Try.ntmps33
      go_wp2
      go_ret
      exact ⟨rfl, HB.out⟩
  · rw [if_pos h1]
    have t1 : (a1 != b1) = true := by simp [h1]
    go_enter Try.func33, Try.ntmps33
    go_wp2
    go_ret
    exact ⟨rfl, HB.out⟩
end Go.Proofs.Ytlppnkemoomllaa.heapAhead
