/- The contract of the document's Lock, and of layer 19's lives. -/
import Derived.Test.YtlahinefnhfifaaDoorMach2
namespace Go.Proofs.YtlahinefnhfifaaDoor
open Go.RowKit
set_option linter.unusedVariables false
set_option linter.unusedSimpArgs false
set_option maxHeartbeats 8000000 in
theorem rlock_in (k : Nat) (p i n : Int) (w : World) (hk : k < 31) (hn : 1 ≤ n) (hn2 : n ≤ 4611686018427387904) (hi : i ≤ 9223372036854775807) :
    Calls Tryd.prog 29 #[.int .i64 k, .int .i64 p, .int .i64 i, .int .i64 n] w fun e w' => e = .returned (.int .i64 (lk (maPlace1 k) p i n)) ∧ w = w' := by
  have hwn : IntKind.i64.wrap (n + 1) = n + 1 := IntWalk.i64_in _ (by omega)
  match k, hk with
  | 0, _ | 1, _ | 5, _ | 8, _ | 12, _ | 16, _ | 19, _ | 20, _ | 21, _ | 22, _ | 24, _ | 26, _ =>
    simp only [maPlace1]
    rw [show lk 0 p i n = (-1) from rfl]
    go_enter Tryd.func29, Tryd.ntmps29
    go_wp2
    go_ret
    exact ⟨rfl, rfl⟩
  | 2, _ | 4, _ | 7, _ | 10, _ | 11, _ | 13, _ | 15, _ | 18, _ | 23, _ | 27, _ =>
    simp only [maPlace1]
    rw [show lk 1 p i n = 0 from rfl]
    go_enter Tryd.func29, Tryd.ntmps29
    go_wp2
    go_ret
    exact ⟨rfl, rfl⟩
  | 3, _ | 17, _ | 28, _ =>
    simp only [maPlace1]
    rw [show lk 2 p i n = lkOf p n from rfl]
    by_cases hc1 : p < 0
    · have e : lkOf p n = -1 := by unfold lkOf; rw [if_neg (by omega)]
      rw [e]
      have t1 : decide ((0 : Int) ≤ p) = false := decide_eq_false (by omega)
      clear e
      go_enter Tryd.func29, Tryd.ntmps29
      go_wp2
      go_ret
      exact ⟨rfl, rfl⟩
    by_cases hc2 : n ≤ p
    · have e : lkOf p n = -1 := by unfold lkOf; rw [if_neg (by omega)]
      rw [e]
      have t1 : decide ((0 : Int) ≤ p) = true := decide_eq_true (by omega)
      have t2 : decide (p < n) = false := decide_eq_false (by omega)
      clear e
      go_enter Tryd.func29, Tryd.ntmps29
      go_wp2
      go_ret
      exact ⟨rfl, rfl⟩
    have e : lkOf p n = p + 1 := by unfold lkOf; rw [if_pos (by omega)]
    rw [e]
    have t1 : decide ((0 : Int) ≤ p) = true := decide_eq_true (by omega)
    have t2 : decide (p < n) = true := decide_eq_true (by omega)
    have hw : IntKind.i64.wrap (p + 1) = p + 1 := IntWalk.i64_in _ (by omega)
    clear e
    go_enter Tryd.func29, Tryd.ntmps29
    go_wp2
    go_ret
    exact ⟨rfl, rfl⟩
  | 6, _ =>
    simp only [maPlace1]
    rw [show lk 3 p i n = lkOf (lkAround p i n) n from rfl]
    by_cases hd0 : p < 0
    · have e : lkOf (lkAround p i n) n = -1 := by unfold lkAround; rw [if_neg (by omega)]; rfl
      rw [e]
      have t1 : decide ((0 : Int) ≤ p) = false := decide_eq_false (by omega)
      clear e
      go_enter Tryd.func29, Tryd.ntmps29
      go_wp2
      go_ret
      exact ⟨rfl, rfl⟩
    by_cases hd1 : n ≤ p
    · have e : lkOf (lkAround p i n) n = -1 := by unfold lkAround; rw [if_neg (by omega)]; rfl
      rw [e]
      have t1 : decide ((0 : Int) ≤ p) = true := decide_eq_true (by omega)
      have t2 : decide (p < n) = false := decide_eq_false (by omega)
      clear e
      go_enter Tryd.func29, Tryd.ntmps29
      go_wp2
      go_ret
      exact ⟨rfl, rfl⟩
    by_cases hd2 : i < 0
    · have e : lkOf (lkAround p i n) n = -1 := by unfold lkAround; rw [if_neg (by omega)]; rfl
      rw [e]
      have t1 : decide ((0 : Int) ≤ p) = true := decide_eq_true (by omega)
      have t2 : decide (p < n) = true := decide_eq_true (by omega)
      have t3 : decide ((0 : Int) ≤ i) = false := decide_eq_false (by omega)
      clear e
      go_enter Tryd.func29, Tryd.ntmps29
      go_wp2
      go_ret
      exact ⟨rfl, rfl⟩
    obtain ⟨j, hj⟩ : ∃ j, j = i % n := ⟨_, rfl⟩
    have j0 : 0 ≤ j := by rw [hj]; exact Int.emod_nonneg _ (by omega)
    have j1 : j < n := by rw [hj]; exact Int.emod_lt_of_pos _ (by omega)
    have ht : i.tmod n = j := by rw [Int.tmod_eq_emod_of_nonneg (by omega), hj]
    have hw : IntKind.i64.wrap j = j := IntWalk.i64_in _ (by omega)
    have hw2 : IntKind.i64.wrap (p + j) = p + j := IntWalk.i64_in _ (by omega)
    have hn0 : (n == 0) = false := beq_eq_false_iff_ne.2 (by omega)
    obtain ⟨m, hm⟩ : ∃ m, m = (p + j) % n := ⟨_, rfl⟩
    have m0 : 0 ≤ m := by rw [hm]; exact Int.emod_nonneg _ (by omega)
    have m1 : m < n := by rw [hm]; exact Int.emod_lt_of_pos _ (by omega)
    have hmt : (p + j).tmod n = m := by rw [Int.tmod_eq_emod_of_nonneg (by omega), hm]
    have hw4 : IntKind.i64.wrap m = m := IntWalk.i64_in _ (by omega)
    have hw5 : IntKind.i64.wrap (m + 1) = m + 1 := IntWalk.i64_in _ (by omega)
    have e : lkOf (lkAround p i n) n = m + 1 := by
      unfold lkAround; rw [if_pos (by omega), ← hj, ← hm]
      unfold lkOf; rw [if_pos (by omega)]
    rw [e]
    have t1 : decide ((0 : Int) ≤ p) = true := decide_eq_true (by omega)
    have t2 : decide (p < n) = true := decide_eq_true (by omega)
    have t3 : decide ((0 : Int) ≤ i) = true := decide_eq_true (by omega)
    clear e hj hm
    go_enter Tryd.func29, Tryd.ntmps29
    go_wp2
    go_ret
    exact ⟨rfl, rfl⟩
  | 9, _ =>
    simp only [maPlace1]
    rw [show lk 4 p i n = lkOf i n from rfl]
    by_cases hc1 : i < 0
    · have e : lkOf i n = -1 := by unfold lkOf; rw [if_neg (by omega)]
      rw [e]
      have t1 : decide ((0 : Int) ≤ i) = false := decide_eq_false (by omega)
      clear e
      go_enter Tryd.func29, Tryd.ntmps29
      go_wp2
      go_ret
      exact ⟨rfl, rfl⟩
    by_cases hc2 : n ≤ i
    · have e : lkOf i n = -1 := by unfold lkOf; rw [if_neg (by omega)]
      rw [e]
      have t1 : decide ((0 : Int) ≤ i) = true := decide_eq_true (by omega)
      have t2 : decide (i < n) = false := decide_eq_false (by omega)
      clear e
      go_enter Tryd.func29, Tryd.ntmps29
      go_wp2
      go_ret
      exact ⟨rfl, rfl⟩
    have e : lkOf i n = i + 1 := by unfold lkOf; rw [if_pos (by omega)]
    rw [e]
    have t1 : decide ((0 : Int) ≤ i) = true := decide_eq_true (by omega)
    have t2 : decide (i < n) = true := decide_eq_true (by omega)
    have hw : IntKind.i64.wrap (i + 1) = i + 1 := IntWalk.i64_in _ (by omega)
    clear e
    go_enter Tryd.func29, Tryd.ntmps29
    go_wp2
    go_ret
    exact ⟨rfl, rfl⟩
  | 14, _ | 25, _ | 29, _ | 30, _ =>
    simp only [maPlace1]
    rw [show lk 5 p i n = n + 1 from rfl]
    go_enter Tryd.func29, Tryd.ntmps29
    go_wp2
    go_ret
    exact ⟨rfl, rfl⟩
  | k + 31, hk => exact absurd hk (by omega)
set_option maxHeartbeats 8000000 in
theorem rlock_out (pl p i n : Int) (w : World) (hp : pl < 0 ∨ 30 < pl) (hn : 1 ≤ n) :
    Calls Tryd.prog 29 #[.int .i64 pl, .int .i64 p, .int .i64 i, .int .i64 n] w fun e w' => e = .returned (.int .i64 (-1)) ∧ w = w' := by
  have q2 : (pl == 2) = false := beq_eq_false_iff_ne.2 (by omega)
  have q3 : (pl == 3) = false := beq_eq_false_iff_ne.2 (by omega)
  have q4 : (pl == 4) = false := beq_eq_false_iff_ne.2 (by omega)
  have q6 : (pl == 6) = false := beq_eq_false_iff_ne.2 (by omega)
  have q7 : (pl == 7) = false := beq_eq_false_iff_ne.2 (by omega)
  have q9 : (pl == 9) = false := beq_eq_false_iff_ne.2 (by omega)
  have q10 : (pl == 10) = false := beq_eq_false_iff_ne.2 (by omega)
  have q11 : (pl == 11) = false := beq_eq_false_iff_ne.2 (by omega)
  have q13 : (pl == 13) = false := beq_eq_false_iff_ne.2 (by omega)
  have q14 : (pl == 14) = false := beq_eq_false_iff_ne.2 (by omega)
  have q15 : (pl == 15) = false := beq_eq_false_iff_ne.2 (by omega)
  have q17 : (pl == 17) = false := beq_eq_false_iff_ne.2 (by omega)
  have q18 : (pl == 18) = false := beq_eq_false_iff_ne.2 (by omega)
  have q23 : (pl == 23) = false := beq_eq_false_iff_ne.2 (by omega)
  have q25 : (pl == 25) = false := beq_eq_false_iff_ne.2 (by omega)
  have q27 : (pl == 27) = false := beq_eq_false_iff_ne.2 (by omega)
  have q28 : (pl == 28) = false := beq_eq_false_iff_ne.2 (by omega)
  have q29 : (pl == 29) = false := beq_eq_false_iff_ne.2 (by omega)
  have q30 : (pl == 30) = false := beq_eq_false_iff_ne.2 (by omega)
  clear hp
  go_enter Tryd.func29, Tryd.ntmps29
  go_wp2
  go_ret
  exact ⟨rfl, rfl⟩
theorem rlock_small (pl p i n : Int) (w : World) (hn : n < 1) :
    Calls Tryd.prog 29 #[.int .i64 pl, .int .i64 p, .int .i64 i, .int .i64 n] w fun e w' => e = .returned (.int .i64 (-1)) ∧ w = w' := by
  go_enter Tryd.func29, Tryd.ntmps29
  go_wp2
  go_ret
  exact ⟨rfl, rfl⟩
end Go.Proofs.YtlahinefnhfifaaDoor
