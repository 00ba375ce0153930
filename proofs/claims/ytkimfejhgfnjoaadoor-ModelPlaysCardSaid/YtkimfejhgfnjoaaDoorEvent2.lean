/- Contracts of event.Right, of the document's Right, Name, Steps, of Ref. -/
import Derived.Test.YtkimfejhgfnjoaaDoorEventA
import Derived.Test.YtkimfejhgfnjoaaDoorText
import Derived.Test.YtkimfejhgfnjoaaDoorFlat
namespace Go.Proofs.YtkimfejhgfnjoaaDoor
open Go.RowKit
set_option linter.unusedVariables false
set_option linter.unusedSimpArgs false

/-- The event in the document's type: the same numbers. -/
theorem ref_any (k g m p v : Int) (w : World) : Calls Tryd.prog 7 #[.agg #[.int .i64 k, .int .i64 g, .int .i64 m, .int .i64 p, .int .i64 v]] w fun e w' => e = .returned (.agg #[.int .i64 k, .int .i64 g, .int .i64 m, .int .i64 p, .int .i64 v]) ∧ Below w.heap.size w w' := by
  go_enter Tryd.func7, Tryd.ntmps7
  go_wp2
  refine bodyPost_ret (v := .agg #[.int .i64 k, .int .i64 g, .int .i64 m, .int .i64 p, .int .i64 v]) (by simp [results, Tryd.results7, go_sem]) rfl ⟨rfl, ((Below.refl _ _).alloc (Nat.le_refl _) _).alloc (by simp) _⟩
set_option maxHeartbeats 8000000 in
theorem rright_any (k g m p v : Int) (w : World) : Calls Tryd.prog 17 #[.agg #[.int .i64 k, .int .i64 g, .int .i64 m, .int .i64 p, .int .i64 v]] w fun e w' => e = .returned (.bool (evRight k g m p v)) ∧ Below w.heap.size w w' := by
  have hb := hid ((Below.refl w.heap.size w).alloc (Nat.le_refl _) (.cells #[.int .i64 k, .int .i64 g, .int .i64 m, .int .i64 p, .int .i64 v] 33))
  by_cases c0 : k < 0
  · rw [show evRight k g m p v = false by unfold evRight; rw [show decide (0 ≤ k) = false from decide_eq_false (by omega)]; simp]
    have t0 : decide (k < 0) = true := decide_eq_true c0
    go_enter Tryd.func17, Tryd.ntmps17
    go_wp2
    go_ret
    exact ⟨rfl, (Below.refl _ _).alloc (Nat.le_refl _) _⟩
  by_cases c1 : 7 < k
  · rw [show evRight k g m p v = false by unfold evRight; rw [show decide (k < 8) = false from decide_eq_false (by omega)]; simp]
    have t0 : decide (k < 0) = false := decide_eq_false c0
    have t1 : decide (7 < k) = true := decide_eq_true c1
    go_enter Tryd.func17, Tryd.ntmps17
    go_wp2
    go_ret
    exact ⟨rfl, (Below.refl _ _).alloc (Nat.le_refl _) _⟩
  by_cases c2 : g < 0
  · rw [show evRight k g m p v = false by unfold evRight; rw [show decide (0 ≤ g) = false from decide_eq_false (by omega)]; simp]
    have t0 : decide (k < 0) = false := decide_eq_false c0
    have t1 : decide (7 < k) = false := decide_eq_false c1
    have t2 : decide (g < 0) = true := decide_eq_true c2
    go_enter Tryd.func17, Tryd.ntmps17
    go_wp2
    go_ret
    exact ⟨rfl, (Below.refl _ _).alloc (Nat.le_refl _) _⟩
  by_cases c3 : 4095 < g
  · rw [show evRight k g m p v = false by unfold evRight; rw [show decide (g < 4096) = false from decide_eq_false (by omega)]; simp]
    have t0 : decide (k < 0) = false := decide_eq_false c0
    have t1 : decide (7 < k) = false := decide_eq_false c1
    have t2 : decide (g < 0) = false := decide_eq_false c2
    have t3 : decide (4095 < g) = true := decide_eq_true c3
    go_enter Tryd.func17, Tryd.ntmps17
    go_wp2
    go_ret
    exact ⟨rfl, (Below.refl _ _).alloc (Nat.le_refl _) _⟩
  by_cases c4 : m < -1
  · rw [show evRight k g m p v = false by unfold evRight; rw [show decide (-1 ≤ m) = false from decide_eq_false (by omega)]; simp]
    have t0 : decide (k < 0) = false := decide_eq_false c0
    have t1 : decide (7 < k) = false := decide_eq_false c1
    have t2 : decide (g < 0) = false := decide_eq_false c2
    have t3 : decide (4095 < g) = false := decide_eq_false c3
    have t4 : decide (m < -1) = true := decide_eq_true c4
    go_enter Tryd.func17, Tryd.ntmps17
    go_wp2
    go_ret
    exact ⟨rfl, (Below.refl _ _).alloc (Nat.le_refl _) _⟩
  by_cases c5 : 127 < m
  · rw [show evRight k g m p v = false by unfold evRight; rw [show decide (m < 128) = false from decide_eq_false (by omega)]; simp]
    have t0 : decide (k < 0) = false := decide_eq_false c0
    have t1 : decide (7 < k) = false := decide_eq_false c1
    have t2 : decide (g < 0) = false := decide_eq_false c2
    have t3 : decide (4095 < g) = false := decide_eq_false c3
    have t4 : decide (m < -1) = false := decide_eq_false c4
    have t5 : decide (127 < m) = true := decide_eq_true c5
    go_enter Tryd.func17, Tryd.ntmps17
    go_wp2
    go_ret
    exact ⟨rfl, (Below.refl _ _).alloc (Nat.le_refl _) _⟩
  by_cases c6 : p < -1
  · rw [show evRight k g m p v = false by unfold evRight; rw [show decide (-1 ≤ p) = false from decide_eq_false (by omega)]; simp]
    have t0 : decide (k < 0) = false := decide_eq_false c0
    have t1 : decide (7 < k) = false := decide_eq_false c1
    have t2 : decide (g < 0) = false := decide_eq_false c2
    have t3 : decide (4095 < g) = false := decide_eq_false c3
    have t4 : decide (m < -1) = false := decide_eq_false c4
    have t5 : decide (127 < m) = false := decide_eq_false c5
    have t6 : decide (p < -1) = true := decide_eq_true c6
    go_enter Tryd.func17, Tryd.ntmps17
    go_wp2
    go_ret
    exact ⟨rfl, (Below.refl _ _).alloc (Nat.le_refl _) _⟩
  by_cases c7 : 63 < p
  · rw [show evRight k g m p v = false by unfold evRight; rw [show decide (p < 64) = false from decide_eq_false (by omega)]; simp]
    have t0 : decide (k < 0) = false := decide_eq_false c0
    have t1 : decide (7 < k) = false := decide_eq_false c1
    have t2 : decide (g < 0) = false := decide_eq_false c2
    have t3 : decide (4095 < g) = false := decide_eq_false c3
    have t4 : decide (m < -1) = false := decide_eq_false c4
    have t5 : decide (127 < m) = false := decide_eq_false c5
    have t6 : decide (p < -1) = false := decide_eq_false c6
    have t7 : decide (63 < p) = true := decide_eq_true c7
    go_enter Tryd.func17, Tryd.ntmps17
    go_wp2
    go_ret
    exact ⟨rfl, (Below.refl _ _).alloc (Nat.le_refl _) _⟩
  have t0 : decide (k < 0) = false := decide_eq_false c0
  have t1 : decide (7 < k) = false := decide_eq_false c1
  have t2 : decide (g < 0) = false := decide_eq_false c2
  have t3 : decide (4095 < g) = false := decide_eq_false c3
  have t4 : decide (m < -1) = false := decide_eq_false c4
  have t5 : decide (127 < m) = false := decide_eq_false c5
  have t6 : decide (p < -1) = false := decide_eq_false c6
  have t7 : decide (63 < p) = false := decide_eq_false c7
  rw [show evRight k g m p v = (if k = 5 then true else if k = 6 then decide (0 ≤ v) && decide (v ≤ 65535) else decide (v = 0)) by
    unfold evRight
    rw [show decide (0 ≤ k) = true from decide_eq_true (by omega), show decide (k < 8) = true from decide_eq_true (by omega), show decide (0 ≤ g) = true from decide_eq_true (by omega), show decide (g < 4096) = true from decide_eq_true (by omega), show decide (-1 ≤ m) = true from decide_eq_true (by omega), show decide (m < 128) = true from decide_eq_true (by omega), show decide (-1 ≤ p) = true from decide_eq_true (by omega), show decide (p < 64) = true from decide_eq_true (by omega)]
    simp only [Bool.true_and]]
  by_cases h5 : k = 5
  · rw [if_pos h5]
    have q5 : (k == 5) = true := by simp [h5]
    go_enter Tryd.func17, Tryd.ntmps17
    go_wp2
    go_ret
    exact ⟨rfl, (Below.refl _ _).alloc (Nat.le_refl _) _⟩
  · rw [if_neg h5]
    have q5 : (k == 5) = false := beq_eq_false_iff_ne.2 h5
    by_cases h6 : k = 6
    · rw [if_pos h6]
      have q6 : (k == 6) = true := by simp [h6]
      by_cases h : (0 : Int) ≤ v
      · by_cases h2 : v ≤ 65535
        · rw [show (decide ((0 : Int) ≤ v) && decide (v ≤ 65535)) = true by simp [h, h2]]
          have u1 : decide ((0 : Int) ≤ v) = true := decide_eq_true h
          have u2 : decide (v ≤ 65535) = true := decide_eq_true h2
          go_enter Tryd.func17, Tryd.ntmps17
          go_wp2
          go_ret
          exact ⟨rfl, (Below.refl _ _).alloc (Nat.le_refl _) _⟩
        · rw [show (decide ((0 : Int) ≤ v) && decide (v ≤ 65535)) = false by simp [h2]]
          have u1 : decide ((0 : Int) ≤ v) = true := decide_eq_true h
          have u2 : decide (v ≤ 65535) = false := decide_eq_false h2
          go_enter Tryd.func17, Tryd.ntmps17
          go_wp2
          go_ret
          exact ⟨rfl, (Below.refl _ _).alloc (Nat.le_refl _) _⟩
      · rw [show (decide ((0 : Int) ≤ v) && decide (v ≤ 65535)) = false by simp [h]]
        have u1 : decide ((0 : Int) ≤ v) = false := decide_eq_false h
        go_enter Tryd.func17, Tryd.ntmps17
        go_wp2
        go_ret
        exact ⟨rfl, (Below.refl _ _).alloc (Nat.le_refl _) _⟩
    · rw [if_neg h6]
      have q6 : (k == 6) = false := beq_eq_false_iff_ne.2 h6
      by_cases hv : v = 0
      · have q7 : (v == 0) = true := by simp [hv]
        rw [show decide (v = 0) = true by simp [hv]]
        go_enter Tryd.func17, Tryd.ntmps17
        go_wp2
        go_ret
        exact ⟨rfl, (Below.refl _ _).alloc (Nat.le_refl _) _⟩
      · have q7 : (v == 0) = false := beq_eq_false_iff_ne.2 hv
        rw [show decide (v = 0) = false by simp [hv]]
        go_enter Tryd.func17, Tryd.ntmps17
        go_wp2
        go_ret
        exact ⟨rfl, (Below.refl _ _).alloc (Nat.le_refl _) _⟩

theorem rsteps_in (k : Nat) (w : World) (hk : k < 8) : Calls Tryd.prog 18 #[.int .i64 k] w fun e w' => e = .returned (.tuple #[.int .i64 (evStep0 k), .int .i64 (evStep1 k), .bool true]) ∧ w = w' := by
  match k, hk with
  | 0, _ | 1, _ | 2, _ | 3, _ | 4, _ | 5, _ | 6, _ | 7, _ =>
    simp only [evStep0, evStep1]
    go_enter Tryd.func18, Tryd.ntmps18
    go_wp2
    exact bodyPost_ret (v := .tuple #[.int .i64 _, .int .i64 _, .bool true]) (by simp [results, Tryd.results18, go_sem]) rfl ⟨rfl, rfl⟩
theorem rsteps_out (n : Int) (w : World) (hn : n < 0 ∨ 7 < n) : Calls Tryd.prog 18 #[.int .i64 n] w fun e w' => e = .returned (.tuple #[.int .i64 0, .int .i64 0, .bool false]) ∧ w = w' := by
  rcases hn with h | h
  · go_enter Tryd.func18, Tryd.ntmps18
    go_wp2
    exact bodyPost_ret (v := .tuple #[.int .i64 0, .int .i64 0, .bool false]) (by simp [results, Tryd.results18, go_sem]) rfl ⟨rfl, rfl⟩
  · go_enter Tryd.func18, Tryd.ntmps18
    go_wp2
    exact bodyPost_ret (v := .tuple #[.int .i64 0, .int .i64 0, .bool false]) (by simp [results, Tryd.results18, go_sem]) rfl ⟨rfl, rfl⟩
end Go.Proofs.YtkimfejhgfnjoaaDoor
