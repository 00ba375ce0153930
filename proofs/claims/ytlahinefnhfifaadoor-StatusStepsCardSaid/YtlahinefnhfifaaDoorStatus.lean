/- Contracts of package status: Legal, Name, Named; of the document's Legal and Name. -/
import Derived.Test.YtlahinefnhfifaaDoorTabStS
import Derived.Test.YtlahinefnhfifaaDoorTabStN
namespace Go.Proofs.YtlahinefnhfifaaDoor
open Go.RowKit
set_option linter.unusedVariables false
set_option linter.unusedSimpArgs false

/-- Is a step legal? -/
def stLegal (a b : Int) : Bool := if b = 1 then decide (a = 0) || (decide (2 ≤ a) && decide (a ≤ 5)) else if b = 2 then decide (a = 1) else decide (a = 2) && (decide (3 ≤ b) && decide (b ≤ 6))

set_option maxHeartbeats 8000000 in
theorem slegal_in (a b : Nat) (w : World) (T1 : StSteps w) (ha : a < 7) (hb : b < 7) : Calls Tryd.prog 10 #[.int .u64 a, .int .u64 b] w fun e w' => e = .returned (.bool (stLegal a b)) ∧ w = w' := by
  have hc := T1 a ha
  clear T1
  match a, ha with
  | 0, _ | 1, _ | 2, _ | 3, _ | 4, _ | 5, _ | 6, _ =>
    simp only [stStep0] at hc
    match b, hb with
    | 0, _ | 1, _ | 2, _ | 3, _ | 4, _ | 5, _ | 6, _ =>
      simp only [stLegal]
      go_enter Tryd.func10, Tryd.ntmps10
      go_wp2
      go_ret
      exact ⟨rfl, rfl⟩
theorem slegal_out (a b : Int) (w : World) (h : 7 ≤ a ∨ 7 ≤ b) : Calls Tryd.prog 10 #[.int .u64 a, .int .u64 b] w fun e w' => e = .returned (.bool false) ∧ w = w' := by
  rcases Int.lt_or_le a 7 with h1 | h1
  · have h2 : 7 ≤ b := by omega
    go_enter Tryd.func10, Tryd.ntmps10
    go_wp2
    go_ret
    exact ⟨rfl, rfl⟩
  · go_enter Tryd.func10, Tryd.ntmps10
    go_wp2
    go_ret
    exact ⟨rfl, rfl⟩
theorem rlegal_any (a b : Int) (w : World) : Calls Tryd.prog 11 #[.int .u64 a, .int .u64 b] w fun e w' => e = .returned (.bool (stLegal a b)) ∧ w = w' := by
  by_cases b1 : b = 1
  · subst b1
    by_cases h0 : a = 0
    · rw [show stLegal a 1 = true by simp only [stLegal]; rw [if_pos trivial]; simp; omega]
      have t1 : (a == 0) = true := by simp [h0]
      go_enter Tryd.func11, Tryd.ntmps11
      go_wp2
      go_ret
      exact ⟨rfl, rfl⟩
    by_cases h1 : a < 2
    · rw [show stLegal a 1 = false by simp only [stLegal]; rw [if_pos trivial]; simp; omega]
      have t1 : (a == 0) = false := beq_eq_false_iff_ne.2 h0
      have t2 : decide ((2 : Int) ≤ a) = false := decide_eq_false (by omega)
      go_enter Tryd.func11, Tryd.ntmps11
      go_wp2
      go_ret
      exact ⟨rfl, rfl⟩
    by_cases h2 : a ≤ 5
    · rw [show stLegal a 1 = true by simp only [stLegal]; rw [if_pos trivial]; simp; omega]
      have t1 : (a == 0) = false := beq_eq_false_iff_ne.2 h0
      have t2 : decide ((2 : Int) ≤ a) = true := decide_eq_true (by omega)
      have t3 : decide (a ≤ (5 : Int)) = true := decide_eq_true (by omega)
      go_enter Tryd.func11, Tryd.ntmps11
      go_wp2
      go_ret
      exact ⟨rfl, rfl⟩
    rw [show stLegal a 1 = false by simp only [stLegal]; rw [if_pos trivial]; simp; omega]
    have t1 : (a == 0) = false := beq_eq_false_iff_ne.2 h0
    have t2 : decide ((2 : Int) ≤ a) = true := decide_eq_true (by omega)
    have t3 : decide (a ≤ (5 : Int)) = false := decide_eq_false (by omega)
    go_enter Tryd.func11, Tryd.ntmps11
    go_wp2
    go_ret
    exact ⟨rfl, rfl⟩
  · by_cases b2 : b = 2
    · subst b2
      by_cases g0 : a = 1
      · rw [show stLegal a 2 = true by simp only [stLegal]; rw [if_neg (by omega), if_pos trivial]; simp; omega]
        have t1 : (a == 1) = true := by simp [g0]
        go_enter Tryd.func11, Tryd.ntmps11
        go_wp2
        go_ret
        exact ⟨rfl, rfl⟩
      rw [show stLegal a 2 = false by simp only [stLegal]; rw [if_neg (by omega), if_pos trivial]; simp; omega]
      have t1 : (a == 1) = false := beq_eq_false_iff_ne.2 g0
      go_enter Tryd.func11, Tryd.ntmps11
      go_wp2
      go_ret
      exact ⟨rfl, rfl⟩
    · have q1 : (b == 1) = false := beq_eq_false_iff_ne.2 b1
      have q2 : (b == 2) = false := beq_eq_false_iff_ne.2 b2
      by_cases g0 : a ≠ 2
      · rw [show stLegal a b = false by simp only [stLegal]; rw [if_neg b1, if_neg b2]; simp; omega]
        have t1 : (a == 2) = false := beq_eq_false_iff_ne.2 g0
        go_enter Tryd.func11, Tryd.ntmps11
        go_wp2
        go_ret
        exact ⟨rfl, rfl⟩
      by_cases g1 : b < 3
      · rw [show stLegal a b = false by simp only [stLegal]; rw [if_neg b1, if_neg b2]; simp; omega]
        have t1 : (a == 2) = true := by simp; omega
        have t2 : decide ((3 : Int) ≤ b) = false := decide_eq_false (by omega)
        go_enter Tryd.func11, Tryd.ntmps11
        go_wp2
        go_ret
        exact ⟨rfl, rfl⟩
      by_cases g2 : b ≤ 6
      · rw [show stLegal a b = true by simp only [stLegal]; rw [if_neg b1, if_neg b2]; simp; omega]
        have t1 : (a == 2) = true := by simp; omega
        have t2 : decide ((3 : Int) ≤ b) = true := decide_eq_true (by omega)
        have t3 : decide (b ≤ (6 : Int)) = true := decide_eq_true (by omega)
        go_enter Tryd.func11, Tryd.ntmps11
        go_wp2
        go_ret
        exact ⟨rfl, rfl⟩
      rw [show stLegal a b = false by simp only [stLegal]; rw [if_neg b1, if_neg b2]; simp; omega]
      have t1 : (a == 2) = true := by simp; omega
      have t2 : decide ((3 : Int) ≤ b) = true := decide_eq_true (by omega)
      have t3 : decide (b ≤ (6 : Int)) = false := decide_eq_false (by omega)
      go_enter Tryd.func11, Tryd.ntmps11
      go_wp2
      go_ret
      exact ⟨rfl, rfl⟩
theorem sname_in (k : Nat) (w : World) (T2 : StNames w) (hk : k < 7) : Calls Tryd.prog 12 #[.int .u64 k] w fun e w' => e = .returned (.string (stName0 k)) ∧ w = w' := by
  have b := T2 k hk
  obtain ⟨s, hs⟩ : ∃ s, s = stName0 k := ⟨_, rfl⟩
  rw [← hs] at b ⊢
  have h0 : (0 : Int) ≤ k := by omega
  have h8 : (k : Int) < 7 := by omega
  clear T2 hs
  go_enter Tryd.func12, Tryd.ntmps12
  go_wp2
  go_ret
  exact ⟨rfl, rfl⟩
theorem sname_out (n : Int) (w : World) (hn : 7 ≤ n) : Calls Tryd.prog 12 #[.int .u64 n] w fun e w' => e = .returned (.string { data := #[] }) ∧ w = w' := by
  go_enter Tryd.func12, Tryd.ntmps12
  go_wp2
  go_ret
  exact ⟨rfl, rfl⟩
theorem rname_in (k : Nat) (w : World) (hk : k < 7) : Calls Tryd.prog 13 #[.int .u64 k] w fun e w' => e = .returned (.string (stName0 k)) ∧ w = w' := by
  match k, hk with
  | 0, _ | 1, _ | 2, _ | 3, _ | 4, _ | 5, _ | 6, _ =>
    simp only [stName0]
    go_enter Tryd.func13, Tryd.ntmps13
    go_wp2
    go_ret
    exact ⟨rfl, rfl⟩
theorem rname_out (n : Int) (w : World) (hn : 7 ≤ n) : Calls Tryd.prog 13 #[.int .u64 n] w fun e w' => e = .returned (.string { data := #[] }) ∧ w = w' := by
  have q0 : (n == 0) = false := beq_eq_false_iff_ne.2 (by omega)
  have q1 : (n == 1) = false := beq_eq_false_iff_ne.2 (by omega)
  have q2 : (n == 2) = false := beq_eq_false_iff_ne.2 (by omega)
  have q3 : (n == 3) = false := beq_eq_false_iff_ne.2 (by omega)
  have q4 : (n == 4) = false := beq_eq_false_iff_ne.2 (by omega)
  have q5 : (n == 5) = false := beq_eq_false_iff_ne.2 (by omega)
  have q6 : (n == 6) = false := beq_eq_false_iff_ne.2 (by omega)
  go_enter Tryd.func13, Tryd.ntmps13
  go_wp2
  go_ret
  exact ⟨rfl, rfl⟩
theorem lives14 (w : World) (T1 : StSteps w) : Calls Tryd.prog 9 #[] w fun e w' => e = .returned (.bool true) ∧ w = w' := by
  have HT := hid T1
  clear T1
  go_enter Tryd.func9, Tryd.ntmps9
  go_wp2_with fail
  refine (slegal_in 2 6 _ HT.out (by omega) (by omega)).mono ?_
  rintro e w2 ⟨rfl, rfl⟩
  rw [show stLegal (2 : Nat) (6 : Nat) = true from rfl]
  go_wp2_with fail
  refine (slegal_in 6 1 _ HT.out (by omega) (by omega)).mono ?_
  rintro e w2 ⟨rfl, rfl⟩
  rw [show stLegal (6 : Nat) (1 : Nat) = false from rfl]
  go_wp2
  go_ret
  exact ⟨rfl, rfl⟩
end Go.Proofs.YtlahinefnhfifaaDoor
