/- Contracts of event.Right (for a seat without event.Name too). -/
import Derived.Test.YtbplbdopnhnhdaaGreatDoorEis
import Derived.Test.YtbplbdopnhnhdaaGreatDoorText
import Derived.Test.YtbplbdopnhnhdaaGreatDoorFlat
namespace Go.Proofs.YtbplbdopnhnhdaaGreatDoor
open Go.RowKit
set_option linter.unusedVariables false
set_option linter.unusedSimpArgs false

/-- May an event of this kind be, and have this value? -/
def evRight (k g m p v : Int) : Bool := (decide (0 ≤ k) && decide (k < 8)) && ((decide (0 ≤ g) && decide (g < 4096)) && ((decide (-1 ≤ m) && decide (m < 128)) && ((decide (-1 ≤ p) && decide (p < 64)) && (if k = 5 then true else if k = 6 then decide (0 ≤ v) && decide (v ≤ 65535) else decide (v = 0)))))

theorem within_any (n a b : Int) (w : World) : Calls Tryz.prog 145 #[.int .i64 n, .int .i64 a, .int .i64 b] w fun e w' => e = .returned (.bool (decide (a ≤ n) && decide (n < b))) ∧ w = w' := by
  by_cases h : a ≤ n
  · by_cases h2 : n < b
    · rw [show (decide (a ≤ n) && decide (n < b)) = true by simp [h, h2]]
      have t1 : decide (a ≤ n) = true := decide_eq_true h
      have t2 : decide (n < b) = true := decide_eq_true h2
      go_enter Tryz.func145, Tryz.ntmps145
      go_wp2
      go_ret
      exact ⟨rfl, rfl⟩
    · rw [show (decide (a ≤ n) && decide (n < b)) = false by simp [h2]]
      have t1 : decide (a ≤ n) = true := decide_eq_true h
      have t2 : decide (n < b) = false := decide_eq_false h2
      go_enter Tryz.func145, Tryz.ntmps145
      go_wp2
      go_ret
      exact ⟨rfl, rfl⟩
  · rw [show (decide (a ≤ n) && decide (n < b)) = false by simp [h]]
    have t1 : decide (a ≤ n) = false := decide_eq_false h
    go_enter Tryz.func145, Tryz.ntmps145
    go_wp2
    go_ret
    exact ⟨rfl, rfl⟩
theorem eis_any (n : Int) (w : World) : Calls Tryz.prog 144 #[.int .i64 n] w fun e w' => e = .returned (.bool (decide (0 ≤ n) && decide (n < 8))) ∧ w = w' := by
  by_cases h : n < 0 ∨ 7 < n
  · rw [show (decide (0 ≤ n) && decide (n < 8)) = false by simp; omega]
    exact eis_out n w h
  · obtain ⟨k, rfl⟩ : ∃ k : Nat, n = k := ⟨n.toNat, by omega⟩
    rw [show (decide ((0 : Int) ≤ k) && decide ((k : Int) < 8)) = true by simp; omega]
    exact eis_in k w (by omega)
theorem valued_any (k g m p v : Int) (w : World) : Calls Tryz.prog 146 #[.agg #[.int .i64 k, .int .i64 g, .int .i64 m, .int .i64 p, .int .i64 v]] w fun e w' => e = .returned (.bool (if k = 5 then true else if k = 6 then decide (0 ≤ v) && decide (v ≤ 65535) else decide (v = 0))) ∧ Below w.heap.size w w' := by
  have hb := hid ((Below.refl w.heap.size w).alloc (Nat.le_refl _) (.cells #[.int .i64 k, .int .i64 g, .int .i64 m, .int .i64 p, .int .i64 v] 34))
  by_cases h5 : k = 5
  · rw [if_pos h5]
    subst h5
    go_enter Tryz.func146, Tryz.ntmps146
    go_wp2
    go_ret
    exact ⟨rfl, hb.out⟩
  · rw [if_neg h5]
    have q5 : (k == 5) = false := beq_eq_false_iff_ne.2 h5
    by_cases h6 : k = 6
    · rw [if_pos h6]
      subst h6
      by_cases h : (0 : Int) ≤ v
      · by_cases h2 : v ≤ 65535
        · rw [show (decide ((0 : Int) ≤ v) && decide (v ≤ 65535)) = true by simp [h, h2]]
          have t1 : decide ((0 : Int) ≤ v) = true := decide_eq_true h
          have t2 : decide (v ≤ 65535) = true := decide_eq_true h2
          go_enter Tryz.func146, Tryz.ntmps146
          go_wp2
          go_ret
          exact ⟨rfl, hb.out⟩
        · rw [show (decide ((0 : Int) ≤ v) && decide (v ≤ 65535)) = false by simp [h2]]
          have t1 : decide ((0 : Int) ≤ v) = true := decide_eq_true h
          have t2 : decide (v ≤ 65535) = false := decide_eq_false h2
          go_enter Tryz.func146, Tryz.ntmps146
          go_wp2
          go_ret
          exact ⟨rfl, hb.out⟩
      · rw [show (decide ((0 : Int) ≤ v) && decide (v ≤ 65535)) = false by simp [h]]
        have t1 : decide ((0 : Int) ≤ v) = false := decide_eq_false h
        go_enter Tryz.func146, Tryz.ntmps146
        go_wp2
        go_ret
        exact ⟨rfl, hb.out⟩
    · rw [if_neg h6]
      have q6 : (k == 6) = false := beq_eq_false_iff_ne.2 h6
      by_cases hv : v = 0
      · subst hv
        go_enter Tryz.func146, Tryz.ntmps146
        go_wp2
        go_ret
        exact ⟨rfl, hb.out⟩
      · have q7 : (v == 0) = false := beq_eq_false_iff_ne.2 hv
        rw [show decide (v = 0) = false by simp [hv]]
        go_enter Tryz.func146, Tryz.ntmps146
        go_wp2
        go_ret
        exact ⟨rfl, hb.out⟩

set_option maxHeartbeats 8000000 in
theorem right_any (k g m p v : Int) (w : World) : Calls Tryz.prog 111 #[.agg #[.int .i64 k, .int .i64 g, .int .i64 m, .int .i64 p, .int .i64 v]] w fun e w' => e = .returned (.bool (evRight k g m p v)) ∧ Below w.heap.size w w' := by
  have hb := hid ((Below.refl w.heap.size w).alloc (Nat.le_refl _) (.cells #[.int .i64 k, .int .i64 g, .int .i64 m, .int .i64 p, .int .i64 v] 34))
  have VA := hid (fun w => valued_any k g m p v w)
  have W1 := hid (fun w => eis_any k w)
  have W2 := hid (fun w => within_any g 0 4096 w)
  have W3 := hid (fun w => within_any m (-1) 128 w)
  have W4 := hid (fun w => within_any p (-1) 64 w)
  unfold evRight
  generalize (if k = 5 then true else if k = 6 then decide (0 ≤ v) && decide (v ≤ 65535) else decide (v = 0)) = b5 at VA ⊢
  generalize (decide (0 ≤ k) && decide (k < 8)) = b1 at W1 ⊢
  generalize (decide (0 ≤ g) && decide (g < 4096)) = b2 at W2 ⊢
  generalize (decide (-1 ≤ m) && decide (m < 128)) = b3 at W3 ⊢
  generalize (decide (-1 ≤ p) && decide (p < 64)) = b4 at W4 ⊢
  go_enter Tryz.func111, Tryz.ntmps111
  go_wp2_with fail
  refine (W1.out _).mono ?_
  rintro e w2 ⟨rfl, rfl⟩
  cases b1
  · go_wp2
    go_ret
    exact ⟨rfl, hb.out⟩
  go_wp2_with fail
  refine (W2.out _).mono ?_
  rintro e w2 ⟨rfl, rfl⟩
  cases b2
  · go_wp2
    go_ret
    exact ⟨rfl, hb.out⟩
  go_wp2_with fail
  refine (W3.out _).mono ?_
  rintro e w2 ⟨rfl, rfl⟩
  cases b3
  · go_wp2
    go_ret
    exact ⟨rfl, hb.out⟩
  go_wp2_with fail
  refine (W4.out _).mono ?_
  rintro e w2 ⟨rfl, rfl⟩
  cases b4
  · go_wp2
    go_ret
    exact ⟨rfl, hb.out⟩
  go_wp2_with fail
  refine (VA.out _).mono ?_
  rintro e w2 ⟨rfl, hb2⟩
  have hF := hid (hb.out.trans (hb2.mono (by simp)))
  clear hb2 hb
  cases b5
  · go_wp2
    go_ret
    exact ⟨rfl, hF.out⟩
  · go_wp2
    go_ret
    exact ⟨rfl, hF.out⟩
end Go.Proofs.YtbplbdopnhnhdaaGreatDoor
