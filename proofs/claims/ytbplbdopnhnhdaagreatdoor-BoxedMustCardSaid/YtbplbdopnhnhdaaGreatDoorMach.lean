/- Contracts of package mach: is, lockOf, around, Fresh, Lock; of the document's Lock. -/
import Derived.Test.YtbplbdopnhnhdaaGreatDoorPre2
import Derived.Test.YtbplbdopnhnhdaaGreatDoorBig
namespace Go.Proofs.YtbplbdopnhnhdaaGreatDoor
open Go.RowKit
set_option linter.unusedVariables false
set_option linter.unusedSimpArgs false

/-- Which lock a ring's number is of. -/
def lkOf (r n : Int) : Int := if 0 ≤ r ∧ r < n then r + 1 else -1
def lkAround (p i n : Int) : Int := if 0 ≤ p ∧ p < n ∧ 0 ≤ i then (p + i % n) % n else -1
/-- Which lock a place of a class takes. -/
def lk (c p i n : Int) : Int := if c = 1 then 0 else if c = 2 then lkOf p n else if c = 3 then lkOf (lkAround p i n) n else if c = 4 then lkOf i n else if c = 5 then n + 1 else -1

theorem lkOf_le (r n : Int) (hn : 1 ≤ n) : lkOf r n ≤ n := by unfold lkOf; split <;> omega
theorem lk_le (c p i n : Int) (hn : 1 ≤ n) : lk c p i n ≤ n + 1 := by
  have h1 := lkOf_le p n hn
  have h2 := lkOf_le (lkAround p i n) n hn
  have h3 := lkOf_le i n hn
  unfold lk
  repeat' split
  all_goals omega
theorem lkOf_ge (r n : Int) : -1 ≤ lkOf r n := by unfold lkOf; split <;> omega
theorem lk_ge (c p i n : Int) (hn : 1 ≤ n) : -1 ≤ lk c p i n := by
  have h1 := lkOf_ge p n
  have h2 := lkOf_ge (lkAround p i n) n
  have h3 := lkOf_ge i n
  unfold lk
  repeat' split
  all_goals omega

theorem lockOf_any (r n : Int) (w : World) (hn : n ≤ 4611686018427387904) : Calls Tryz.prog 86 #[.int .i64 r, .int .i64 n] w fun e w' => e = .returned (.int .i64 (lkOf r n)) ∧ w = w' := by
  by_cases h0 : r < 0
  · have e : lkOf r n = -1 := by unfold lkOf; rw [if_neg (by omega)]
    rw [e]
    clear e
    go_enter Tryz.func86, Tryz.ntmps86
    go_wp2
    go_ret
    exact ⟨rfl, rfl⟩
  · by_cases h1 : n ≤ r
    · have e : lkOf r n = -1 := by unfold lkOf; rw [if_neg (by omega)]
      rw [e]
      clear e
      go_enter Tryz.func86, Tryz.ntmps86
      go_wp2
      go_ret
      exact ⟨rfl, rfl⟩
    · have e : lkOf r n = r + 1 := by unfold lkOf; rw [if_pos (by omega)]
      rw [e]
      have hw : IntKind.i64.wrap (r + 1) = r + 1 := IntWalk.i64_in _ (by omega)
      clear e
      go_enter Tryz.func86, Tryz.ntmps86
      go_wp2
      go_ret
      exact ⟨rfl, rfl⟩

theorem around_any (p i n : Int) (w : World) (hn : 1 ≤ n) (hn2 : n ≤ 4611686018427387904) (hi : i ≤ 9223372036854775807) : Calls Tryz.prog 87 #[.int .i64 p, .int .i64 i, .int .i64 n] w fun e w' => e = .returned (.int .i64 (lkAround p i n)) ∧ w = w' := by
  by_cases h0 : p < 0
  · have e : lkAround p i n = -1 := by unfold lkAround; rw [if_neg (by omega)]
    rw [e]
    clear e
    go_enter Tryz.func87, Tryz.ntmps87
    go_wp2
    go_ret
    exact ⟨rfl, rfl⟩
  · by_cases h1 : n ≤ p
    · have e : lkAround p i n = -1 := by unfold lkAround; rw [if_neg (by omega)]
      rw [e]
      clear e
      go_enter Tryz.func87, Tryz.ntmps87
      go_wp2
      go_ret
      exact ⟨rfl, rfl⟩
    · by_cases h2 : i < 0
      · have e : lkAround p i n = -1 := by unfold lkAround; rw [if_neg (by omega)]
        rw [e]
        clear e
        go_enter Tryz.func87, Tryz.ntmps87
        go_wp2
        go_ret
        exact ⟨rfl, rfl⟩
      · obtain ⟨j, hj⟩ : ∃ j, j = i % n := ⟨_, rfl⟩
        have j0 : 0 ≤ j := by rw [hj]; exact Int.emod_nonneg _ (by omega)
        have j1 : j < n := by rw [hj]; exact Int.emod_lt_of_pos _ (by omega)
        have ht : i.tmod n = j := by rw [Int.tmod_eq_emod_of_nonneg (by omega), hj]
        have hw : IntKind.i64.wrap j = j := IntWalk.i64_in _ (by omega)
        have hw2 : IntKind.i64.wrap (n - p) = n - p := IntWalk.i64_in _ (by omega)
        have hn0 : (n == 0) = false := beq_eq_false_iff_ne.2 (by omega)
        by_cases h3 : n - p ≤ j
        · have e : lkAround p i n = j - (n - p) := by
            unfold lkAround; rw [if_pos (by omega), ← hj]
            have : p + j = (j - (n - p)) + n := by omega
            rw [this, Int.add_emod_right]
            exact Int.emod_eq_of_lt (by omega) (by omega)
          rw [e]
          have hw3 : IntKind.i64.wrap (j - (n - p)) = j - (n - p) := IntWalk.i64_in _ (by omega)
          clear e hj
          go_enter Tryz.func87, Tryz.ntmps87
          go_wp2
          go_ret
          exact ⟨rfl, rfl⟩
        · have e : lkAround p i n = p + j := by
            unfold lkAround; rw [if_pos (by omega), ← hj]
            exact Int.emod_eq_of_lt (by omega) (by omega)
          rw [e]
          have hw3 : IntKind.i64.wrap (p + j) = p + j := IntWalk.i64_in _ (by omega)
          clear e hj
          go_enter Tryz.func87, Tryz.ntmps87
          go_wp2
          go_ret
          exact ⟨rfl, rfl⟩

/-- A machine with only place, P and I set. -/
@[reducible] def mach0 (pl p i : Int) : Array Value := #[.int .i64 pl, .int .i64 p, .int .i64 (-1), .int .i64 (-1), .int .i64 (-1), .int .i64 (-1), .int .i64 i, .bool false, .bool false, .slice none 0 0, .int .i64 0, .int .i64 0, .int .i64 0, .int .i64 0, .int .i64 0, .int .i64 0, .int .u64 0, .int .i64 0]

theorem mis_in (k : Nat) (w : World) (hk : k < 31) : Calls Tryz.prog 85 #[.int .i64 k] w fun e w' => e = .returned (.bool true) ∧ w = w' := by
  have t1 : decide ((k : Int) < 31) = true := decide_eq_true (by omega)
  have t2 : decide ((0 : Int) ≤ k) = true := decide_eq_true (by omega)
  go_enter Tryz.func85, Tryz.ntmps85
  go_wp2
  go_ret
  exact ⟨rfl, rfl⟩
theorem mis_out (n : Int) (w : World) (hn : n < 0 ∨ 30 < n) : Calls Tryz.prog 85 #[.int .i64 n] w fun e w' => e = .returned (.bool false) ∧ w = w' := by
  rcases hn with h | h
  · have t2 : decide ((0 : Int) ≤ n) = false := decide_eq_false (by omega)
    go_enter Tryz.func85, Tryz.ntmps85
    go_wp2
    go_ret
    exact ⟨rfl, rfl⟩
  · have t1 : decide ((n : Int) < 31) = false := decide_eq_false (by omega)
    have t2 : decide ((0 : Int) ≤ n) = true := decide_eq_true (by omega)
    go_enter Tryz.func85, Tryz.ntmps85
    go_wp2
    go_ret
    exact ⟨rfl, rfl⟩

end Go.Proofs.YtbplbdopnhnhdaaGreatDoor
