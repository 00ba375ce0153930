/- explore.Count: how many orders. -/
import Derived.Test.YtfpkgkjmpcoppaaGreatDoorPre1
namespace Go.Proofs.YtfpkgkjmpcoppaaGreatDoor
open Go.RowKit
set_option linter.unusedVariables false
set_option linter.unusedSimpArgs false
set_option maxRecDepth 20000
/-- How many orders there are; 0, if they are too many. -/
def ecnt (m n : Int) : Int := if m < 0 ∨ n < 0 ∨ (m = 0 ∧ 0 < n) then 0 else if m ≤ 1 ∨ n = 0 then 1 else if m ^ n.toNat ≤ 1048576 then m ^ n.toNat else 0
theorem pow_mono2 {m : Int} (hm : 2 ≤ m) {a b : Nat} (h : a ≤ b) : m ^ a ≤ m ^ b := by
  obtain ⟨c, rfl⟩ := Nat.exists_eq_add_of_le h
  rw [Int.pow_add]
  have h1 : 1 ≤ m ^ c := by have : 0 < m ^ c := Int.pow_pos (by omega); omega
  have h2 : 0 ≤ m ^ a := Int.le_of_lt (Int.pow_pos (by omega))
  calc m ^ a = m ^ a * 1 := by rw [Int.mul_one]
    _ ≤ m ^ a * m ^ c := Int.mul_le_mul_of_nonneg_left h1 h2
theorem ecnt_big {m n : Int} (hm : 2 ≤ m) (hn : 0 < n) (h : 1048576 < m ^ n.toNat) : ecnt m n = 0 := by
  unfold ecnt
  rw [if_neg (by omega), if_neg (by omega), if_neg (by omega)]
theorem ecnt_small {m n : Int} (hm : 2 ≤ m) (hn : 0 < n) (h : m ^ n.toNat ≤ 1048576) : ecnt m n = m ^ n.toNat := by
  unfold ecnt
  rw [if_neg (by omega), if_neg (by omega), if_pos h]
theorem gt_quo {m p : Int} (hm : 2 ≤ m) (hp : 0 ≤ p) : (1048576 / m < p) ↔ 1048576 < p * m := by
  constructor
  · intro h
    have := Int.lt_ediv_add_one_mul_self 1048576 (show 0 < m by omega)
    have h2 : (1048576 / m + 1) * m ≤ p * m := Int.mul_le_mul_of_nonneg_right (by omega) (by omega)
    omega
  · intro h
    exact Int.ediv_lt_of_lt_mul (by omega) h
set_option maxHeartbeats 4000000 in
theorem ecount (m n : Int) (w : World) (hm : m ≤ 9223372036854775807) (hn : n ≤ 9223372036854775807) :
    Calls Tryz.prog 34 #[.int .i64 m, .int .i64 n] w fun e w' => e = .returned (.int .i64 (ecnt m n)) ∧ w' = w := by
  by_cases h1 : m < 0 ∨ n < 0 ∨ (m = 0 ∧ 0 < n)
  · rw [show ecnt m n = 0 by unfold ecnt; rw [if_pos h1]]
    by_cases hm0 : m < 0
    · go_enter Tryz.func34, Tryz.ntmps34
      go_wp2
      go_ret
      exact ⟨rfl, rfl⟩
    · by_cases hn0 : n < 0
      · go_enter Tryz.func34, Tryz.ntmps34
        go_wp2
        go_ret
        exact ⟨rfl, rfl⟩
      · have hm1 : m = 0 := by omega
        have hn1 : 0 < n := by omega
        subst hm1
        clear h1
        go_enter Tryz.func34, Tryz.ntmps34
        go_wp2
        go_ret
        exact ⟨rfl, rfl⟩
  · have a1 : ¬ m < 0 := by omega
    have a2 : ¬ n < 0 := by omega
    by_cases h2 : m ≤ 1 ∨ n = 0
    · rw [show ecnt m n = 1 by unfold ecnt; rw [if_neg h1, if_pos h2]]
      by_cases hn0 : n = 0
      · subst hn0
        by_cases hm0 : m = 0
        · subst hm0
          clear h1 h2
          go_enter Tryz.func34, Tryz.ntmps34
          go_wp2
          go_ret
          exact ⟨rfl, rfl⟩
        · have t : (m == 0) = false := by simpa using hm0
          by_cases hmm : m ≤ 1
          · clear h1 h2
            go_enter Tryz.func34, Tryz.ntmps34
            go_wp2
            go_ret
            exact ⟨rfl, rfl⟩
          · clear h1 h2
            go_enter Tryz.func34, Tryz.ntmps34
            go_wp2
            go_ret
            exact ⟨rfl, rfl⟩
      · have hmm : m = 1 := by omega
        subst hmm
        clear h1 h2
        go_enter Tryz.func34, Tryz.ntmps34
        go_wp2
        go_ret
        exact ⟨rfl, rfl⟩
    · have hm2 : 2 ≤ m := by omega
      have hn2 : 0 < n := by omega
      have t0 : (m == 0) = false := by have : m ≠ 0 := by omega
                                       simpa using this
      have t1 : ¬ m ≤ 1 := by omega
      have t2 : (n == 0) = false := by have : n ≠ 0 := by omega
                                       simpa using this
      have m0 : m ≠ 0 := by omega
      clear h1 h2
      go_enter Tryz.func34, Tryz.ntmps34
      go_wp2_with fail
      go_loopw [5, 29] (fun x i wr => ∃ k : Nat, (k : Int) ≤ n ∧ x = .int .i64 (m ^ k) ∧ i = .int .i64 k ∧ m ^ k ≤ 1048576 ∧ wr = w) (fun _ i _ => n.toNat - (intOf i).toNat)
      case atStart => exact ⟨0, by omega, by rw [Int.pow_zero], rfl, by rw [Int.pow_zero]; omega, rfl⟩
      case round =>
        obtain ⟨k, hk, rfl, rfl, hp, rfl⟩ := hrel
        have hp0 : 0 ≤ m ^ k := Int.le_of_lt (Int.pow_pos (by omega))
        obtain ⟨pk, hpk⟩ : ∃ pk, pk = m ^ k := ⟨_, rfl⟩
        by_cases hlt : (k : Int) < n
        · have hq := gt_quo hm2 hp0
          by_cases hbig : 1048576 / m < m ^ k
          · have hb : 1048576 < m ^ n.toNat := by
              have := hq.1 hbig
              rw [← Int.pow_succ] at this
              exact Int.lt_of_lt_of_le this (pow_mono2 hm2 (by omega))
            have E := hid (ecnt_big hm2 hn2 hb)
            rw [← hpk] at hbig hp hp0
            rw [← hpk]
            clear hq hb hpk
            go_wp2
            go_ret
            exact ⟨(show Ending.returned (.int .i64 0) = _ by rw [E.out]), rfl⟩
          · have hns : pk * m ≤ 1048576 := by
              rw [hpk]
              have := mt hq.2 hbig
              omega
            have hns0 : 0 ≤ pk * m := by rw [hpk]; exact Int.mul_nonneg hp0 (by omega)
            have PK := hid (show m ^ (k + 1) = pk * m by rw [hpk, Int.pow_succ])
            rw [← hpk] at hbig hp hp0
            rw [← hpk]
            clear hq hpk
            go_wp2_with fail
            go_roundw
            case rel => exact ⟨k + 1, by omega, by rw [PK.out], by go_num, by rw [PK.out]; exact hns, trivial⟩
            case measure => simp [intOf]; omega
        · have hkn : k = n.toNat := by omega
          have E := hid (show ecnt m n = pk by rw [hpk, hkn]; exact ecnt_small hm2 hn2 (by rw [← hkn]; exact hp))
          rw [← hpk]
          clear hpk hp hp0
          go_wp2
          go_ret
          exact ⟨(show Ending.returned (.int .i64 pk) = _ by rw [E.out]), rfl⟩
end Go.Proofs.YtfpkgkjmpcoppaaGreatDoor
