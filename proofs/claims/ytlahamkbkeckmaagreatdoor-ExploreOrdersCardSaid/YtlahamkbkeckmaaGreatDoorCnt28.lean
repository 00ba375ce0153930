/- hostlerref28.Count: as explore.Count, of what is not too large. -/
import Derived.Test.YtlahamkbkeckmaaGreatDoorExp
namespace Go.Proofs.YtlahamkbkeckmaaGreatDoor
open Go.RowKit
set_option linter.unusedVariables false
set_option linter.unusedSimpArgs false
set_option maxRecDepth 20000
set_option maxHeartbeats 4000000 in
theorem rcount28 (m n : Int) (w : World) (hm : m ≤ 1099511627776) (hn : n ≤ 1048576) (hm' : -9223372036854775808 ≤ m) (hn' : -9223372036854775808 ≤ n) :
    Calls Tryz.prog 8 #[.int .i64 m, .int .i64 n] w fun e w' => e = .returned (.int .i64 (ecnt m n)) ∧ w' = w := by
  by_cases hn0 : n = 0
  · subst hn0
    by_cases hm0 : m < 0
    · rw [show ecnt m 0 = 0 by unfold ecnt; rw [if_pos (by omega)]]
      go_enter Tryz.func8, Tryz.ntmps8
      go_wp2
      go_ret
      exact ⟨rfl, rfl⟩
    · rw [show ecnt m 0 = 1 by unfold ecnt; rw [if_neg (by omega), if_pos (.inr rfl)]]
      go_enter Tryz.func8, Tryz.ntmps8
      go_wp2
      go_ret
      exact ⟨rfl, rfl⟩
  · have t0 : (n == 0) = false := by simpa using hn0
    by_cases hm1 : m < 1
    · rw [show ecnt m n = 0 by unfold ecnt; rw [if_pos (by omega)]]
      clear hn0
      go_enter Tryz.func8, Tryz.ntmps8
      go_wp2
      go_ret
      exact ⟨rfl, rfl⟩
    · by_cases hn1 : n < 0
      · rw [show ecnt m n = 0 by unfold ecnt; rw [if_pos (by omega)]]
        clear hn0
        go_enter Tryz.func8, Tryz.ntmps8
        go_wp2
        go_ret
        exact ⟨rfl, rfl⟩
      · obtain ⟨k, rfl⟩ : ∃ k : Nat, n = k := ⟨n.toNat, by omega⟩
        by_cases hmm : m = 1
        · subst hmm
          rw [show ecnt 1 k = 1 by unfold ecnt; rw [if_neg (by omega), if_pos (by omega)]]
          have hk0 : (0 : Int) < k := by omega
          clear hn0
          go_enter Tryz.func8, Tryz.ntmps8
          go_wp2_with fail
          go_loopw [5, 6] (fun x y wr => x = .int .i64 1 ∧ y = .int .i64 0 ∧ wr = w) (fun _ _ _ => 0)
          case atStart => exact ⟨rfl, rfl, rfl⟩
          case round =>
            obtain ⟨rfl, rfl, rfl⟩ := hrel
            go_wp2
            go_ret
            exact ⟨rfl, rfl⟩
        · have hm2 : 2 ≤ m := by omega
          have hk1 : (1 : Int) ≤ k := by omega
          have hk2 : (k : Int) ≤ 1048576 := hn
          clear hn0 hmm hm1 hn1 hn hn'
          obtain ⟨c, hc⟩ : ∃ c, c = ecnt m k := ⟨_, rfl⟩
          rw [← hc]
          have HC := hid hc
          clear hc
          go_enter Tryz.func8, Tryz.ntmps8
          go_wp2_with fail
          go_loopw [5, 6] (fun x y wr => ∃ j : Nat, j ≤ k ∧ x = .int .i64 (m ^ j) ∧ y = .int .i64 j ∧ m ^ j ≤ 1048576 ∧ wr = w) (fun _ y _ => k - (intOf y).toNat)
          case atStart => exact ⟨0, by omega, by rw [Int.pow_zero], rfl, by rw [Int.pow_zero]; omega, rfl⟩
          case round =>
            obtain ⟨j, hj, rfl, rfl, hp, rfl⟩ := hrel
            have hp0 : 0 ≤ m ^ j := Int.le_of_lt (Int.pow_pos (by omega))
            have hp1 : m ^ j * 2 ≤ m ^ j * m := Int.mul_le_mul_of_nonneg_left hm2 hp0
            obtain ⟨pj, hpj⟩ : ∃ pj, pj = m ^ j := ⟨_, rfl⟩
            by_cases hlt : j < k
            · have hPS : m ^ (j + 1) = pj * m := by rw [hpj, Int.pow_succ]
              have hmono : m ^ (j + 1) ≤ m ^ (k : Int).toNat := pow_mono2 hm2 (by omega)
              have hm1k : m ≤ m ^ (k : Int).toNat := by
                have := pow_mono2 hm2 (a := 1) (b := (k : Int).toNat) (by omega)
                rwa [Int.pow_succ, Int.pow_zero, Int.one_mul] at this
              rw [hPS] at hmono
              have hu : pj * m ≤ 1048576 * m := by
                refine Int.mul_le_mul_of_nonneg_right ?_ (by omega)
                rw [hpj]; exact hp
              have hl : 0 ≤ pj * m := by rw [hpj]; exact Int.mul_nonneg hp0 (by omega)
              obtain ⟨pm, hpm⟩ : ∃ pm, pm = pj * m := ⟨_, rfl⟩
              have hw1 : IntKind.i64.wrap (pj * m) = pm := by
                have hb : IntKind.i64.bits = 64 := rfl
                have hs : IntKind.i64.signed = true := rfl
                rw [← hpm]; rw [← hpm] at hu hl
                simp [IntKind.wrap, hb, hs]; split <;> omega
              rw [← hpm] at hmono hu hl hPS
              by_cases hbig : 1048576 < pm ∨ 1048576 < m
              · have E : c = 0 := by
                  rw [HC.out]
                  exact ecnt_big hm2 (by omega) (by omega)
                have EH := hid E
                clear E
                rw [← hpj] at hp hp0
                rw [← hpj]
                clear hpj hPS hp1 hmono hm1k hpm
                rcases (show 1048576 < pm ∨ (pm ≤ 1048576 ∧ 1048576 < m) by omega) with h1 | ⟨h1, h2⟩
                · clear hbig
                  go_wp2
                  go_ret
                  exact ⟨(show Ending.returned (.int .i64 0) = _ by rw [EH.out]), rfl⟩
                · clear hbig
                  go_wp2
                  go_ret
                  exact ⟨(show Ending.returned (.int .i64 0) = _ by rw [EH.out]), rfl⟩
              · have h1 : pm ≤ 1048576 := by omega
                have h2 : m ≤ 1048576 := by omega
                have PS := hid hPS
                rw [← hpj] at hp hp0
                rw [← hpj]
                clear hpj hPS hp1 hmono hm1k hpm hbig
                go_wp2_with fail
                go_roundw
                case rel => exact ⟨j + 1, by omega, by rw [PS.out], by go_num, by rw [PS.out]; exact h1, trivial⟩
                case measure => simp [intOf]; omega
            · obtain rfl : j = k := by omega
              have E := hid (show pj = c by rw [HC.out, hpj]; exact (ecnt_small (m := m) (n := (j : Int)) hm2 (by omega) (by rw [Int.toNat_natCast]; exact hp)).symm)
              rw [← hpj]
              clear hpj hp hp0 hp1
              go_wp2
              go_ret
              exact ⟨(show Ending.returned (.int .i64 pj) = _ by rw [E.out]), rfl⟩
end Go.Proofs.YtlahamkbkeckmaaGreatDoor
