/- More of layer 7: the document's Share; the law's row of numbers from any number on; Queue.Has. -/
import Derived.Test.YtpmggkngakdkhaaGlobal3
import Derived.Test.YtpmggkngakdkhaaHas5
namespace Go.Proofs.Ytpmggkngakdkhaa
set_option linter.unusedVariables false
set_option linter.unusedSimpArgs false
open Go.RowKit

theorem share_fin {n k : Nat} {P : Int} (hP : 1 ≤ P) (h1 : ((k : Int) - 1) * P ≤ n) (h2 : (n : Int) < k * P) : (n : Int) / P + 1 = k := by
  have a : (k : Int) - 1 ≤ (n : Int) / P := (Int.le_ediv_iff_mul_le (by omega)).2 h1
  have b : (n : Int) / P < k := (Int.ediv_lt_iff_lt_mul (by omega)).2 h2
  omega
theorem ret_i {a b : Int} (h : b = a) : Ending.returned (.int .i64 a) = .returned (.int .i64 b) := by rw [h]

set_option maxHeartbeats 1000000 in
theorem refshare_lo (n : Nat) (m : Int) (hm : m < 1) (hn : n ≤ 100000) (s : Int) (hs : s = min (min ((n : Int) / 1 + 1) n) 128) (w : World) :
    Calls Try.prog 48 #[.int .i64 n, .int .i64 m] w fun e w' => e = .returned (.int .i64 s) ∧ w = w' := by
  have HS := hid hs
  clear hs
  go_enter Try.func48, Try.ntmps48
  go_wp2_with fail
  go_loop [5] (fun i => ∃ (k : Nat), 1 ≤ k ∧ k ≤ n + 1 ∧ i = .int .i64 k ∧ Hid (((k : Int) - 1) * 1 ≤ n)) (fun i => n + 1 - (intOf i).toNat)
  case atStart => exact ⟨1, by omega, by omega, rfl, by simp [Hid]⟩
  case round =>
    obtain ⟨k, hk1, hk2, rfl, HK⟩ := hrel
    by_cases hlt : (k : Int) ≤ n
    · have HK2 := hid (show (((k + 1 : Nat) : Int) - 1) * 1 ≤ n by
        have e : ((k + 1 : Nat) : Int) - 1 = k := by omega
        rw [e]; omega)
      have hkn : k ≤ n := by
        omega
      go_wp2
      go_round
      case rel => exact ⟨k + 1, by omega, by omega, by go_num, HK2⟩
      case measure => simp [intOf]; omega
    · have e : s = min (min (k : Int) n) 128 := by
        rw [HS.out, share_fin (P := 1) (k := k) (by omega) HK.out (by omega)]
      have HE := hid e
      clear HS HK e
      by_cases h1 : (128 : Int) < k
      · by_cases h2 : (n : Int) < 128
        all_goals
          go_wp2
          go_ret
          refine ⟨ret_i ?_, rfl⟩
          rw [HE.out]
          omega
      · by_cases h2 : (n : Int) < k
        all_goals
          go_wp2
          go_ret
          refine ⟨ret_i ?_, rfl⟩
          rw [HE.out]
          omega

set_option maxHeartbeats 1000000 in
theorem refshare_hi (n : Nat) (m : Int) (hm : 64 < m) (hn : n ≤ 100000) (s : Int) (hs : s = min (min ((n : Int) / 64 + 1) n) 128) (w : World) :
    Calls Try.prog 48 #[.int .i64 n, .int .i64 m] w fun e w' => e = .returned (.int .i64 s) ∧ w = w' := by
  have HS := hid hs
  clear hs
  go_enter Try.func48, Try.ntmps48
  go_wp2_with fail
  go_loop [5] (fun i => ∃ (k : Nat), 1 ≤ k ∧ k ≤ n + 1 ∧ i = .int .i64 k ∧ Hid (((k : Int) - 1) * 64 ≤ n)) (fun i => n + 1 - (intOf i).toNat)
  case atStart => exact ⟨1, by omega, by omega, rfl, by simp [Hid]⟩
  case round =>
    obtain ⟨k, hk1, hk2, rfl, HK⟩ := hrel
    by_cases hlt : (k : Int) * 64 ≤ n
    · have HK2 := hid (show (((k + 1 : Nat) : Int) - 1) * 64 ≤ n by
        have e : ((k + 1 : Nat) : Int) - 1 = k := by omega
        rw [e]; omega)
      have hkn : k ≤ n := by
        omega
      go_wp2
      go_round
      case rel => exact ⟨k + 1, by omega, by omega, by go_num, HK2⟩
      case measure => simp [intOf]; omega
    · have e : s = min (min (k : Int) n) 128 := by
        rw [HS.out, share_fin (P := 64) (k := k) (by omega) HK.out (by omega)]
      have HE := hid e
      clear HS HK e
      by_cases h1 : (128 : Int) < k
      · by_cases h2 : (n : Int) < 128
        all_goals
          go_wp2
          go_ret
          refine ⟨ret_i ?_, rfl⟩
          rw [HE.out]
          omega
      · by_cases h2 : (n : Int) < k
        all_goals
          go_wp2
          go_ret
          refine ⟨ret_i ?_, rfl⟩
          rw [HE.out]
          omega

set_option maxHeartbeats 1000000 in
theorem refshare_mid (n : Nat) (m : Int) (hm : 1 ≤ m) (hm2 : m ≤ 64) (hn : n ≤ 100000) (s : Int) (hs : s = min (min ((n : Int) / m + 1) n) 128) (w : World) :
    Calls Try.prog 48 #[.int .i64 n, .int .i64 m] w fun e w' => e = .returned (.int .i64 s) ∧ w = w' := by
  have HS := hid hs
  clear hs
  go_enter Try.func48, Try.ntmps48
  go_wp2_with fail
  go_loop [5] (fun i => ∃ (k : Nat), 1 ≤ k ∧ k ≤ n + 1 ∧ i = .int .i64 k ∧ Hid (((k : Int) - 1) * m ≤ n)) (fun i => n + 1 - (intOf i).toNat)
  case atStart => exact ⟨1, by omega, by omega, rfl, by simp [Hid]⟩
  case round =>
    obtain ⟨k, hk1, hk2, rfl, HK⟩ := hrel
    have p0 : 0 ≤ (k : Int) * m := Int.mul_nonneg (by omega) (by omega)
    have p1 : (k : Int) * m ≤ 100001 * 64 := Int.mul_le_mul (by omega) hm2 (by omega) (by omega)
    by_cases hlt : (k : Int) * m ≤ n
    · have HK2 := hid (show (((k + 1 : Nat) : Int) - 1) * m ≤ n by
        have e : ((k + 1 : Nat) : Int) - 1 = k := by omega
        rw [e]; omega)
      have hkn : k ≤ n := by
        have : (k : Int) * 1 ≤ (k : Int) * m := Int.mul_le_mul_of_nonneg_left hm (by omega)
        omega
      go_wp2
      go_round
      case rel => exact ⟨k + 1, by omega, by omega, by go_num, HK2⟩
      case measure => simp [intOf]; omega
    · have e : s = min (min (k : Int) n) 128 := by
        rw [HS.out, share_fin (P := m) (k := k) (by omega) HK.out (by omega)]
      have HE := hid e
      clear HS HK e
      by_cases h1 : (128 : Int) < k
      · by_cases h2 : (n : Int) < 128
        all_goals
          go_wp2
          go_ret
          refine ⟨ret_i ?_, rfl⟩
          rw [HE.out]
          omega
      · by_cases h2 : (n : Int) < k
        all_goals
          go_wp2
          go_ret
          refine ⟨ret_i ?_, rfl⟩
          rw [HE.out]
          omega

theorem refshare (n : Nat) (m P : Int) (hP : P = min (max m 1) 64) (hn : n ≤ 100000) (s : Int) (hs : s = min (min ((n : Int) / P + 1) n) 128) (w : World) :
    Calls Try.prog 48 #[.int .i64 n, .int .i64 m] w fun e w' => e = .returned (.int .i64 s) ∧ w = w' := by
  by_cases h1 : m < 1
  · have : P = 1 := by omega
    exact refshare_lo n m h1 hn s (by rw [hs, this]) w
  · by_cases h2 : 64 < m
    · have : P = 64 := by omega
      exact refshare_hi n m h2 hn s (by rw [hs, this]) w
    · have : P = m := by omega
      exact refshare_mid n m (by omega) (by omega) hn s (by rw [hs, this]) w

/-- The law's row, from any number on. -/
def rowZ (f : Int) (n : Nat) : List Int := (List.range n).map fun (i : Nat) => f.tmod 4096 + (i : Int)
theorem rowZ_succ (f : Int) (n : Nat) : rowZ f (n + 1) = rowZ f n ++ [f.tmod 4096 + (n : Int)] := by simp [rowZ, List.range_succ]
theorem rowZ_length (f : Int) (n : Nat) : (rowZ f n).length = n := by simp [rowZ]
theorem rowZ_fin {w wr : World} {f : Int} {k : Nat} {v : Value} (h : wr.ownsRow w.heap.size 3 1 v k ((rowZ f k).map (Value.int .i64))) (hb : Below w.heap.size w wr) : ClonePost (rowZ f k) w (.returned v) wr :=
  ⟨_, rfl, by unfold Owns; rw [rowZ_length]; exact h, hb⟩

set_option maxHeartbeats 2000000 in
theorem lawrowZ (f : Int) (n : Nat) (hn : n ≤ 100000) (w : World) :
    Calls Try.prog 45 #[.int .i64 f, .int .i64 n] w (ClonePost (rowZ f n) w) := by
  have hf1 : -4095 ≤ f.tmod 4096 := by have := Int.lt_tmod_of_pos f (show (0 : Int) < 4096 by omega); omega
  have hf2 : f.tmod 4096 ≤ 4095 := by have := Int.tmod_lt_of_pos f (show (0 : Int) < 4096 by omega); omega
  go_enter Try.func45, Try.ntmps45
  go_wp2_with fail
  go_loopw [5, 8] (fun v i wr => ∃ (k : Nat), k ≤ n ∧ i = .int .i64 k ∧ wr.ownsRow w.heap.size 3 1 v k ((rowZ f k).map (Value.int .i64)) ∧ w.heap.size ≤ wr.heap.size ∧ Below w.heap.size w wr)
    (fun _ i _ => n - (intOf i).toNat)
  case atStart => exact ⟨0, by omega, rfl, World.ownsRow_nil _ _ _ _, Nat.le_refl _, Below.refl _ _⟩
  case round =>
    obtain ⟨k, hk, rfl, hown, hsz, hbr⟩ := hrel
    by_cases hlt : k < n
    · obtain ⟨i0, hi, hz0, hz1, hz2⟩ := info_parts infoInt
      go_wp2_with (at_builtin; refine wpList_append_own_at _ rfl _ _ 22 rfl w.heap.size 3 i0 (.int .i64 0) 1 8 Try.underlying22 hi hz0 hz1 hz2 rfl (by decide) _ _ _ rfl (hown.alloc _) ⟨wr.heap.size, 0, none⟩ 1 1 [.int .i64 (f.tmod 4096 + (k : Int))] rfl rfl ?c1 ?c2 ?c3 ?c4 ?c5 ?_)
      case c1 => exact cell_one_new _ _ _
      case c2 => intro u hu; simp at hu; subst hu; rfl
      case c3 => unfold maxLen; omega
      case c4 => omega
      case c5 => simp; omega
      intro v' w6 hown6 hgrow _ _
      have hown7 : w6.ownsRow w.heap.size 3 1 v' (k + 1) ((rowZ f (k + 1)).map (Value.int .i64)) := by
        rw [rowZ_succ, List.map_append]; exact hown6
      have hlt6 := hown.lt
      have hb6 : Below w.heap.size w w6 := (hbr.alloc hsz _).grown hgrow (by simp; omega) (fun q hq => (hlt6 q hq).1)
      have hs6 := hgrow.size
      simp only [World.size_alloc] at hs6
      clear hown6 hgrow hown hlt6 hi hz0 hz1 hz2
      go_wp2
      go_roundw
      case rel => exact ⟨k + 1, by omega, by go_num, hown7, by omega, hb6⟩
      case measure => simp [intOf]; omega
    · obtain rfl : k = n := by omega
      have FIN := hid (rowZ_fin hown hbr)
      clear hown
      go_wp2
      go_ret
      exact FIN.out

set_option maxHeartbeats 1000000 in
theorem qhas (q p : Nat) (P : Int) (r : Option Nat) (xs : List Int) (g : Int) (w : World) (h : Qu w q p P r xs) :
    Calls Try.prog 49 #[.pointer (some ⟨q, 0, none⟩), .int .i64 g] w fun e w' => e = .returned (.bool (hasB g xs)) ∧ Quiet w w' := by
  have c0 := h.c0
  have HB := hid h.hb
  clear h
  go_enter Try.func49, Try.ntmps49
  go_wp2_with fail
  refine (bhas_any p r xs g _ HB.out).mono ?_
  rintro e w1 ⟨rfl, hq⟩
  go_wp2
  go_ret
  exact ⟨rfl, hq⟩
end Go.Proofs.Ytpmggkngakdkhaa
