/- explore.Order: the i-th order. -/
import Derived.Test.YtfpkgkjmpcoppaaGreatDoorExp
import Derived.Test.YtfpkgkjmpcoppaaGreatDoorPre1
import Derived.Test.YtfpkgkjmpcoppaaGreatDoorPre2
import Derived.Deep.OwnRows
namespace Go.Proofs.YtfpkgkjmpcoppaaGreatDoor
open Go.RowKit
set_option linter.unusedVariables false
set_option linter.unusedSimpArgs false
set_option maxRecDepth 20000
/-- The i-th order's machine at place j. -/
def edg (m : Int) (n : Nat) (i : Int) (j : Nat) : Int := i / m ^ (n - 1 - j) % m
def edig (m : Int) (n : Nat) (i : Int) : List Int := (List.range n).map (edg m n i)
/-- What stands behind k rounds. -/
def ecs (m : Int) (n : Nat) (i : Int) (k : Nat) : List Int := (List.range n).map fun j => if n - k ≤ j then edg m n i j else 0
theorem ecs_set {m : Int} {n : Nat} {i : Int} {k : Nat} (hk : k < n) : (ecs m n i k).set (n - 1 - k) (i / m ^ k % m) = ecs m n i (k + 1) := by
  refine List.ext_getElem (by simp [ecs]) fun j h1 h2 => ?_
  simp only [ecs, List.length_set, List.length_map, List.length_range] at h1 h2
  rw [List.getElem_set]
  simp only [ecs, List.getElem_map, List.getElem_range]
  split
  · rename_i e
    subst e
    rw [if_pos (by omega)]
    unfold edg
    rw [show n - 1 - (n - 1 - k) = k by omega]
  · rename_i e
    by_cases h : n - k ≤ j
    · rw [if_pos h, if_pos (by omega)]
    · rw [if_neg h, if_neg (by omega)]
theorem ecs_all (m : Int) (n : Nat) (i : Int) : ecs m n i n = edig m n i := by
  unfold ecs edig
  refine List.map_congr_left fun j _ => ?_
  rw [if_pos (by omega)]
theorem ecs_zero (m : Int) (n : Nat) (i : Int) : ecs m n i 0 = List.replicate n 0 := by
  refine List.ext_getElem (by simp [ecs]) fun j h1 h2 => ?_
  simp only [ecs, List.length_map, List.length_range] at h1
  simp only [ecs, List.getElem_map, List.getElem_range, List.getElem_replicate]
  rw [if_neg (by omega)]
theorem ecs_len (m : Int) (n : Nat) (i : Int) (k : Nat) : (ecs m n i k).length = n := by simp [ecs]
theorem infoInt4 : (Tryz.prog.info? 3).map (fun i => (i.zero, i.size, i.bytes)) = some (some (.int .i64 0), 1, 8) := by kernel_rfl
/-- None. -/
theorem eorder_no (m n i : Int) (w : World) (hm : m ≤ 9223372036854775807) (hn : n ≤ 9223372036854775807) (h : i < 0 ∨ ecnt m n ≤ i) :
    Calls Tryz.prog 61 #[.int .i64 m, .int .i64 n, .int .i64 i] w fun e w' => e = .returned (.slice none 0 0) ∧ w' = w := by
  have EC := hid (ecount m n w hm hn)
  by_cases h0 : i < 0
  · clear h
    go_enter Tryz.func61, Tryz.ntmps61
    go_wp2
    go_ret
    exact ⟨rfl, rfl⟩
  · have h1 : ecnt m n ≤ i := by omega
    clear h
    obtain ⟨c, hc⟩ : ∃ c, c = ecnt m n := ⟨_, rfl⟩
    rw [← hc] at EC h1
    clear hc
    go_enter Tryz.func61, Tryz.ntmps61
    go_wp2_with fail
    refine EC.out.mono ?_
    rintro e w2 ⟨rfl, rfl⟩
    clear EC
    go_wp2
    go_ret
    exact ⟨rfl, rfl⟩
set_option maxHeartbeats 4000000 in
theorem eorder (m : Int) (n : Nat) (i : Int) (w : World) (hm1 : 1 ≤ m) (hm : m ≤ 9223372036854775807) (hn : n ≤ 1000) (h0 : 0 ≤ i) (hi : i < ecnt m n) (hi2 : i ≤ 9223372036854775807) :
    Calls Tryz.prog 61 #[.int .i64 m, .int .i64 n, .int .i64 i] w (ClonePost (edig m n i) w) := by
  have EC := hid (ecount m n w hm (by omega))
  obtain ⟨c, hc⟩ : ∃ c, c = ecnt m n := ⟨_, rfl⟩
  rw [← hc] at EC hi
  clear hc
  have hmk := run_make_row' (P := Tryz.prog) 35 3 (.int .i64 0) 8 Tryz.underlying35 infoInt4 rfl .i64 .i64 n (by omega) (by omega) w
  obtain ⟨g, hg⟩ : ∃ g, g = w.heap.size := ⟨_, rfl⟩
  obtain ⟨w1, hw1⟩ : ∃ w1, w1 = w.alloc (.cells (madeCells #[.int .i64 0] n) 3) := ⟨_, rfl⟩
  have ST := hid (show Below w.heap.size w w1 ∧ w1.heap[g]? = some (.cells ((ecs m n i 0).map (Value.int .i64)).toArray 3 (0, 0)) from by
    rw [hw1, hg]
    refine ⟨(Below.refl _ _).alloc (Nat.le_refl _) _, ?_⟩
    rw [heap_alloc_new, ecs_zero]
    have e : madeCells #[Value.int .i64 0] n = ((List.replicate n (0 : Int)).map (Value.int .i64)).toArray := by
      apply Array.toList_inj.1
      rw [toList_madeCells_one]; simp
    rw [e])
  rw [← hg, ← hw1] at hmk
  have HG := hid hg
  clear hg hw1
  have a1 : ¬ i < 0 := by omega
  have a2 : ¬ c ≤ i := by omega
  have a3 : ¬ (2147483647 : Int) < (n : Int) := by omega
  go_enter Tryz.func61, Tryz.ntmps61
  go_wp2_with fail
  refine EC.out.mono ?_
  rintro e w2 ⟨rfl, rfl⟩
  have b2 : decide (c ≤ i) = false := decide_eq_false (by omega)
  have b3 : decide ((2147483647 : Int) < (n : Int)) = false := decide_eq_false (by omega)
  clear EC
  go_wp2_with fail
  clear hmk
  go_loopw [2, 26] (fun x y wr => ∃ k : Nat, k ≤ n ∧ x = .int .i64 (i / m ^ k) ∧ y = .int .i64 k ∧ Hid (Below w2.heap.size w2 wr ∧ wr.heap[g]? = some (.cells ((ecs m n i k).map (Value.int .i64)).toArray 3 (0, 0)))) (fun _ y _ => n - (intOf y).toNat)
  case atStart => exact ⟨0, by omega, by rw [Int.pow_zero, Int.ediv_one], rfl, ST⟩
  case round =>
    clear ST
    obtain ⟨k, hk, rfl, rfl, F⟩ := hrel
    have hmk0 : 0 < m ^ k := Int.pow_pos (by omega)
    obtain ⟨pk, hpk⟩ : ∃ pk, pk = i / m ^ k := ⟨_, rfl⟩
    have hp0 : 0 ≤ pk := by rw [hpk]; exact Int.ediv_nonneg h0 (by omega)
    have hp1 : pk ≤ 9223372036854775807 := by
      have := Int.ediv_le_self (a := i) (m ^ k) h0
      omega
    have PK := hid (show i / m ^ (k + 1) = pk / m by rw [hpk, Int.pow_succ, Int.ediv_ediv_of_nonneg (by omega)])
    have HPK := hid hpk
    rw [← hpk]
    clear hpk
    by_cases hlt : k < n
    · obtain ⟨t, ht⟩ : ∃ t, t = n - 1 - k := ⟨_, rfl⟩
      have e2 : 0 ≤ (n : Int) - 1 - (k : Int) := by omega
      have e3 : (n : Int) - 1 - (k : Int) < (n : Int) := by omega
      have hcl : ((ecs m n i k).map (Value.int .i64)).toArray[t]? = some (.int .i64 ((ecs m n i k).getD t 0)) := by
        have : t < (ecs m n i k).length := by rw [ecs_len]; omega
        simp [List.getElem?_map, List.getElem?_eq_getElem this]
      have j0 : wr.cell? ⟨g, n - 1 - k, none⟩ = some (.int .i64 ((ecs m n i k).getD t 0)) := by rw [← ht]; exact blk_cell F.out.2 hcl
      have f0 : wr.frozen? ⟨g, n - 1 - k, none⟩ = false := blk_free F.out.2
      have m1 : m ≠ 0 := by omega
      have F2 := hid (show Below w2.heap.size w2 (wr.setCell ⟨g, n - 1 - k, none⟩ (.int .i64 (pk % m))) ∧ (wr.setCell ⟨g, n - 1 - k, none⟩ (.int .i64 (pk % m))).heap[g]? = some (.cells ((ecs m n i (k + 1)).map (Value.int .i64)).toArray 3 (0, 0)) from by
        refine ⟨F.out.1.setCell (by rw [HG.out]; exact Nat.le_refl _) _, ?_⟩
        refine blk_set _ F.out.2 ?_
        rw [List.setIfInBounds_toArray, ← ecs_set hlt, List.map_set, HPK.out])
      clear F hcl ht HPK
      go_wp2_with fail
      go_roundw
      case rel => exact ⟨k + 1, by omega, by rw [PK.out], by go_num, F2⟩
      case measure => simp [intOf]; omega
    · obtain rfl : k = n := by omega
      have FIN := hid (show ClonePost (edig m k i) w2 (.returned (.slice (some ⟨g, 0, none⟩) k k)) wr from by
        refine ⟨_, rfl, ?_, F.out.1⟩
        rw [← ecs_all]
        refine ⟨by simp [ecs_len], .inr ⟨g, k, _, by rw [ecs_len], by rw [HG.out]; exact Nat.le_refl _, F.out.2, by rw [ecs_len]; exact Nat.le_refl _, by unfold maxLen; omega, by simp [ecs_len], by rw [List.toList_toArray, Nat.mul_one, List.take_of_length_le (by simp [ecs_len])]⟩⟩)
      clear F PK HPK
      go_wp2
      go_ret
      exact FIN.out
end Go.Proofs.YtfpkgkjmpcoppaaGreatDoor
