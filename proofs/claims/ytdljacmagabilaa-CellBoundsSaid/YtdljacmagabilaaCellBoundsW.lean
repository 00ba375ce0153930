/- The walk of the statement CellBounds: the law answers true and turns nothing that was there. -/
import Derived.Test.YtdljacmagabilaaLives01
import Derived.Test.YtdljacmagabilaaCell2
import Derived.OpenShut
namespace Go.Proofs.Ytdljacmagabilaa.cellBounds
open Go.RowKit
set_option linter.unusedVariables false

set_option maxHeartbeats 1000000 in
theorem walk_big_in0 (n i : Int) (w : World) (h3 : n % 2 ≤ 0) (h1 : 65536 < n) (h2 : n < 1073741824) (hi0 : 0 ≤ i) (hi1 : i < 65536) :
    Calls Try.prog 6 #[.int .i64 n, .int .i64 i] w fun e w' => e = .returned (.bool true) ∧ Below w.heap.size w w' := by
  go_enter Try.func6, Try.ntmps6
  go_wp2_with fail
  refine (lives1 _).mono ?_
  rintro e w2 ⟨rfl, hb1⟩
  have hs1 := hb1.size
  go_wp2_with fail
  refine (new_z (65536 + n % 2) 65536 (by omega) _).mono ?_
  rintro e w3 ⟨b, g, xs, rfl, hm, hxl, hxz, hb, hg, hb3⟩
  have hs3 := hb3.size
  have HXL := hid hxl
  have HXZ := hid hxz
  clear hxl hxz
  go_wp2_with fail
  refine (len_n _ _ _ _ 65536 _ hm (by rw [HXL.out]; omega)).mono ?_
  rintro e w4 ⟨rfl, rfl⟩
  go_wp2_with fail
  refine (store_in _ _ _ _ i 7 _ hm (by omega) hi0 (by rw [HXL.out]; omega)).mono ?_
  rintro e w5 ⟨rfl, hm5, ho5⟩
  go_wp2_with fail
  refine (load_v _ _ _ _ i 7 _ hm5 (by omega) hi0 (by simp; rw [HXL.out]; omega) (getD_set_eq (by rw [HXL.out]; omega))).mono ?_
  rintro e w6 ⟨rfl, hm6, ho6⟩
  go_wp2_with fail
  refine (swap_yes _ _ _ _ i 7 8 _ hm6 (by omega) hi0 (by simp; rw [HXL.out]; omega) (getD_set_eq (by rw [HXL.out]; omega))).mono ?_
  rintro e w7 ⟨rfl, hm7, ho7⟩
  go_wp2_with fail
  refine (add_v _ _ _ _ i 1 9 _ hm7 (by omega) hi0 (by simp; rw [HXL.out]; omega) (by rw [getD_set_eq (by simp; rw [HXL.out]; omega)]; decide)).mono ?_
  rintro e w8 ⟨rfl, hm8, ho8⟩
  have ho := ((ho5.trans ho6).trans ho7).trans ho8
  have hs8 := ho.size
  go_wp2_with fail
  refine (nil_len _).mono ?_
  rintro e wn ⟨rfl, rfl⟩
  go_wp2_with fail
  refine (nil_load _ _).mono ?_
  rintro e wn ⟨rfl, rfl⟩
  go_wp2_with fail
  refine (nil_store _ _ _).mono ?_
  rintro e wn ⟨rfl, rfl⟩
  go_wp2_with fail
  refine (nil_swap _ _ _ _).mono ?_
  rintro e wn ⟨rfl, rfl⟩
  go_wp2_with fail
  refine (nil_add _ _ _).mono ?_
  rintro e wn ⟨rfl, rfl⟩
  go_wp2_with fail
  refine (nil_count _).mono ?_
  rintro e wn ⟨rfl, rfl⟩
  go_wp2_with fail
  refine (nil_copy _).mono ?_
  rintro e wn ⟨rfl, rfl⟩
  go_wp2_with fail
  refine (new_ex 0 0 rfl _).mono ?_
  rintro e wz ⟨bz, gz, rfl, hmz, hbz, hgz, hbelz⟩
  go_wp2_with fail
  refine (nil_same _ _ _ _ _ hmz (by simp)).mono ?_
  rintro e wq ⟨rfl, hq⟩
  have hsz := hbelz.size
  have hm9 : Mem wq b g _ _ := (hm8.below hbelz hm8.sb hm8.sg).quiet hq
  go_wp2_with fail
  refine (count_any _ _ _ _ _ hm9).mono ?_
  rintro e w9 ⟨rfl, rfl⟩
  go_wp2
  go_ret
  exact ⟨rfl, (((hb1.trans (hb3.mono hs1)).trans (ho.below (by omega) (by omega) (by omega))).trans (hbelz.mono (by omega))).trans (hq.below _)⟩

set_option maxHeartbeats 1000000 in
theorem walk_big_in1 (n i : Int) (w : World) (h3 : 0 < n % 2) (h1 : 65536 < n) (h2 : n < 1073741824) (hi0 : 0 ≤ i) (hi1 : i < 65536) :
    Calls Try.prog 6 #[.int .i64 n, .int .i64 i] w fun e w' => e = .returned (.bool true) ∧ Below w.heap.size w w' := by
  go_enter Try.func6, Try.ntmps6
  go_wp2_with fail
  refine (lives1 _).mono ?_
  rintro e w2 ⟨rfl, hb1⟩
  have hs1 := hb1.size
  go_wp2_with fail
  refine (new_z (65536 + n % 2) 65536 (by omega) _).mono ?_
  rintro e w3 ⟨b, g, xs, rfl, hm, hxl, hxz, hb, hg, hb3⟩
  have hs3 := hb3.size
  have HXL := hid hxl
  have HXZ := hid hxz
  clear hxl hxz
  go_wp2_with fail
  refine (len_n _ _ _ _ 65536 _ hm (by rw [HXL.out]; omega)).mono ?_
  rintro e w4 ⟨rfl, rfl⟩
  go_wp2_with fail
  refine (store_in _ _ _ _ i 7 _ hm (by omega) hi0 (by rw [HXL.out]; omega)).mono ?_
  rintro e w5 ⟨rfl, hm5, ho5⟩
  go_wp2_with fail
  refine (load_v _ _ _ _ i 7 _ hm5 (by omega) hi0 (by simp; rw [HXL.out]; omega) (getD_set_eq (by rw [HXL.out]; omega))).mono ?_
  rintro e w6 ⟨rfl, hm6, ho6⟩
  go_wp2_with fail
  refine (swap_yes _ _ _ _ i 7 8 _ hm6 (by omega) hi0 (by simp; rw [HXL.out]; omega) (getD_set_eq (by rw [HXL.out]; omega))).mono ?_
  rintro e w7 ⟨rfl, hm7, ho7⟩
  go_wp2_with fail
  refine (add_v _ _ _ _ i 1 9 _ hm7 (by omega) hi0 (by simp; rw [HXL.out]; omega) (by rw [getD_set_eq (by simp; rw [HXL.out]; omega)]; decide)).mono ?_
  rintro e w8 ⟨rfl, hm8, ho8⟩
  have ho := ((ho5.trans ho6).trans ho7).trans ho8
  have hs8 := ho.size
  go_wp2_with fail
  refine (nil_len _).mono ?_
  rintro e wn ⟨rfl, rfl⟩
  go_wp2_with fail
  refine (nil_load _ _).mono ?_
  rintro e wn ⟨rfl, rfl⟩
  go_wp2_with fail
  refine (nil_store _ _ _).mono ?_
  rintro e wn ⟨rfl, rfl⟩
  go_wp2_with fail
  refine (nil_swap _ _ _ _).mono ?_
  rintro e wn ⟨rfl, rfl⟩
  go_wp2_with fail
  refine (nil_add _ _ _).mono ?_
  rintro e wn ⟨rfl, rfl⟩
  go_wp2_with fail
  refine (nil_count _).mono ?_
  rintro e wn ⟨rfl, rfl⟩
  go_wp2_with fail
  refine (nil_copy _).mono ?_
  rintro e wn ⟨rfl, rfl⟩
  go_wp2_with fail
  refine (new_ex 0 0 rfl _).mono ?_
  rintro e wz ⟨bz, gz, rfl, hmz, hbz, hgz, hbelz⟩
  go_wp2_with fail
  refine (nil_same _ _ _ _ _ hmz (by simp)).mono ?_
  rintro e wq ⟨rfl, hq⟩
  have hsz := hbelz.size
  have hm9 : Mem wq b g _ _ := (hm8.below hbelz hm8.sb hm8.sg).quiet hq
  go_wp2_with fail
  refine (count_any _ _ _ _ _ hm9).mono ?_
  rintro e w9 ⟨rfl, rfl⟩
  go_wp2
  go_ret
  exact ⟨rfl, (((hb1.trans (hb3.mono hs1)).trans (ho.below (by omega) (by omega) (by omega))).trans (hbelz.mono (by omega))).trans (hq.below _)⟩

set_option maxHeartbeats 1000000 in
theorem walk_big_out0 (n i : Int) (w : World) (h3 : n % 2 ≤ 0) (h1 : 65536 < n) (h2 : n < 1073741824) (hio : i < 0 ∨ 65536 ≤ i) :
    Calls Try.prog 6 #[.int .i64 n, .int .i64 i] w fun e w' => e = .returned (.bool true) ∧ Below w.heap.size w w' := by
  rcases hio with hio | hio
  all_goals
    go_enter Try.func6, Try.ntmps6
    go_wp2_with fail
    refine (lives1 _).mono ?_
    rintro e w2 ⟨rfl, hb1⟩
    have hs1 := hb1.size
    go_wp2_with fail
    refine (new_z (65536 + n % 2) 65536 (by omega) _).mono ?_
    rintro e w3 ⟨b, g, xs, rfl, hm, hxl, hxz, hb, hg, hb3⟩
    have hs3 := hb3.size
    have HXL := hid hxl
    have HXZ := hid hxz
    clear hxl hxz
    go_wp2_with fail
    refine (len_n _ _ _ _ 65536 _ hm (by rw [HXL.out]; omega)).mono ?_
    rintro e w4 ⟨rfl, rfl⟩
    have hio' : i < 0 ∨ (xs.length : Int) ≤ i := by rw [HXL.out]; omega
    have HIO := hid hio'
    clear hio'
    go_wp2_with fail
    refine (store_out _ _ _ _ i 7 _ hm HIO.out).mono ?_
    rintro e w5 ⟨rfl, rfl⟩
    go_wp2_with fail
    refine (load_out _ _ _ _ i _ hm HIO.out).mono ?_
    rintro e w5 ⟨rfl, rfl⟩
    go_wp2_with fail
    refine (swap_out _ _ _ _ i 7 8 _ hm HIO.out).mono ?_
    rintro e w5 ⟨rfl, rfl⟩
    go_wp2_with fail
    refine (add_out _ _ _ _ i 1 _ hm HIO.out).mono ?_
    rintro e w5 ⟨rfl, rfl⟩
    go_wp2_with fail
    refine (nil_len _).mono ?_
    rintro e wn ⟨rfl, rfl⟩
    go_wp2_with fail
    refine (nil_load _ _).mono ?_
    rintro e wn ⟨rfl, rfl⟩
    go_wp2_with fail
    refine (nil_store _ _ _).mono ?_
    rintro e wn ⟨rfl, rfl⟩
    go_wp2_with fail
    refine (nil_swap _ _ _ _).mono ?_
    rintro e wn ⟨rfl, rfl⟩
    go_wp2_with fail
    refine (nil_add _ _ _).mono ?_
    rintro e wn ⟨rfl, rfl⟩
    go_wp2_with fail
    refine (nil_count _).mono ?_
    rintro e wn ⟨rfl, rfl⟩
    go_wp2_with fail
    refine (nil_copy _).mono ?_
    rintro e wn ⟨rfl, rfl⟩
    go_wp2_with fail
    refine (new_ex 0 0 rfl _).mono ?_
    rintro e wz ⟨bz, gz, rfl, hmz, hbz, hgz, hbelz⟩
    go_wp2_with fail
    refine (nil_same _ _ _ _ _ hmz (by simp)).mono ?_
    rintro e wq ⟨rfl, hq⟩
    have hsz := hbelz.size
    have hm9 : Mem wq b g _ _ := (hm.below hbelz hm.sb hm.sg).quiet hq
    go_wp2_with fail
    refine (count_any _ _ _ _ _ hm9).mono ?_
    rintro e w9 ⟨rfl, rfl⟩
    go_wp2
    go_ret
    exact ⟨rfl, ((hb1.trans (hb3.mono hs1)).trans (hbelz.mono (by omega))).trans (hq.below _)⟩

set_option maxHeartbeats 1000000 in
theorem walk_big_out1 (n i : Int) (w : World) (h3 : 0 < n % 2) (h1 : 65536 < n) (h2 : n < 1073741824) (hio : i < 0 ∨ 65536 ≤ i) :
    Calls Try.prog 6 #[.int .i64 n, .int .i64 i] w fun e w' => e = .returned (.bool true) ∧ Below w.heap.size w w' := by
  rcases hio with hio | hio
  all_goals
    go_enter Try.func6, Try.ntmps6
    go_wp2_with fail
    refine (lives1 _).mono ?_
    rintro e w2 ⟨rfl, hb1⟩
    have hs1 := hb1.size
    go_wp2_with fail
    refine (new_z (65536 + n % 2) 65536 (by omega) _).mono ?_
    rintro e w3 ⟨b, g, xs, rfl, hm, hxl, hxz, hb, hg, hb3⟩
    have hs3 := hb3.size
    have HXL := hid hxl
    have HXZ := hid hxz
    clear hxl hxz
    go_wp2_with fail
    refine (len_n _ _ _ _ 65536 _ hm (by rw [HXL.out]; omega)).mono ?_
    rintro e w4 ⟨rfl, rfl⟩
    have hio' : i < 0 ∨ (xs.length : Int) ≤ i := by rw [HXL.out]; omega
    have HIO := hid hio'
    clear hio'
    go_wp2_with fail
    refine (store_out _ _ _ _ i 7 _ hm HIO.out).mono ?_
    rintro e w5 ⟨rfl, rfl⟩
    go_wp2_with fail
    refine (load_out _ _ _ _ i _ hm HIO.out).mono ?_
    rintro e w5 ⟨rfl, rfl⟩
    go_wp2_with fail
    refine (swap_out _ _ _ _ i 7 8 _ hm HIO.out).mono ?_
    rintro e w5 ⟨rfl, rfl⟩
    go_wp2_with fail
    refine (add_out _ _ _ _ i 1 _ hm HIO.out).mono ?_
    rintro e w5 ⟨rfl, rfl⟩
    go_wp2_with fail
    refine (nil_len _).mono ?_
    rintro e wn ⟨rfl, rfl⟩
    go_wp2_with fail
    refine (nil_load _ _).mono ?_
    rintro e wn ⟨rfl, rfl⟩
    go_wp2_with fail
    refine (nil_store _ _ _).mono ?_
    rintro e wn ⟨rfl, rfl⟩
    go_wp2_with fail
    refine (nil_swap _ _ _ _).mono ?_
    rintro e wn ⟨rfl, rfl⟩
    go_wp2_with fail
    refine (nil_add _ _ _).mono ?_
    rintro e wn ⟨rfl, rfl⟩
    go_wp2_with fail
    refine (nil_count _).mono ?_
    rintro e wn ⟨rfl, rfl⟩
    go_wp2_with fail
    refine (nil_copy _).mono ?_
    rintro e wn ⟨rfl, rfl⟩
    go_wp2_with fail
    refine (new_ex 0 0 rfl _).mono ?_
    rintro e wz ⟨bz, gz, rfl, hmz, hbz, hgz, hbelz⟩
    go_wp2_with fail
    refine (nil_same _ _ _ _ _ hmz (by simp)).mono ?_
    rintro e wq ⟨rfl, hq⟩
    have hsz := hbelz.size
    have hm9 : Mem wq b g _ _ := (hm.below hbelz hm.sb hm.sg).quiet hq
    go_wp2_with fail
    refine (count_any _ _ _ _ _ hm9).mono ?_
    rintro e w9 ⟨rfl, rfl⟩
    go_wp2
    go_ret
    exact ⟨rfl, ((hb1.trans (hb3.mono hs1)).trans (hbelz.mono (by omega))).trans (hq.below _)⟩

set_option maxHeartbeats 1000000 in
theorem walk_mid_in0 (n i : Int) (w : World) (h3 : n % 2 ≤ 0) (h1 : 3000 < n) (h2 : n ≤ 65536) (hi0 : 0 ≤ i) (hi1 : i < 65536) :
    Calls Try.prog 6 #[.int .i64 n, .int .i64 i] w fun e w' => e = .returned (.bool true) ∧ Below w.heap.size w w' := by
  go_enter Try.func6, Try.ntmps6
  go_wp2_with fail
  refine (lives1 _).mono ?_
  rintro e w2 ⟨rfl, hb1⟩
  have hs1 := hb1.size
  go_wp2_with fail
  refine (new_z (65536 + n % 2) 65536 (by omega) _).mono ?_
  rintro e w3 ⟨b, g, xs, rfl, hm, hxl, hxz, hb, hg, hb3⟩
  have hs3 := hb3.size
  have HXL := hid hxl
  have HXZ := hid hxz
  clear hxl hxz
  go_wp2_with fail
  refine (len_n _ _ _ _ 65536 _ hm (by rw [HXL.out]; omega)).mono ?_
  rintro e w4 ⟨rfl, rfl⟩
  go_wp2_with fail
  refine (store_in _ _ _ _ i 7 _ hm (by omega) hi0 (by rw [HXL.out]; omega)).mono ?_
  rintro e w5 ⟨rfl, hm5, ho5⟩
  go_wp2_with fail
  refine (load_v _ _ _ _ i 7 _ hm5 (by omega) hi0 (by simp; rw [HXL.out]; omega) (getD_set_eq (by rw [HXL.out]; omega))).mono ?_
  rintro e w6 ⟨rfl, hm6, ho6⟩
  go_wp2_with fail
  refine (swap_yes _ _ _ _ i 7 8 _ hm6 (by omega) hi0 (by simp; rw [HXL.out]; omega) (getD_set_eq (by rw [HXL.out]; omega))).mono ?_
  rintro e w7 ⟨rfl, hm7, ho7⟩
  go_wp2_with fail
  refine (add_v _ _ _ _ i 1 9 _ hm7 (by omega) hi0 (by simp; rw [HXL.out]; omega) (by rw [getD_set_eq (by simp; rw [HXL.out]; omega)]; decide)).mono ?_
  rintro e w8 ⟨rfl, hm8, ho8⟩
  have ho := ((ho5.trans ho6).trans ho7).trans ho8
  have hs8 := ho.size
  go_wp2_with fail
  refine (nil_len _).mono ?_
  rintro e wn ⟨rfl, rfl⟩
  go_wp2_with fail
  refine (nil_load _ _).mono ?_
  rintro e wn ⟨rfl, rfl⟩
  go_wp2_with fail
  refine (nil_store _ _ _).mono ?_
  rintro e wn ⟨rfl, rfl⟩
  go_wp2_with fail
  refine (nil_swap _ _ _ _).mono ?_
  rintro e wn ⟨rfl, rfl⟩
  go_wp2_with fail
  refine (nil_add _ _ _).mono ?_
  rintro e wn ⟨rfl, rfl⟩
  go_wp2_with fail
  refine (nil_count _).mono ?_
  rintro e wn ⟨rfl, rfl⟩
  go_wp2_with fail
  refine (nil_copy _).mono ?_
  rintro e wn ⟨rfl, rfl⟩
  go_wp2_with fail
  refine (new_ex 0 0 rfl _).mono ?_
  rintro e wz ⟨bz, gz, rfl, hmz, hbz, hgz, hbelz⟩
  go_wp2_with fail
  refine (nil_same _ _ _ _ _ hmz (by simp)).mono ?_
  rintro e wq ⟨rfl, hq⟩
  have hsz := hbelz.size
  have hm9 : Mem wq b g _ _ := (hm8.below hbelz hm8.sb hm8.sg).quiet hq
  go_wp2_with fail
  refine (count_any _ _ _ _ _ hm9).mono ?_
  rintro e w9 ⟨rfl, rfl⟩
  go_wp2
  go_ret
  exact ⟨rfl, (((hb1.trans (hb3.mono hs1)).trans (ho.below (by omega) (by omega) (by omega))).trans (hbelz.mono (by omega))).trans (hq.below _)⟩

set_option maxHeartbeats 1000000 in
theorem walk_mid_in1 (n i : Int) (w : World) (h3 : 0 < n % 2) (h1 : 3000 < n) (h2 : n ≤ 65536) (hi0 : 0 ≤ i) (hi1 : i < 65536) :
    Calls Try.prog 6 #[.int .i64 n, .int .i64 i] w fun e w' => e = .returned (.bool true) ∧ Below w.heap.size w w' := by
  go_enter Try.func6, Try.ntmps6
  go_wp2_with fail
  refine (lives1 _).mono ?_
  rintro e w2 ⟨rfl, hb1⟩
  have hs1 := hb1.size
  go_wp2_with fail
  refine (new_z (65536 + n % 2) 65536 (by omega) _).mono ?_
  rintro e w3 ⟨b, g, xs, rfl, hm, hxl, hxz, hb, hg, hb3⟩
  have hs3 := hb3.size
  have HXL := hid hxl
  have HXZ := hid hxz
  clear hxl hxz
  go_wp2_with fail
  refine (len_n _ _ _ _ 65536 _ hm (by rw [HXL.out]; omega)).mono ?_
  rintro e w4 ⟨rfl, rfl⟩
  go_wp2_with fail
  refine (store_in _ _ _ _ i 7 _ hm (by omega) hi0 (by rw [HXL.out]; omega)).mono ?_
  rintro e w5 ⟨rfl, hm5, ho5⟩
  go_wp2_with fail
  refine (load_v _ _ _ _ i 7 _ hm5 (by omega) hi0 (by simp; rw [HXL.out]; omega) (getD_set_eq (by rw [HXL.out]; omega))).mono ?_
  rintro e w6 ⟨rfl, hm6, ho6⟩
  go_wp2_with fail
  refine (swap_yes _ _ _ _ i 7 8 _ hm6 (by omega) hi0 (by simp; rw [HXL.out]; omega) (getD_set_eq (by rw [HXL.out]; omega))).mono ?_
  rintro e w7 ⟨rfl, hm7, ho7⟩
  go_wp2_with fail
  refine (add_v _ _ _ _ i 1 9 _ hm7 (by omega) hi0 (by simp; rw [HXL.out]; omega) (by rw [getD_set_eq (by simp; rw [HXL.out]; omega)]; decide)).mono ?_
  rintro e w8 ⟨rfl, hm8, ho8⟩
  have ho := ((ho5.trans ho6).trans ho7).trans ho8
  have hs8 := ho.size
  go_wp2_with fail
  refine (nil_len _).mono ?_
  rintro e wn ⟨rfl, rfl⟩
  go_wp2_with fail
  refine (nil_load _ _).mono ?_
  rintro e wn ⟨rfl, rfl⟩
  go_wp2_with fail
  refine (nil_store _ _ _).mono ?_
  rintro e wn ⟨rfl, rfl⟩
  go_wp2_with fail
  refine (nil_swap _ _ _ _).mono ?_
  rintro e wn ⟨rfl, rfl⟩
  go_wp2_with fail
  refine (nil_add _ _ _).mono ?_
  rintro e wn ⟨rfl, rfl⟩
  go_wp2_with fail
  refine (nil_count _).mono ?_
  rintro e wn ⟨rfl, rfl⟩
  go_wp2_with fail
  refine (nil_copy _).mono ?_
  rintro e wn ⟨rfl, rfl⟩
  go_wp2_with fail
  refine (new_ex 0 0 rfl _).mono ?_
  rintro e wz ⟨bz, gz, rfl, hmz, hbz, hgz, hbelz⟩
  go_wp2_with fail
  refine (nil_same _ _ _ _ _ hmz (by simp)).mono ?_
  rintro e wq ⟨rfl, hq⟩
  have hsz := hbelz.size
  have hm9 : Mem wq b g _ _ := (hm8.below hbelz hm8.sb hm8.sg).quiet hq
  go_wp2_with fail
  refine (count_any _ _ _ _ _ hm9).mono ?_
  rintro e w9 ⟨rfl, rfl⟩
  go_wp2
  go_ret
  exact ⟨rfl, (((hb1.trans (hb3.mono hs1)).trans (ho.below (by omega) (by omega) (by omega))).trans (hbelz.mono (by omega))).trans (hq.below _)⟩

set_option maxHeartbeats 1000000 in
theorem walk_mid_out0 (n i : Int) (w : World) (h3 : n % 2 ≤ 0) (h1 : 3000 < n) (h2 : n ≤ 65536) (hio : i < 0 ∨ 65536 ≤ i) :
    Calls Try.prog 6 #[.int .i64 n, .int .i64 i] w fun e w' => e = .returned (.bool true) ∧ Below w.heap.size w w' := by
  rcases hio with hio | hio
  all_goals
    go_enter Try.func6, Try.ntmps6
    go_wp2_with fail
    refine (lives1 _).mono ?_
    rintro e w2 ⟨rfl, hb1⟩
    have hs1 := hb1.size
    go_wp2_with fail
    refine (new_z (65536 + n % 2) 65536 (by omega) _).mono ?_
    rintro e w3 ⟨b, g, xs, rfl, hm, hxl, hxz, hb, hg, hb3⟩
    have hs3 := hb3.size
    have HXL := hid hxl
    have HXZ := hid hxz
    clear hxl hxz
    go_wp2_with fail
    refine (len_n _ _ _ _ 65536 _ hm (by rw [HXL.out]; omega)).mono ?_
    rintro e w4 ⟨rfl, rfl⟩
    have hio' : i < 0 ∨ (xs.length : Int) ≤ i := by rw [HXL.out]; omega
    have HIO := hid hio'
    clear hio'
    go_wp2_with fail
    refine (store_out _ _ _ _ i 7 _ hm HIO.out).mono ?_
    rintro e w5 ⟨rfl, rfl⟩
    go_wp2_with fail
    refine (load_out _ _ _ _ i _ hm HIO.out).mono ?_
    rintro e w5 ⟨rfl, rfl⟩
    go_wp2_with fail
    refine (swap_out _ _ _ _ i 7 8 _ hm HIO.out).mono ?_
    rintro e w5 ⟨rfl, rfl⟩
    go_wp2_with fail
    refine (add_out _ _ _ _ i 1 _ hm HIO.out).mono ?_
    rintro e w5 ⟨rfl, rfl⟩
    go_wp2_with fail
    refine (nil_len _).mono ?_
    rintro e wn ⟨rfl, rfl⟩
    go_wp2_with fail
    refine (nil_load _ _).mono ?_
    rintro e wn ⟨rfl, rfl⟩
    go_wp2_with fail
    refine (nil_store _ _ _).mono ?_
    rintro e wn ⟨rfl, rfl⟩
    go_wp2_with fail
    refine (nil_swap _ _ _ _).mono ?_
    rintro e wn ⟨rfl, rfl⟩
    go_wp2_with fail
    refine (nil_add _ _ _).mono ?_
    rintro e wn ⟨rfl, rfl⟩
    go_wp2_with fail
    refine (nil_count _).mono ?_
    rintro e wn ⟨rfl, rfl⟩
    go_wp2_with fail
    refine (nil_copy _).mono ?_
    rintro e wn ⟨rfl, rfl⟩
    go_wp2_with fail
    refine (new_ex 0 0 rfl _).mono ?_
    rintro e wz ⟨bz, gz, rfl, hmz, hbz, hgz, hbelz⟩
    go_wp2_with fail
    refine (nil_same _ _ _ _ _ hmz (by simp)).mono ?_
    rintro e wq ⟨rfl, hq⟩
    have hsz := hbelz.size
    have hm9 : Mem wq b g _ _ := (hm.below hbelz hm.sb hm.sg).quiet hq
    go_wp2_with fail
    refine (count_any _ _ _ _ _ hm9).mono ?_
    rintro e w9 ⟨rfl, rfl⟩
    go_wp2
    go_ret
    exact ⟨rfl, ((hb1.trans (hb3.mono hs1)).trans (hbelz.mono (by omega))).trans (hq.below _)⟩

set_option maxHeartbeats 1000000 in
theorem walk_mid_out1 (n i : Int) (w : World) (h3 : 0 < n % 2) (h1 : 3000 < n) (h2 : n ≤ 65536) (hio : i < 0 ∨ 65536 ≤ i) :
    Calls Try.prog 6 #[.int .i64 n, .int .i64 i] w fun e w' => e = .returned (.bool true) ∧ Below w.heap.size w w' := by
  rcases hio with hio | hio
  all_goals
    go_enter Try.func6, Try.ntmps6
    go_wp2_with fail
    refine (lives1 _).mono ?_
    rintro e w2 ⟨rfl, hb1⟩
    have hs1 := hb1.size
    go_wp2_with fail
    refine (new_z (65536 + n % 2) 65536 (by omega) _).mono ?_
    rintro e w3 ⟨b, g, xs, rfl, hm, hxl, hxz, hb, hg, hb3⟩
    have hs3 := hb3.size
    have HXL := hid hxl
    have HXZ := hid hxz
    clear hxl hxz
    go_wp2_with fail
    refine (len_n _ _ _ _ 65536 _ hm (by rw [HXL.out]; omega)).mono ?_
    rintro e w4 ⟨rfl, rfl⟩
    have hio' : i < 0 ∨ (xs.length : Int) ≤ i := by rw [HXL.out]; omega
    have HIO := hid hio'
    clear hio'
    go_wp2_with fail
    refine (store_out _ _ _ _ i 7 _ hm HIO.out).mono ?_
    rintro e w5 ⟨rfl, rfl⟩
    go_wp2_with fail
    refine (load_out _ _ _ _ i _ hm HIO.out).mono ?_
    rintro e w5 ⟨rfl, rfl⟩
    go_wp2_with fail
    refine (swap_out _ _ _ _ i 7 8 _ hm HIO.out).mono ?_
    rintro e w5 ⟨rfl, rfl⟩
    go_wp2_with fail
    refine (add_out _ _ _ _ i 1 _ hm HIO.out).mono ?_
    rintro e w5 ⟨rfl, rfl⟩
    go_wp2_with fail
    refine (nil_len _).mono ?_
    rintro e wn ⟨rfl, rfl⟩
    go_wp2_with fail
    refine (nil_load _ _).mono ?_
    rintro e wn ⟨rfl, rfl⟩
    go_wp2_with fail
    refine (nil_store _ _ _).mono ?_
    rintro e wn ⟨rfl, rfl⟩
    go_wp2_with fail
    refine (nil_swap _ _ _ _).mono ?_
    rintro e wn ⟨rfl, rfl⟩
    go_wp2_with fail
    refine (nil_add _ _ _).mono ?_
    rintro e wn ⟨rfl, rfl⟩
    go_wp2_with fail
    refine (nil_count _).mono ?_
    rintro e wn ⟨rfl, rfl⟩
    go_wp2_with fail
    refine (nil_copy _).mono ?_
    rintro e wn ⟨rfl, rfl⟩
    go_wp2_with fail
    refine (new_ex 0 0 rfl _).mono ?_
    rintro e wz ⟨bz, gz, rfl, hmz, hbz, hgz, hbelz⟩
    go_wp2_with fail
    refine (nil_same _ _ _ _ _ hmz (by simp)).mono ?_
    rintro e wq ⟨rfl, hq⟩
    have hsz := hbelz.size
    have hm9 : Mem wq b g _ _ := (hm.below hbelz hm.sb hm.sg).quiet hq
    go_wp2_with fail
    refine (count_any _ _ _ _ _ hm9).mono ?_
    rintro e w9 ⟨rfl, rfl⟩
    go_wp2
    go_ret
    exact ⟨rfl, ((hb1.trans (hb3.mono hs1)).trans (hbelz.mono (by omega))).trans (hq.below _)⟩

set_option maxHeartbeats 1000000 in
theorem walk_neg_out (n i : Int) (w : World) (h1 : n ≤ 0) (hio : i < 0 ∨ 0 ≤ i) :
    Calls Try.prog 6 #[.int .i64 n, .int .i64 i] w fun e w' => e = .returned (.bool true) ∧ Below w.heap.size w w' := by
  rcases hio with hio | hio
  all_goals
    go_enter Try.func6, Try.ntmps6
    go_wp2_with fail
    refine (lives1 _).mono ?_
    rintro e w2 ⟨rfl, hb1⟩
    have hs1 := hb1.size
    go_wp2_with fail
    refine (new_z n 0 (by omega) _).mono ?_
    rintro e w3 ⟨b, g, xs, rfl, hm, hxl, hxz, hb, hg, hb3⟩
    have hs3 := hb3.size
    have HXL := hid hxl
    have HXZ := hid hxz
    clear hxl hxz
    go_wp2_with fail
    refine (len_n _ _ _ _ 0 _ hm (by rw [HXL.out]; omega)).mono ?_
    rintro e w4 ⟨rfl, rfl⟩
    have hio' : i < 0 ∨ (xs.length : Int) ≤ i := by rw [HXL.out]; omega
    have HIO := hid hio'
    clear hio'
    go_wp2_with fail
    refine (store_out _ _ _ _ i 7 _ hm HIO.out).mono ?_
    rintro e w5 ⟨rfl, rfl⟩
    go_wp2_with fail
    refine (load_out _ _ _ _ i _ hm HIO.out).mono ?_
    rintro e w5 ⟨rfl, rfl⟩
    go_wp2_with fail
    refine (swap_out _ _ _ _ i 7 8 _ hm HIO.out).mono ?_
    rintro e w5 ⟨rfl, rfl⟩
    go_wp2_with fail
    refine (add_out _ _ _ _ i 1 _ hm HIO.out).mono ?_
    rintro e w5 ⟨rfl, rfl⟩
    go_wp2_with fail
    refine (nil_len _).mono ?_
    rintro e wn ⟨rfl, rfl⟩
    go_wp2_with fail
    refine (nil_load _ _).mono ?_
    rintro e wn ⟨rfl, rfl⟩
    go_wp2_with fail
    refine (nil_store _ _ _).mono ?_
    rintro e wn ⟨rfl, rfl⟩
    go_wp2_with fail
    refine (nil_swap _ _ _ _).mono ?_
    rintro e wn ⟨rfl, rfl⟩
    go_wp2_with fail
    refine (nil_add _ _ _).mono ?_
    rintro e wn ⟨rfl, rfl⟩
    go_wp2_with fail
    refine (nil_count _).mono ?_
    rintro e wn ⟨rfl, rfl⟩
    go_wp2_with fail
    refine (nil_copy _).mono ?_
    rintro e wn ⟨rfl, rfl⟩
    go_wp2_with fail
    refine (new_ex 0 0 rfl _).mono ?_
    rintro e wz ⟨bz, gz, rfl, hmz, hbz, hgz, hbelz⟩
    go_wp2_with fail
    refine (nil_same _ _ _ _ _ hmz (by simp)).mono ?_
    rintro e wq ⟨rfl, hq⟩
    have hsz := hbelz.size
    have hm9 : Mem wq b g _ _ := (hm.below hbelz hm.sb hm.sg).quiet hq
    go_wp2_with fail
    refine (count_any _ _ _ _ _ hm9).mono ?_
    rintro e w9 ⟨rfl, rfl⟩
    go_wp2
    go_ret
    exact ⟨rfl, ((hb1.trans (hb3.mono hs1)).trans (hbelz.mono (by omega))).trans (hq.below _)⟩

set_option maxHeartbeats 1000000 in
theorem walk_few_in (n i : Int) (w : World) (h1 : 0 < n) (h2 : n ≤ 3000) (hi0 : 0 ≤ i) (hi1 : i < n) :
    Calls Try.prog 6 #[.int .i64 n, .int .i64 i] w fun e w' => e = .returned (.bool true) ∧ Below w.heap.size w w' := by
  go_enter Try.func6, Try.ntmps6
  go_wp2_with fail
  refine (lives1 _).mono ?_
  rintro e w2 ⟨rfl, hb1⟩
  have hs1 := hb1.size
  go_wp2_with fail
  refine (new_z n n.toNat (by omega) _).mono ?_
  rintro e w3 ⟨b, g, xs, rfl, hm, hxl, hxz, hb, hg, hb3⟩
  have hs3 := hb3.size
  have HXL := hid hxl
  have HXZ := hid hxz
  clear hxl hxz
  go_wp2_with fail
  refine (len_n _ _ _ _ n _ hm (by rw [HXL.out]; omega)).mono ?_
  rintro e w4 ⟨rfl, rfl⟩
  go_wp2_with fail
  refine (store_in _ _ _ _ i 7 _ hm (by omega) hi0 (by rw [HXL.out]; omega)).mono ?_
  rintro e w5 ⟨rfl, hm5, ho5⟩
  go_wp2_with fail
  refine (load_v _ _ _ _ i 7 _ hm5 (by omega) hi0 (by simp; rw [HXL.out]; omega) (getD_set_eq (by rw [HXL.out]; omega))).mono ?_
  rintro e w6 ⟨rfl, hm6, ho6⟩
  go_wp2_with fail
  refine (swap_yes _ _ _ _ i 7 8 _ hm6 (by omega) hi0 (by simp; rw [HXL.out]; omega) (getD_set_eq (by rw [HXL.out]; omega))).mono ?_
  rintro e w7 ⟨rfl, hm7, ho7⟩
  go_wp2_with fail
  refine (add_v _ _ _ _ i 1 9 _ hm7 (by omega) hi0 (by simp; rw [HXL.out]; omega) (by rw [getD_set_eq (by simp; rw [HXL.out]; omega)]; decide)).mono ?_
  rintro e w8 ⟨rfl, hm8, ho8⟩
  have ho := ((ho5.trans ho6).trans ho7).trans ho8
  have hs8 := ho.size
  go_wp2_with fail
  refine (nil_len _).mono ?_
  rintro e wn ⟨rfl, rfl⟩
  go_wp2_with fail
  refine (nil_load _ _).mono ?_
  rintro e wn ⟨rfl, rfl⟩
  go_wp2_with fail
  refine (nil_store _ _ _).mono ?_
  rintro e wn ⟨rfl, rfl⟩
  go_wp2_with fail
  refine (nil_swap _ _ _ _).mono ?_
  rintro e wn ⟨rfl, rfl⟩
  go_wp2_with fail
  refine (nil_add _ _ _).mono ?_
  rintro e wn ⟨rfl, rfl⟩
  go_wp2_with fail
  refine (nil_count _).mono ?_
  rintro e wn ⟨rfl, rfl⟩
  go_wp2_with fail
  refine (nil_copy _).mono ?_
  rintro e wn ⟨rfl, rfl⟩
  go_wp2_with fail
  refine (new_ex 0 0 rfl _).mono ?_
  rintro e wz ⟨bz, gz, rfl, hmz, hbz, hgz, hbelz⟩
  go_wp2_with fail
  refine (nil_same _ _ _ _ _ hmz (by simp)).mono ?_
  rintro e wq ⟨rfl, hq⟩
  have hsz := hbelz.size
  have hm9 : Mem wq b g _ _ := (hm8.below hbelz hm8.sb hm8.sg).quiet hq
  go_wp2_with fail
  refine (count_any _ _ _ _ _ hm9).mono ?_
  rintro e w9 ⟨rfl, rfl⟩
  go_wp2
  go_ret
  exact ⟨rfl, (((hb1.trans (hb3.mono hs1)).trans (ho.below (by omega) (by omega) (by omega))).trans (hbelz.mono (by omega))).trans (hq.below _)⟩

set_option maxHeartbeats 1000000 in
theorem walk_few_out (n i : Int) (w : World) (h1 : 0 < n) (h2 : n ≤ 3000) (hio : i < 0 ∨ n ≤ i) :
    Calls Try.prog 6 #[.int .i64 n, .int .i64 i] w fun e w' => e = .returned (.bool true) ∧ Below w.heap.size w w' := by
  rcases hio with hio | hio
  all_goals
    go_enter Try.func6, Try.ntmps6
    go_wp2_with fail
    refine (lives1 _).mono ?_
    rintro e w2 ⟨rfl, hb1⟩
    have hs1 := hb1.size
    go_wp2_with fail
    refine (new_z n n.toNat (by omega) _).mono ?_
    rintro e w3 ⟨b, g, xs, rfl, hm, hxl, hxz, hb, hg, hb3⟩
    have hs3 := hb3.size
    have HXL := hid hxl
    have HXZ := hid hxz
    clear hxl hxz
    go_wp2_with fail
    refine (len_n _ _ _ _ n _ hm (by rw [HXL.out]; omega)).mono ?_
    rintro e w4 ⟨rfl, rfl⟩
    have hio' : i < 0 ∨ (xs.length : Int) ≤ i := by rw [HXL.out]; omega
    have HIO := hid hio'
    clear hio'
    go_wp2_with fail
    refine (store_out _ _ _ _ i 7 _ hm HIO.out).mono ?_
    rintro e w5 ⟨rfl, rfl⟩
    go_wp2_with fail
    refine (load_out _ _ _ _ i _ hm HIO.out).mono ?_
    rintro e w5 ⟨rfl, rfl⟩
    go_wp2_with fail
    refine (swap_out _ _ _ _ i 7 8 _ hm HIO.out).mono ?_
    rintro e w5 ⟨rfl, rfl⟩
    go_wp2_with fail
    refine (add_out _ _ _ _ i 1 _ hm HIO.out).mono ?_
    rintro e w5 ⟨rfl, rfl⟩
    go_wp2_with fail
    refine (nil_len _).mono ?_
    rintro e wn ⟨rfl, rfl⟩
    go_wp2_with fail
    refine (nil_load _ _).mono ?_
    rintro e wn ⟨rfl, rfl⟩
    go_wp2_with fail
    refine (nil_store _ _ _).mono ?_
    rintro e wn ⟨rfl, rfl⟩
    go_wp2_with fail
    refine (nil_swap _ _ _ _).mono ?_
    rintro e wn ⟨rfl, rfl⟩
    go_wp2_with fail
    refine (nil_add _ _ _).mono ?_
    rintro e wn ⟨rfl, rfl⟩
    go_wp2_with fail
    refine (nil_count _).mono ?_
    rintro e wn ⟨rfl, rfl⟩
    go_wp2_with fail
    refine (nil_copy _).mono ?_
    rintro e wn ⟨rfl, rfl⟩
    go_wp2_with fail
    refine (new_ex 0 0 rfl _).mono ?_
    rintro e wz ⟨bz, gz, rfl, hmz, hbz, hgz, hbelz⟩
    go_wp2_with fail
    refine (nil_same _ _ _ _ _ hmz (by simp)).mono ?_
    rintro e wq ⟨rfl, hq⟩
    have hsz := hbelz.size
    have hm9 : Mem wq b g _ _ := (hm.below hbelz hm.sb hm.sg).quiet hq
    go_wp2_with fail
    refine (count_any _ _ _ _ _ hm9).mono ?_
    rintro e w9 ⟨rfl, rfl⟩
    go_wp2
    go_ret
    exact ⟨rfl, ((hb1.trans (hb3.mono hs1)).trans (hbelz.mono (by omega))).trans (hq.below _)⟩

set_option maxHeartbeats 1000000 in
theorem walk_huge_in (n i : Int) (w : World) (h1 : 1073741824 ≤ n) (h2 : n ≤ 9223372036854775807) (hi0 : 0 ≤ i) (hi1 : i < 65536) :
    Calls Try.prog 6 #[.int .i64 n, .int .i64 i] w fun e w' => e = .returned (.bool true) ∧ Below w.heap.size w w' := by
  go_enter Try.func6, Try.ntmps6
  go_wp2_with fail
  refine (lives1 _).mono ?_
  rintro e w2 ⟨rfl, hb1⟩
  have hs1 := hb1.size
  go_wp2_with fail
  refine (new_z n 65536 (by omega) _).mono ?_
  rintro e w3 ⟨b, g, xs, rfl, hm, hxl, hxz, hb, hg, hb3⟩
  have hs3 := hb3.size
  have HXL := hid hxl
  have HXZ := hid hxz
  clear hxl hxz
  go_wp2_with fail
  refine (len_n _ _ _ _ 65536 _ hm (by rw [HXL.out]; omega)).mono ?_
  rintro e w4 ⟨rfl, rfl⟩
  go_wp2_with fail
  refine (store_in _ _ _ _ i 7 _ hm (by omega) hi0 (by rw [HXL.out]; omega)).mono ?_
  rintro e w5 ⟨rfl, hm5, ho5⟩
  go_wp2_with fail
  refine (load_v _ _ _ _ i 7 _ hm5 (by omega) hi0 (by simp; rw [HXL.out]; omega) (getD_set_eq (by rw [HXL.out]; omega))).mono ?_
  rintro e w6 ⟨rfl, hm6, ho6⟩
  go_wp2_with fail
  refine (swap_yes _ _ _ _ i 7 8 _ hm6 (by omega) hi0 (by simp; rw [HXL.out]; omega) (getD_set_eq (by rw [HXL.out]; omega))).mono ?_
  rintro e w7 ⟨rfl, hm7, ho7⟩
  go_wp2_with fail
  refine (add_v _ _ _ _ i 1 9 _ hm7 (by omega) hi0 (by simp; rw [HXL.out]; omega) (by rw [getD_set_eq (by simp; rw [HXL.out]; omega)]; decide)).mono ?_
  rintro e w8 ⟨rfl, hm8, ho8⟩
  have ho := ((ho5.trans ho6).trans ho7).trans ho8
  have hs8 := ho.size
  go_wp2_with fail
  refine (nil_len _).mono ?_
  rintro e wn ⟨rfl, rfl⟩
  go_wp2_with fail
  refine (nil_load _ _).mono ?_
  rintro e wn ⟨rfl, rfl⟩
  go_wp2_with fail
  refine (nil_store _ _ _).mono ?_
  rintro e wn ⟨rfl, rfl⟩
  go_wp2_with fail
  refine (nil_swap _ _ _ _).mono ?_
  rintro e wn ⟨rfl, rfl⟩
  go_wp2_with fail
  refine (nil_add _ _ _).mono ?_
  rintro e wn ⟨rfl, rfl⟩
  go_wp2_with fail
  refine (nil_count _).mono ?_
  rintro e wn ⟨rfl, rfl⟩
  go_wp2_with fail
  refine (nil_copy _).mono ?_
  rintro e wn ⟨rfl, rfl⟩
  go_wp2_with fail
  refine (new_ex 0 0 rfl _).mono ?_
  rintro e wz ⟨bz, gz, rfl, hmz, hbz, hgz, hbelz⟩
  go_wp2_with fail
  refine (nil_same _ _ _ _ _ hmz (by simp)).mono ?_
  rintro e wq ⟨rfl, hq⟩
  have hsz := hbelz.size
  have hm9 : Mem wq b g _ _ := (hm8.below hbelz hm8.sb hm8.sg).quiet hq
  go_wp2_with fail
  refine (count_any _ _ _ _ _ hm9).mono ?_
  rintro e w9 ⟨rfl, rfl⟩
  go_wp2
  go_ret
  exact ⟨rfl, (((hb1.trans (hb3.mono hs1)).trans (ho.below (by omega) (by omega) (by omega))).trans (hbelz.mono (by omega))).trans (hq.below _)⟩

set_option maxHeartbeats 1000000 in
theorem walk_huge_out (n i : Int) (w : World) (h1 : 1073741824 ≤ n) (h2 : n ≤ 9223372036854775807) (hio : i < 0 ∨ 65536 ≤ i) :
    Calls Try.prog 6 #[.int .i64 n, .int .i64 i] w fun e w' => e = .returned (.bool true) ∧ Below w.heap.size w w' := by
  rcases hio with hio | hio
  all_goals
    go_enter Try.func6, Try.ntmps6
    go_wp2_with fail
    refine (lives1 _).mono ?_
    rintro e w2 ⟨rfl, hb1⟩
    have hs1 := hb1.size
    go_wp2_with fail
    refine (new_z n 65536 (by omega) _).mono ?_
    rintro e w3 ⟨b, g, xs, rfl, hm, hxl, hxz, hb, hg, hb3⟩
    have hs3 := hb3.size
    have HXL := hid hxl
    have HXZ := hid hxz
    clear hxl hxz
    go_wp2_with fail
    refine (len_n _ _ _ _ 65536 _ hm (by rw [HXL.out]; omega)).mono ?_
    rintro e w4 ⟨rfl, rfl⟩
    have hio' : i < 0 ∨ (xs.length : Int) ≤ i := by rw [HXL.out]; omega
    have HIO := hid hio'
    clear hio'
    go_wp2_with fail
    refine (store_out _ _ _ _ i 7 _ hm HIO.out).mono ?_
    rintro e w5 ⟨rfl, rfl⟩
    go_wp2_with fail
    refine (load_out _ _ _ _ i _ hm HIO.out).mono ?_
    rintro e w5 ⟨rfl, rfl⟩
    go_wp2_with fail
    refine (swap_out _ _ _ _ i 7 8 _ hm HIO.out).mono ?_
    rintro e w5 ⟨rfl, rfl⟩
    go_wp2_with fail
    refine (add_out _ _ _ _ i 1 _ hm HIO.out).mono ?_
    rintro e w5 ⟨rfl, rfl⟩
    go_wp2_with fail
    refine (nil_len _).mono ?_
    rintro e wn ⟨rfl, rfl⟩
    go_wp2_with fail
    refine (nil_load _ _).mono ?_
    rintro e wn ⟨rfl, rfl⟩
    go_wp2_with fail
    refine (nil_store _ _ _).mono ?_
    rintro e wn ⟨rfl, rfl⟩
    go_wp2_with fail
    refine (nil_swap _ _ _ _).mono ?_
    rintro e wn ⟨rfl, rfl⟩
    go_wp2_with fail
    refine (nil_add _ _ _).mono ?_
    rintro e wn ⟨rfl, rfl⟩
    go_wp2_with fail
    refine (nil_count _).mono ?_
    rintro e wn ⟨rfl, rfl⟩
    go_wp2_with fail
    refine (nil_copy _).mono ?_
    rintro e wn ⟨rfl, rfl⟩
    go_wp2_with fail
    refine (new_ex 0 0 rfl _).mono ?_
    rintro e wz ⟨bz, gz, rfl, hmz, hbz, hgz, hbelz⟩
    go_wp2_with fail
    refine (nil_same _ _ _ _ _ hmz (by simp)).mono ?_
    rintro e wq ⟨rfl, hq⟩
    have hsz := hbelz.size
    have hm9 : Mem wq b g _ _ := (hm.below hbelz hm.sb hm.sg).quiet hq
    go_wp2_with fail
    refine (count_any _ _ _ _ _ hm9).mono ?_
    rintro e w9 ⟨rfl, rfl⟩
    go_wp2
    go_ret
    exact ⟨rfl, ((hb1.trans (hb3.mono hs1)).trans (hbelz.mono (by omega))).trans (hq.below _)⟩

theorem walk (a0 a1 : Int) (w : World) (w0 : (Lit.int .i64 a0).wf = true) (w1 : (Lit.int .i64 a1).wf = true) :
    Calls Try.prog 6 #[.int .i64 a0, .int .i64 a1] w fun e w' => e = .returned (.bool true) ∧ Below w.heap.size w w' := by
  have hb := bounds_i64 w0
  by_cases c1 : a0 ≤ 0
  · exact walk_neg_out a0 a1 w c1 (by omega)
  by_cases c2 : a0 ≤ 3000
  · by_cases d : 0 ≤ a1 ∧ a1 < a0
    · exact walk_few_in a0 a1 w (by omega) c2 d.1 d.2
    · exact walk_few_out a0 a1 w (by omega) c2 (by omega)
  by_cases d : 0 ≤ a1 ∧ a1 < 65536
  · by_cases c3 : a0 ≤ 65536
    · by_cases p : a0 % 2 ≤ 0
      · exact walk_mid_in0 a0 a1 w p (by omega) c3 d.1 d.2
      · exact walk_mid_in1 a0 a1 w (by omega) (by omega) c3 d.1 d.2
    · by_cases c4 : a0 < 1073741824
      · by_cases p : a0 % 2 ≤ 0
        · exact walk_big_in0 a0 a1 w p (by omega) c4 d.1 d.2
        · exact walk_big_in1 a0 a1 w (by omega) (by omega) c4 d.1 d.2
      · exact walk_huge_in a0 a1 w (by omega) (by omega) d.1 d.2
  · by_cases c3 : a0 ≤ 65536
    · by_cases p : a0 % 2 ≤ 0
      · exact walk_mid_out0 a0 a1 w p (by omega) c3 (by omega)
      · exact walk_mid_out1 a0 a1 w (by omega) (by omega) c3 (by omega)
    · by_cases c4 : a0 < 1073741824
      · by_cases p : a0 % 2 ≤ 0
        · exact walk_big_out0 a0 a1 w p (by omega) c4 (by omega)
        · exact walk_big_out1 a0 a1 w (by omega) (by omega) c4 (by omega)
      · exact walk_huge_out a0 a1 w (by omega) (by omega) (by omega)
end Go.Proofs.Ytdljacmagabilaa.cellBounds
