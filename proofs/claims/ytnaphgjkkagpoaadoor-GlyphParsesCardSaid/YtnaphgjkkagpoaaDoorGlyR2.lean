/- The document's word of an event, and the text of a row. -/
import Derived.Test.YtnaphgjkkagpoaaDoorGlyR
import Derived.Deep.RegionHeld3
import Derived.Deep.RegionWith
import Derived.Deep.CutRange
namespace Go.Proofs.YtnaphgjkkagpoaaDoor
set_option linter.unusedVariables false
set_option linter.unusedSimpArgs false
set_option maxRecDepth 20000
open Go.RowKit

set_option maxHeartbeats 8000000 in
theorem rword_000 (k : Nat) (g m p v : Int) (k8 : k < 8) (hg : 0 ≤ g ∧ g < 4096) (hm : -1 ≤ m ∧ m < 128) (hp : -1 ≤ p ∧ p < 64) (hv : -9223372036854775808 ≤ v ∧ v ≤ 9223372036854775807) (tm : decide (0 ≤ m) = false) (tp : decide (0 ≤ p) = false) (tv : (v != 0) = false) (w : World) :
    Calls Tryd.prog 12 #[.agg #[.int .i64 k, .int .i64 g, .int .i64 m, .int .i64 p, .int .i64 v]] w fun e w' => e = .returned (.string (glText k ++ itoaB g)) ∧ Below w.heap.size w w' := by
  have z0 := text_size k k8
  have z1 := itoaB_size g (by omega) (by omega)
  have z2 := itoaB_size m (by omega) (by omega)
  have z3 := itoaB_size p (by omega) (by omega)
  have z4 := itoaB_size v hv.1 hv.2
  have RK := hid (rk_any k k8)
  have NG := hid (rnum_any g (by omega) (by omega))
  have NM := hid (rnum_any m (by omega) (by omega))
  have NP := hid (rnum_any p (by omega) (by omega))
  have NV := hid (rnum_any v hv.1 hv.2)
  have ad0 := fun w => run_string_add_sum (P := Tryd.prog) w (glText k) (itoaB g) (by omega)
  clear z0 z1 z2 z3 z4 k8 hg hm hp hv
  have hbx := heap_alloc_new w (.cells #[.int .i64 k, .int .i64 g, .int .i64 m, .int .i64 p, .int .i64 v] 34)
  have HB0 := hid ((Below.refl w.heap.size w).alloc (Nat.le_refl _) (.cells #[.int .i64 k, .int .i64 g, .int .i64 m, .int .i64 p, .int .i64 v] 34))
  have HC := hid (fun (y : World) (hy : Below (w.alloc (.cells #[.int .i64 k, .int .i64 g, .int .i64 m, .int .i64 p, .int .i64 v] 34)).heap.size (w.alloc (.cells #[.int .i64 k, .int .i64 g, .int .i64 m, .int .i64 p, .int .i64 v] 34)) y) => ev5c ((hy.block w.heap.size (by simp)).trans hbx))
  have HS := hid (fun (y : World) (hy : Below (w.alloc (.cells #[.int .i64 k, .int .i64 g, .int .i64 m, .int .i64 p, .int .i64 v] 34)).heap.size (w.alloc (.cells #[.int .i64 k, .int .i64 g, .int .i64 m, .int .i64 p, .int .i64 v] 34)) y) => And.intro (HC.out y hy).1 (HC.out y hy).2.1)
  have BX := hid (show Below (w.alloc (.cells #[.int .i64 k, .int .i64 g, .int .i64 m, .int .i64 p, .int .i64 v] 34)).heap.size (w.alloc (.cells #[.int .i64 k, .int .i64 g, .int .i64 m, .int .i64 p, .int .i64 v] 34)) (w.alloc (.cells #[.int .i64 k, .int .i64 g, .int .i64 m, .int .i64 p, .int .i64 v] 34)).drew from Quiet.below ⟨1, rfl⟩ _)
  clear hbx
  go_enter Tryd.func12, Tryd.ntmps12
  go_upto_region 1 with (fail)
  go_region_held3 (fun y => y.cell? ⟨w.heap.size, 0, none⟩ = some (.int .i64 k) ∧ y.cell? ⟨w.heap.size, 1, none⟩ = some (.int .i64 g))
    (with_reducible exact HS.out _ BX.out)
    (first
      | (go_at_call 23; (with_reducible refine (RK.out _).mono ?_); rintro e w7 ⟨rfl, hb7⟩; have BY := hid (BX.out.trans (hb7.mono BX.out.size)); clear hb7 BX; have BX := BY; clear BY)
      | (go_at_call 24; (with_reducible refine (NG.out _).mono ?_); rintro e w8 ⟨rfl, hb8⟩; have BY := hid (BX.out.trans (hb8.mono BX.out.size)); clear hb8 BX; have BX := BY; clear BY))
  all_goals
    clear RK NG HS
    obtain ⟨c0, c1, c2, c3, c4⟩ := HC.out _ BX.out
    go_wp2
    go_ret
    exact ⟨rfl, HB0.out.trans (BX.out.mono HB0.out.size)⟩
set_option maxHeartbeats 8000000 in
theorem rword_001 (k : Nat) (g m p v : Int) (k8 : k < 8) (hg : 0 ≤ g ∧ g < 4096) (hm : -1 ≤ m ∧ m < 128) (hp : -1 ≤ p ∧ p < 64) (hv : -9223372036854775808 ≤ v ∧ v ≤ 9223372036854775807) (tm : decide (0 ≤ m) = false) (tp : decide (0 ≤ p) = false) (tv : (v != 0) = true) (w : World) :
    Calls Tryd.prog 12 #[.agg #[.int .i64 k, .int .i64 g, .int .i64 m, .int .i64 p, .int .i64 v]] w fun e w' => e = .returned (.string (((glText k ++ itoaB g) ++ { data := #[61] }) ++ itoaB v)) ∧ Below w.heap.size w w' := by
  have z0 := text_size k k8
  have z1 := itoaB_size g (by omega) (by omega)
  have z2 := itoaB_size m (by omega) (by omega)
  have z3 := itoaB_size p (by omega) (by omega)
  have z4 := itoaB_size v hv.1 hv.2
  have RK := hid (rk_any k k8)
  have NG := hid (rnum_any g (by omega) (by omega))
  have NM := hid (rnum_any m (by omega) (by omega))
  have NP := hid (rnum_any p (by omega) (by omega))
  have NV := hid (rnum_any v hv.1 hv.2)
  have ad0 := fun w => run_string_add_sum (P := Tryd.prog) w (glText k) (itoaB g) (by omega)
  have ad1 := fun w => run_string_add_sum (P := Tryd.prog) w ((glText k ++ itoaB g)) { data := #[61] } (by simp only [ByteArray.size_append, sz109, sz112, sz61]; omega)
  have ad2 := fun w => run_string_add_sum (P := Tryd.prog) w ((glText k ++ itoaB g) ++ { data := #[61] }) (itoaB v) (by simp only [ByteArray.size_append, sz109, sz112, sz61]; omega)
  clear z0 z1 z2 z3 z4 k8 hg hm hp hv
  have hbx := heap_alloc_new w (.cells #[.int .i64 k, .int .i64 g, .int .i64 m, .int .i64 p, .int .i64 v] 34)
  have HB0 := hid ((Below.refl w.heap.size w).alloc (Nat.le_refl _) (.cells #[.int .i64 k, .int .i64 g, .int .i64 m, .int .i64 p, .int .i64 v] 34))
  have HC := hid (fun (y : World) (hy : Below (w.alloc (.cells #[.int .i64 k, .int .i64 g, .int .i64 m, .int .i64 p, .int .i64 v] 34)).heap.size (w.alloc (.cells #[.int .i64 k, .int .i64 g, .int .i64 m, .int .i64 p, .int .i64 v] 34)) y) => ev5c ((hy.block w.heap.size (by simp)).trans hbx))
  have HS := hid (fun (y : World) (hy : Below (w.alloc (.cells #[.int .i64 k, .int .i64 g, .int .i64 m, .int .i64 p, .int .i64 v] 34)).heap.size (w.alloc (.cells #[.int .i64 k, .int .i64 g, .int .i64 m, .int .i64 p, .int .i64 v] 34)) y) => And.intro (HC.out y hy).1 (HC.out y hy).2.1)
  have BX := hid (show Below (w.alloc (.cells #[.int .i64 k, .int .i64 g, .int .i64 m, .int .i64 p, .int .i64 v] 34)).heap.size (w.alloc (.cells #[.int .i64 k, .int .i64 g, .int .i64 m, .int .i64 p, .int .i64 v] 34)) (w.alloc (.cells #[.int .i64 k, .int .i64 g, .int .i64 m, .int .i64 p, .int .i64 v] 34)).drew from Quiet.below ⟨1, rfl⟩ _)
  clear hbx
  go_enter Tryd.func12, Tryd.ntmps12
  go_upto_region 1 with (fail)
  go_region_held3 (fun y => y.cell? ⟨w.heap.size, 0, none⟩ = some (.int .i64 k) ∧ y.cell? ⟨w.heap.size, 1, none⟩ = some (.int .i64 g))
    (with_reducible exact HS.out _ BX.out)
    (first
      | (go_at_call 23; (with_reducible refine (RK.out _).mono ?_); rintro e w7 ⟨rfl, hb7⟩; have BY := hid (BX.out.trans (hb7.mono BX.out.size)); clear hb7 BX; have BX := BY; clear BY)
      | (go_at_call 24; (with_reducible refine (NG.out _).mono ?_); rintro e w8 ⟨rfl, hb8⟩; have BY := hid (BX.out.trans (hb8.mono BX.out.size)); clear hb8 BX; have BX := BY; clear BY))
  all_goals
    clear RK NG HS
    obtain ⟨c0, c1, c2, c3, c4⟩ := HC.out _ BX.out
    go_wp2_with fail
    refine (NV.out _).mono ?_
    rintro e wv ⟨rfl, hb⟩
    have BY := hid (BX.out.trans (hb.mono BX.out.size))
    clear hb BX c0 c1 c2 c3 c4
    have BX := BY
    clear BY
    obtain ⟨c0, c1, c2, c3, c4⟩ := HC.out _ BX.out
    go_wp2
    go_ret
    exact ⟨rfl, HB0.out.trans (BX.out.mono HB0.out.size)⟩
set_option maxHeartbeats 8000000 in
theorem rword_010 (k : Nat) (g m p v : Int) (k8 : k < 8) (hg : 0 ≤ g ∧ g < 4096) (hm : -1 ≤ m ∧ m < 128) (hp : -1 ≤ p ∧ p < 64) (hv : -9223372036854775808 ≤ v ∧ v ≤ 9223372036854775807) (tm : decide (0 ≤ m) = false) (tp : decide (0 ≤ p) = true) (tv : (v != 0) = false) (w : World) :
    Calls Tryd.prog 12 #[.agg #[.int .i64 k, .int .i64 g, .int .i64 m, .int .i64 p, .int .i64 v]] w fun e w' => e = .returned (.string (((glText k ++ itoaB g) ++ { data := #[112] }) ++ itoaB p)) ∧ Below w.heap.size w w' := by
  have z0 := text_size k k8
  have z1 := itoaB_size g (by omega) (by omega)
  have z2 := itoaB_size m (by omega) (by omega)
  have z3 := itoaB_size p (by omega) (by omega)
  have z4 := itoaB_size v hv.1 hv.2
  have RK := hid (rk_any k k8)
  have NG := hid (rnum_any g (by omega) (by omega))
  have NM := hid (rnum_any m (by omega) (by omega))
  have NP := hid (rnum_any p (by omega) (by omega))
  have NV := hid (rnum_any v hv.1 hv.2)
  have ad0 := fun w => run_string_add_sum (P := Tryd.prog) w (glText k) (itoaB g) (by omega)
  have ad1 := fun w => run_string_add_sum (P := Tryd.prog) w ((glText k ++ itoaB g)) { data := #[112] } (by simp only [ByteArray.size_append, sz109, sz112, sz61]; omega)
  have ad2 := fun w => run_string_add_sum (P := Tryd.prog) w ((glText k ++ itoaB g) ++ { data := #[112] }) (itoaB p) (by simp only [ByteArray.size_append, sz109, sz112, sz61]; omega)
  clear z0 z1 z2 z3 z4 k8 hg hm hp hv
  have hbx := heap_alloc_new w (.cells #[.int .i64 k, .int .i64 g, .int .i64 m, .int .i64 p, .int .i64 v] 34)
  have HB0 := hid ((Below.refl w.heap.size w).alloc (Nat.le_refl _) (.cells #[.int .i64 k, .int .i64 g, .int .i64 m, .int .i64 p, .int .i64 v] 34))
  have HC := hid (fun (y : World) (hy : Below (w.alloc (.cells #[.int .i64 k, .int .i64 g, .int .i64 m, .int .i64 p, .int .i64 v] 34)).heap.size (w.alloc (.cells #[.int .i64 k, .int .i64 g, .int .i64 m, .int .i64 p, .int .i64 v] 34)) y) => ev5c ((hy.block w.heap.size (by simp)).trans hbx))
  have HS := hid (fun (y : World) (hy : Below (w.alloc (.cells #[.int .i64 k, .int .i64 g, .int .i64 m, .int .i64 p, .int .i64 v] 34)).heap.size (w.alloc (.cells #[.int .i64 k, .int .i64 g, .int .i64 m, .int .i64 p, .int .i64 v] 34)) y) => And.intro (HC.out y hy).1 (HC.out y hy).2.1)
  have BX := hid (show Below (w.alloc (.cells #[.int .i64 k, .int .i64 g, .int .i64 m, .int .i64 p, .int .i64 v] 34)).heap.size (w.alloc (.cells #[.int .i64 k, .int .i64 g, .int .i64 m, .int .i64 p, .int .i64 v] 34)) (w.alloc (.cells #[.int .i64 k, .int .i64 g, .int .i64 m, .int .i64 p, .int .i64 v] 34)).drew from Quiet.below ⟨1, rfl⟩ _)
  clear hbx
  go_enter Tryd.func12, Tryd.ntmps12
  go_upto_region 1 with (fail)
  go_region_held3 (fun y => y.cell? ⟨w.heap.size, 0, none⟩ = some (.int .i64 k) ∧ y.cell? ⟨w.heap.size, 1, none⟩ = some (.int .i64 g))
    (with_reducible exact HS.out _ BX.out)
    (first
      | (go_at_call 23; (with_reducible refine (RK.out _).mono ?_); rintro e w7 ⟨rfl, hb7⟩; have BY := hid (BX.out.trans (hb7.mono BX.out.size)); clear hb7 BX; have BX := BY; clear BY)
      | (go_at_call 24; (with_reducible refine (NG.out _).mono ?_); rintro e w8 ⟨rfl, hb8⟩; have BY := hid (BX.out.trans (hb8.mono BX.out.size)); clear hb8 BX; have BX := BY; clear BY))
  all_goals
    clear RK NG HS
    obtain ⟨c0, c1, c2, c3, c4⟩ := HC.out _ BX.out
    go_wp2_with fail
    refine (NP.out _).mono ?_
    rintro e wp ⟨rfl, hb⟩
    have BY := hid (BX.out.trans (hb.mono BX.out.size))
    clear hb BX c0 c1 c2 c3 c4
    have BX := BY
    clear BY
    obtain ⟨c0, c1, c2, c3, c4⟩ := HC.out _ BX.out
    go_wp2
    go_ret
    exact ⟨rfl, HB0.out.trans (BX.out.mono HB0.out.size)⟩
set_option maxHeartbeats 8000000 in
theorem rword_011 (k : Nat) (g m p v : Int) (k8 : k < 8) (hg : 0 ≤ g ∧ g < 4096) (hm : -1 ≤ m ∧ m < 128) (hp : -1 ≤ p ∧ p < 64) (hv : -9223372036854775808 ≤ v ∧ v ≤ 9223372036854775807) (tm : decide (0 ≤ m) = false) (tp : decide (0 ≤ p) = true) (tv : (v != 0) = true) (w : World) :
    Calls Tryd.prog 12 #[.agg #[.int .i64 k, .int .i64 g, .int .i64 m, .int .i64 p, .int .i64 v]] w fun e w' => e = .returned (.string (((((glText k ++ itoaB g) ++ { data := #[112] }) ++ itoaB p) ++ { data := #[61] }) ++ itoaB v)) ∧ Below w.heap.size w w' := by
  have z0 := text_size k k8
  have z1 := itoaB_size g (by omega) (by omega)
  have z2 := itoaB_size m (by omega) (by omega)
  have z3 := itoaB_size p (by omega) (by omega)
  have z4 := itoaB_size v hv.1 hv.2
  have RK := hid (rk_any k k8)
  have NG := hid (rnum_any g (by omega) (by omega))
  have NM := hid (rnum_any m (by omega) (by omega))
  have NP := hid (rnum_any p (by omega) (by omega))
  have NV := hid (rnum_any v hv.1 hv.2)
  have ad0 := fun w => run_string_add_sum (P := Tryd.prog) w (glText k) (itoaB g) (by omega)
  have ad1 := fun w => run_string_add_sum (P := Tryd.prog) w ((glText k ++ itoaB g)) { data := #[112] } (by simp only [ByteArray.size_append, sz109, sz112, sz61]; omega)
  have ad2 := fun w => run_string_add_sum (P := Tryd.prog) w ((glText k ++ itoaB g) ++ { data := #[112] }) (itoaB p) (by simp only [ByteArray.size_append, sz109, sz112, sz61]; omega)
  have ad3 := fun w => run_string_add_sum (P := Tryd.prog) w ((((glText k ++ itoaB g) ++ { data := #[112] }) ++ itoaB p)) { data := #[61] } (by simp only [ByteArray.size_append, sz109, sz112, sz61]; omega)
  have ad4 := fun w => run_string_add_sum (P := Tryd.prog) w ((((glText k ++ itoaB g) ++ { data := #[112] }) ++ itoaB p) ++ { data := #[61] }) (itoaB v) (by simp only [ByteArray.size_append, sz109, sz112, sz61]; omega)
  clear z0 z1 z2 z3 z4 k8 hg hm hp hv
  have hbx := heap_alloc_new w (.cells #[.int .i64 k, .int .i64 g, .int .i64 m, .int .i64 p, .int .i64 v] 34)
  have HB0 := hid ((Below.refl w.heap.size w).alloc (Nat.le_refl _) (.cells #[.int .i64 k, .int .i64 g, .int .i64 m, .int .i64 p, .int .i64 v] 34))
  have HC := hid (fun (y : World) (hy : Below (w.alloc (.cells #[.int .i64 k, .int .i64 g, .int .i64 m, .int .i64 p, .int .i64 v] 34)).heap.size (w.alloc (.cells #[.int .i64 k, .int .i64 g, .int .i64 m, .int .i64 p, .int .i64 v] 34)) y) => ev5c ((hy.block w.heap.size (by simp)).trans hbx))
  have HS := hid (fun (y : World) (hy : Below (w.alloc (.cells #[.int .i64 k, .int .i64 g, .int .i64 m, .int .i64 p, .int .i64 v] 34)).heap.size (w.alloc (.cells #[.int .i64 k, .int .i64 g, .int .i64 m, .int .i64 p, .int .i64 v] 34)) y) => And.intro (HC.out y hy).1 (HC.out y hy).2.1)
  have BX := hid (show Below (w.alloc (.cells #[.int .i64 k, .int .i64 g, .int .i64 m, .int .i64 p, .int .i64 v] 34)).heap.size (w.alloc (.cells #[.int .i64 k, .int .i64 g, .int .i64 m, .int .i64 p, .int .i64 v] 34)) (w.alloc (.cells #[.int .i64 k, .int .i64 g, .int .i64 m, .int .i64 p, .int .i64 v] 34)).drew from Quiet.below ⟨1, rfl⟩ _)
  clear hbx
  go_enter Tryd.func12, Tryd.ntmps12
  go_upto_region 1 with (fail)
  go_region_held3 (fun y => y.cell? ⟨w.heap.size, 0, none⟩ = some (.int .i64 k) ∧ y.cell? ⟨w.heap.size, 1, none⟩ = some (.int .i64 g))
    (with_reducible exact HS.out _ BX.out)
    (first
      | (go_at_call 23; (with_reducible refine (RK.out _).mono ?_); rintro e w7 ⟨rfl, hb7⟩; have BY := hid (BX.out.trans (hb7.mono BX.out.size)); clear hb7 BX; have BX := BY; clear BY)
      | (go_at_call 24; (with_reducible refine (NG.out _).mono ?_); rintro e w8 ⟨rfl, hb8⟩; have BY := hid (BX.out.trans (hb8.mono BX.out.size)); clear hb8 BX; have BX := BY; clear BY))
  all_goals
    clear RK NG HS
    obtain ⟨c0, c1, c2, c3, c4⟩ := HC.out _ BX.out
    go_wp2_with fail
    refine (NP.out _).mono ?_
    rintro e wp ⟨rfl, hb⟩
    have BY := hid (BX.out.trans (hb.mono BX.out.size))
    clear hb BX c0 c1 c2 c3 c4
    have BX := BY
    clear BY
    obtain ⟨c0, c1, c2, c3, c4⟩ := HC.out _ BX.out
    go_wp2_with fail
    refine (NV.out _).mono ?_
    rintro e wv ⟨rfl, hb⟩
    have BY := hid (BX.out.trans (hb.mono BX.out.size))
    clear hb BX c0 c1 c2 c3 c4
    have BX := BY
    clear BY
    obtain ⟨c0, c1, c2, c3, c4⟩ := HC.out _ BX.out
    go_wp2
    go_ret
    exact ⟨rfl, HB0.out.trans (BX.out.mono HB0.out.size)⟩
set_option maxHeartbeats 8000000 in
theorem rword_100 (k : Nat) (g m p v : Int) (k8 : k < 8) (hg : 0 ≤ g ∧ g < 4096) (hm : -1 ≤ m ∧ m < 128) (hp : -1 ≤ p ∧ p < 64) (hv : -9223372036854775808 ≤ v ∧ v ≤ 9223372036854775807) (tm : decide (0 ≤ m) = true) (tp : decide (0 ≤ p) = false) (tv : (v != 0) = false) (w : World) :
    Calls Tryd.prog 12 #[.agg #[.int .i64 k, .int .i64 g, .int .i64 m, .int .i64 p, .int .i64 v]] w fun e w' => e = .returned (.string (((glText k ++ itoaB g) ++ { data := #[109] }) ++ itoaB m)) ∧ Below w.heap.size w w' := by
  have z0 := text_size k k8
  have z1 := itoaB_size g (by omega) (by omega)
  have z2 := itoaB_size m (by omega) (by omega)
  have z3 := itoaB_size p (by omega) (by omega)
  have z4 := itoaB_size v hv.1 hv.2
  have RK := hid (rk_any k k8)
  have NG := hid (rnum_any g (by omega) (by omega))
  have NM := hid (rnum_any m (by omega) (by omega))
  have NP := hid (rnum_any p (by omega) (by omega))
  have NV := hid (rnum_any v hv.1 hv.2)
  have ad0 := fun w => run_string_add_sum (P := Tryd.prog) w (glText k) (itoaB g) (by omega)
  have ad1 := fun w => run_string_add_sum (P := Tryd.prog) w ((glText k ++ itoaB g)) { data := #[109] } (by simp only [ByteArray.size_append, sz109, sz112, sz61]; omega)
  have ad2 := fun w => run_string_add_sum (P := Tryd.prog) w ((glText k ++ itoaB g) ++ { data := #[109] }) (itoaB m) (by simp only [ByteArray.size_append, sz109, sz112, sz61]; omega)
  clear z0 z1 z2 z3 z4 k8 hg hm hp hv
  have hbx := heap_alloc_new w (.cells #[.int .i64 k, .int .i64 g, .int .i64 m, .int .i64 p, .int .i64 v] 34)
  have HB0 := hid ((Below.refl w.heap.size w).alloc (Nat.le_refl _) (.cells #[.int .i64 k, .int .i64 g, .int .i64 m, .int .i64 p, .int .i64 v] 34))
  have HC := hid (fun (y : World) (hy : Below (w.alloc (.cells #[.int .i64 k, .int .i64 g, .int .i64 m, .int .i64 p, .int .i64 v] 34)).heap.size (w.alloc (.cells #[.int .i64 k, .int .i64 g, .int .i64 m, .int .i64 p, .int .i64 v] 34)) y) => ev5c ((hy.block w.heap.size (by simp)).trans hbx))
  have HS := hid (fun (y : World) (hy : Below (w.alloc (.cells #[.int .i64 k, .int .i64 g, .int .i64 m, .int .i64 p, .int .i64 v] 34)).heap.size (w.alloc (.cells #[.int .i64 k, .int .i64 g, .int .i64 m, .int .i64 p, .int .i64 v] 34)) y) => And.intro (HC.out y hy).1 (HC.out y hy).2.1)
  have BX := hid (show Below (w.alloc (.cells #[.int .i64 k, .int .i64 g, .int .i64 m, .int .i64 p, .int .i64 v] 34)).heap.size (w.alloc (.cells #[.int .i64 k, .int .i64 g, .int .i64 m, .int .i64 p, .int .i64 v] 34)) (w.alloc (.cells #[.int .i64 k, .int .i64 g, .int .i64 m, .int .i64 p, .int .i64 v] 34)).drew from Quiet.below ⟨1, rfl⟩ _)
  clear hbx
  go_enter Tryd.func12, Tryd.ntmps12
  go_upto_region 1 with (fail)
  go_region_held3 (fun y => y.cell? ⟨w.heap.size, 0, none⟩ = some (.int .i64 k) ∧ y.cell? ⟨w.heap.size, 1, none⟩ = some (.int .i64 g))
    (with_reducible exact HS.out _ BX.out)
    (first
      | (go_at_call 23; (with_reducible refine (RK.out _).mono ?_); rintro e w7 ⟨rfl, hb7⟩; have BY := hid (BX.out.trans (hb7.mono BX.out.size)); clear hb7 BX; have BX := BY; clear BY)
      | (go_at_call 24; (with_reducible refine (NG.out _).mono ?_); rintro e w8 ⟨rfl, hb8⟩; have BY := hid (BX.out.trans (hb8.mono BX.out.size)); clear hb8 BX; have BX := BY; clear BY))
  all_goals
    clear RK NG HS
    obtain ⟨c0, c1, c2, c3, c4⟩ := HC.out _ BX.out
    go_wp2_with fail
    refine (NM.out _).mono ?_
    rintro e wm ⟨rfl, hb⟩
    have BY := hid (BX.out.trans (hb.mono BX.out.size))
    clear hb BX c0 c1 c2 c3 c4
    have BX := BY
    clear BY
    obtain ⟨c0, c1, c2, c3, c4⟩ := HC.out _ BX.out
    go_wp2
    go_ret
    exact ⟨rfl, HB0.out.trans (BX.out.mono HB0.out.size)⟩
set_option maxHeartbeats 8000000 in
theorem rword_101 (k : Nat) (g m p v : Int) (k8 : k < 8) (hg : 0 ≤ g ∧ g < 4096) (hm : -1 ≤ m ∧ m < 128) (hp : -1 ≤ p ∧ p < 64) (hv : -9223372036854775808 ≤ v ∧ v ≤ 9223372036854775807) (tm : decide (0 ≤ m) = true) (tp : decide (0 ≤ p) = false) (tv : (v != 0) = true) (w : World) :
    Calls Tryd.prog 12 #[.agg #[.int .i64 k, .int .i64 g, .int .i64 m, .int .i64 p, .int .i64 v]] w fun e w' => e = .returned (.string (((((glText k ++ itoaB g) ++ { data := #[109] }) ++ itoaB m) ++ { data := #[61] }) ++ itoaB v)) ∧ Below w.heap.size w w' := by
  have z0 := text_size k k8
  have z1 := itoaB_size g (by omega) (by omega)
  have z2 := itoaB_size m (by omega) (by omega)
  have z3 := itoaB_size p (by omega) (by omega)
  have z4 := itoaB_size v hv.1 hv.2
  have RK := hid (rk_any k k8)
  have NG := hid (rnum_any g (by omega) (by omega))
  have NM := hid (rnum_any m (by omega) (by omega))
  have NP := hid (rnum_any p (by omega) (by omega))
  have NV := hid (rnum_any v hv.1 hv.2)
  have ad0 := fun w => run_string_add_sum (P := Tryd.prog) w (glText k) (itoaB g) (by omega)
  have ad1 := fun w => run_string_add_sum (P := Tryd.prog) w ((glText k ++ itoaB g)) { data := #[109] } (by simp only [ByteArray.size_append, sz109, sz112, sz61]; omega)
  have ad2 := fun w => run_string_add_sum (P := Tryd.prog) w ((glText k ++ itoaB g) ++ { data := #[109] }) (itoaB m) (by simp only [ByteArray.size_append, sz109, sz112, sz61]; omega)
  have ad3 := fun w => run_string_add_sum (P := Tryd.prog) w ((((glText k ++ itoaB g) ++ { data := #[109] }) ++ itoaB m)) { data := #[61] } (by simp only [ByteArray.size_append, sz109, sz112, sz61]; omega)
  have ad4 := fun w => run_string_add_sum (P := Tryd.prog) w ((((glText k ++ itoaB g) ++ { data := #[109] }) ++ itoaB m) ++ { data := #[61] }) (itoaB v) (by simp only [ByteArray.size_append, sz109, sz112, sz61]; omega)
  clear z0 z1 z2 z3 z4 k8 hg hm hp hv
  have hbx := heap_alloc_new w (.cells #[.int .i64 k, .int .i64 g, .int .i64 m, .int .i64 p, .int .i64 v] 34)
  have HB0 := hid ((Below.refl w.heap.size w).alloc (Nat.le_refl _) (.cells #[.int .i64 k, .int .i64 g, .int .i64 m, .int .i64 p, .int .i64 v] 34))
  have HC := hid (fun (y : World) (hy : Below (w.alloc (.cells #[.int .i64 k, .int .i64 g, .int .i64 m, .int .i64 p, .int .i64 v] 34)).heap.size (w.alloc (.cells #[.int .i64 k, .int .i64 g, .int .i64 m, .int .i64 p, .int .i64 v] 34)) y) => ev5c ((hy.block w.heap.size (by simp)).trans hbx))
  have HS := hid (fun (y : World) (hy : Below (w.alloc (.cells #[.int .i64 k, .int .i64 g, .int .i64 m, .int .i64 p, .int .i64 v] 34)).heap.size (w.alloc (.cells #[.int .i64 k, .int .i64 g, .int .i64 m, .int .i64 p, .int .i64 v] 34)) y) => And.intro (HC.out y hy).1 (HC.out y hy).2.1)
  have BX := hid (show Below (w.alloc (.cells #[.int .i64 k, .int .i64 g, .int .i64 m, .int .i64 p, .int .i64 v] 34)).heap.size (w.alloc (.cells #[.int .i64 k, .int .i64 g, .int .i64 m, .int .i64 p, .int .i64 v] 34)) (w.alloc (.cells #[.int .i64 k, .int .i64 g, .int .i64 m, .int .i64 p, .int .i64 v] 34)).drew from Quiet.below ⟨1, rfl⟩ _)
  clear hbx
  go_enter Tryd.func12, Tryd.ntmps12
  go_upto_region 1 with (fail)
  go_region_held3 (fun y => y.cell? ⟨w.heap.size, 0, none⟩ = some (.int .i64 k) ∧ y.cell? ⟨w.heap.size, 1, none⟩ = some (.int .i64 g))
    (with_reducible exact HS.out _ BX.out)
    (first
      | (go_at_call 23; (with_reducible refine (RK.out _).mono ?_); rintro e w7 ⟨rfl, hb7⟩; have BY := hid (BX.out.trans (hb7.mono BX.out.size)); clear hb7 BX; have BX := BY; clear BY)
      | (go_at_call 24; (with_reducible refine (NG.out _).mono ?_); rintro e w8 ⟨rfl, hb8⟩; have BY := hid (BX.out.trans (hb8.mono BX.out.size)); clear hb8 BX; have BX := BY; clear BY))
  all_goals
    clear RK NG HS
    obtain ⟨c0, c1, c2, c3, c4⟩ := HC.out _ BX.out
    go_wp2_with fail
    refine (NM.out _).mono ?_
    rintro e wm ⟨rfl, hb⟩
    have BY := hid (BX.out.trans (hb.mono BX.out.size))
    clear hb BX c0 c1 c2 c3 c4
    have BX := BY
    clear BY
    obtain ⟨c0, c1, c2, c3, c4⟩ := HC.out _ BX.out
    go_wp2_with fail
    refine (NV.out _).mono ?_
    rintro e wv ⟨rfl, hb⟩
    have BY := hid (BX.out.trans (hb.mono BX.out.size))
    clear hb BX c0 c1 c2 c3 c4
    have BX := BY
    clear BY
    obtain ⟨c0, c1, c2, c3, c4⟩ := HC.out _ BX.out
    go_wp2
    go_ret
    exact ⟨rfl, HB0.out.trans (BX.out.mono HB0.out.size)⟩
set_option maxHeartbeats 8000000 in
theorem rword_110 (k : Nat) (g m p v : Int) (k8 : k < 8) (hg : 0 ≤ g ∧ g < 4096) (hm : -1 ≤ m ∧ m < 128) (hp : -1 ≤ p ∧ p < 64) (hv : -9223372036854775808 ≤ v ∧ v ≤ 9223372036854775807) (tm : decide (0 ≤ m) = true) (tp : decide (0 ≤ p) = true) (tv : (v != 0) = false) (w : World) :
    Calls Tryd.prog 12 #[.agg #[.int .i64 k, .int .i64 g, .int .i64 m, .int .i64 p, .int .i64 v]] w fun e w' => e = .returned (.string (((((glText k ++ itoaB g) ++ { data := #[109] }) ++ itoaB m) ++ { data := #[112] }) ++ itoaB p)) ∧ Below w.heap.size w w' := by
  have z0 := text_size k k8
  have z1 := itoaB_size g (by omega) (by omega)
  have z2 := itoaB_size m (by omega) (by omega)
  have z3 := itoaB_size p (by omega) (by omega)
  have z4 := itoaB_size v hv.1 hv.2
  have RK := hid (rk_any k k8)
  have NG := hid (rnum_any g (by omega) (by omega))
  have NM := hid (rnum_any m (by omega) (by omega))
  have NP := hid (rnum_any p (by omega) (by omega))
  have NV := hid (rnum_any v hv.1 hv.2)
  have ad0 := fun w => run_string_add_sum (P := Tryd.prog) w (glText k) (itoaB g) (by omega)
  have ad1 := fun w => run_string_add_sum (P := Tryd.prog) w ((glText k ++ itoaB g)) { data := #[109] } (by simp only [ByteArray.size_append, sz109, sz112, sz61]; omega)
  have ad2 := fun w => run_string_add_sum (P := Tryd.prog) w ((glText k ++ itoaB g) ++ { data := #[109] }) (itoaB m) (by simp only [ByteArray.size_append, sz109, sz112, sz61]; omega)
  have ad3 := fun w => run_string_add_sum (P := Tryd.prog) w ((((glText k ++ itoaB g) ++ { data := #[109] }) ++ itoaB m)) { data := #[112] } (by simp only [ByteArray.size_append, sz109, sz112, sz61]; omega)
  have ad4 := fun w => run_string_add_sum (P := Tryd.prog) w ((((glText k ++ itoaB g) ++ { data := #[109] }) ++ itoaB m) ++ { data := #[112] }) (itoaB p) (by simp only [ByteArray.size_append, sz109, sz112, sz61]; omega)
  clear z0 z1 z2 z3 z4 k8 hg hm hp hv
  have hbx := heap_alloc_new w (.cells #[.int .i64 k, .int .i64 g, .int .i64 m, .int .i64 p, .int .i64 v] 34)
  have HB0 := hid ((Below.refl w.heap.size w).alloc (Nat.le_refl _) (.cells #[.int .i64 k, .int .i64 g, .int .i64 m, .int .i64 p, .int .i64 v] 34))
  have HC := hid (fun (y : World) (hy : Below (w.alloc (.cells #[.int .i64 k, .int .i64 g, .int .i64 m, .int .i64 p, .int .i64 v] 34)).heap.size (w.alloc (.cells #[.int .i64 k, .int .i64 g, .int .i64 m, .int .i64 p, .int .i64 v] 34)) y) => ev5c ((hy.block w.heap.size (by simp)).trans hbx))
  have HS := hid (fun (y : World) (hy : Below (w.alloc (.cells #[.int .i64 k, .int .i64 g, .int .i64 m, .int .i64 p, .int .i64 v] 34)).heap.size (w.alloc (.cells #[.int .i64 k, .int .i64 g, .int .i64 m, .int .i64 p, .int .i64 v] 34)) y) => And.intro (HC.out y hy).1 (HC.out y hy).2.1)
  have BX := hid (show Below (w.alloc (.cells #[.int .i64 k, .int .i64 g, .int .i64 m, .int .i64 p, .int .i64 v] 34)).heap.size (w.alloc (.cells #[.int .i64 k, .int .i64 g, .int .i64 m, .int .i64 p, .int .i64 v] 34)) (w.alloc (.cells #[.int .i64 k, .int .i64 g, .int .i64 m, .int .i64 p, .int .i64 v] 34)).drew from Quiet.below ⟨1, rfl⟩ _)
  clear hbx
  go_enter Tryd.func12, Tryd.ntmps12
  go_upto_region 1 with (fail)
  go_region_held3 (fun y => y.cell? ⟨w.heap.size, 0, none⟩ = some (.int .i64 k) ∧ y.cell? ⟨w.heap.size, 1, none⟩ = some (.int .i64 g))
    (with_reducible exact HS.out _ BX.out)
    (first
      | (go_at_call 23; (with_reducible refine (RK.out _).mono ?_); rintro e w7 ⟨rfl, hb7⟩; have BY := hid (BX.out.trans (hb7.mono BX.out.size)); clear hb7 BX; have BX := BY; clear BY)
      | (go_at_call 24; (with_reducible refine (NG.out _).mono ?_); rintro e w8 ⟨rfl, hb8⟩; have BY := hid (BX.out.trans (hb8.mono BX.out.size)); clear hb8 BX; have BX := BY; clear BY))
  all_goals
    clear RK NG HS
    obtain ⟨c0, c1, c2, c3, c4⟩ := HC.out _ BX.out
    go_wp2_with fail
    refine (NM.out _).mono ?_
    rintro e wm ⟨rfl, hb⟩
    have BY := hid (BX.out.trans (hb.mono BX.out.size))
    clear hb BX c0 c1 c2 c3 c4
    have BX := BY
    clear BY
    obtain ⟨c0, c1, c2, c3, c4⟩ := HC.out _ BX.out
    go_wp2_with fail
    refine (NP.out _).mono ?_
    rintro e wp ⟨rfl, hb⟩
    have BY := hid (BX.out.trans (hb.mono BX.out.size))
    clear hb BX c0 c1 c2 c3 c4
    have BX := BY
    clear BY
    obtain ⟨c0, c1, c2, c3, c4⟩ := HC.out _ BX.out
    go_wp2
    go_ret
    exact ⟨rfl, HB0.out.trans (BX.out.mono HB0.out.size)⟩
set_option maxHeartbeats 8000000 in
theorem rword_111 (k : Nat) (g m p v : Int) (k8 : k < 8) (hg : 0 ≤ g ∧ g < 4096) (hm : -1 ≤ m ∧ m < 128) (hp : -1 ≤ p ∧ p < 64) (hv : -9223372036854775808 ≤ v ∧ v ≤ 9223372036854775807) (tm : decide (0 ≤ m) = true) (tp : decide (0 ≤ p) = true) (tv : (v != 0) = true) (w : World) :
    Calls Tryd.prog 12 #[.agg #[.int .i64 k, .int .i64 g, .int .i64 m, .int .i64 p, .int .i64 v]] w fun e w' => e = .returned (.string (((((((glText k ++ itoaB g) ++ { data := #[109] }) ++ itoaB m) ++ { data := #[112] }) ++ itoaB p) ++ { data := #[61] }) ++ itoaB v)) ∧ Below w.heap.size w w' := by
  have z0 := text_size k k8
  have z1 := itoaB_size g (by omega) (by omega)
  have z2 := itoaB_size m (by omega) (by omega)
  have z3 := itoaB_size p (by omega) (by omega)
  have z4 := itoaB_size v hv.1 hv.2
  have RK := hid (rk_any k k8)
  have NG := hid (rnum_any g (by omega) (by omega))
  have NM := hid (rnum_any m (by omega) (by omega))
  have NP := hid (rnum_any p (by omega) (by omega))
  have NV := hid (rnum_any v hv.1 hv.2)
  have ad0 := fun w => run_string_add_sum (P := Tryd.prog) w (glText k) (itoaB g) (by omega)
  have ad1 := fun w => run_string_add_sum (P := Tryd.prog) w ((glText k ++ itoaB g)) { data := #[109] } (by simp only [ByteArray.size_append, sz109, sz112, sz61]; omega)
  have ad2 := fun w => run_string_add_sum (P := Tryd.prog) w ((glText k ++ itoaB g) ++ { data := #[109] }) (itoaB m) (by simp only [ByteArray.size_append, sz109, sz112, sz61]; omega)
  have ad3 := fun w => run_string_add_sum (P := Tryd.prog) w ((((glText k ++ itoaB g) ++ { data := #[109] }) ++ itoaB m)) { data := #[112] } (by simp only [ByteArray.size_append, sz109, sz112, sz61]; omega)
  have ad4 := fun w => run_string_add_sum (P := Tryd.prog) w ((((glText k ++ itoaB g) ++ { data := #[109] }) ++ itoaB m) ++ { data := #[112] }) (itoaB p) (by simp only [ByteArray.size_append, sz109, sz112, sz61]; omega)
  have ad5 := fun w => run_string_add_sum (P := Tryd.prog) w ((((((glText k ++ itoaB g) ++ { data := #[109] }) ++ itoaB m) ++ { data := #[112] }) ++ itoaB p)) { data := #[61] } (by simp only [ByteArray.size_append, sz109, sz112, sz61]; omega)
  have ad6 := fun w => run_string_add_sum (P := Tryd.prog) w ((((((glText k ++ itoaB g) ++ { data := #[109] }) ++ itoaB m) ++ { data := #[112] }) ++ itoaB p) ++ { data := #[61] }) (itoaB v) (by simp only [ByteArray.size_append, sz109, sz112, sz61]; omega)
  clear z0 z1 z2 z3 z4 k8 hg hm hp hv
  have hbx := heap_alloc_new w (.cells #[.int .i64 k, .int .i64 g, .int .i64 m, .int .i64 p, .int .i64 v] 34)
  have HB0 := hid ((Below.refl w.heap.size w).alloc (Nat.le_refl _) (.cells #[.int .i64 k, .int .i64 g, .int .i64 m, .int .i64 p, .int .i64 v] 34))
  have HC := hid (fun (y : World) (hy : Below (w.alloc (.cells #[.int .i64 k, .int .i64 g, .int .i64 m, .int .i64 p, .int .i64 v] 34)).heap.size (w.alloc (.cells #[.int .i64 k, .int .i64 g, .int .i64 m, .int .i64 p, .int .i64 v] 34)) y) => ev5c ((hy.block w.heap.size (by simp)).trans hbx))
  have HS := hid (fun (y : World) (hy : Below (w.alloc (.cells #[.int .i64 k, .int .i64 g, .int .i64 m, .int .i64 p, .int .i64 v] 34)).heap.size (w.alloc (.cells #[.int .i64 k, .int .i64 g, .int .i64 m, .int .i64 p, .int .i64 v] 34)) y) => And.intro (HC.out y hy).1 (HC.out y hy).2.1)
  have BX := hid (show Below (w.alloc (.cells #[.int .i64 k, .int .i64 g, .int .i64 m, .int .i64 p, .int .i64 v] 34)).heap.size (w.alloc (.cells #[.int .i64 k, .int .i64 g, .int .i64 m, .int .i64 p, .int .i64 v] 34)) (w.alloc (.cells #[.int .i64 k, .int .i64 g, .int .i64 m, .int .i64 p, .int .i64 v] 34)).drew from Quiet.below ⟨1, rfl⟩ _)
  clear hbx
  go_enter Tryd.func12, Tryd.ntmps12
  go_upto_region 1 with (fail)
  go_region_held3 (fun y => y.cell? ⟨w.heap.size, 0, none⟩ = some (.int .i64 k) ∧ y.cell? ⟨w.heap.size, 1, none⟩ = some (.int .i64 g))
    (with_reducible exact HS.out _ BX.out)
    (first
      | (go_at_call 23; (with_reducible refine (RK.out _).mono ?_); rintro e w7 ⟨rfl, hb7⟩; have BY := hid (BX.out.trans (hb7.mono BX.out.size)); clear hb7 BX; have BX := BY; clear BY)
      | (go_at_call 24; (with_reducible refine (NG.out _).mono ?_); rintro e w8 ⟨rfl, hb8⟩; have BY := hid (BX.out.trans (hb8.mono BX.out.size)); clear hb8 BX; have BX := BY; clear BY))
  all_goals
    clear RK NG HS
    obtain ⟨c0, c1, c2, c3, c4⟩ := HC.out _ BX.out
    go_wp2_with fail
    refine (NM.out _).mono ?_
    rintro e wm ⟨rfl, hb⟩
    have BY := hid (BX.out.trans (hb.mono BX.out.size))
    clear hb BX c0 c1 c2 c3 c4
    have BX := BY
    clear BY
    obtain ⟨c0, c1, c2, c3, c4⟩ := HC.out _ BX.out
    go_wp2_with fail
    refine (NP.out _).mono ?_
    rintro e wp ⟨rfl, hb⟩
    have BY := hid (BX.out.trans (hb.mono BX.out.size))
    clear hb BX c0 c1 c2 c3 c4
    have BX := BY
    clear BY
    obtain ⟨c0, c1, c2, c3, c4⟩ := HC.out _ BX.out
    go_wp2_with fail
    refine (NV.out _).mono ?_
    rintro e wv ⟨rfl, hb⟩
    have BY := hid (BX.out.trans (hb.mono BX.out.size))
    clear hb BX c0 c1 c2 c3 c4
    have BX := BY
    clear BY
    obtain ⟨c0, c1, c2, c3, c4⟩ := HC.out _ BX.out
    go_wp2
    go_ret
    exact ⟨rfl, HB0.out.trans (BX.out.mono HB0.out.size)⟩
theorem rword_any (k : Nat) (g m p v : Int) (hr : evRight k g m p v = true) (hv : -9223372036854775808 ≤ v ∧ v ≤ 9223372036854775807) (w : World) :
    Calls Tryd.prog 12 #[.agg #[.int .i64 k, .int .i64 g, .int .i64 m, .int .i64 p, .int .i64 v]] w fun e w' => e = .returned (.string (wordB k g m p v)) ∧ Below w.heap.size w w' := by
  obtain ⟨⟨_, k8⟩, hg, hm, hp⟩ := right_all hr
  have k8' : k < 8 := by omega
  unfold wordB wordP wordM wordG
  by_cases m1 : m = -1 <;> by_cases p1 : p = -1 <;> by_cases v1 : v = 0
  · rw [if_pos m1, if_pos p1, if_pos v1]; exact rword_000 k g m p v k8' hg hm hp hv (by simp; omega) (by simp; omega) (by simp [v1]) w
  · rw [if_pos m1, if_pos p1, if_neg v1]; simp only [← ByteArray.append_assoc]; exact rword_001 k g m p v k8' hg hm hp hv (by simp; omega) (by simp; omega) (by simp [v1]) w
  · rw [if_pos m1, if_neg p1, if_pos v1]; simp only [← ByteArray.append_assoc]; exact rword_010 k g m p v k8' hg hm hp hv (by simp; omega) (by simp; omega) (by simp [v1]) w
  · rw [if_pos m1, if_neg p1, if_neg v1]; simp only [← ByteArray.append_assoc]; exact rword_011 k g m p v k8' hg hm hp hv (by simp; omega) (by simp; omega) (by simp [v1]) w
  · rw [if_neg m1, if_pos p1, if_pos v1]; simp only [← ByteArray.append_assoc]; exact rword_100 k g m p v k8' hg hm hp hv (by simp; omega) (by simp; omega) (by simp [v1]) w
  · rw [if_neg m1, if_pos p1, if_neg v1]; simp only [← ByteArray.append_assoc]; exact rword_101 k g m p v k8' hg hm hp hv (by simp; omega) (by simp; omega) (by simp [v1]) w
  · rw [if_neg m1, if_neg p1, if_pos v1]; simp only [← ByteArray.append_assoc]; exact rword_110 k g m p v k8' hg hm hp hv (by simp; omega) (by simp; omega) (by simp [v1]) w
  · rw [if_neg m1, if_neg p1, if_neg v1]; simp only [← ByteArray.append_assoc]; exact rword_111 k g m p v k8' hg hm hp hv (by simp; omega) (by simp; omega) (by simp [v1]) w
end Go.Proofs.YtnaphgjkkagpoaaDoor
