/- The walk of the statement MachRings: the law answers true and turns nothing that was there. -/
import Derived.Test.YtlahinefnhfifaaDoorMach4
import Derived.RegionTactic
import Derived.BigRegion
import Derived.Deep.CutRange
namespace Go.Proofs.YtlahinefnhfifaaDoor.machRings
open Go.RowKit
set_option linter.unusedVariables false
set_option linter.unusedSimpArgs false

@[reducible] def machZ : Array Value := #[.int .i64 0, .int .i64 0, .int .i64 0, .int .i64 0, .int .i64 0, .int .i64 0, .int .i64 0, .bool false, .bool false, .slice none 0 0, .int .i64 0, .int .i64 0, .int .i64 0, .int .i64 0, .int .i64 0, .int .i64 0, .int .u64 0, .int .i64 0]
/-- All five machines, as they stand. -/
structure St (w0 : World) (b8 b10 b11 b12 b13 : Nat) (P I J : Int) (w : World) : Prop where
  h8 : w.heap[b8]? = some (.cells (mach0 3 P 0) 54 (0, 0))
  h10 : w.heap[b10]? = some (.cells (mach0 6 I J) 54 (0, 0))
  h11 : w.heap[b11]? = some (.cells (mach0 9 (-1) P) 54 (0, 0))
  h12 : w.heap[b12]? = some (.cells (mach0 23 (-1) 0) 54 (0, 0))
  h13 : w.heap[b13]? = some (.cells (mach0 25 (-1) 0) 54 (0, 0))
  T : MaPlaces w
  B : Below w0.heap.size w0 w
theorem St.step {w0 w w' : World} {b8 b10 b11 b12 b13 : Nat} {P I J : Int} (h : St w0 b8 b10 b11 b12 b13 P I J w) (hb : Below w.heap.size w w') : St w0 b8 b10 b11 b12 b13 P I J w' :=
  ⟨blk_kept h.h8 hb (blk_lt h.h8), blk_kept h.h10 hb (blk_lt h.h10), blk_kept h.h11 hb (blk_lt h.h11), blk_kept h.h12 hb (blk_lt h.h12), blk_kept h.h13 hb (blk_lt h.h13), h.T.at hb, h.B.trans (hb.mono h.B.size)⟩

set_option maxHeartbeats 8000000 in
theorem walk (a0 a1 a2 : Int) (w : World) (w0 : (Lit.int .u8 a0).wf = true) (w1 : (Lit.int .u8 a1).wf = true) (w2 : (Lit.int .u8 a2).wf = true) (T : MaPlaces w) :
    Calls Tryd.prog 6 #[.int .u8 a0, .int .u8 a1, .int .u8 a2] w fun e w' => e = .returned (.bool true) ∧ Below w.heap.size w w' := by
  have hb0 := bounds_u8 w0
  have hb1 := bounds_u8 w1
  have hb2 := bounds_u8 w2
  have HT := hid T
  obtain ⟨q, hq⟩ : ∃ q, q = a2 % 64 := ⟨_, rfl⟩
  obtain ⟨K, hK⟩ : ∃ K, K = 1 + q := ⟨_, rfl⟩
  have hK1 : 1 ≤ K := by omega
  have hK2 : K ≤ 64 := by omega
  have m1 : a2.tmod 64 = q := by rw [Int.tmod_eq_emod_of_nonneg (by omega), hq]
  have u1 : IntKind.u8.wrap q = q := IntWalk.u8_in _ (by omega)
  have u2 : IntKind.i64.wrap q = q := IntWalk.i64_in _ (by omega)
  have u3 : IntKind.i64.wrap (1 + q) = K := by rw [hK]; exact IntWalk.i64_in _ (by omega)
  obtain ⟨P, hP⟩ : ∃ P, P = a0 % K := ⟨_, rfl⟩
  have P0 : 0 ≤ P := by rw [hP]; exact Int.emod_nonneg _ (by omega)
  have P1 : P < K := by rw [hP]; exact Int.emod_lt_of_pos _ (by omega)
  obtain ⟨I, hI⟩ : ∃ I, I = a1 % K := ⟨_, rfl⟩
  have I0 : 0 ≤ I := by rw [hI]; exact Int.emod_nonneg _ (by omega)
  have I1 : I < K := by rw [hI]; exact Int.emod_lt_of_pos _ (by omega)
  obtain ⟨J, hJ⟩ : ∃ J, J = (P - I + K) % K := ⟨_, rfl⟩
  have J0 : 0 ≤ J := by rw [hJ]; exact Int.emod_nonneg _ (by omega)
  have J1 : J < K := by rw [hJ]; exact Int.emod_lt_of_pos _ (by omega)
  have m2 : a0.tmod K = P := by rw [Int.tmod_eq_emod_of_nonneg (by omega), hP]
  have m3 : a1.tmod K = I := by rw [Int.tmod_eq_emod_of_nonneg (by omega), hI]
  have m4 : (P - I + K).tmod K = J := by rw [Int.tmod_eq_emod_of_nonneg (by omega), hJ]
  have v0 : IntKind.i64.wrap a0 = a0 := IntWalk.i64_in _ (by omega)
  have v1 : IntKind.i64.wrap a1 = a1 := IntWalk.i64_in _ (by omega)
  have vP : IntKind.i64.wrap P = P := IntWalk.i64_in _ (by omega)
  have vI : IntKind.i64.wrap I = I := IntWalk.i64_in _ (by omega)
  have vJ : IntKind.i64.wrap J = J := IntWalk.i64_in _ (by omega)
  have vS : IntKind.i64.wrap (P - I) = P - I := IntWalk.i64_in _ (by omega)
  have vT : IntKind.i64.wrap (P - I + K) = P - I + K := IntWalk.i64_in _ (by omega)
  have vK : IntKind.i64.wrap (K + 1) = K + 1 := IntWalk.i64_in _ (by omega)
  have k0 : (K == 0) = false := beq_eq_false_iff_ne.2 (by omega)
  have L1 := hid (show lk (maPlace1 28) P 0 K = P + 1 by show lkOf P K = _; unfold lkOf; rw [if_pos (by omega)])
  have L2 := hid (show lk (maPlace1 3) P 0 K = P + 1 by show lkOf P K = _; unfold lkOf; rw [if_pos (by omega)])
  have L3 := hid (show lk (maPlace1 6) I J K = P + 1 by
    show lkOf (lkAround I J K) K = _
    have e : lkAround I J K = P := by
      unfold lkAround
      rw [if_pos (by omega), Int.emod_eq_of_lt J0 J1]
      have : J = P - I ∨ J = P - I + K := by
        rcases Int.lt_or_le (P - I) 0 with h | h
        · right; rw [hJ]; exact Int.emod_eq_of_lt (by omega) (by omega)
        · left; rw [hJ, Int.add_emod_right]; exact Int.emod_eq_of_lt (by omega) (by omega)
      rcases this with h | h
      · rw [show I + J = P by omega]; exact Int.emod_eq_of_lt P0 P1
      · rw [show I + J = P + K by omega, Int.add_emod_right]; exact Int.emod_eq_of_lt P0 P1
    rw [e]; unfold lkOf; rw [if_pos (by omega)])
  have L4 := hid (show lk (maPlace1 9) (-1) P K = P + 1 by show lkOf P K = _; unfold lkOf; rw [if_pos (by omega)])
  have L5 := hid (show lk (maPlace1 23) (-1) 0 K = 0 from rfl)
  have L6 := hid (show lk (maPlace1 25) (-1) 0 K = K + 1 from rfl)
  clear T w0 w1 w2 hq hK hP hI hJ
  go_enter Tryd.func6, Tryd.ntmps6
  go_wp2_with fail
  refine (lives19 _ HT.out).mono ?_
  rintro e x1 ⟨rfl, hx1⟩
  go_wp2_with fail
  refine (fresh_any _).mono ?_
  rintro e x2 ⟨rfl, hx2'⟩
  have hx2 : Below w.heap.size w x2 := hx1.trans (hx2'.mono hx1.size)
  have HX3 := hid (hx2.alloc hx2.size (.cells (mach0 28 P 0) 54))
  have HT3 := hid (HT.out.at HX3.out)
  have hz2 := hx2.size
  clear hx1 hx2 hx2'
  go_wp2_with (first
    | (refine wpList_store_new rfl 54 (.tmp 8) (.tmp 20) rfl _ (mach0 16 (-1) 0) 54 rfl rfl (by kernel_rfl) (by rfl) (by simp [mach0, Value.oneCell']) ?_)
    | (refine wpList_load_row rfl 54 (.tmp 8) rfl x2.heap.size rfl 54 (mach0 28 P 0) (0, 0) _ (heap_alloc_new x2 _) Tryd.underlying54 rfl (by kernel_rfl) ?_))
  refine (mlock_in 28 P 0 K _ HT3.out (by omega) (by omega) (by omega) (by omega)).mono ?_
  rintro e x4 ⟨rfl, hb4⟩
  rw [L1.out]
  obtain ⟨b8, hb8⟩ : ∃ b8, b8 = x2.heap.size := ⟨_, rfl⟩
  have hz3 : (x2.alloc (.cells (mach0 28 P 0) 54)).heap.size = b8 + 1 := by simp [hb8]
  rw [hz3] at hb4
  have A4 : x4.heap[b8]? = some (.cells (mach0 28 P 0) 54 (0, 0)) := blk_kept (by rw [hb8]; exact heap_alloc_new x2 _) hb4 (by omega)
  have hx4 := hid (HX3.out.trans (hb4.mono (by omega)))
  have hz4 := hb4.size
  rw [hz3] at hz4
  rw [← hb8] at hz2 ⊢
  clear hz3 hb4 HX3 HT3 hb8
  have HT4 := hid (HT.out.at hx4.out)
  -- the place is turned: Local
  have c1 : x4.cell? ⟨b8, 0, none⟩ = some (.int .i64 28) := blk_cell A4 rfl
  have f1 : x4.frozen? ⟨b8, 0, none⟩ = false := blk_free A4
  have A5 := hid (blk_set (.int .i64 3) A4 (show (mach0 28 P 0).setIfInBounds 0 (.int .i64 3) = mach0 3 P 0 from rfl))
  have hx5 := hid (hx4.out.setCell (p := ⟨b8, 0, none⟩) (by omega) (.int .i64 3))
  have hz5 : (x4.setCell ⟨b8, 0, none⟩ (.int .i64 3)).heap.size = x4.heap.size := by simp [World.setCell]
  clear A4
  go_wp2_with fail
  obtain ⟨x5, he5⟩ : ∃ x5, x5 = x4.setCell ⟨b8, 0, none⟩ (.int .i64 3) := ⟨_, rfl⟩
  rw [← he5] at A5 hx5 hz5 ⊢
  have hz5' : b8 + 1 ≤ x5.heap.size := by omega
  clear he5 c1 f1 hz5 hx4
  refine (fresh_any _).mono ?_
  rintro e x6 ⟨rfl, hb6⟩
  have A6 := hid (blk_kept A5.out hb6 (by omega))
  have hx6 := hid (hx5.out.trans (hb6.mono (by omega)))
  have hz6 := hb6.size
  clear A5 hx5 hb6
  go_wp2_with (refine wpList_store_new rfl 54 (.tmp 10) (.tmp 31) rfl _ (mach0 16 (-1) 0) 54 rfl rfl (by kernel_rfl) (by rfl) (by simp [mach0, Value.oneCell']) ?_)
  obtain ⟨b10, hb10⟩ : ∃ b10, b10 = x6.heap.size := ⟨_, rfl⟩
  have A7 := blk_kept A6.out (((Below.refl x6.heap.size x6).alloc (Nat.le_refl _) (.cells (mach0 16 (-1) 0) 54))) (by omega)
  have B7 := heap_alloc_new x6 (.cells (mach0 16 (-1) 0) 54)
  have hx7 := hx6.out.alloc (by omega) (.cells (mach0 16 (-1) 0) 54)
  rw [← hb10] at B7 ⊢
  have hne : b8 ≠ b10 := by omega
  have hlt10 : b8 < b10 := by omega
  have hz7 : (x6.alloc (.cells (mach0 16 (-1) 0) 54)).heap.size = b10 + 1 := by simp [hb10]
  have hwb : w.heap.size ≤ b10 := by omega
  generalize x6.alloc (.cells (mach0 16 (-1) 0) 54) = x7 at A7 B7 hx7 hz7 ⊢
  clear A6 hx6 hb10
  have d0 : x7.cell? ⟨b8, 1, none⟩ = some (.int .i64 P) := blk_cell A7 rfl
  have g0 : x7.cell? ⟨b10, 0, none⟩ = some (.int .i64 16) := blk_cell B7 rfl
  have g1 : x7.cell? ⟨b10, 1, none⟩ = some (.int .i64 (-1)) := blk_cell B7 rfl
  have g6 : x7.cell? ⟨b10, 6, none⟩ = some (.int .i64 0) := blk_cell B7 rfl
  have q0 : x7.frozen? ⟨b10, 0, none⟩ = false := blk_free B7
  have q1 : x7.frozen? ⟨b10, 1, none⟩ = false := blk_free B7
  have q6 : x7.frozen? ⟨b10, 6, none⟩ = false := blk_free B7
  have HA7 := hid A7
  have HB7 := hid B7
  have HX7 := hid hx7
  clear A7 B7 hx7
  have k00 : K ≠ 0 := by omega
  simp only [Act.put]
  go_region
  have B8a := blk_set (.int .i64 I) HB7.out (show (mach0 16 (-1) 0).setIfInBounds 1 (.int .i64 I) = mach0 16 I 0 from rfl)
  have B8b := blk_set (.int .i64 J) B8a (show (mach0 16 I 0).setIfInBounds 6 (.int .i64 J) = mach0 16 I J from rfl)
  have B8c := blk_set (.int .i64 6) B8b (show (mach0 16 I J).setIfInBounds 0 (.int .i64 6) = mach0 6 I J from rfl)
  have A8 : (((x7.setCell ⟨b10, 1, none⟩ (.int .i64 I)).setCell ⟨b10, 6, none⟩ (.int .i64 J)).setCell ⟨b10, 0, none⟩ (.int .i64 6)).heap[b8]? = some (.cells (mach0 3 P 0) 54 (0, 0)) := by
    rw [heap_setCell_other _ _ _ _ hne, heap_setCell_other _ _ _ _ hne, heap_setCell_other _ _ _ _ hne]; exact HA7.out
  have hx8 := hid ((((HX7.out.setCell (p := ⟨b10, 1, none⟩) hwb (.int .i64 I)).setCell (p := ⟨b10, 6, none⟩) hwb (.int .i64 J)).setCell (p := ⟨b10, 0, none⟩) hwb (.int .i64 6)).drew)
  have hz8 : (((x7.setCell ⟨b10, 1, none⟩ (.int .i64 I)).setCell ⟨b10, 6, none⟩ (.int .i64 J)).setCell ⟨b10, 0, none⟩ (.int .i64 6)).drew.heap.size = b10 + 1 := by simp [World.setCell, World.drew, hz7]
  have HA8 : Hid ((((x7.setCell ⟨b10, 1, none⟩ (.int .i64 I)).setCell ⟨b10, 6, none⟩ (.int .i64 J)).setCell ⟨b10, 0, none⟩ (.int .i64 6)).drew.heap[b8]? = some (.cells (mach0 3 P 0) 54 (0, 0))) := A8
  have HB8 : Hid ((((x7.setCell ⟨b10, 1, none⟩ (.int .i64 I)).setCell ⟨b10, 6, none⟩ (.int .i64 J)).setCell ⟨b10, 0, none⟩ (.int .i64 6)).drew.heap[b10]? = some (.cells (mach0 6 I J) 54 (0, 0))) := B8c
  clear B8a B8b B8c A8 d0 g0 g1 g6 q0 q1 q6 HA7 HB7 HX7
  generalize (((x7.setCell ⟨b10, 1, none⟩ (.int .i64 I)).setCell ⟨b10, 6, none⟩ (.int .i64 J)).setCell ⟨b10, 0, none⟩ (.int .i64 6)).drew = x8 at hx8 hz8 HA8 HB8 ⊢
  clear hz7
  go_wp2_with fail
  refine (fresh_any _).mono ?_
  rintro e x9 ⟨rfl, hb9⟩
  have A9 := blk_kept HA8.out hb9 (by omega)
  have HB9 := hid (blk_kept HB8.out hb9 (by omega))
  have HX9 := hid (hx8.out.trans (hb9.mono (by omega)))
  have hz9 := hb9.size
  have c9 : x9.cell? ⟨b8, 1, none⟩ = some (.int .i64 P) := blk_cell A9 rfl
  have l8 : b8 < x9.heap.size := by omega
  have HA9 := hid A9
  clear hb9 A9 HA8 HB8 hx8
  go_wp2_with (refine wpList_store_new rfl 54 (.tmp 11) (.tmp 50) rfl _ (mach0 16 (-1) 0) 54 rfl rfl (by kernel_rfl) (by rfl) (by simp [mach0, Value.oneCell']) ?_)
  have A10 := hid (blk_kept HA9.out ((Below.refl x9.heap.size x9).alloc (Nat.le_refl _) (.cells (mach0 9 (-1) P) 54)) l8)
  have B10 := hid (blk_kept HB9.out ((Below.refl x9.heap.size x9).alloc (Nat.le_refl _) (.cells (mach0 9 (-1) P) 54)) (by omega))
  have C10 := hid (heap_alloc_new x9 (.cells (mach0 9 (-1) P) 54))
  have X10 := hid (HX9.out.alloc (by omega) (.cells (mach0 9 (-1) P) 54))
  obtain ⟨b11, hb11⟩ : ∃ b11, b11 = x9.heap.size := ⟨_, rfl⟩
  have hz10 : (x9.alloc (.cells (mach0 9 (-1) P) 54)).heap.size = b11 + 1 := by simp [hb11]
  rw [← hb11] at C10 hz9 ⊢
  clear HA9 HB9 HX9 c9 l8 hb11
  generalize x9.alloc (.cells (mach0 9 (-1) P) 54) = x10 at A10 B10 C10 X10 hz10 ⊢
  refine (fresh_any _).mono ?_
  rintro e x11 ⟨rfl, hc1⟩
  have hz11 := hc1.size
  go_wp2_with fail
  refine (fresh_any _).mono ?_
  rintro e x12 ⟨rfl, hc2⟩
  have hz12 := hc2.size
  have hc3 : Below x10.heap.size x10 x12 := hc1.trans (hc2.mono hz11)
  have A12 := hid (blk_kept A10.out hc3 (by omega))
  have B12 := hid (blk_kept B10.out hc3 (by omega))
  have C12 := hid (blk_kept C10.out hc3 (by omega))
  have X12 := hid (X10.out.trans (hc3.mono (by omega)))
  clear A10 B10 C10 X10 hc1 hc2 hc3
  go_upto_region 14 with (first
    | (refine wpList_store_row rfl 54 (.tmp 12) (.tmp 55) rfl x12.heap.size (mach0 16 (-1) 0) rfl rfl 54 _ (heap_alloc2_old x12 _ _) (by kernel_rfl) (by rfl) (by simp [mach0, Value.oneCell']) ?_)
    | (refine wpList_store_row rfl 54 (.tmp 13) (.tmp 56) rfl (x12.heap.size + 1) (mach0 16 (-1) 0) rfl rfl 54 _ ((row_other _ _ _ _ (Nat.succ_ne_self _)).trans (heap_alloc2_new x12 _ _)) (by kernel_rfl) (by rfl) (by simp [mach0, Value.oneCell']) ?_))
  have D13 : ((((x12.alloc (.cells machZ 54)).alloc (.cells machZ 54)).setRow x12.heap.size (mach0 16 (-1) 0)).setRow (x12.heap.size + 1) (mach0 16 (-1) 0)).heap[x12.heap.size]? = some (.cells (mach0 16 (-1) 0) 54 (0, 0)) := by
    rw [row_other _ _ _ _ (by omega)]
    exact setRow_heap _ _ _ _ _ _ (heap_alloc2_old x12 _ _)
  have E13 : ((((x12.alloc (.cells machZ 54)).alloc (.cells machZ 54)).setRow x12.heap.size (mach0 16 (-1) 0)).setRow (x12.heap.size + 1) (mach0 16 (-1) 0)).heap[x12.heap.size + 1]? = some (.cells (mach0 16 (-1) 0) 54 (0, 0)) :=
    setRow_heap _ _ _ _ _ _ ((row_other _ _ _ _ (by omega)).trans (heap_alloc2_new x12 _ _))
  have X13 : Below x12.heap.size x12 ((((x12.alloc (.cells machZ 54)).alloc (.cells machZ 54)).setRow x12.heap.size (mach0 16 (-1) 0)).setRow (x12.heap.size + 1) (mach0 16 (-1) 0)) :=
    row_below (row_below (((Below.refl x12.heap.size x12).alloc (Nat.le_refl _) _).alloc (by simp) _) (Nat.le_refl _) _) (by omega) _
  have z13 : ((((x12.alloc (.cells machZ 54)).alloc (.cells machZ 54)).setRow x12.heap.size (mach0 16 (-1) 0)).setRow (x12.heap.size + 1) (mach0 16 (-1) 0)).heap.size = x12.heap.size + 2 := by
    rw [row_size, row_size]; simp
  obtain ⟨x13, hx13⟩ : ∃ x, x = ((((x12.alloc (.cells machZ 54)).alloc (.cells machZ 54)).setRow x12.heap.size (mach0 16 (-1) 0)).setRow (x12.heap.size + 1) (mach0 16 (-1) 0)) := ⟨_, rfl⟩
  rw [← hx13] at D13 E13 X13 z13 ⊢
  have l12 : b11 < x12.heap.size := by omega
  have A13 := hid (blk_kept A12.out X13 (by omega))
  have B13 := hid (blk_kept B12.out X13 (by omega))
  have C13 := hid (blk_kept C12.out X13 (by omega))
  have XX13 := hid (X12.out.trans (X13.mono (by omega)))
  obtain ⟨b12, hb12⟩ : ∃ b, b = x12.heap.size := ⟨_, rfl⟩
  rw [← hb12] at D13 E13 z13 l12 ⊢
  clear hx13 X13 A12 B12 C12 X12 hb12
  have c13 : x13.cell? ⟨b12, 0, none⟩ = some (.int .i64 16) := blk_cell D13 rfl
  have f13 : x13.frozen? ⟨b12, 0, none⟩ = false := blk_free D13
  have c14 : x13.cell? ⟨b12 + 1, 0, none⟩ = some (.int .i64 16) := blk_cell E13 rfl
  have f14 : x13.frozen? ⟨b12 + 1, 0, none⟩ = false := blk_free E13
  have ST : Hid (St w b8 b10 b11 b12 (b12 + 1) P I J ((x13.setCell ⟨b12, 0, none⟩ (.int .i64 23)).setCell ⟨b12 + 1, 0, none⟩ (.int .i64 25))) := by
    refine ⟨?_, ?_, ?_, ?_, ?_, ?_, ?_⟩
    · rw [heap_setCell_other _ _ _ _ (by simp; omega), heap_setCell_other _ _ _ _ (by simp; omega)]; exact A13.out
    · rw [heap_setCell_other _ _ _ _ (by simp; omega), heap_setCell_other _ _ _ _ (by simp; omega)]; exact B13.out
    · rw [heap_setCell_other _ _ _ _ (by simp; omega), heap_setCell_other _ _ _ _ (by simp; omega)]; exact C13.out
    · rw [heap_setCell_other _ _ _ _ (by simp)]; exact blk_set (.int .i64 23) D13 rfl
    · exact blk_set (.int .i64 25) ((heap_setCell_other _ _ _ _ (by simp)).trans E13) rfl
    · exact HT.out.at ((XX13.out.setCell (p := ⟨b12, 0, none⟩) (by simp; omega) _).setCell (p := ⟨b12 + 1, 0, none⟩) (by simp; omega) _)
    · exact (XX13.out.setCell (p := ⟨b12, 0, none⟩) (by simp; omega) _).setCell (p := ⟨b12 + 1, 0, none⟩) (by simp; omega) _
  clear A13 B13 C13 XX13 D13 E13 HT HT4
  simp only [Act.put]
  go_upto_region 15 with (fail)
  generalize (x13.setCell ⟨b12, 0, none⟩ (.int .i64 23)).setCell ⟨b12 + 1, 0, none⟩ (.int .i64 25) = y at ST ⊢
  clear c13 f13 c14 f14 z13 hne hlt10
  -- the last test, call by call
  go_wp2_with (refine wpList_load_known (by rfl) 54 (.tmp 8) rfl b8 rfl 54 (mach0 3 P 0) (0, 0) _ ST.out.h8 Tryd.underlying54 rfl (by kernel_rfl) ?_)
  refine (mlock_in 3 P 0 K _ ST.out.T (by omega) (by omega) (by omega) (by omega)).mono ?_
  rintro e y1 ⟨rfl, hy1⟩
  rw [L2.out]
  have ST1 := hid (ST.out.step hy1)
  clear hy1 ST
  go_wp2_with (refine wpList_load_known (by rfl) 54 (.tmp 10) rfl b10 rfl 54 (mach0 6 I J) (0, 0) _ ST1.out.h10 Tryd.underlying54 rfl (by kernel_rfl) ?_)
  refine (mlock_in 6 I J K _ ST1.out.T (by omega) (by omega) (by omega) (by omega)).mono ?_
  rintro e y2 ⟨rfl, hy2⟩
  rw [L3.out]
  have ST2 := hid (ST1.out.step hy2)
  clear hy2 ST1
  go_wp2_with (refine wpList_load_known (by rfl) 54 (.tmp 11) rfl b11 rfl 54 (mach0 9 (-1) P) (0, 0) _ ST2.out.h11 Tryd.underlying54 rfl (by kernel_rfl) ?_)
  refine (mlock_in 9 (-1) P K _ ST2.out.T (by omega) (by omega) (by omega) (by omega)).mono ?_
  rintro e y3 ⟨rfl, hy3⟩
  rw [L4.out]
  have ST3 := hid (ST2.out.step hy3)
  clear hy3 ST2
  have k1 : decide ((1 : Int) ≤ P + 1) = true := decide_eq_true (by omega)
  have k2 : decide (P + 1 ≤ K) = true := decide_eq_true (by omega)
  go_wp2_with (refine wpList_load_known (by rfl) 54 (.tmp 12) rfl b12 rfl 54 (mach0 23 (-1) 0) (0, 0) _ ST3.out.h12 Tryd.underlying54 rfl (by kernel_rfl) ?_)
  refine (mlock_in 23 (-1) 0 K _ ST3.out.T (by omega) (by omega) (by omega) (by omega)).mono ?_
  rintro e y4 ⟨rfl, hy4⟩
  rw [L5.out]
  have ST4 := hid (ST3.out.step hy4)
  clear hy4 ST3
  go_wp2_with (refine wpList_load_known (by rfl) 54 (.tmp 13) rfl (b12 + 1) rfl 54 (mach0 25 (-1) 0) (0, 0) _ ST4.out.h13 Tryd.underlying54 rfl (by kernel_rfl) ?_)
  refine (mlock_in 25 (-1) 0 K _ ST4.out.T (by omega) (by omega) (by omega) (by omega)).mono ?_
  rintro e y5 ⟨rfl, hy5⟩
  rw [L6.out]
  have ST5 := hid (ST4.out.step hy5)
  clear hy5 ST4
  go_wp2
  go_ret
  exact ⟨rfl, ST5.out.B⟩
end Go.Proofs.YtlahinefnhfifaaDoor.machRings
