/- A world of one behind ten steps, as it is told: Machine, Status. -/
import Derived.Test.YtfpkgkjmpcoppaaGreatDoorWoX
import Derived.Test.YtfpkgkjmpcoppaaGreatDoorWoJ
namespace Go.Proofs.YtfpkgkjmpcoppaaGreatDoor
open Go.RowKit
set_option linter.unusedVariables false
set_option linter.unusedSimpArgs false
set_option maxRecDepth 20000
/-- A machine that runs goroutine 0. -/
@[reducible] def mR (rv : Value) : Array Value := #[.int .i64 0, .int .i64 0, .int .i64 0, .int .i64 (-1), .int .i64 (-1), .int .i64 (-1), .int .i64 0, .bool false, .bool false, rv, .int .i64 20, .int .i64 0, .int .i64 0, .int .i64 0, .int .i64 0, .int .i64 0, .int .u64 0, .int .i64 0]
@[reducible] def mZ : Array Value := #[.int .i64 0, .int .i64 0, .int .i64 0, .int .i64 0, .int .i64 0, .int .i64 0, .int .i64 0, .bool false, .bool false, .slice none 0 0, .int .i64 0, .int .i64 0, .int .i64 0, .int .i64 0, .int .i64 0, .int .i64 0, .int .u64 0, .int .i64 0]
theorem alloc2_old (w : World) (o o' : Obj) : ((w.alloc o).alloc o').heap[w.heap.size]? = some o := by
  rw [Below.heap_alloc _ _ _ (by simp)]; exact heap_alloc_new w _
theorem alloc2_new (w : World) (o o' : Obj) : ((w.alloc o).alloc o').heap[w.heap.size + 1]? = some o' := by
  have := heap_alloc_new (w.alloc o) o'
  rw [World.size_alloc] at this; exact this
theorem set_row_heap (w : World) (g : Nat) (cs old : Array Value) (t : TypeId) (fr : Nat × Nat) (h : w.heap[g]? = some (.cells old t fr)) : (w.setRow g cs).heap[g]? = some (.cells cs t fr) := by
  simp [World.setRow, Array.getElem?_modify, h]
set_option maxHeartbeats 4000000 in
theorem mcopy_R (a : Option Addr) (c : Nat) (w : World) (h : RcOK a c) :
    Calls Tryz.prog 47 #[.agg (mR (.slice a 0 c))] w fun e w' => ∃ a' n' c', e = .returned (.agg (mR (.slice a' n' c'))) ∧ Below w.heap.size w w' := by
  have HB := hid (((Below.refl w.heap.size w).alloc (Nat.le_refl _) (.cells (mR (.slice a 0 c)) 43)).alloc (by simp) (.cells mZ 43))
  have HR := hid (fun (w : World) => (show Reads w (.slice a 0 c) [] from ⟨a, c, rfl, ⟨by simp, h.1, h.2⟩, fun h => absurd h (by simp)⟩))
  clear h
  go_enter Tryz.func47, Tryz.ntmps47
  go_wp2_with fail
  refine (clone_int _ [] _ (by simp) (HR.out _)).mono ?_
  rintro e w2 ⟨v2, rfl, ho2, hb2⟩
  simp only [World.size_alloc] at ho2 hb2
  have hz2 := hb2.size
  simp only [World.size_alloc] at hz2
  have n2 : w2.heap[w.heap.size]? = some (.cells (mR (.slice a 0 c)) 43 (0, 0)) := by
    rw [hb2.block _ (by omega)]
    exact alloc2_old w _ _
  have r2 : w2.heap[w.heap.size + 1]? = some (.cells mZ 43 (0, 0)) := by
    rw [hb2.block _ (by omega)]
    exact alloc2_new w _ _
  obtain ⟨va, vn, vc, rfl⟩ := ho2.slice3
  have HW := hid (HB.out.trans (hb2.mono (by omega)))
  have j9 : w2.cell? ⟨w.heap.size, 9, none⟩ = some (.slice a 0 c) := blk_cell n2 rfl
  have e9 : w2.frozen? ⟨w.heap.size, 9, none⟩ = false := blk_free n2
  have N3 := hid (blk_set (.slice va vn vc) n2 (show (mR (.slice a 0 c)).setIfInBounds 9 (.slice va vn vc) = mR (.slice va vn vc) from rfl))
  have R3 := hid ((Below.heap_setCell w2 ⟨w.heap.size, 9, none⟩ (.slice va vn vc) (w.heap.size + 1) (by simp)).trans r2)
  clear ho2 hb2 n2 r2 HR HB
  go_wp2_with (first
    | (refine wpList_load_known (by rfl) 43 (.tmp 1) rfl w.heap.size rfl 43 (mR (.slice va vn vc)) (0, 0) _ N3.out Tryz.underlying43 rfl (by kernel_rfl) ?_)
    | (refine wpList_store_row rfl 43 (.tmp 2) (.tmp 7) rfl (w.heap.size + 1) (mR (.slice va vn vc)) rfl rfl 43 _ R3.out (by kernel_rfl) (by rfl) (by simp [mR, Value.oneCell']) ?_))
  refine bodyPost_ret (v := .agg (mR (.slice va vn vc))) (results_cell_row rfl _ _ (w.heap.size + 1) 43 (mR (.slice va vn vc)) (0, 0) _ (by rfl) (set_row_heap _ _ _ _ _ _ R3.out) Tryz.underlying43 rfl (by kernel_rfl)) rfl ⟨va, vn, vc, rfl, ?_⟩
  exact row_below (HW.out.setCell (Nat.le_refl _) _) (by omega) _
section
variable {w w' : World} {W b1 b2 rb tb q sb ib mb rc : Nat} {lg : Value}
set_option maxHeartbeats 8000000 in
theorem wmach (h : Wb w W b1 b2 rb tb q sb ib mb rc lg) {ra : Option Addr} {rcc : Nat} (hr : RcOK ra rcc) (hm : Mc w mb 0 0 0 (-1) (-1) (-1) 0 false false (.slice ra 0 rcc) 20 0 0 0 0 0 0 0 true 0) :
    Calls Tryz.prog 14 #[.pointer (some ⟨W, 0, none⟩), .int .i64 0] w fun e w' => ∃ a' n' c', e = .returned (.agg (mR (.slice a' n' c'))) ∧ Below w.heap.size w w' := by
  have HC := hid hr
  have B0 := hid (bla w (.cells mZ 43))
  have Z0 := hid (heap_alloc_new w (.cells mZ 43))
  have a14 := (cell_alloc_lt (.cells mZ 43) h.lt h.c14)
  have k0 := cell_alloc_lt (.cells mZ 43) hm.lt hm.c0
  have k1 := cell_alloc_lt (.cells mZ 43) hm.lt hm.c1
  have k2 := cell_alloc_lt (.cells mZ 43) hm.lt hm.c2
  have k3 := cell_alloc_lt (.cells mZ 43) hm.lt hm.c3
  have k4 := cell_alloc_lt (.cells mZ 43) hm.lt hm.c4
  have k5 := cell_alloc_lt (.cells mZ 43) hm.lt hm.c5
  have k6 := cell_alloc_lt (.cells mZ 43) hm.lt hm.c6
  have k7 := cell_alloc_lt (.cells mZ 43) hm.lt hm.c7
  have k8 := cell_alloc_lt (.cells mZ 43) hm.lt hm.c8
  have k9 := cell_alloc_lt (.cells mZ 43) hm.lt hm.c9
  have k10 := cell_alloc_lt (.cells mZ 43) hm.lt hm.c10
  have k11 := cell_alloc_lt (.cells mZ 43) hm.lt hm.c11
  have k12 := cell_alloc_lt (.cells mZ 43) hm.lt hm.c12
  have k13 := cell_alloc_lt (.cells mZ 43) hm.lt hm.c13
  have k14 := cell_alloc_lt (.cells mZ 43) hm.lt hm.c14
  have k15 := cell_alloc_lt (.cells mZ 43) hm.lt hm.c15
  have k16 := cell_alloc_lt (.cells mZ 43) hm.lt hm.c16
  have k17 := cell_alloc_lt (.cells mZ 43) hm.lt hm.c17
  clear h hm hr
  go_enter Tryz.func14, Tryz.ntmps14
  go_wp2_with fail
  refine (mcopy_R ra rcc _ HC.out).mono ?_
  rintro e w2 ⟨a', n', c', rfl, hb⟩
  have X2 := hid ((hb.block _ (by simp)).trans Z0.out)
  have B2 := hid (B0.out.trans (hb.mono B0.out.size))
  clear hb k0 k1 k2 k3 k4 k5 k6 k7 k8 k9 k10 k11 k12 k13 k14 k15 k16 k17 a14
  go_wp2_with (refine wpList_store_row rfl 43 (.tmp 4) (.tmp 25) rfl w.heap.size (mR (.slice a' n' c')) rfl rfl 43 _ X2.out (by kernel_rfl) (by rfl) (by simp [mR, Value.oneCell']) ?_)
  refine bodyPost_ret (v := .agg (mR (.slice a' n' c'))) (results_cell_row rfl _ _ w.heap.size 43 (mR (.slice a' n' c')) (0, 0) _ (by rfl) (set_row_heap _ _ _ _ _ _ X2.out) Tryz.underlying43 rfl (by kernel_rfl)) rfl ⟨_, _, _, rfl, ?_⟩
  exact row_below B2.out (by omega) _
set_option maxHeartbeats 4000000 in
theorem tof0 (b g : Nat) (xs : List Int) (c : Nat) (v : Int) (w : World) (hm : Mem w b g xs c) (hc : c < 1000000) (hl : xs.length = 9) (hv : xs.getD 8 0 = v) (hv7 : v < 7) :
    Calls Tryz.prog 43 #[.agg #[.int .i64 8, .int .i64 1], .pointer (some ⟨b, 0, none⟩), .int .i64 0] w fun e w' => e = .returned (.int .u64 v) ∧ Mem w' b g xs (c + 1) ∧ Only b g w w' := by
  have HM := hid hm
  have B0 := hid (bla w (.cells #[.int .i64 8, .int .i64 1] 84))
  have HL := hid hl
  have HC := hid hc
  have HV := hid hv
  have BX := hid (heap_alloc_new w (.cells #[.int .i64 8, .int .i64 1] 84))
  clear hm hl hc hv
  go_enter Tryz.func43, Tryz.ntmps43
  go_wp2_with fail
  refine (thas_in0 8 1 0 _ (by omega) (by omega)).mono ?_
  rintro e w2 ⟨rfl, hb⟩
  have B2 := hid (B0.out.trans (hb.mono B0.out.size))
  have X2 := (hb.block _ (by simp)).trans BX.out
  have c0 : w2.cell? ⟨w.heap.size, 0, none⟩ = some (.int .i64 8) := by simp [World.cell?, X2]
  have M2 := hid (HM.out.below B2.out HM.out.sb HM.out.sg)
  clear hb X2
  go_wp2_with fail
  refine (load_in b g xs c 8 _ M2.out (by have := HC.out; omega) (by omega) (by have := HL.out; omega)).mono ?_
  rintro e w3 ⟨rfl, hm3, ho3⟩
  rw [show xs.getD (8 : Int).toNat 0 = v from HV.out]
  have M3 := hid hm3
  have O3 := hid ((Only.of_below B2.out).trans ho3)
  clear hm3 ho3 c0 M2
  go_wp2
  go_ret
  exact ⟨rfl, M3.out, O3.out⟩
set_option maxHeartbeats 4000000 in
theorem wstat (h : Wb w W b1 b2 rb tb q sb ib mb rc lg) {g : Nat} {xs : List Int} {c : Nat} {v : Int} (hm : Mem w b2 g xs c) (hc : c < 1000000) (hl : xs.length = 9) (hv : xs.getD 8 0 = v) (hv7 : v < 7) :
    Calls Tryz.prog 11 #[.pointer (some ⟨W, 0, none⟩), .int .i64 0] w fun e w' => e = .returned (.int .u64 v) ∧ Mem w' b2 g xs (c + 1) ∧ Only b2 g w w' := by
  have a4 := h.c4
  have a7 := h.c7
  have a8 := h.c8
  have TS := hid (fun (y : World) (hq : Quiet w y) => (tof0 b2 g xs c v y (hm.quiet hq) hc hl hv hv7).mono (R' := fun e w' => e = .returned (.int .u64 v) ∧ Mem w' b2 g xs (c + 1) ∧ Only b2 g w w') fun e w' hx => ⟨hx.1, hx.2.1, (Only.of_quiet hq).trans hx.2.2⟩)
  clear h hm hc hl hv hv7
  go_enter Tryz.func11, Tryz.ntmps11
  go_wp2_with fail
  go_region_with (go_at_call 43; refine (TS.out _ ⟨_, rfl⟩).mono ?_; rintro e w5 ⟨rfl, h5, o5⟩)
  all_goals
    have H5 := hid h5
    have O5 := hid o5
    clear h5 o5
    go_wp2
    go_ret
    exact ⟨rfl, H5.out, O5.out⟩
end
end Go.Proofs.YtfpkgkjmpcoppaaGreatDoor
