/- The walk of the statement MachLocks: the law answers true and turns nothing that was there. -/
import Derived.Test.YtlahinefnhfifaaDoorMach3
import Derived.Test.YtlahinefnhfifaaDoorMach4
namespace Go.Proofs.YtlahinefnhfifaaDoor.machLocks
open Go.RowKit
set_option linter.unusedVariables false
set_option linter.unusedSimpArgs false

set_option maxHeartbeats 4000000 in
theorem small_in (w : World) (T : MaPlaces w) (k : Nat) (a1 a2 a3 : Int) (hk : k < 31) (hn : a3 < 1) (hb63 : a2 ≤ 9223372036854775807) (hbig : a3 ≤ 4611686018427387904) :
    Calls Tryd.prog 8 #[.int .i64 k, .int .i64 a1, .int .i64 a2, .int .i64 a3] w fun e w' => e = .returned (.bool true) ∧ Below w.heap.size w w' := by
  have HT := hid T
  clear T
  have HK := hid hk
  clear hk
  go_enter Tryd.func8, Tryd.ntmps8
  go_wp2_with fail
  refine (lives19 _ HT.out).mono ?_
  rintro e w1 ⟨rfl, hb1⟩
  go_wp2_with fail
  refine (fresh_any _).mono ?_
  rintro e w2 ⟨rfl, hb2'⟩
  have hb2 : Below w.heap.size w w2 := hb1.trans (hb2'.mono hb1.size)
  have HB3 := hid (hb2.alloc hb2.size (.cells (mach0 k a1 a2) 54))
  have HT3 := hid (HT.out.at HB3.out)
  have hz := hb2.size
  clear hb1 hb2 hb2'
  go_wp2_with (first
    | (refine wpList_store_new rfl 54 (.tmp 9) (.tmp 18) rfl _ (mach0 16 (-1) 0) 54 rfl rfl (by kernel_rfl) (by rfl) (by simp [mach0, Value.oneCell']) ?_)
    | (refine wpList_load_row rfl 54 (.tmp 9) rfl w2.heap.size rfl 54 (mach0 k a1 a2) (0, 0) _ (heap_alloc_new w2 _) Tryd.underlying54 rfl (by kernel_rfl) ?_))
  refine (mlock_small k a1 a2 a3 _ HK.out hn).mono ?_
  rintro e w4 ⟨rfl, hb4⟩
  have HF := hid (HB3.out.trans (hb4.mono (by simp; omega)))
  clear hb4 HB3 HT3
  have RL := hid (fun w => rlock_small k a1 a2 a3 w hn)
  go_wp2_with fail
  refine (RL.out _).mono ?_
  rintro e w5 ⟨rfl, rfl⟩
  go_wp2
  go_ret
  exact ⟨rfl, HF.out⟩

set_option maxHeartbeats 4000000 in
theorem small_out (w : World) (T : MaPlaces w) (a0 a1 a2 a3 : Int) (hk : a0 < 0 ∨ 30 < a0) (hn : a3 < 1) (hb63 : a2 ≤ 9223372036854775807) (hbig : a3 ≤ 4611686018427387904) :
    Calls Tryd.prog 8 #[.int .i64 a0, .int .i64 a1, .int .i64 a2, .int .i64 a3] w fun e w' => e = .returned (.bool true) ∧ Below w.heap.size w w' := by
  have HT := hid T
  clear T
  have HK := hid hk
  clear hk
  go_enter Tryd.func8, Tryd.ntmps8
  go_wp2_with fail
  refine (lives19 _ HT.out).mono ?_
  rintro e w1 ⟨rfl, hb1⟩
  go_wp2_with fail
  refine (fresh_any _).mono ?_
  rintro e w2 ⟨rfl, hb2'⟩
  have hb2 : Below w.heap.size w w2 := hb1.trans (hb2'.mono hb1.size)
  have HB3 := hid (hb2.alloc hb2.size (.cells (mach0 a0 a1 a2) 54))
  have HT3 := hid (HT.out.at HB3.out)
  have hz := hb2.size
  clear hb1 hb2 hb2'
  go_wp2_with (first
    | (refine wpList_store_new rfl 54 (.tmp 9) (.tmp 18) rfl _ (mach0 16 (-1) 0) 54 rfl rfl (by kernel_rfl) (by rfl) (by simp [mach0, Value.oneCell']) ?_)
    | (refine wpList_load_row rfl 54 (.tmp 9) rfl w2.heap.size rfl 54 (mach0 a0 a1 a2) (0, 0) _ (heap_alloc_new w2 _) Tryd.underlying54 rfl (by kernel_rfl) ?_))
  refine (mlock_out a0 a1 a2 a3 _ HK.out).mono ?_
  rintro e w4 ⟨rfl, hb4⟩
  have HF := hid (HB3.out.trans (hb4.mono (by simp; omega)))
  clear hb4 HB3 HT3
  have RL := hid (fun w => rlock_small a0 a1 a2 a3 w hn)
  go_wp2_with fail
  refine (RL.out _).mono ?_
  rintro e w5 ⟨rfl, rfl⟩
  go_wp2
  go_ret
  exact ⟨rfl, HF.out⟩

set_option maxHeartbeats 4000000 in
theorem in_big (w : World) (T : MaPlaces w) (k : Nat) (a1 a2 a3 : Int) (hk : k < 31) (hn : 1 ≤ a3) (hb63 : a2 ≤ 9223372036854775807) (hbig : a3 ≤ 4611686018427387904) :
    Calls Tryd.prog 8 #[.int .i64 k, .int .i64 a1, .int .i64 a2, .int .i64 a3] w fun e w' => e = .returned (.bool true) ∧ Below w.heap.size w w' := by
  have HT := hid T
  clear T
  have HK := hid hk
  clear hk
  go_enter Tryd.func8, Tryd.ntmps8
  go_wp2_with fail
  refine (lives19 _ HT.out).mono ?_
  rintro e w1 ⟨rfl, hb1⟩
  go_wp2_with fail
  refine (fresh_any _).mono ?_
  rintro e w2 ⟨rfl, hb2'⟩
  have hb2 : Below w.heap.size w w2 := hb1.trans (hb2'.mono hb1.size)
  have HB3 := hid (hb2.alloc hb2.size (.cells (mach0 k a1 a2) 54))
  have HT3 := hid (HT.out.at HB3.out)
  have hz := hb2.size
  clear hb1 hb2 hb2'
  go_wp2_with (first
    | (refine wpList_store_new rfl 54 (.tmp 9) (.tmp 18) rfl _ (mach0 16 (-1) 0) 54 rfl rfl (by kernel_rfl) (by rfl) (by simp [mach0, Value.oneCell']) ?_)
    | (refine wpList_load_row rfl 54 (.tmp 9) rfl w2.heap.size rfl 54 (mach0 k a1 a2) (0, 0) _ (heap_alloc_new w2 _) Tryd.underlying54 rfl (by kernel_rfl) ?_))
  refine (mlock_in k a1 a2 a3 _ HT3.out HK.out hn hbig hb63).mono ?_
  rintro e w4 ⟨rfl, hb4⟩
  have HF := hid (HB3.out.trans (hb4.mono (by simp; omega)))
  clear hb4 HB3 HT3
  have RL := hid (fun w => rlock_in k a1 a2 a3 w HK.out hn hbig hb63)
  have hle := lk_le (maPlace1 k) a1 a2 a3 hn
  have hw : IntKind.i64.wrap (a3 + 1) = a3 + 1 := IntWalk.i64_in _ (by omega)
  generalize lk (maPlace1 k) a1 a2 a3 = v at RL hle ⊢
  go_wp2_with fail
  refine (RL.out _).mono ?_
  rintro e w5 ⟨rfl, rfl⟩
  go_wp2
  go_ret
  exact ⟨rfl, HF.out⟩

set_option maxHeartbeats 4000000 in
theorem out_big (w : World) (T : MaPlaces w) (a0 a1 a2 a3 : Int) (hk : a0 < 0 ∨ 30 < a0) (hn : 1 ≤ a3) (hb63 : a2 ≤ 9223372036854775807) (hbig : a3 ≤ 4611686018427387904) :
    Calls Tryd.prog 8 #[.int .i64 a0, .int .i64 a1, .int .i64 a2, .int .i64 a3] w fun e w' => e = .returned (.bool true) ∧ Below w.heap.size w w' := by
  have HT := hid T
  clear T
  have HK := hid hk
  clear hk
  go_enter Tryd.func8, Tryd.ntmps8
  go_wp2_with fail
  refine (lives19 _ HT.out).mono ?_
  rintro e w1 ⟨rfl, hb1⟩
  go_wp2_with fail
  refine (fresh_any _).mono ?_
  rintro e w2 ⟨rfl, hb2'⟩
  have hb2 : Below w.heap.size w w2 := hb1.trans (hb2'.mono hb1.size)
  have HB3 := hid (hb2.alloc hb2.size (.cells (mach0 a0 a1 a2) 54))
  have HT3 := hid (HT.out.at HB3.out)
  have hz := hb2.size
  clear hb1 hb2 hb2'
  go_wp2_with (first
    | (refine wpList_store_new rfl 54 (.tmp 9) (.tmp 18) rfl _ (mach0 16 (-1) 0) 54 rfl rfl (by kernel_rfl) (by rfl) (by simp [mach0, Value.oneCell']) ?_)
    | (refine wpList_load_row rfl 54 (.tmp 9) rfl w2.heap.size rfl 54 (mach0 a0 a1 a2) (0, 0) _ (heap_alloc_new w2 _) Tryd.underlying54 rfl (by kernel_rfl) ?_))
  refine (mlock_out a0 a1 a2 a3 _ HK.out).mono ?_
  rintro e w4 ⟨rfl, hb4⟩
  have HF := hid (HB3.out.trans (hb4.mono (by simp; omega)))
  clear hb4 HB3 HT3
  have RL := hid (fun w => rlock_out a0 a1 a2 a3 w HK.out hn)
  have hle : (-1 : Int) ≤ a3 + 1 := by omega
  have hw : IntKind.i64.wrap (a3 + 1) = a3 + 1 := IntWalk.i64_in _ (by omega)
  go_wp2_with fail
  refine (RL.out _).mono ?_
  rintro e w5 ⟨rfl, rfl⟩
  go_wp2
  go_ret
  exact ⟨rfl, HF.out⟩

theorem walk (a0 a1 a2 a3 : Int) (w : World) (w0 : (Lit.int .i64 a0).wf = true) (w1 : (Lit.int .i64 a1).wf = true) (w2 : (Lit.int .i64 a2).wf = true) (w3 : (Lit.int .i64 a3).wf = true) (T : MaPlaces w) :
    Calls Tryd.prog 8 #[.int .i64 a0, .int .i64 a1, .int .i64 a2, .int .i64 a3] w fun e w' => e = .returned (.bool true) ∧ Below w.heap.size w w' := by
  have hb := (bounds_i64 w2).2
  by_cases hbig : 4611686018427387904 < a3
  · have HT := hid T
    clear T w0 w1 w2 w3 hb
    go_enter Tryd.func8, Tryd.ntmps8
    go_wp2_with fail
    refine (lives19 _ HT.out).mono ?_
    rintro e w1 ⟨rfl, hb1⟩
    have HT1 := hid (HT.out.at hb1)
    go_wp2_with fail
    refine (lives19 _ HT1.out).mono ?_
    rintro e w2 ⟨rfl, hb2⟩
    go_wp2
    go_ret
    exact ⟨rfl, hb1.trans (hb2.mono hb1.size)⟩
  · have hbig' : a3 ≤ 4611686018427387904 := by omega
    by_cases hp : a0 < 0 ∨ 30 < a0
    · by_cases hn : a3 < 1
      · exact small_out w T a0 a1 a2 a3 hp hn hb hbig'
      · exact out_big w T a0 a1 a2 a3 hp (by omega) hb hbig'
    · obtain ⟨k, rfl⟩ : ∃ k : Nat, a0 = k := ⟨a0.toNat, by omega⟩
      by_cases hn : a3 < 1
      · exact small_in w T k a1 a2 a3 (by omega) hn hb hbig'
      · exact in_big w T k a1 a2 a3 (by omega) (by omega) hb hbig'
end Go.Proofs.YtlahinefnhfifaaDoor.machLocks
