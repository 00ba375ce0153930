/- The contract of layer 19's lives. -/
import Derived.Test.YtpmldcnmnadgaaaDoorMach2
namespace Go.Proofs.YtpmldcnmnadgaaaDoor
open Go.RowKit
set_option linter.unusedVariables false
set_option linter.unusedSimpArgs false
set_option maxHeartbeats 4000000 in
theorem lives19 (w : World) (T : MaPlaces w) : Calls Tryd.prog 16 #[] w fun e w' => e = .returned (.bool true) ∧ Below w.heap.size w w' := by
  have HT := hid T
  clear T
  go_enter Tryd.func16, Tryd.ntmps16
  go_wp2_with fail
  refine (fresh_any _).mono ?_
  rintro e w2 ⟨rfl, hb⟩
  have HB3 := hid (hb.alloc hb.size (.cells (mach0 9 (-1) 2) 53))
  have HT3 := hid (HT.out.at HB3.out)
  go_wp2_with (first
    | (refine wpList_store_new rfl 53 (.tmp 1) (.tmp 2) rfl _ (mach0 16 (-1) 0) 53 rfl rfl (by kernel_rfl) (by rfl) (by simp [mach0, Value.oneCell']) ?_)
    | (refine wpList_load_row rfl 53 (.tmp 1) rfl w2.heap.size rfl 53 (mach0 9 (-1) 2) (0, 0) _ (heap_alloc_new w2 _) Tryd.underlying53 rfl (by kernel_rfl) ?_))
  refine (mlock_in 9 (-1) 2 4 _ HT3.out (by omega) (by omega) (by omega) (by omega)).mono ?_
  rintro e w4 ⟨rfl, hb4⟩
  have hz := hb.size
  have HF := hid (HB3.out.trans (hb4.mono (by simp; omega)))
  rw [show lk (maPlace1 9) (-1) 2 4 = 3 from rfl]
  clear hb4 HB3 HT3
  go_wp2
  go_ret
  exact ⟨rfl, HF.out⟩
end Go.Proofs.YtpmldcnmnadgaaaDoor
