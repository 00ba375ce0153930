/- hostlerlaw17.lives. -/
import Derived.Test.YtkimfejhgfnjoaaDoorModC
namespace Go.Proofs.YtkimfejhgfnjoaaDoor
open Go.RowKit
set_option linter.unusedVariables false
set_option linter.unusedSimpArgs false

def z17 : Nat → Nat → Int
  | 0, _ => 0
  | _, 0 => 2
  | _, _ => 0
theorem fnd17 : fnd (newM 1 1 1) z17 3 = [(1, 2)] := by decide
set_option maxHeartbeats 4000000 in
theorem lives17 (w : World) (T2 : EvNames w) (T3 : EvSteps w) : Calls Tryd.prog 4 #[] w fun e w' => e = .returned (.bool true) ∧ Below w.heap.size w w' := by
  have hb := hid (bl_ad w (.cells #[.int .i64 0, .int .i64 0, .int .i64 0, .int .i64 0, .int .i64 0, .int .i64 2, .int .i64 0, .int .i64 0, .int .i64 0, .int .i64 0, .int .i64 2, .int .i64 0, .int .i64 0, .int .i64 0, .int .i64 0] 30))
  have NB := heap_alloc_new w (.cells #[.int .i64 0, .int .i64 0, .int .i64 0, .int .i64 0, .int .i64 0, .int .i64 2, .int .i64 0, .int .i64 0, .int .i64 0, .int .i64 0, .int .i64 2, .int .i64 0, .int .i64 0, .int .i64 0, .int .i64 0] 30)
  have EV : Evs (w.alloc (.cells #[.int .i64 0, .int .i64 0, .int .i64 0, .int .i64 0, .int .i64 0, .int .i64 2, .int .i64 0, .int .i64 0, .int .i64 0, .int .i64 0, .int .i64 2, .int .i64 0, .int .i64 0, .int .i64 0, .int .i64 0] 30)) (some ⟨w.heap.size, 0, none⟩) 3 z17 := by
    intro _
    refine ⟨_, _, rfl, by simp, fun j hj i hi => ?_⟩
    match j, hj with
    | 0, _ => match i, hi with
      | 0, _ => exact cell_md NB rfl
      | 1, _ => exact cell_md NB rfl
      | 2, _ => exact cell_md NB rfl
      | 3, _ => exact cell_md NB rfl
      | 4, _ => exact cell_md NB rfl
    | 1, _ => match i, hi with
      | 0, _ => exact cell_md NB rfl
      | 1, _ => exact cell_md NB rfl
      | 2, _ => exact cell_md NB rfl
      | 3, _ => exact cell_md NB rfl
      | 4, _ => exact cell_md NB rfl
    | 2, _ => match i, hi with
      | 0, _ => exact cell_md NB rfl
      | 1, _ => exact cell_md NB rfl
      | 2, _ => exact cell_md NB rfl
      | 3, _ => exact cell_md NB rfl
      | 4, _ => exact cell_md NB rfl
  have CK := hid (mcheck 1 1 1 _ 3 3 z17 _ EV (by omega) (by omega) (by omega) (by omega) (T2.at hb.out) (T3.at hb.out))
  unfold CkPost at CK
  rw [fnd17] at CK
  clear EV NB T2 T3
  go_enter Tryd.func4, Tryd.ntmps4
  go_wp2_with fail
  refine (CK.out).mono ?_
  rintro e w2 ⟨v, rfl, ho, hb2⟩
  have HF := hid (hb.out.trans (hb2.mono hb.out.size))
  obtain ⟨q, c, rfl⟩ : ∃ q c, v = .slice (some ⟨q, 0, none⟩) 1 c := by
    obtain ⟨_, ⟨h1, h2⟩ | ⟨q, cap, cur, h1, _⟩⟩ := ho
    · simp at h2
    · exact ⟨q, cap, h1⟩
  have d0 : w2.cell? ⟨q, 0, none⟩ = some (.int .u8 1) := by simpa [Addr.add] using ho.cells (g := q) rfl 0 _ rfl
  have d1 : w2.cell? ⟨q, 1, none⟩ = some (.int .i64 2) := by simpa [Addr.add] using ho.cells (g := q) rfl 1 _ rfl
  clear ho hb2 CK hb
  go_wp2
  go_ret
  exact ⟨rfl, HF.out⟩
end Go.Proofs.YtkimfejhgfnjoaaDoor
