/- Glyphs: the chapter's example. -/
import Derived.Test.YtnaphgjkkagpoaaDoorGlyph
namespace Go.Proofs.YtnaphgjkkagpoaaDoor
set_option linter.unusedVariables false
set_option linter.unusedSimpArgs false
open Go.RowKit

theorem itoa_3 : itoaB 3 = { data := #[51] } := by simp [itoaB, Lib.itoa, Lib.decDigits]
theorem itoa_1 : itoaB 1 = { data := #[49] } := by simp [itoaB, Lib.itoa, Lib.decDigits]
theorem itoa_0 : itoaB 0 = { data := #[48] } := by simp [itoaB, Lib.itoa, Lib.decDigits]
theorem itoa_m7 : itoaB (-7) = { data := #[45, 55] } := by simp [itoaB, Lib.itoa, Lib.decDigits]
theorem word_e1 : wordB 0 3 1 0 0 = { data := #[43, 51, 109, 49, 112, 48] } := by
  unfold wordB wordP wordM wordG
  rw [if_pos rfl, if_neg (by decide), if_neg (by decide), itoa_3, itoa_1, itoa_0]
  kernel_rfl
theorem word_e2 : wordB 5 3 1 0 (-7) = { data := #[226, 152, 190, 51, 109, 49, 112, 48, 61, 45, 55] } := by
  unfold wordB wordP wordM wordG
  rw [if_neg (by decide), if_neg (by decide), if_neg (by decide), itoa_3, itoa_1, itoa_0, itoa_m7]
  kernel_rfl
set_option maxHeartbeats 4000000 in
theorem lives16 (w : World) (R : GlRunes w) (T : PwTab w) : Calls Tryd.prog 6 #[] w fun e w' => e = .returned (.bool true) ∧ Below w.heap.size w w' := by
  have W1 := hid (word_any 0 3 1 0 0 (by decide) (by decide) w R T)
  rw [word_e1] at W1
  have W2 := hid (fun (w : World) R T => word_any 5 3 1 0 (-7) (by decide) (by decide) w R T)
  rw [word_e2] at W2
  have HR := hid R
  have HT := hid T
  have t1 := txt_eq { data := #[43, 51, 109, 49, 112, 48] }
  have t2 := txt_eq { data := #[226, 152, 190, 51, 109, 49, 112, 48, 61, 45, 55] }
  clear R T
  go_enter Tryd.func6, Tryd.ntmps6
  go_wp2_with fail
  refine W1.out.mono ?_
  rintro e w2 ⟨rfl, hb⟩
  have B2 := hid hb
  clear hb
  go_wp2_with fail
  refine (W2.out _ (HR.out.at B2.out) (HT.out.at B2.out)).mono ?_
  rintro e w3 ⟨rfl, hb⟩
  have B3 := hid (B2.out.trans (hb.mono B2.out.size))
  clear hb
  go_wp2
  go_ret
  exact ⟨rfl, B3.out⟩
end Go.Proofs.YtnaphgjkkagpoaaDoor
