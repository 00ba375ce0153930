/- 'lives' of layer 10: the chapter's example. -/
import Derived.Test.YtlppnkemoomllaaTimE
namespace Go.Proofs.Ytlppnkemoomllaa
set_option linter.unusedVariables false
set_option linter.unusedSimpArgs false
open Go.RowKit Tk

theorem ins1 : insF (3, 1, 8) (insF (5, 0, 7) []) = [(3, 1, 8), (5, 0, 7)] := by decide
theorem ins0 : insF (5, 0, 7) [] = [(5, 0, 7)] := by decide
set_option maxRecDepth 100000 in
set_option maxHeartbeats 8000000 in
theorem lives10 (w : World) : Calls Try.prog 4 #[] w fun e w' => e = .returned (.bool true) ∧ Below w.heap.size w w' := by
  have NEW := hid (te_new 2 (by decide) (by decide) w)
  obtain ⟨Z, hZ⟩ : ∃ Z : Nat → Prop, Z = fun q => q < w.heap.size := ⟨_, rfl⟩
  have HZ := hid (show ∀ q, q < w.heap.size → Z q by rw [hZ]; exact fun q h => h)
  have HZ2 := hid (show ∀ q, Z q → q < w.heap.size by rw [hZ]; exact fun q h => h)
  rw [← hZ] at NEW
  clear hZ
  go_enter Try.func4, Try.ntmps4
  go_wp2_with fail
  refine (NEW.out).mono ?_
  rintro e w2 ⟨rfl, h2, b2⟩
  have H2 := hid h2
  have B2 := hid b2
  have s2 := b2.size
  obtain ⟨t, ht⟩ : ∃ t, t = w.heap.size + 1 := ⟨_, rfl⟩
  rw [← ht] at H2
  rw [← ht]
  clear h2 b2 NEW ht
  go_wp2_with fail
  refine (te_addI H2.out (fun q h => Nat.lt_of_lt_of_le (HZ2.out q h) s2) 0 7 (by decide) (by decide) (by decide) (by decide) 5 (by decide) (by decide) (by decide)).mono ?_
  rintro e w3 ⟨rfl, h3⟩
  have B3 := hid (B2.out.trans ((h3.bl HZ.out s2)))
  have s3 := B3.out.size
  obtain ⟨T3, p3, h3⟩ := h3.2
  rw [show ((0 : Nat) : Int) = 0 from rfl, ins0] at h3
  have H3 := hid h3
  clear h3 p3 H2 B2 s2
  go_wp2_with fail
  refine (te_addI H3.out (fun q h => Nat.lt_of_lt_of_le (HZ2.out q h) s3) 1 8 (by decide) (by decide) (by decide) (by decide) 3 (by decide) (by decide) (by decide)).mono ?_
  rintro e w4 ⟨rfl, h4⟩
  have B4 := hid (B3.out.trans ((h4.bl HZ.out s3)))
  have s4 := B4.out.size
  obtain ⟨T4, p4, h4⟩ := h4.2
  rw [show ((0 + 1 : Nat) : Int) = 1 from rfl, show insF (3, 1, 8) [(5, 0, 7)] = [(3, 1, 8), (5, 0, 7)] by decide] at h4
  have H4 := hid h4
  clear h4 p4 H3 B3 s3
  go_wp2_with fail
  refine (te_next H4.out).mono ?_
  rintro e w5 ⟨rfl, b5⟩
  have H5 := hid (H4.out.below b5)
  have B5 := hid (B4.out.trans (b5.mono s4))
  have s5 := B5.out.size
  clear b5 H4 B4 s4
  go_wp2_with fail
  refine (te_take H5.out (fun q h => Nat.lt_of_lt_of_le (HZ2.out q h) s5) 4 (by decide)).mono ?_
  rintro e w6 ⟨rfl, h6⟩
  have B6 := hid ((B5.out.trans (h6.bl HZ.out s5)).trans ((bl_al w6 (.cells #[.int .i64 3, .int .u64 1, .int .i64 8] 37)).mono (Nat.le_trans s5 h6.1.size)))
  obtain ⟨m, T, hm, hT, h6⟩ := h6.2
  have H6 := hid (h6.below (bl_al w6 (.cells #[.int .i64 3, .int .u64 1, .int .i64 8] 37)))
  have N6 := hid (Deep.blk_alloc_new w6 (.cells #[.int .i64 3, .int .u64 1, .int .i64 8] 37))
  clear h6 hT hm H5 B5 s5
  go_wp2_with fail
  refine (te_none H6.out 4 (fun x l e => by injection e with e _; rw [← e]; decide)).mono ?_
  rintro e w7 ⟨rfl, b7⟩
  have B7 := hid ((B6.out.trans (b7.mono B6.out.size)).trans ((bl_al w7 (.cells #[.int .i64 0, .int .u64 0, .int .i64 0] 37)).mono (Nat.le_trans B6.out.size b7.size)))
  have n7 := (b7.block w6.heap.size (by simp)).trans N6.out
  have l6 : w6.heap.size < w7.heap.size := (Array.getElem?_eq_some_iff.1 n7).1
  have c2 : (w7.alloc (.cells #[.int .i64 0, .int .u64 0, .int .i64 0] 37)).cell? ⟨w6.heap.size, 2, none⟩ = some (.int .i64 8) := cell_ent ((Below.heap_alloc _ _ _ l6).trans n7) rfl
  clear b7 n7 H6 B6 N6
  go_wp2
  go_ret
  exact ⟨rfl, B7.out⟩
end Go.Proofs.Ytlppnkemoomllaa
