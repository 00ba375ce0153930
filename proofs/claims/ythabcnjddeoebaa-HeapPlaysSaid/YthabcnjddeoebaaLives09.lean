/- 'lives' of layer 9: the chapter's example. -/
import Derived.Test.YthabcnjddeoebaaHeap7
namespace Go.Proofs.Ythabcnjddeoebaa
set_option linter.unusedVariables false
set_option linter.unusedSimpArgs false
open Go.RowKit

theorem OnlyV.below {p base B : Nat} {a b : World} (h : OnlyV p base a b) (h1 : B ≤ base) (h2 : B ≤ p) (h3 : B ≤ a.heap.size) : Below B a b :=
  ⟨h.os, h.tape, h.output, h.size, fun k hk => h.block k (by omega) (by omega) (by omega)⟩
theorem Hp.hs {w : World} {base p : Nat} {v : Value} {es : List (Int × Int × Int)} (h : Hp w base p v es) (hn : 0 < es.length) : ∃ g c, v = .slice (some ⟨g, 0, none⟩) es.length c ∧ Hs w base p g es.length c es w := by
  obtain ⟨a, c, rfl⟩ := h.slice
  obtain ⟨g, rfl, h1, h2, h3, _⟩ := h.pos hn
  exact ⟨g, c, rfl, h, rfl, OnlyH.refl _, h2, h3⟩
theorem r1 : riseF 0 [(5, 1, 7)] 0 = [(5, 1, 7)] := rfl
theorem r2 : riseF 1 [(5, 1, 7), (3, 2, 8)] 1 = [(3, 2, 8), (5, 1, 7)] := by decide
theorem r3 : riseF 2 [(3, 2, 8), (5, 1, 7), (3, 1, 9)] 2 = [(3, 1, 9), (5, 1, 7), (3, 2, 8)] := by decide
theorem r4 : sinkF 3 ((sw [(3, 1, 9), (5, 1, 7), (3, 2, 8)] 0 2).take 2) 2 0 = [(3, 2, 8), (5, 1, 7)] := by decide

set_option maxRecDepth 100000 in
set_option maxHeartbeats 8000000 in
theorem lives9 (w : World) : Calls Try.prog 9 #[] w fun e w' => e = .returned (.bool true) ∧ Below w.heap.size w w' := by
  have H0 : Hid (Hp (w.alloc (.cells #[.slice none 0 0] 25)) (w.heap.size + 1) w.heap.size (.slice none 0 0) []) :=
    ⟨Deep.blk_alloc_new _ _, ⟨by simp [fl], .inl ⟨rfl, rfl⟩⟩, by simp [Value.ownBlock], by simp⟩
  have B0 := hid ((Below.refl w.heap.size w).alloc (Nat.le_refl _) (.cells #[.slice none 0 0] 25))
  go_enter Try.func9, Try.ntmps9
  go_wp2_with fail
  refine (put_any _ (w.heap.size + 1) w.heap.size _ [] 5 1 7 H0.out (by simp) (by simp)).mono ?_
  rintro e w2 ⟨rfl, v2, h2, o2⟩
  have s2 := o2.size
  simp only [World.size_alloc] at s2
  have H2 := hid h2
  have B2 := hid (B0.out.trans (o2.below (B := w.heap.size) (by omega) (by omega) (by simp)))
  clear h2 o2 H0 B0
  go_wp2_with fail
  refine (put_any _ (w.heap.size + 1) w.heap.size _ [(5, 1, 7)] 3 2 8 H2.out s2 (by simp)).mono ?_
  rintro e w3 ⟨rfl, v3, h3, o3⟩
  have s3 := Nat.le_trans s2 o3.size
  have H3 := hid (show Hp w3 (w.heap.size + 1) w.heap.size v3 [(3, 2, 8), (5, 1, 7)] by rw [← r2]; exact h3)
  have B3 := hid (B2.out.trans (o3.below (B := w.heap.size) (by omega) (by omega) (by omega)))
  clear h3 o3 H2 B2
  go_wp2_with fail
  refine (put_any _ (w.heap.size + 1) w.heap.size _ [(3, 2, 8), (5, 1, 7)] 3 1 9 H3.out s3 (by simp)).mono ?_
  rintro e w4 ⟨rfl, v4, h4, o4⟩
  have s4 := Nat.le_trans s3 o4.size
  have H4 := hid (show Hp w4 (w.heap.size + 1) w.heap.size v4 [(3, 1, 9), (5, 1, 7), (3, 2, 8)] by rw [← r3]; exact h4)
  have B4 := hid (B3.out.trans (o4.below (B := w.heap.size) (by omega) (by omega) (by omega)))
  clear h4 o4 H3 B3
  obtain ⟨g, c, rfl, hs4⟩ := H4.out.hs (by simp)
  have HS4 := hid hs4
  clear hs4 H4
  go_wp2_with fail
  refine (take_some _ (w.heap.size + 1) w.heap.size g 2 c [(3, 1, 9), (5, 1, 7), (3, 2, 8)] HS4.out 3 1 9 rfl).mono ?_
  rintro e w5 ⟨rfl, h5⟩
  have H5 := hid (show Hs w4 (w.heap.size + 1) w.heap.size g 2 c [(3, 2, 8), (5, 1, 7)] w5 by rw [← r4]; exact h5)
  have s5 := Nat.le_trans s4 h5.ho.size
  have B5 := hid (B4.out.trans ((OnlyV.of_h h5.ho h5.ge.1).below (B := w.heap.size) (by omega) (by omega) (by omega)))
  have H6 := hid (H5.out.below ((Below.refl _ _).alloc (Nat.le_refl _) (.cells #[.int .i64 3, .int .u64 1, .int .i64 9] 28)))
  have B6 := hid (B5.out.alloc (by omega) (.cells #[.int .i64 3, .int .u64 1, .int .i64 9] 28))
  clear h5 HS4 B4 H5 B5
  go_wp2_with fail
  refine (H6.out.len).mono ?_
  rintro e w' ⟨rfl, rfl⟩
  go_wp2
  go_ret
  exact ⟨rfl, B6.out⟩
end Go.Proofs.Ythabcnjddeoebaa
