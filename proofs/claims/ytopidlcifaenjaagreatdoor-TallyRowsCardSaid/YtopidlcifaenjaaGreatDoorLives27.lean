/- hostlerlaw27.lives: Lives, and three events told. -/
import Derived.Test.YtopidlcifaenjaaGreatDoorLives20
import Derived.Test.YtopidlcifaenjaaGreatDoorPreT
import Derived.Test.YtopidlcifaenjaaGreatDoorPre1
import Derived.Test.YtopidlcifaenjaaGreatDoorTabEv
import Derived.Test.YtopidlcifaenjaaGreatDoorPre2
namespace Go.Proofs.YtopidlcifaenjaaGreatDoor
open Go.RowKit
set_option linter.unusedVariables false
set_option linter.unusedSimpArgs false
set_option maxRecDepth 20000
/-- Events that were built. -/
theorem rdE_built (w : World) (es : List Ev) (cs : Array Value) (h : cs = (fe es).toArray) (hl : es.length ≤ maxLen) : RdE (w.alloc (.cells cs 43)) (.slice (some ⟨w.heap.size, 0, none⟩) es.length es.length) es := by
  have hn := Deep.blk_alloc_new w (.cells cs 43)
  refine ⟨_, _, rfl, ⟨Nat.le_refl _, hl, .inr ⟨_, rfl⟩⟩, fun h0 => ⟨w.heap.size, 0, rfl, by simp, fun i hi => ?_⟩⟩
  obtain ⟨k0, k1, k2, k3, k4⟩ := fe_get es i hi
  have k := fun (j : Nat) (v : Value) (hv : (fe es)[j]? = some v) => blk_cell (p := w.heap.size) (i := j) hn (by rw [h]; simpa using hv)
  simp only [Nat.zero_add]
  exact ⟨k _ _ k0, k _ _ k1, k _ _ k2, k _ _ k3, k _ _ k4⟩
set_option maxHeartbeats 4000000 in
theorem lives27 (w : World) (T1 : MaPlaces w) (T2 : EvNames w) (T3 : EvSteps w) :
    Calls Tryz.prog 7 #[] w fun e w' => e = .returned (.bool true) ∧ Below w.heap.size w w' := by
  obtain ⟨w1, hw1⟩ : ∃ w1, w1 = w.alloc (.cells (fe [(0, 0, 0, 0, 0), (0, 1, 0, 0, 0), (2, 0, 0, 0, 0)]).toArray 43) := ⟨_, rfl⟩
  have hb1 : Below w.heap.size w w1 := by rw [hw1]; exact (Below.refl _ _).alloc (Nat.le_refl _) _
  have RD := hid (show RdE w1 (.slice (some ⟨w.heap.size, 0, none⟩) 3 3) [(0, 0, 0, 0, 0), (0, 1, 0, 0, 0), (2, 0, 0, 0, 0)] by rw [hw1]; exact rdE_built w [(0, 0, 0, 0, 0), (0, 1, 0, 0, 0), (2, 0, 0, 0, 0)] _ rfl (by simp [maxLen]))
  have LV := hid (lives20 w1 (T1.at hb1) (T2.at hb1) (T3.at hb1) (by have := T1.lt; have := hb1.size; omega) (by have := T2.lt; have := hb1.size; omega) (by have := T3.lt; have := hb1.size; omega))
  have B1 := hid hb1
  clear T1 T2 T3 hb1
  have hfe : (fe [(0, 0, 0, 0, 0), (0, 1, 0, 0, 0), (2, 0, 0, 0, 0)]).toArray = #[.int .i64 0, .int .i64 0, .int .i64 0, .int .i64 0, .int .i64 0, .int .i64 0, .int .i64 1, .int .i64 0, .int .i64 0, .int .i64 0, .int .i64 2, .int .i64 0, .int .i64 0, .int .i64 0, .int .i64 0] := rfl
  rw [hfe] at hw1
  clear hfe
  go_enter Tryz.func7, Tryz.ntmps7
  go_wp2_with fail
  rw [← hw1]
  refine LV.out.mono ?_
  rintro e w2 ⟨rfl, hb⟩
  have R2 := hid (RD.out.below hb)
  have B2 := hid (B1.out.trans (hb.mono B1.out.size))
  clear hb LV B1 RD hw1
  go_wp2_with fail
  refine (longest_any _ _ 0 _ R2.out (by simp)).mono ?_
  rintro e w3 ⟨rfl, hb⟩
  have R3 := hid (R2.out.below hb)
  have B3 := hid (B2.out.trans (hb.mono B2.out.size))
  rw [show (lfold 0 [(0, 0, 0, 0, 0), (0, 1, 0, 0, 0), (2, 0, 0, 0, 0)]).1 = 1 by decide]
  clear hb B2 R2
  go_wp2_with fail
  refine (order_any _ _ _ R3.out (by simp)).mono ?_
  rintro e w4 ⟨v, rfl, ho, hb⟩
  rw [show ord [(0, 0, 0, 0, 0), (0, 1, 0, 0, 0), (2, 0, 0, 0, 0)] = [0] by decide] at ho
  have HO := hid ho
  have B4 := hid (B3.out.trans (hb.mono B3.out.size))
  obtain ⟨va, vn, vc, rfl⟩ := ho.slice3
  clear ho hb B3 R3
  have s4 := B4.out.size
  go_wp2_with fail
  refine (same_any _ _ [0] [0] true (by simp) _ (HO.out.reads.of_below ((Below.refl _ _).alloc (Nat.le_refl _) _)) (reads_built w4 [0] _ rfl (by simp [maxLen])) (by simp) (by simp)).mono ?_
  rintro e w5 ⟨rfl, hq⟩
  have B5 := hid ((B4.out.alloc s4 (.cells #[.int .i64 0] 3)).trans (hq.below _))
  clear hq HO
  go_wp2
  go_ret
  exact ⟨rfl, B5.out⟩
end Go.Proofs.YtopidlcifaenjaaGreatDoor
