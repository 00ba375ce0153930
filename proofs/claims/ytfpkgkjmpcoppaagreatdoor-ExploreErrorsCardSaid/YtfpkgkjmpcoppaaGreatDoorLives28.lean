/- hostlerlaw28.lives: Lives, and one order. -/
import Derived.Test.YtfpkgkjmpcoppaaGreatDoorLives20
import Derived.Test.YtfpkgkjmpcoppaaGreatDoorExp2
namespace Go.Proofs.YtfpkgkjmpcoppaaGreatDoor
open Go.RowKit
set_option linter.unusedVariables false
set_option linter.unusedSimpArgs false
set_option maxRecDepth 20000
theorem ecnt_23 : ecnt 2 3 = 8 := by decide
theorem edig_235 : edig 2 3 5 = [1, 0, 1] := by decide
theorem reads_101 (w : World) : Reads (w.alloc (.cells #[.int .i64 1, .int .i64 0, .int .i64 1] 3)) (.slice (some ⟨w.heap.size, 0, none⟩) 3 3) [1, 0, 1] :=
  ⟨_, 3, rfl, ⟨by simp, by unfold maxLen; omega, .inr ⟨_, rfl⟩⟩, fun _ => ⟨_, 0, rfl, by simp, fun j hj => by
    have hn := heap_alloc_new w (.cells #[.int .i64 1, .int .i64 0, .int .i64 1] 3)
    simp only [List.length_cons, List.length_nil] at hj
    match j, hj with
    | 0, _ => exact blk_cell hn rfl
    | 1, _ => exact blk_cell hn rfl
    | 2, _ => exact blk_cell hn rfl⟩⟩
set_option maxHeartbeats 4000000 in
theorem lives28 (w : World) (T1 : MaPlaces w) (T2 : EvNames w) (T3 : EvSteps w) (U1 : 0 < w.heap.size) (U2 : 3 < w.heap.size) (U3 : 1 < w.heap.size) :
    Calls Tryz.prog 33 #[] w fun e w' => e = .returned (.bool true) ∧ Below w.heap.size w w' := by
  have LV := hid (lives20 w T1 T2 T3 U1 U2 U3)
  clear T1 T2 T3 U1 U2 U3
  go_enter Tryz.func33, Tryz.ntmps33
  go_wp2_with fail
  refine LV.out.mono ?_
  rintro e w2 ⟨rfl, hb⟩
  have B2 := hid hb
  clear hb LV
  go_wp2_with fail
  refine (eorder 2 3 5 _ (by omega) (by omega) (by omega) (by omega) (by rw [show ((3 : Nat) : Int) = 3 from rfl, ecnt_23]; omega) (by omega)).mono ?_
  rintro e w3 ⟨v, rfl, ho, hb⟩
  rw [edig_235] at ho
  have HO := hid ho
  have B3 := hid (B2.out.trans (hb.mono B2.out.size))
  obtain ⟨va, vn, vc, rfl⟩ := ho.slice3
  clear ho hb B2
  go_wp2_with fail
  have hs3 := B3.out.size
  refine (same_any _ _ [1, 0, 1] [1, 0, 1] true (by simp) _ (HO.out.reads.of_below (bla w3 _)) (reads_101 w3) (by simp) (by simp)).mono ?_
  rintro e w4 ⟨rfl, hq⟩
  have B4 := hid ((B3.out.alloc hs3 (.cells #[.int .i64 1, .int .i64 0, .int .i64 1] 3)).trans (hq.below _))
  clear hq HO
  go_wp2
  go_ret
  exact ⟨rfl, B4.out⟩
end Go.Proofs.YtfpkgkjmpcoppaaGreatDoor
