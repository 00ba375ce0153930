/- Contracts of mach.Busy and mach.Copy. -/
import Derived.Test.YtpmldcnmnadgaaaDoorMach2
import Derived.Test.YtpmldcnmnadgaaaDoorAppR
import Derived.Test.YtpmldcnmnadgaaaDoorSame
import Derived.Test.YtpmldcnmnadgaaaDoorMemW
namespace Go.Proofs.YtpmldcnmnadgaaaDoor
open Go.RowKit
set_option linter.unusedVariables false
set_option linter.unusedSimpArgs false

/-- A machine with only place and Rest set. -/
@[reducible] def mach1 (pl : Int) (rv : Value) : Array Value := #[.int .i64 pl, .int .i64 (-1), .int .i64 (-1), .int .i64 (-1), .int .i64 (-1), .int .i64 (-1), .int .i64 0, .bool false, .bool false, rv, .int .i64 0, .int .i64 0, .int .i64 0, .int .i64 0, .int .i64 0, .int .i64 0, .int .u64 0, .int .i64 0]
@[reducible] def machZ0 : Array Value := #[.int .i64 0, .int .i64 0, .int .i64 0, .int .i64 0, .int .i64 0, .int .i64 0, .int .i64 0, .bool false, .bool false, .slice none 0 0, .int .i64 0, .int .i64 0, .int .i64 0, .int .i64 0, .int .i64 0, .int .i64 0, .int .u64 0, .int .i64 0]
def busyB (pl : Int) : Bool := (pl != 0) && (pl != 16)
theorem busy_any (pl : Int) (a : Option Addr) (n c : Nat) (w : World) : Calls Tryd.prog 18 #[.agg (mach1 pl (.slice a n c))] w fun e w' => e = .returned (.bool (busyB pl)) ∧ Below w.heap.size w w' := by
  have hb := hid ((Below.refl w.heap.size w).alloc (Nat.le_refl _) (.cells (mach1 pl (.slice a n c)) 53))
  by_cases h0 : pl = 0
  · subst h0
    rw [show busyB 0 = false from rfl]
    go_enter Tryd.func18, Tryd.ntmps18
    go_wp2
    go_ret
    exact ⟨rfl, hb.out⟩
  · have q0 : (pl != 0) = true := by simpa using h0
    by_cases h16 : pl = 16
    · subst h16
      rw [show busyB 16 = false from rfl]
      go_enter Tryd.func18, Tryd.ntmps18
      go_wp2
      go_ret
      exact ⟨rfl, hb.out⟩
    · have q1 : (pl != 16) = true := by simpa using h16
      rw [show busyB pl = true by unfold busyB; rw [q0, q1]; rfl]
      go_enter Tryd.func18, Tryd.ntmps18
      go_wp2
      go_ret
      exact ⟨rfl, hb.out⟩

set_option maxHeartbeats 4000000 in
theorem mcopy_any (pl : Int) (a : Option Addr) (n c : Nat) (xs : List Int) (w : World) (h : Reads w (.slice a n c) xs) (hl : xs.length ≤ 1000) :
    Calls Tryd.prog 19 #[.agg (mach1 pl (.slice a n c))] w fun e w' => ∃ v', e = .returned (.agg (mach1 pl v')) ∧ Owns w' w.heap.size v' xs ∧ Below w.heap.size w w' := by
  have HB := hid (((Below.refl w.heap.size w).alloc (Nat.le_refl _) (.cells (mach1 pl (.slice a n c)) 53)).alloc (by simp) (.cells machZ0 53))
  have HR := hid h
  clear h
  go_enter Tryd.func19, Tryd.ntmps19
  go_wp2_with fail
  refine (clone_int _ xs _ (by omega) (HR.out.of_below HB.out)).mono ?_
  rintro e w2 ⟨v2, rfl, ho2, hb2⟩
  simp only [World.size_alloc] at ho2 hb2
  have hz2 := hb2.size
  simp only [World.size_alloc] at hz2
  have n2 : w2.heap[w.heap.size]? = some (.cells (mach1 pl (.slice a n c)) 53 (0, 0)) := by
    rw [hb2.block _ (by omega)]
    exact heap_alloc2_old w _ _
  have r2 : w2.heap[w.heap.size + 1]? = some (.cells machZ0 53 (0, 0)) := by
    rw [hb2.block _ (by omega)]
    exact heap_alloc2_new w _ _
  obtain ⟨va, vn, vc, rfl⟩ := ho2.slice3
  have HW := hid (HB.out.trans (hb2.mono (by omega)))
  have HO := hid ho2
  have j9 : w2.cell? ⟨w.heap.size, 9, none⟩ = some (.slice a n c) := blk_cell n2 rfl
  have e9 : w2.frozen? ⟨w.heap.size, 9, none⟩ = false := blk_free n2
  have N3 := hid (blk_set (.slice va vn vc) n2 (show (mach1 pl (.slice a n c)).setIfInBounds 9 (.slice va vn vc) = mach1 pl (.slice va vn vc) from rfl))
  have R3 := hid ((heap_setCell_other w2 ⟨w.heap.size, 9, none⟩ (w.heap.size + 1) (.slice va vn vc) (by simp)).trans r2)
  clear ho2 hb2 n2 r2 HR HB
  go_wp2_with (first
    | (refine wpList_load_known (by rfl) 53 (.tmp 1) rfl w.heap.size rfl 53 (mach1 pl (.slice va vn vc)) (0, 0) _ N3.out Tryd.underlying53 rfl (by kernel_rfl) ?_)
    | (refine wpList_store_row rfl 53 (.tmp 2) (.tmp 7) rfl (w.heap.size + 1) (mach1 pl (.slice va vn vc)) rfl rfl 53 _ R3.out (by kernel_rfl) (by rfl) (by simp [mach1, Value.oneCell']) ?_))
  refine bodyPost_ret (v := .agg (mach1 pl (.slice va vn vc))) (results_cell_row rfl _ _ (w.heap.size + 1) 53 (mach1 pl (.slice va vn vc)) (0, 0) _ (by rfl) (setRow_heap _ _ _ _ _ _ R3.out) Tryd.underlying53 rfl (by kernel_rfl)) rfl ⟨_, rfl, ?_, ?_⟩
  · exact (HO.out.mono (by omega)).kept (fun k hk => by
      have := (HO.out.lt k hk).1
      rw [row_other _ _ _ _ (by omega), heap_setCell_other _ _ _ _ (by simp; omega)])
  · exact row_below (HW.out.setCell (Nat.le_refl _) _) (by omega) _
end Go.Proofs.YtpmldcnmnadgaaaDoor
