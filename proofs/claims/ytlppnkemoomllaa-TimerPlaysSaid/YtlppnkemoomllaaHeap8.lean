/- Heap.First and Heap.Take of a heap that has nothing. -/
import Derived.Test.YtlppnkemoomllaaHeap7
namespace Go.Proofs.Ytlppnkemoomllaa
set_option linter.unusedVariables false
set_option linter.unusedSimpArgs false
open Go.RowKit

def NonePost (w : World) (e : Ending) (w' : World) : Prop := e = .returned (.tuple #[.agg #[.int .i64 0, .int .u64 0, .int .i64 0], .bool false]) ∧ Below w.heap.size w w'
theorem hlen0 (w : World) (base p : Nat) (v : Value) (h : Hp w base p v []) :
    Calls Try.prog 28 #[.pointer (some ⟨p, 0, none⟩)] w fun e w' => e = .returned (.int .i64 0) ∧ w' = w := by
  simpa using hlen w base p v [] h
set_option maxHeartbeats 8000000 in
theorem first_none (w : World) (base p : Nat) (v : Value) (h : Hp w base p v []) :
    Calls Try.prog 26 #[.pointer (some ⟨p, 0, none⟩)] w (NonePost w) := by
  have H1 := hid (h.below ((Below.refl _ _).alloc (Nat.le_refl _) (.cells #[.int .i64 0, .int .u64 0, .int .i64 0] 37)))
  have HB := hid ((Below.refl w.heap.size w).alloc (Nat.le_refl _) (.cells #[.int .i64 0, .int .u64 0, .int .i64 0] 37))
  obtain ⟨d0, d1, d2⟩ := cell_new3 w (.int .i64 0) (.int .u64 0) (.int .i64 0) 37
  clear h
  go_enter Try.func26, Try.ntmps26
  go_wp2_with fail
  refine (hlen0 _ base p v H1.out).mono ?_
  rintro e w' ⟨rfl, rfl⟩
  go_wp2
  refine bodyPost_ret (v := .tuple #[.agg #[.int .i64 0, .int .u64 0, .int .i64 0], .bool false]) (by simp [results, Try.results26, go_sem, d0, d1, d2]) rfl ⟨rfl, HB.out⟩
set_option maxHeartbeats 8000000 in
theorem take_none (w : World) (base p : Nat) (v : Value) (h : Hp w base p v []) :
    Calls Try.prog 21 #[.pointer (some ⟨p, 0, none⟩)] w (NonePost w) := by
  have B1 := (Below.refl w.heap.size w).alloc (Nat.le_refl _) (.cells #[.int .i64 0, .int .u64 0, .int .i64 0] 37)
  have H1 := hid (h.below B1)
  have HB := hid B1
  have N1 := hid (Deep.blk_alloc_new w (.cells #[.int .i64 0, .int .u64 0, .int .i64 0] 37))
  clear h B1
  go_enter Try.func21, Try.ntmps21
  go_wp2_with fail
  refine (first_none _ base p v H1.out).mono ?_
  rintro e w2 ⟨rfl, hb2⟩
  have hs2 := hb2.size
  simp only [World.size_alloc] at hs2
  have n2 := (hb2.block w.heap.size (by simp)).trans N1.out
  have n3 := (Below.heap_alloc w2 (.cells #[.int .i64 0, .int .u64 0, .int .i64 0] 37) w.heap.size (by omega)).trans n2
  have b0 : (w2.alloc (.cells #[.int .i64 0, .int .u64 0, .int .i64 0] 37)).cell? ⟨w.heap.size, 0, none⟩ = some (.int .i64 0) := cell_ent n3 rfl
  have b1 : (w2.alloc (.cells #[.int .i64 0, .int .u64 0, .int .i64 0] 37)).cell? ⟨w.heap.size, 1, none⟩ = some (.int .u64 0) := cell_ent n3 rfl
  have b2 : (w2.alloc (.cells #[.int .i64 0, .int .u64 0, .int .i64 0] 37)).cell? ⟨w.heap.size, 2, none⟩ = some (.int .i64 0) := cell_ent n3 rfl
  have g0 : (w2.alloc (.cells #[.int .i64 0, .int .u64 0, .int .i64 0] 37)).frozen? ⟨w.heap.size, 0, none⟩ = false := by simp [World.frozen?, n3]
  have g1 : (w2.alloc (.cells #[.int .i64 0, .int .u64 0, .int .i64 0] 37)).frozen? ⟨w.heap.size, 1, none⟩ = false := by simp [World.frozen?, n3]
  have g2 : (w2.alloc (.cells #[.int .i64 0, .int .u64 0, .int .i64 0] 37)).frozen? ⟨w.heap.size, 2, none⟩ = false := by simp [World.frozen?, n3]
  have HB3 := hid (((HB.out.trans (hb2.mono (by simp))).alloc (by omega) (.cells #[.int .i64 0, .int .u64 0, .int .i64 0] 37)))
  obtain ⟨r0, r1, r2⟩ := res3 _ w.heap.size n3 0 0 0
  have R0 := hid r0
  have R1 := hid r1
  have R2 := hid r2
  clear r0 r1 r2 hb2 n2 n3
  go_wp2
  have r0 := R0.out
  have r1 := R1.out
  have r2 := R2.out
  refine bodyPost_ret (v := .tuple #[.agg #[.int .i64 0, .int .u64 0, .int .i64 0], .bool false]) (by simp [results, Try.results21, go_sem, r0, r1, r2]) rfl ⟨rfl, ?_⟩
  exact ((HB3.out.setCell (by simp) _).setCell (by simp) _).setCell (by simp) _
end Go.Proofs.Ytlppnkemoomllaa
