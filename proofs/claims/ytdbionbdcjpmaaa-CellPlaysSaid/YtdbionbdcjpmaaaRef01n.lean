/- The document's memory at the beginning. -/
import Derived.Test.YtdbionbdcjpmaaaRef01
namespace Go.Proofs.Ytdbionbdcjpmaaa
set_option linter.unusedVariables false
set_option linter.unusedSimpArgs false
open Go.RowKit
set_option maxHeartbeats 1000000 in
theorem rnew (m : Int) (k : Nat) (hk : (k : Int) = max m 0) (hm : m ≤ 100) (w : World) :
    Calls Try.prog 8 #[.int .i64 m] w fun e w' => ∃ c, e = .returned (.agg #[.slice (some ⟨w.heap.size + 1, 0, none⟩) k c, .int .i64 0]) ∧ Offs w' w.heap.size 30 (.slice (some ⟨w.heap.size + 1, 0, none⟩) k c) (vals (List.replicate k 0)) ∧ Below w.heap.size w w' := by
  have hmk := run_make_row' (P := Try.prog) 26 30 (.int .u64 0) 8 Try.underlying26 infoU64 rfl .i64 .i64
  have FIN : ∀ k : Nat, k ≤ 100 → Offs ((w.alloc (.cells #[.slice (some ⟨w.heap.size + 1, 0, none⟩) k k, .int .i64 0] 28)).alloc (.cells (madeCells #[Value.int .u64 0] k) 30)) w.heap.size 30 (.slice (some ⟨w.heap.size + 1, 0, none⟩) k k) (vals (List.replicate k 0)) ∧
      Below w.heap.size w ((w.alloc (.cells #[.slice (some ⟨w.heap.size + 1, 0, none⟩) k k, .int .i64 0] 28)).alloc (.cells (madeCells #[Value.int .u64 0] k) 30)) ∧
      ((w.alloc (.cells #[.slice (some ⟨w.heap.size + 1, 0, none⟩) k k, .int .i64 0] 28)).alloc (.cells (madeCells #[Value.int .u64 0] k) 30)).heap[w.heap.size]? = some (.cells #[.slice (some ⟨w.heap.size + 1, 0, none⟩) k k, .int .i64 0] 28 (0, 0)) := by
    intro k hk
    refine ⟨.inr ⟨w.heap.size + 1, 0, k, madeCells #[Value.int .u64 0] k, by rw [vals_len]; simp, by omega, ?_, by rw [vals_len]; simp, by unfold maxLen; omega, by rw [made_u64]; simp, fun j hj => ?_⟩, ((Below.refl _ _).alloc (Nat.le_refl _) _).alloc (by simp) _, (Below.heap_alloc _ _ _ (by simp)).trans (Deep.blk_alloc_new _ _)⟩
    · have := Deep.blk_alloc_new (w.alloc (.cells #[.slice (some ⟨w.heap.size + 1, 0, none⟩) k k, .int .i64 0] 28)) (.cells (madeCells #[Value.int .u64 0] k) 30)
      rw [World.size_alloc] at this
      exact this
    · rw [made_u64, Nat.zero_add, List.getElem?_toArray]; rfl
  by_cases h1 : m < 0
  · obtain rfl : k = 0 := by omega
    have hm0 := hmk 0 (by omega) (by omega)
    clear hmk hk
    simp only [Int.natCast_zero] at hm0
    go_enter Try.func8, Try.ntmps8
    go_wp2
    obtain ⟨f1, f2, f3⟩ := FIN 0 (by omega)
    have d0 := cell_blk1 (i := 0) f3 rfl
    have d1 := cell_blk1 (i := 1) f3 rfl
    have H := hid (And.intro f1 f2)
    clear f1 f2 f3 FIN
    generalize (w.alloc (.cells #[.slice (some ⟨w.heap.size + 1, 0, none⟩) 0 0, .int .i64 0] 28)).alloc (.cells (madeCells #[Value.int .u64 0] 0) 30) = W at *
    refine bodyPost_ret (v := .agg #[.slice (some ⟨w.heap.size + 1, 0, none⟩) 0 0, .int .i64 0]) (by simp [results, Try.results8, go_sem, d0, d1]) rfl ⟨0, rfl, H.out.1, H.out.2⟩
  · obtain rfl : m = k := by omega
    have hm0 := hmk k (by omega) (by omega)
    clear hmk hk
    go_enter Try.func8, Try.ntmps8
    go_wp2
    obtain ⟨f1, f2, f3⟩ := FIN k (by omega)
    have d0 := cell_blk1 (i := 0) f3 rfl
    have d1 := cell_blk1 (i := 1) f3 rfl
    have H := hid (And.intro f1 f2)
    clear f1 f2 f3 FIN
    generalize (w.alloc (.cells #[.slice (some ⟨w.heap.size + 1, 0, none⟩) k k, .int .i64 0] 28)).alloc (.cells (madeCells #[Value.int .u64 0] k) 30) = W at *
    refine bodyPost_ret (v := .agg #[.slice (some ⟨w.heap.size + 1, 0, none⟩) k k, .int .i64 0]) (by simp [results, Try.results8, go_sem, d0, d1]) rfl ⟨k, rfl, H.out.1, H.out.2⟩
end Go.Proofs.Ytdbionbdcjpmaaa
