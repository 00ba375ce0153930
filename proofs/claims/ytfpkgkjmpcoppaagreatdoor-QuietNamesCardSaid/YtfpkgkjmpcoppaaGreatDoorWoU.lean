/- world.New of a world of one: its parts. -/
import Derived.Test.YtfpkgkjmpcoppaaGreatDoorWoT
namespace Go.Proofs.YtfpkgkjmpcoppaaGreatDoor
open Go.RowKit
set_option linter.unusedVariables false
set_option linter.unusedSimpArgs false
set_option maxRecDepth 20000
theorem infoInt3 : (Tryz.prog.info? 3).map (fun i => (i.zero, i.size, i.bytes)) = some (some (.int .i64 0), 1, 8) := by kernel_rfl
theorem infoMc : (Tryz.prog.info? 101).map (fun i => (i.zero, i.size)) = some (some (.agg mz), 20) := by kernel_rfl
theorem infoMcB : (Tryz.prog.info? 101).map (fun i => decide (i.bytes ≤ 1000)) = some true := by kernel_rfl
theorem mk_tu (w : World) : (Instr.makeSlice 35 (.int .i64 1) (.int .i64 1)).run Tryz.prog w = .ok (.slice (some ⟨w.heap.size, 0, none⟩) 1 1) (w.alloc (.cells #[.int .i64 0] 3)) := by
  have := run_make_row' (P := Tryz.prog) 35 3 (.int .i64 0) 8 Tryz.underlying35 infoInt3 rfl .i64 .i64 1 (by omega) (by omega) w
  simp only [Int.natCast_one] at this
  rw [show madeCells #[Value.int .i64 0] 1 = #[Value.int .i64 0] from by kernel_rfl] at this
  exact this
theorem mk_ma (w : World) : (Instr.makeSlice 90 (.int .i64 1) (.int .i64 1)).run Tryz.prog w = .ok (.slice (some ⟨w.heap.size, 0, none⟩) 1 1) (w.alloc (.cells mz 101)) := by
  obtain ⟨i, hi, hz⟩ := Option.map_eq_some_iff.1 infoMc
  obtain ⟨i', hi', hb⟩ := Option.map_eq_some_iff.1 infoMcB
  rw [hi] at hi'
  cases hi'
  simp only [Prod.mk.injEq] at hz
  have hb := of_decide_eq_true hb
  have := run_make (P := Tryz.prog) w 90 101 i (.agg mz) Tryz.underlying90 hi hz.1 .i64 .i64 1 1 (by omega) (by omega) (by omega) (by omega)
  rw [hz.2] at this
  refine this.trans ?_
  rw [show madeCells (Value.agg mz).cells (Int.toNat 1 * 20) = mz from by kernel_rfl]
  rfl
end Go.Proofs.YtfpkgkjmpcoppaaGreatDoor
