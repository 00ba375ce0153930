/- A world of one processor, one machine, one goroutine: its cells; Asleep. -/
import Derived.Test.YtfpkgkjmpcoppaaGreatDoorPre2
import Derived.Deep.RegionHeld3
import Derived.Deep.RegionWith
import Derived.Deep.CutRange
namespace Go.Proofs.YtfpkgkjmpcoppaaGreatDoor
open Go.RowKit
set_option linter.unusedVariables false
set_option linter.unusedSimpArgs false
set_option maxRecDepth 20000
/-- The world's own cells. -/
@[reducible] def wbV (b1 b2 rb tb q sb ib mb rc : Nat) (lg : Value) : Array Value := #[.int .i64 1, .int .i64 1, .int .i64 1, .pointer (some ⟨b1, 0, none⟩), .pointer (some ⟨b2, 0, none⟩), .int .i64 6, .int .i64 7, .int .i64 8, .int .i64 1, .slice (some ⟨rb, 0, none⟩) 1 rc, .slice (some ⟨tb, 0, none⟩) 1 1, .pointer (some ⟨q, 0, none⟩), .pointer (some ⟨sb, 0, none⟩), .pointer (some ⟨ib, 0, none⟩), .slice (some ⟨mb, 0, none⟩) 1 1, lg]
structure Wb (w : World) (W b1 b2 rb tb q sb ib mb rc : Nat) (lg : Value) : Prop where
  h : w.heap[W]? = some (.cells (wbV b1 b2 rb tb q sb ib mb rc lg) 95 (0, 0))
section
variable {w w' : World} {W b1 b2 rb tb q sb ib mb rc : Nat} {lg : Value}
theorem Wb.lt (h : Wb w W b1 b2 rb tb q sb ib mb rc lg) : W < w.heap.size := blk_lt h.h
theorem Wb.kept (h : Wb w W b1 b2 rb tb q sb ib mb rc lg) (e : w'.heap[W]? = w.heap[W]?) : Wb w' W b1 b2 rb tb q sb ib mb rc lg := ⟨e.trans h.h⟩
theorem Wb.c0 (h : Wb w W b1 b2 rb tb q sb ib mb rc lg) : w.cell? ⟨W, 0, none⟩ = some (.int .i64 1) := blk_cell h.h rfl
theorem Wb.c1 (h : Wb w W b1 b2 rb tb q sb ib mb rc lg) : w.cell? ⟨W, 1, none⟩ = some (.int .i64 1) := blk_cell h.h rfl
theorem Wb.c2 (h : Wb w W b1 b2 rb tb q sb ib mb rc lg) : w.cell? ⟨W, 2, none⟩ = some (.int .i64 1) := blk_cell h.h rfl
theorem Wb.c3 (h : Wb w W b1 b2 rb tb q sb ib mb rc lg) : w.cell? ⟨W, 3, none⟩ = some (.pointer (some ⟨b1, 0, none⟩)) := blk_cell h.h rfl
theorem Wb.c4 (h : Wb w W b1 b2 rb tb q sb ib mb rc lg) : w.cell? ⟨W, 4, none⟩ = some (.pointer (some ⟨b2, 0, none⟩)) := blk_cell h.h rfl
theorem Wb.c5 (h : Wb w W b1 b2 rb tb q sb ib mb rc lg) : w.cell? ⟨W, 5, none⟩ = some (.int .i64 6) := blk_cell h.h rfl
theorem Wb.c6 (h : Wb w W b1 b2 rb tb q sb ib mb rc lg) : w.cell? ⟨W, 6, none⟩ = some (.int .i64 7) := blk_cell h.h rfl
theorem Wb.c7 (h : Wb w W b1 b2 rb tb q sb ib mb rc lg) : w.cell? ⟨W, 7, none⟩ = some (.int .i64 8) := blk_cell h.h rfl
theorem Wb.c8 (h : Wb w W b1 b2 rb tb q sb ib mb rc lg) : w.cell? ⟨W, 8, none⟩ = some (.int .i64 1) := blk_cell h.h rfl
theorem Wb.c9 (h : Wb w W b1 b2 rb tb q sb ib mb rc lg) : w.cell? ⟨W, 9, none⟩ = some (.slice (some ⟨rb, 0, none⟩) 1 rc) := blk_cell h.h rfl
theorem Wb.c10 (h : Wb w W b1 b2 rb tb q sb ib mb rc lg) : w.cell? ⟨W, 10, none⟩ = some (.slice (some ⟨tb, 0, none⟩) 1 1) := blk_cell h.h rfl
theorem Wb.c11 (h : Wb w W b1 b2 rb tb q sb ib mb rc lg) : w.cell? ⟨W, 11, none⟩ = some (.pointer (some ⟨q, 0, none⟩)) := blk_cell h.h rfl
theorem Wb.c12 (h : Wb w W b1 b2 rb tb q sb ib mb rc lg) : w.cell? ⟨W, 12, none⟩ = some (.pointer (some ⟨sb, 0, none⟩)) := blk_cell h.h rfl
theorem Wb.c13 (h : Wb w W b1 b2 rb tb q sb ib mb rc lg) : w.cell? ⟨W, 13, none⟩ = some (.pointer (some ⟨ib, 0, none⟩)) := blk_cell h.h rfl
theorem Wb.c14 (h : Wb w W b1 b2 rb tb q sb ib mb rc lg) : w.cell? ⟨W, 14, none⟩ = some (.slice (some ⟨mb, 0, none⟩) 1 1) := blk_cell h.h rfl
theorem Wb.c15 (h : Wb w W b1 b2 rb tb q sb ib mb rc lg) : w.cell? ⟨W, 15, none⟩ = some (lg) := blk_cell h.h rfl
theorem Wb.fz (h : Wb w W b1 b2 rb tb q sb ib mb rc lg) (i : Nat) : w.frozen? ⟨W, i, none⟩ = false := blk_free h.h
set_option maxHeartbeats 8000000 in
theorem asleep_no (h : Wb w W b1 b2 rb tb q sb ib mb rc lg) (pl : Int) (hc : w.cell? ⟨mb, 0, none⟩ = some (.int .i64 pl)) (hp : pl ≠ 16) :
    Calls Tryz.prog 20 #[.pointer (some ⟨W, 0, none⟩), .int .i64 0] w fun e w' => e = .returned (.bool false) ∧ Quiet w w' := by
  have a4 := h.c4
  have a6 := h.c6
  have a14 := h.c14
  have t : (pl == 16) = false := beq_eq_false_iff_ne.2 hp
  clear h hp
  go_enter Tryz.func20, Tryz.ntmps20
  go_wp2_with fail
  go_quiet (fail)
  all_goals
    go_wp2
    go_ret
    exact ⟨rfl, (Quiet.refl _).drewN _⟩
end
end Go.Proofs.YtfpkgkjmpcoppaaGreatDoor
