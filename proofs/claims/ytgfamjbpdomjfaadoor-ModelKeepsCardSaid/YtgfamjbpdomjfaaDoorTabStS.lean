/- The table of statuses' steps. -/
import Derived.Test.YtgfamjbpdomjfaaDoorBase
import Derived.Test.YtgfamjbpdomjfaaDoorLaid
namespace Go.Proofs.YtgfamjbpdomjfaaDoor
set_option linter.unusedVariables false
set_option linter.unusedSimpArgs false
set_option maxRecDepth 100000
open Go.RowKit

def stStep0 : Nat → Int
  | 0 => 2
  | 1 => 4
  | 2 => 122
  | 3 => 2
  | 4 => 2
  | 5 => 2
  | 6 => 0
  | _ => 0
/-- What the table "status.steps" holds. -/
def StSteps (w : World) : Prop := ∀ k, k < 7 → w.cell? ⟨0, k, none⟩ = some (.int .u8 (stStep0 k))
theorem StSteps.of {l : List (String × DataW Unit)} {w : World} (h : laidMetH Tryd.prog l w) (hp : (l.all fun x => x.2.handleName?.isNone) = true) (j : Nat) (hm : l[j]? = some ("hostler/status.steps", Rows.laid_hostler_status_steps)) : StSteps w := by
  have hg : Tryd.prog.globalNamed "hostler/status.steps" = some 0 := by kernel_rfl
  have ht : (Tryd.prog.globals[0]?).map (·.type) = some 74 := by kernel_rfl
  intro k hk
  exact match k, hk with
  | 0, _ => laid_at h hp j hm hg ht 8 0 (by kernel_rfl)
  | 1, _ => laid_at h hp j hm hg ht 8 1 (by kernel_rfl)
  | 2, _ => laid_at h hp j hm hg ht 8 2 (by kernel_rfl)
  | 3, _ => laid_at h hp j hm hg ht 8 3 (by kernel_rfl)
  | 4, _ => laid_at h hp j hm hg ht 8 4 (by kernel_rfl)
  | 5, _ => laid_at h hp j hm hg ht 8 5 (by kernel_rfl)
  | 6, _ => laid_at h hp j hm hg ht 8 6 (by kernel_rfl)
theorem StSteps.lt {w : World} (h : StSteps w) : 0 < w.heap.size := lt_of_cell (h 0 (by omega))
theorem StSteps.at {w w' : World} (h : StSteps w) (hb : Below w.heap.size w w') : StSteps w' := fun k hk => by
  have e : w'.heap[0]? = w.heap[0]? := hb.block _ h.lt
  have := h k hk
  simpa [World.cell?, e] using this
end Go.Proofs.YtgfamjbpdomjfaaDoor
