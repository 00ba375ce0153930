/- The table of statuses' names. -/
import Derived.Test.YtlahinefnhfifaaDoorBase
import Derived.Test.YtlahinefnhfifaaDoorLaid
namespace Go.Proofs.YtlahinefnhfifaaDoor
set_option linter.unusedVariables false
set_option linter.unusedSimpArgs false
set_option maxRecDepth 100000
open Go.RowKit

def stName0 : Nat → ByteArray
  | 0 => { data := #[110, 111, 110, 101] }
  | 1 => { data := #[114, 117, 110, 110, 97, 98, 108, 101] }
  | 2 => { data := #[114, 117, 110, 110, 105, 110, 103] }
  | 3 => { data := #[98, 108, 111, 99, 107, 101, 100] }
  | 4 => { data := #[115, 108, 101, 101, 112, 105, 110, 103] }
  | 5 => { data := #[119, 97, 105, 116, 105, 110, 103] }
  | 6 => { data := #[100, 101, 97, 100] }
  | _ => { data := #[] }
/-- What the table "status.names" holds. -/
def StNames (w : World) : Prop := ∀ k, k < 7 → w.cell? ⟨1, k, none⟩ = some (.string (stName0 k))
theorem StNames.of {l : List (String × DataW Unit)} {w : World} (h : laidMetH Tryd.prog l w) (hp : (l.all fun x => x.2.handleName?.isNone) = true) (j : Nat) (hm : l[j]? = some ("hostler/status.names", Rows.laid_hostler_status_names)) : StNames w := by
  have hg : Tryd.prog.globalNamed "hostler/status.names" = some 1 := by kernel_rfl
  have ht : (Tryd.prog.globals[1]?).map (·.type) = some 67 := by kernel_rfl
  intro k hk
  exact match k, hk with
  | 0, _ => laid_at h hp j hm hg ht 8 0 (by kernel_rfl)
  | 1, _ => laid_at h hp j hm hg ht 8 1 (by kernel_rfl)
  | 2, _ => laid_at h hp j hm hg ht 8 2 (by kernel_rfl)
  | 3, _ => laid_at h hp j hm hg ht 8 3 (by kernel_rfl)
  | 4, _ => laid_at h hp j hm hg ht 8 4 (by kernel_rfl)
  | 5, _ => laid_at h hp j hm hg ht 8 5 (by kernel_rfl)
  | 6, _ => laid_at h hp j hm hg ht 8 6 (by kernel_rfl)
theorem StNames.lt {w : World} (h : StNames w) : 1 < w.heap.size := lt_of_cell (h 0 (by omega))
theorem StNames.at {w w' : World} (h : StNames w) (hb : Below w.heap.size w w') : StNames w' := fun k hk => by
  have e : w'.heap[1]? = w.heap[1]? := hb.block _ h.lt
  have := h k hk
  simpa [World.cell?, e] using this
end Go.Proofs.YtlahinefnhfifaaDoor
