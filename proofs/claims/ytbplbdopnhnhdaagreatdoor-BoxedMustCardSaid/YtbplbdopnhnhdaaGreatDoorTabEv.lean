/- The tables of events. -/
import Derived.Test.YtbplbdopnhnhdaaGreatDoorPre1
namespace Go.Proofs.YtbplbdopnhnhdaaGreatDoor
set_option linter.unusedVariables false
set_option linter.unusedSimpArgs false
set_option maxRecDepth 100000
open Go.RowKit

def evName0 : Nat → ByteArray
  | 0 => { data := #[115, 112, 97, 119, 110] }
  | 1 => { data := #[114, 101, 97, 100, 121] }
  | 2 => { data := #[100, 105, 115, 112, 97, 116, 99, 104] }
  | 3 => { data := #[121, 105, 101, 108, 100] }
  | 4 => { data := #[98, 108, 111, 99, 107] }
  | 5 => { data := #[115, 108, 101, 101, 112] }
  | 6 => { data := #[119, 97, 105, 116] }
  | 7 => { data := #[101, 120, 105, 116] }
  | _ => { data := #[] }
/-- What the table "event.names" holds. -/
def EvNames (w : World) : Prop := ∀ k, k < 8 → w.cell? ⟨2, k, none⟩ = some (.string (evName0 k))
theorem EvNames.of {l : List (String × DataW Unit)} {w : World} (h : laidMetH Tryz.prog l w) (hp : (l.all fun x => x.2.handleName?.isNone) = true) (j : Nat) (hm : l[j]? = some ("hostler/event.names", Rows.laid_hostler_event_names)) : EvNames w := by
  have hg : Tryz.prog.globalNamed "hostler/event.names" = some 2 := by kernel_rfl
  have ht : (Tryz.prog.globals[2]?).map (·.type) = some 239 := by kernel_rfl
  intro k hk
  exact match k, hk with
  | 0, _ => laid_at h hp j hm hg ht 8 0 (by kernel_rfl)
  | 1, _ => laid_at h hp j hm hg ht 8 1 (by kernel_rfl)
  | 2, _ => laid_at h hp j hm hg ht 8 2 (by kernel_rfl)
  | 3, _ => laid_at h hp j hm hg ht 8 3 (by kernel_rfl)
  | 4, _ => laid_at h hp j hm hg ht 8 4 (by kernel_rfl)
  | 5, _ => laid_at h hp j hm hg ht 8 5 (by kernel_rfl)
  | 6, _ => laid_at h hp j hm hg ht 8 6 (by kernel_rfl)
  | 7, _ => laid_at h hp j hm hg ht 8 7 (by kernel_rfl)
theorem EvNames.lt {w : World} (h : EvNames w) : 2 < w.heap.size := lt_of_cell (h 0 (by omega))
theorem EvNames.at {w w' : World} (h : EvNames w) (hb : Below w.heap.size w w') : EvNames w' := fun k hk => by
  have e : w'.heap[2]? = w.heap[2]? := hb.block _ h.lt
  have := h k hk
  simpa [World.cell?, e] using this

def evStep0 : Nat → Int
  | 0 => 0
  | 1 => 0
  | 2 => 1
  | 3 => 2
  | 4 => 2
  | 5 => 2
  | 6 => 2
  | 7 => 2
  | _ => 0
def evStep1 : Nat → Int
  | 0 => 1
  | 1 => 1
  | 2 => 2
  | 3 => 1
  | 4 => 3
  | 5 => 4
  | 6 => 5
  | 7 => 6
  | _ => 0
/-- What the table "event.steps" holds. -/
def EvSteps (w : World) : Prop := ∀ k, k < 8 → w.cell? ⟨1, k * 2, none⟩ = some (.int .u64 (evStep0 k)) ∧ w.cell? ⟨1, k * 2 + 1, none⟩ = some (.int .u64 (evStep1 k))
theorem EvSteps.of {l : List (String × DataW Unit)} {w : World} (h : laidMetH Tryz.prog l w) (hp : (l.all fun x => x.2.handleName?.isNone) = true) (j : Nat) (hm : l[j]? = some ("hostler/event.steps", Rows.laid_hostler_event_steps)) : EvSteps w := by
  have hg : Tryz.prog.globalNamed "hostler/event.steps" = some 1 := by kernel_rfl
  have ht : (Tryz.prog.globals[1]?).map (·.type) = some 217 := by kernel_rfl
  intro k hk
  exact match k, hk with
  | 0, _ => ⟨laid_at h hp j hm hg ht 8 0 (by kernel_rfl), laid_at h hp j hm hg ht 8 1 (by kernel_rfl)⟩
  | 1, _ => ⟨laid_at h hp j hm hg ht 8 2 (by kernel_rfl), laid_at h hp j hm hg ht 8 3 (by kernel_rfl)⟩
  | 2, _ => ⟨laid_at h hp j hm hg ht 8 4 (by kernel_rfl), laid_at h hp j hm hg ht 8 5 (by kernel_rfl)⟩
  | 3, _ => ⟨laid_at h hp j hm hg ht 8 6 (by kernel_rfl), laid_at h hp j hm hg ht 8 7 (by kernel_rfl)⟩
  | 4, _ => ⟨laid_at h hp j hm hg ht 8 8 (by kernel_rfl), laid_at h hp j hm hg ht 8 9 (by kernel_rfl)⟩
  | 5, _ => ⟨laid_at h hp j hm hg ht 8 10 (by kernel_rfl), laid_at h hp j hm hg ht 8 11 (by kernel_rfl)⟩
  | 6, _ => ⟨laid_at h hp j hm hg ht 8 12 (by kernel_rfl), laid_at h hp j hm hg ht 8 13 (by kernel_rfl)⟩
  | 7, _ => ⟨laid_at h hp j hm hg ht 8 14 (by kernel_rfl), laid_at h hp j hm hg ht 8 15 (by kernel_rfl)⟩
theorem EvSteps.lt {w : World} (h : EvSteps w) : 1 < w.heap.size := lt_of_cell (h 0 (by omega)).1
theorem EvSteps.at {w w' : World} (h : EvSteps w) (hb : Below w.heap.size w w') : EvSteps w' := fun k hk => by
  have e : w'.heap[1]? = w.heap[1]? := hb.block _ h.lt
  have := h k hk
  simpa [World.cell?, e] using this
end Go.Proofs.YtbplbdopnhnhdaaGreatDoor
