/- The table of places. -/
import Derived.Test.YtpmldcnmnadgaaaDoorBase
import Derived.Test.YtpmldcnmnadgaaaDoorLaid
namespace Go.Proofs.YtpmldcnmnadgaaaDoor
set_option linter.unusedVariables false
set_option linter.unusedSimpArgs false
set_option maxRecDepth 100000
open Go.RowKit

def maPlace0 : Nat → ByteArray
  | 0 => { data := #[101, 120, 101, 99] }
  | 1 => { data := #[115, 99, 104, 101, 100] }
  | 2 => { data := #[111, 110, 101] }
  | 3 => { data := #[108, 111, 99, 97, 108] }
  | 4 => { data := #[103, 108, 111, 98, 97, 108] }
  | 5 => { data := #[115, 112, 105, 110, 117, 112] }
  | 6 => { data := #[115, 116, 101, 97, 108] }
  | 7 => { data := #[114, 101, 108, 101, 97, 115, 101] }
  | 8 => { data := #[100, 114, 111, 112] }
  | 9 => { data := #[108, 111, 111, 107] }
  | 10 => { data := #[108, 111, 111, 107, 103, 108, 111, 98, 97, 108] }
  | 11 => { data := #[114, 101, 116, 97, 107, 101] }
  | 12 => { data := #[115, 112, 105, 110, 98, 97, 99, 107] }
  | 13 => { data := #[115, 116, 111, 112] }
  | 14 => { data := #[99, 104, 101, 99, 107] }
  | 15 => { data := #[117, 110, 112, 111, 108, 108] }
  | 16 => { data := #[115, 108, 101, 101, 112] }
  | 17 => { data := #[112, 117, 116, 114, 101, 115, 116] }
  | 18 => { data := #[112, 117, 116, 111, 118, 101, 114] }
  | 19 => { data := #[117, 110, 115, 112, 105, 110] }
  | 20 => { data := #[100, 105, 115, 112, 97, 116, 99, 104] }
  | 21 => { data := #[108, 111, 97, 100] }
  | 22 => { data := #[99, 108, 97, 105, 109] }
  | 23 => { data := #[102, 105, 110, 100] }
  | 24 => { data := #[119, 97, 107, 101] }
  | 25 => { data := #[100, 101, 108, 105, 118, 101, 114] }
  | 26 => { data := #[109, 97, 114, 107] }
  | 27 => { data := #[112, 117, 116, 111, 110, 101] }
  | 28 => { data := #[112, 117, 116, 110, 101, 120, 116] }
  | 29 => { data := #[112, 97, 114, 107] }
  | 30 => { data := #[97, 119, 97, 105, 116] }
  | _ => { data := #[] }
def maPlace1 : Nat → Int
  | 0 => 0
  | 1 => 0
  | 2 => 1
  | 3 => 2
  | 4 => 1
  | 5 => 0
  | 6 => 3
  | 7 => 1
  | 8 => 0
  | 9 => 4
  | 10 => 1
  | 11 => 1
  | 12 => 0
  | 13 => 1
  | 14 => 5
  | 15 => 1
  | 16 => 0
  | 17 => 2
  | 18 => 1
  | 19 => 0
  | 20 => 0
  | 21 => 0
  | 22 => 0
  | 23 => 1
  | 24 => 0
  | 25 => 5
  | 26 => 0
  | 27 => 1
  | 28 => 2
  | 29 => 5
  | 30 => 5
  | _ => 0
/-- What the table "mach.places" holds. -/
def MaPlaces (w : World) : Prop := ∀ k, k < 31 → w.cell? ⟨1, k * 2, none⟩ = some (.string (maPlace0 k)) ∧ w.cell? ⟨1, k * 2 + 1, none⟩ = some (.int .i64 (maPlace1 k))
theorem MaPlaces.of {l : List (String × DataW Unit)} {w : World} (h : laidMetH Tryd.prog l w) (hp : (l.all fun x => x.2.handleName?.isNone) = true) (j : Nat) (hm : l[j]? = some ("hostler/mach.places", Rows.laid_hostler_mach_places)) : MaPlaces w := by
  have hg : Tryd.prog.globalNamed "hostler/mach.places" = some 1 := by kernel_rfl
  have ht : (Tryd.prog.globals[1]?).map (·.type) = some 71 := by kernel_rfl
  intro k hk
  exact match k, hk with
  | 0, _ => ⟨laid_at h hp j hm hg ht 8 0 (by kernel_rfl), laid_at h hp j hm hg ht 8 1 (by kernel_rfl)⟩
  | 1, _ => ⟨laid_at h hp j hm hg ht 8 2 (by kernel_rfl), laid_at h hp j hm hg ht 8 3 (by kernel_rfl)⟩
  | 2, _ => ⟨laid_at h hp j hm hg ht 8 4 (by kernel_rfl), laid_at h hp j hm hg ht 8 5 (by kernel_rfl)⟩
  | 3, _ => ⟨laid_at h hp j hm hg ht 8 6 (by kernel_rfl), laid_at h hp j hm hg ht 8 7 (by kernel_rfl)⟩
  | 4, _ => ⟨laid_at h hp j hm hg ht 8 8 (by kernel_rfl), laid_at h hp j hm hg ht 8 9 (by kernel_rfl)⟩
  | 5, _ => ⟨laid_at h hp j hm hg ht 8 10 (by kernel_rfl), laid_at h hp j hm hg ht 8 11 (by kernel_rfl)⟩
  | 6, _ => ⟨laid_at h hp j hm hg ht 8 12 (by kernel_rfl), laid_at h hp j hm hg ht 8 13 (by kernel_rfl)⟩
  | 7, _ => ⟨laid_at h hp j hm hg ht 8 14 (by kernel_rfl), laid_at h hp j hm hg ht 8 15 (by kernel_rfl)⟩
  | 8, _ => ⟨laid_at h hp j hm hg ht 8 16 (by kernel_rfl), laid_at h hp j hm hg ht 8 17 (by kernel_rfl)⟩
  | 9, _ => ⟨laid_at h hp j hm hg ht 8 18 (by kernel_rfl), laid_at h hp j hm hg ht 8 19 (by kernel_rfl)⟩
  | 10, _ => ⟨laid_at h hp j hm hg ht 8 20 (by kernel_rfl), laid_at h hp j hm hg ht 8 21 (by kernel_rfl)⟩
  | 11, _ => ⟨laid_at h hp j hm hg ht 8 22 (by kernel_rfl), laid_at h hp j hm hg ht 8 23 (by kernel_rfl)⟩
  | 12, _ => ⟨laid_at h hp j hm hg ht 8 24 (by kernel_rfl), laid_at h hp j hm hg ht 8 25 (by kernel_rfl)⟩
  | 13, _ => ⟨laid_at h hp j hm hg ht 8 26 (by kernel_rfl), laid_at h hp j hm hg ht 8 27 (by kernel_rfl)⟩
  | 14, _ => ⟨laid_at h hp j hm hg ht 8 28 (by kernel_rfl), laid_at h hp j hm hg ht 8 29 (by kernel_rfl)⟩
  | 15, _ => ⟨laid_at h hp j hm hg ht 8 30 (by kernel_rfl), laid_at h hp j hm hg ht 8 31 (by kernel_rfl)⟩
  | 16, _ => ⟨laid_at h hp j hm hg ht 8 32 (by kernel_rfl), laid_at h hp j hm hg ht 8 33 (by kernel_rfl)⟩
  | 17, _ => ⟨laid_at h hp j hm hg ht 8 34 (by kernel_rfl), laid_at h hp j hm hg ht 8 35 (by kernel_rfl)⟩
  | 18, _ => ⟨laid_at h hp j hm hg ht 8 36 (by kernel_rfl), laid_at h hp j hm hg ht 8 37 (by kernel_rfl)⟩
  | 19, _ => ⟨laid_at h hp j hm hg ht 8 38 (by kernel_rfl), laid_at h hp j hm hg ht 8 39 (by kernel_rfl)⟩
  | 20, _ => ⟨laid_at h hp j hm hg ht 8 40 (by kernel_rfl), laid_at h hp j hm hg ht 8 41 (by kernel_rfl)⟩
  | 21, _ => ⟨laid_at h hp j hm hg ht 8 42 (by kernel_rfl), laid_at h hp j hm hg ht 8 43 (by kernel_rfl)⟩
  | 22, _ => ⟨laid_at h hp j hm hg ht 8 44 (by kernel_rfl), laid_at h hp j hm hg ht 8 45 (by kernel_rfl)⟩
  | 23, _ => ⟨laid_at h hp j hm hg ht 8 46 (by kernel_rfl), laid_at h hp j hm hg ht 8 47 (by kernel_rfl)⟩
  | 24, _ => ⟨laid_at h hp j hm hg ht 8 48 (by kernel_rfl), laid_at h hp j hm hg ht 8 49 (by kernel_rfl)⟩
  | 25, _ => ⟨laid_at h hp j hm hg ht 8 50 (by kernel_rfl), laid_at h hp j hm hg ht 8 51 (by kernel_rfl)⟩
  | 26, _ => ⟨laid_at h hp j hm hg ht 8 52 (by kernel_rfl), laid_at h hp j hm hg ht 8 53 (by kernel_rfl)⟩
  | 27, _ => ⟨laid_at h hp j hm hg ht 8 54 (by kernel_rfl), laid_at h hp j hm hg ht 8 55 (by kernel_rfl)⟩
  | 28, _ => ⟨laid_at h hp j hm hg ht 8 56 (by kernel_rfl), laid_at h hp j hm hg ht 8 57 (by kernel_rfl)⟩
  | 29, _ => ⟨laid_at h hp j hm hg ht 8 58 (by kernel_rfl), laid_at h hp j hm hg ht 8 59 (by kernel_rfl)⟩
  | 30, _ => ⟨laid_at h hp j hm hg ht 8 60 (by kernel_rfl), laid_at h hp j hm hg ht 8 61 (by kernel_rfl)⟩
  | k + 31, hk => absurd hk (by omega)
theorem MaPlaces.lt {w : World} (h : MaPlaces w) : 1 < w.heap.size := lt_of_cell (h 0 (by omega)).1
theorem MaPlaces.at {w w' : World} (h : MaPlaces w) (hb : Below w.heap.size w w') : MaPlaces w' := fun k hk => by
  have e : w'.heap[1]? = w.heap[1]? := hb.block _ h.lt
  have := h k hk
  simpa [World.cell?, e] using this
end Go.Proofs.YtpmldcnmnadgaaaDoor
