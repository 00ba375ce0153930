/- A slice of slices of integers that came in: what the walk is told of it. -/
import Derived.Test.YtciilbpchejpcaaInts
import Derived.Deep.Matrix
namespace Go.Proofs.Ytciilbpchejpcaa
set_option linter.unusedVariables false
open Go.RowKit

/-- It is nil, or leads to a row of slices, each a row of numbers. -/
def IsRows (k : IntKind) (w : World) (a : Option Addr) (len cap : Nat) (A : Nat → Option Addr) (L C : Nat → Nat) (Z : Nat → List Int) : Prop :=
  (a = none ∧ len = 0 ∧ cap = 0) ∨ ∃ x, a = some x ∧ len ≤ cap ∧ cap ≤ maxLen ∧ ∀ r, r < len → w.cell? (x.add r) = some (.slice (A r) (L r) (C r)) ∧ IsRow k w (A r) (L r) (C r) (Z r)

theorem IsRows.open {k : IntKind} {w : World} {a : Option Addr} {len cap : Nat} {A : Nat → Option Addr} {L C : Nat → Nat} {Z : Nat → List Int} (h : IsRows k w a len cap A L C Z) :
    len = 0 ∨ ∃ bx off, a = some ⟨bx, off, none⟩ ∧ ∀ w', Below w.heap.size w w' → ∀ j, j < len → w'.cell? ⟨bx, off + j, none⟩ = some (.slice (A j) (L j) (C j)) := by
  rcases h with ⟨_, h, _⟩ | ⟨⟨bx, off, spot⟩, rfl, hl, hm, hc⟩
  · exact .inl h
  · rcases Nat.eq_zero_or_pos len with h0 | h0
    · exact .inl h0
    · have hc0 := (hc 0 (by omega)).1
      have hspot : spot = none := by simpa [Addr.add] using World.cell?_spot hc0
      subst hspot
      refine .inr ⟨bx, off, rfl, fun w' hb j hj => ?_⟩
      have hcj := (hc j (by omega)).1
      have he : (⟨bx, off, none⟩ : Addr).add j = ⟨bx, off + j, none⟩ := by
        by_cases hj0 : j = 0
        · subst hj0; simp [Addr.add]
        · simp [Addr.add, hj0]
      rw [he] at hcj
      rw [hb.cell (p := ⟨bx, off + j, none⟩) (cell_lt hcj)]
      exact hcj
theorem IsRows.row {k : IntKind} {w : World} {a : Option Addr} {len cap : Nat} {A : Nat → Option Addr} {L C : Nat → Nat} {Z : Nat → List Int} (h : IsRows k w a len cap A L C Z) (j : Nat) (hj : j < len) : IsRow k w (A j) (L j) (C j) (Z j) := by
  rcases h with ⟨_, h, _⟩ | ⟨x, rfl, hl, hm, hc⟩
  · omega
  · exact (hc j hj).2
end Go.Proofs.Ytciilbpchejpcaa
