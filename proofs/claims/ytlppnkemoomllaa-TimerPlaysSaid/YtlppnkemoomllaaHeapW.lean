/- Small words over heaps. -/
import Derived.Test.YtlppnkemoomllaaHeap7
namespace Go.Proofs.Ytlppnkemoomllaa
set_option linter.unusedVariables false
set_option linter.unusedSimpArgs false
open Go.RowKit

theorem OnlyV.below {p base B : Nat} {a b : World} (h : OnlyV p base a b) (h1 : B ≤ base) (h2 : B ≤ p) (h3 : B ≤ a.heap.size) : Below B a b :=
  ⟨h.os, h.tape, h.output, h.size, fun k hk => h.block k (by omega) (by omega) (by omega)⟩
theorem Hp.hs {w : World} {base p : Nat} {v : Value} {es : List (Int × Int × Int)} (h : Hp w base p v es) (hn : 0 < es.length) : ∃ g c, v = .slice (some ⟨g, 0, none⟩) es.length c ∧ Hs w base p g es.length c es w := by
  obtain ⟨a, c, rfl⟩ := h.slice
  obtain ⟨g, rfl, h1, h2, h3, _⟩ := h.pos hn
  exact ⟨g, c, rfl, h, rfl, OnlyH.refl _, h2, h3⟩
end Go.Proofs.Ytlppnkemoomllaa
