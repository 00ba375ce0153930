/- The two words of the lock that law 18 takes. -/
import Derived.Test.YtkhkmjldncfbhaaDoorBase
import Derived.Test.YtkhkmjldncfbhaaDoorLaid
namespace Go.Proofs.YtkhkmjldncfbhaaDoor
set_option linter.unusedVariables false
set_option linter.unusedSimpArgs false
set_option maxRecDepth 100000
open Go.RowKit

/-- What the table "hostlerlaw18.words" holds. -/
structure WdTab (w : World) : Prop where
  c0 : w.cell? ⟨0, 0, none⟩ = some (.int .i64 2)
  c1 : w.cell? ⟨0, 1, none⟩ = some (.int .i64 5)
theorem WdTab.of {l : List (String × DataW Unit)} {w : World} (h : laidMetH Tryd.prog l w) (hp : (l.all fun x => x.2.handleName?.isNone) = true) (j : Nat) (hm : l[j]? = some ("hostler/hostlerlaw18.words", Rows.laid_hostler_hostlerlaw18_words)) : WdTab w := by
  have hg : Tryd.prog.globalNamed "hostler/hostlerlaw18.words" = some 0 := by kernel_rfl
  have ht : (Tryd.prog.globals[0]?).map (·.type) = some 41 := by kernel_rfl
  exact ⟨laid_at (o := 0) h hp j hm hg ht 8 0 (by kernel_rfl), laid_at (o := 1) h hp j hm hg ht 8 1 (by kernel_rfl)⟩
theorem WdTab.lt {w : World} (h : WdTab w) : 0 < w.heap.size := lt_of_cell h.c0
theorem WdTab.eq {w w' : World} (h : WdTab w) (e : w'.heap[0]? = w.heap[0]?) : WdTab w' :=
  ⟨by have := h.c0; simpa [World.cell?, e] using this, by have := h.c1; simpa [World.cell?, e] using this⟩
theorem WdTab.at {w w' : World} (h : WdTab w) (hb : Below w.heap.size w w') : WdTab w' := h.eq (hb.block _ h.lt)
end Go.Proofs.YtkhkmjldncfbhaaDoor
