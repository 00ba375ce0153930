/- The variables of strconv's errors at the door: each holds some error. -/
import Derived.Test.YtnaphgjkkagpoaaDoorBase
import Derived.Test.YtnaphgjkkagpoaaDoorLaid
import Derived.LaidLaws
namespace Go.Proofs.YtnaphgjkkagpoaaDoor
set_option linter.unusedVariables false
set_option linter.unusedSimpArgs false
open Go.ChangeShapes Go.WideShapes Go.RowKit
theorem laidVars_iface {P : Program} {w : World} : ∀ {l : List (String × DataW Unit)} {ps : List MemPlace}, DataW.LaidVars P w l ps → ∀ {n : String} {nm : String} {d : DataW Unit}, (n, .iface nm d) ∈ l →
    ∀ {g : Nat} {t : TypeId} {ms : Array (String × TypeId)}, P.globalNamed n = some g → (P.globals[g]?).map (·.type) = some t → P.underlying t = some (.interface ms) → ∃ u v, w.cell? ⟨g, 0, none⟩ = some (.iface u v) := by
  intro l
  induction l with
  | nil => intro ps _ n nm d h; cases h
  | cons y r ih =>
    intro ps h n nm d hm g t ms hg ht hi
    obtain ⟨n', d'⟩ := y
    obtain ⟨g', t', cs, fuel, p, q, hg', ht', hv, hd, hr, _⟩ := h
    rcases List.mem_cons.1 hm with e | e
    · simp only [Prod.mk.injEq] at e
      obtain ⟨rfl, rfl⟩ := e
      obtain rfl := Option.some.inj (hg.symm.trans hg')
      obtain rfl := Option.some.inj (ht.symm.trans ht')
      obtain ⟨f1, u, v, e1, _, _⟩ := iface_of_trod hi hd
      refine ⟨u, v, ?_⟩
      have h0 := World.var?_cell hg hv 0
      rw [h0]
      have : cs.toList[0]? = some (.iface u v) := by rw [e1]; rfl
      simpa using this
    · exact ih hr e hg ht hi
/-- That variable holds some error. -/
def ErrAt (g : Nat) (w : World) : Prop := ∃ u v, w.cell? ⟨g, 0, none⟩ = some (.iface u v)
theorem ErrAt.lt {g : Nat} {w : World} (h : ErrAt g w) : g < w.heap.size := by
  obtain ⟨u, v, h⟩ := h
  exact lt_of_cell h
theorem ErrAt.at {g : Nat} {w w' : World} (h : ErrAt g w) (hb : Below w.heap.size w w') : ErrAt g w' := by
  have hl := h.lt
  obtain ⟨u, v, h⟩ := h
  exact ⟨u, v, (hb.cell (p := ⟨g, 0, none⟩) hl).trans h⟩
def ErrSy (w : World) : Prop := ErrAt 3 w
def ErrRa (w : World) : Prop := ErrAt 4 w
theorem ErrSy.of {l : List (String × DataW Unit)} {w : World} (h : laidMetH Tryd.prog l w) (hp : (l.all fun x => x.2.handleName?.isNone) = true) (j : Nat) (hm : l[j]? = some ("strconv.ErrSyntax", Rows.laid_strconv_ErrSyntax)) : ErrSy w := by
  rw [MakeChecks.laidMetH_plain _ _ _ hp] at h
  obtain ⟨ps, hl, _⟩ := h
  exact laidVars_iface hl (List.mem_of_getElem? hm) (g := 3) (t := 67) (by kernel_rfl) (by kernel_rfl) Tryd.underlying67
theorem ErrRa.of {l : List (String × DataW Unit)} {w : World} (h : laidMetH Tryd.prog l w) (hp : (l.all fun x => x.2.handleName?.isNone) = true) (j : Nat) (hm : l[j]? = some ("strconv.ErrRange", Rows.laid_strconv_ErrRange)) : ErrRa w := by
  rw [MakeChecks.laidMetH_plain _ _ _ hp] at h
  obtain ⟨ps, hl, _⟩ := h
  exact laidVars_iface hl (List.mem_of_getElem? hm) (g := 4) (t := 67) (by kernel_rfl) (by kernel_rfl) Tryd.underlying67
theorem ErrSy.at {w w' : World} (h : ErrSy w) (hb : Below w.heap.size w w') : ErrSy w' := ErrAt.at h hb
theorem ErrRa.at {w w' : World} (h : ErrRa w) (hb : Below w.heap.size w w') : ErrRa w' := ErrAt.at h hb
end Go.Proofs.YtnaphgjkkagpoaaDoor
