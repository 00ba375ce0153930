/- A listed package variable: its whole block. -/
import Derived.Test.YtnaphgjkkagpoaaDoorLaid
namespace Go.Proofs.YtnaphgjkkagpoaaDoor
open Go.ChangeShapes Go.WideShapes
set_option linter.unusedVariables false
theorem laidVars_block {P : Program} {w : World} : ∀ {l : List (String × DataW Unit)} {ps : List MemPlace}, DataW.LaidVars P w l ps → ∀ {n : String} {d : DataW Unit}, (n, d) ∈ l → ∀ {g : Nat} {t : TypeId}, P.globalNamed n = some g → (P.globals[g]?).map (·.type) = some t →
    (match P.underlying t with | some (.array _ _) => true | some (.struct _) => true | _ => false) = true → ∃ cs t' fr, w.heap[g]? = some (.cells cs t' fr) ∧ cs.size = P.cellsOf t := by
  intro l
  induction l with
  | nil => intro ps _ n d h; cases h
  | cons y r ih =>
    intro ps h n d hm g t hg ht ha
    obtain ⟨n', d'⟩ := y
    obtain ⟨g', t', cs, fuel, p, q, hg', ht', hv, hd, hr, _⟩ := h
    rcases List.mem_cons.1 hm with e | e
    · simp only [Prod.mk.injEq] at e
      obtain ⟨rfl, rfl⟩ := e
      obtain rfl := Option.some.inj (hg.symm.trans hg')
      obtain rfl := Option.some.inj (ht.symm.trans ht')
      have hsz : cs.size = P.cellsOf t := by
        revert ha
        split
        · rename_i n0 e0 hu
          intro _
          obtain ⟨_, _, _, _, hl, _⟩ := DataW.trod_array hu hd
          simpa using hl
        · rename_i fs hu
          intro _
          obtain ⟨_, _, _, _, hl, _⟩ := DataW.trod_struct hu hd
          simpa using hl
        · intro h; cases h
      have hv' := hv
      simp only [World.var?, hg, Option.bind_some] at hv'
      split at hv'
      · rename_i cs0 t0 fr0 hh
        simp only [Option.some.injEq] at hv'
        subst hv'
        exact ⟨_, _, _, hh, hsz⟩
      · cases hv'
    · exact ih hr e hg ht ha

/-- The whole block of a listed variable: as many cells as its type has, and those that the datum says. -/
theorem laid_block {P : Program} {l : List (String × DataW Unit)} {w : World} (h : laidMetH P l w) (hp : (l.all fun x => x.2.handleName?.isNone) = true) (j : Nat) {n : String} {d : DataW Unit} (hm : l[j]? = some (n, d)) {g : Nat} {t : TypeId}
    (hg : P.globalNamed n = some g) (ht : (P.globals[g]?).map (·.type) = some t) (hagg : (match P.underlying t with | some (.array _ _) => true | some (.struct _) => true | _ => false) = true) : ∃ cs t' fr, w.heap[g]? = some (.cells cs t' fr) ∧ cs.size = P.cellsOf t := by
  rw [MakeChecks.laidMetH_plain _ _ _ hp] at h
  obtain ⟨ps, hl, _⟩ := h
  exact laidVars_block hl (List.mem_of_getElem? hm) hg ht hagg
end Go.Proofs.YtnaphgjkkagpoaaDoor
