/- A listed package variable whose datum is numbers, bools and texts: its cells. -/
import Derived.Test.YtkimfejhgfnjoaaDoorRows
import Derived.LaidMore
import Derived.OpenShut
import Derived.ChangeArms
import Derived.FnData
import Derived.MakeChecks
namespace Go.Proofs.YtkimfejhgfnjoaaDoor
open Go.ChangeShapes Go.WideShapes
set_option linter.unusedVariables false
set_option linter.unusedSimpArgs false

/-- The cells that a datum of numbers, bools and texts says, each with its place. -/
def pick {H : Type} (P : Program) : Nat → TypeId → DataW H → List (Nat × Value)
  | 0, _, _ => []
  | m + 1, t, d => match P.underlying t, d with
    | some (.int _), .lit (.int k n) => [(0, .int k n)]
    | some .bool, .lit (.bool b) => [(0, .bool b)]
    | some .string, .lit (.string s) => [(0, .string { data := s.toArray })]
    | some (.struct fs), .agg ds => (List.range fs.size).flatMap fun i => match fs[i]?, ds[i]? with
      | some f, some d => (pick P m f.type d).map fun x => (f.offset + x.1, x.2)
      | _, _ => []
    | some (.array n e), .agg ds => (List.range n).flatMap fun i => match ds[i]? with
      | some d => (pick P m e d).map fun x => (i * P.cellsOf e + x.1, x.2)
      | none => []
    | _, _ => []

theorem part_at {cs : List Value} {off n o : Nat} {v : Value} (h : ((cs.drop off).take n)[o]? = some v) : cs[off + o]? = some v := by
  rw [List.getElem?_take] at h
  split at h
  · rwa [List.getElem?_drop] at h
  · cases h

theorem pick_cells {H : Type} {enc : TypeId × Value → H} {P : Program} {w : World} {base : Nat} {spare : Nat → Bool} {held : Bool} : ∀ (m : Nat) {fuel : Nat} {t : TypeId} {cs : List Value} {x : DataW H × List MemPlace},
    DataW.trod enc P w base spare held fuel t cs = some x → ∀ a ∈ pick P m t x.1, cs[a.1]? = some a.2 := by
  intro m
  induction m with
  | zero => intro fuel t cs x _ a ha; simp [pick] at ha
  | succ m ih =>
    intro fuel t cs x h a ha
    unfold pick at ha
    split at ha
    · rename_i k0 k n ht hd
      obtain ⟨r, e1, e2, _⟩ := DataW.trod_int ht h
      rw [e2] at hd
      simp only [DataW.lit.injEq, Lit.int.injEq] at hd
      obtain ⟨rfl, rfl⟩ := hd
      simp at ha; subst ha; subst e1; rfl
    · rename_i b ht hd
      obtain ⟨r, e1, e2⟩ := DataW.trod_bool ht h
      rw [e2] at hd
      simp only [DataW.lit.injEq, Lit.bool.injEq] at hd
      subst hd
      simp at ha; subst ha; subst e1; rfl
    · rename_i s ht hd
      obtain ⟨r, e1, e2, _⟩ := DataW.trod_string ht h
      rw [e2] at hd
      simp only [DataW.lit.injEq, Lit.string.injEq] at hd
      subst hd
      simp at ha; subst ha; subst e1; rfl
    · rename_i fs ds ht hd
      obtain ⟨xs, n, _, e2, _, _, hel⟩ := DataW.trod_struct ht h
      rw [e2] at hd
      simp only [DataW.agg.injEq] at hd
      rw [List.mem_flatMap] at ha
      obtain ⟨i, _, ha⟩ := ha
      split at ha
      · rename_i f d hf hdi
        rw [List.mem_map] at ha
        obtain ⟨y, hy, rfl⟩ := ha
        rw [← hd, List.getElem?_map, Option.map_eq_some_iff] at hdi
        obtain ⟨z, hz, rfl⟩ := hdi
        exact part_at (ih ((hel i f hf).trans hz) y hy)
      · cases ha
    · rename_i n e ds ht hd
      obtain ⟨xs, k, _, e2, _, _, hel⟩ := DataW.trod_array ht h
      rw [e2] at hd
      simp only [DataW.agg.injEq] at hd
      rw [List.mem_flatMap] at ha
      obtain ⟨i, hi, ha⟩ := ha
      split at ha
      · rename_i d hdi
        rw [List.mem_map] at ha
        obtain ⟨y, hy, rfl⟩ := ha
        rw [← hd, List.getElem?_map, Option.map_eq_some_iff] at hdi
        obtain ⟨z, hz, rfl⟩ := hdi
        exact part_at (ih ((hel i (by simpa using hi)).trans hz) y hy)
      · cases ha
    · cases ha

theorem laidVars_cells {P : Program} {w : World} : ∀ {l : List (String × DataW Unit)} {ps : List MemPlace}, DataW.LaidVars P w l ps → ∀ {n : String} {d : DataW Unit}, (n, d) ∈ l →
    ∃ g t, P.globalNamed n = some g ∧ (P.globals[g]?).map (·.type) = some t ∧ ∀ m, ∀ a ∈ pick P m t d, w.cell? ⟨g, a.1, none⟩ = some a.2 := by
  intro l
  induction l with
  | nil => intro ps _ n d h; cases h
  | cons y r ih =>
    intro ps h n d hm
    obtain ⟨n', d'⟩ := y
    obtain ⟨g, t, cs, fuel, p, q, hg, ht, hv, hd, hr, _⟩ := h
    rcases List.mem_cons.1 hm with e | e
    · simp only [Prod.mk.injEq] at e
      obtain ⟨rfl, rfl⟩ := e
      refine ⟨g, t, hg, ht, fun m a ha => ?_⟩
      rw [World.var?_cell hg hv]
      have := pick_cells m hd a ha
      simpa using this
    · exact ih hr e

theorem lt_of_cell {w : World} {b o : Nat} {v : Value} (h : w.cell? ⟨b, o, none⟩ = some v) : b < w.heap.size := by
  rcases Nat.lt_or_ge b w.heap.size with h1 | h1
  · exact h1
  · simp [World.cell?, Array.getElem?_eq_none h1] at h

/-- A cell of a listed variable. -/
theorem laid_at {P : Program} {l : List (String × DataW Unit)} {w : World} (h : laidMetH P l w) (hp : (l.all fun x => x.2.handleName?.isNone) = true) (j : Nat) {n : String} {d : DataW Unit} (hm : l[j]? = some (n, d)) {g : Nat} {t : TypeId}
    (hg : P.globalNamed n = some g) (ht : (P.globals[g]?).map (·.type) = some t) (m k : Nat) {o : Nat} {v : Value} (hk : (pick P m t d)[k]? = some (o, v)) : w.cell? ⟨g, o, none⟩ = some v := by
  rw [MakeChecks.laidMetH_plain _ _ _ hp] at h
  obtain ⟨ps, hl, _⟩ := h
  obtain ⟨g', t', hg', ht', hc⟩ := laidVars_cells hl (List.mem_of_getElem? hm)
  obtain rfl := Option.some.inj (hg.symm.trans hg')
  obtain rfl := Option.some.inj (ht.symm.trans ht')
  exact hc m (o, v) (List.mem_of_getElem? hk)
end Go.Proofs.YtkimfejhgfnjoaaDoor
