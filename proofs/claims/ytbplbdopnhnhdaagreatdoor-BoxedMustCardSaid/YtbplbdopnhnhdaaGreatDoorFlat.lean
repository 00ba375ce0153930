/- A struct of integers that came in by value: its cells. Nothing of the program. -/
import Derived.Test.YtbplbdopnhnhdaaGreatDoorPre1
import Derived.OpenShut
import Derived.ChangeSame
import Derived.WideShapes
namespace Go.Proofs.YtbplbdopnhnhdaaGreatDoor
set_option linter.unusedVariables false
open Go.RowKit Go.ChangeShapes Go.WideShapes

/-- The cells are integers of these kinds, the numbers Z. -/
def IsFlat (ks : List IntKind) (cs : Array Value) (Z : Nat → Int) : Prop :=
  cs = ((List.range ks.length).map fun j => Value.int (ks.getD j .i64) (Z j)).toArray ∧ ∀ (j : Nat) (k : IntKind), ks[j]? = some k → (Lit.int k (Z j)).wf = true

theorem open_flat {H : Type} {enc : TypeId × Value → H} {P : Program} {w : World} {base : Nat} {spare : Nat → Bool} {held : Bool} {t : TypeId} {fs : Array Field} {d : DataW H} {p : List MemPlace} {cs : Array Value}
    (ks : List IntKind) (ht : P.underlying t = some (.struct fs)) (hC : P.cellsOf t = ks.length)
    (hk : ∀ (j : Nat) (k : IntKind), ks[j]? = some k → ∃ f : Field, fs[j]? = some f ∧ f.offset = j ∧ P.underlying f.type = some (.int k) ∧ P.cellsOf f.type = 1)
    (h : DataW.Trod enc P w base spare held t (.agg cs) d p) : ∃ Z, IsFlat ks cs Z := by
  obtain ⟨fuel, h⟩ := h
  obtain ⟨xs, n, _, _, hlen, hxl, hf⟩ := DataW.trod_struct ht h
  have hlen' : cs.size = ks.length := by rw [← hC, ← hlen]; simp [Value.cells]
  have key : ∀ (j : Nat) (k : IntKind), ks[j]? = some k → ∃ q, cs[j]? = some (.int k q) ∧ (Lit.int k q).wf = true := by
    intro j k hj
    obtain ⟨f, hf1, hf2, hf3, hf4⟩ := hk j k hj
    have hjl : j < ks.length := (List.getElem?_eq_some_iff.1 hj).1
    have hjf : j < fs.size := (Array.getElem?_eq_some_iff.1 hf1).1
    have h1 := hf j f hf1
    rw [hf2, hf4] at h1
    have hjc : j < (Value.agg cs).cells.toList.length := by simp [Value.cells]; omega
    have hone : ((Value.agg cs).cells.toList.drop j).take 1 = [(Value.agg cs).cells.toList[j]] := by rw [List.drop_eq_getElem_cons hjc]; rfl
    rw [hone, List.getElem?_eq_getElem (by omega : j < xs.length)] at h1
    obtain ⟨q, hq, _, hwf⟩ := DataW.trod_int hf3 h1
    simp only [List.cons.injEq, and_true] at hq
    refine ⟨q, ?_, hwf⟩
    have : cs[j]? = some ((Value.agg cs).cells.toList[j]) := by simp [Value.cells]
    rw [this, hq]
  refine ⟨fun j => match cs[j]? with | some (.int _ q) => q | _ => 0, ?_, fun j k hj => ?_⟩
  · apply Array.ext_getElem?
    intro j
    rcases Nat.lt_or_ge j ks.length with hj | hj
    · obtain ⟨q, hq, _⟩ := key j ks[j] (List.getElem?_eq_getElem hj)
      simp [hq, hj]
    · rw [Array.getElem?_eq_none (by omega)]
      simp [hj]
  · obtain ⟨q, hq, hw⟩ := key j k hj
    simp only [hq]
    exact hw
end Go.Proofs.YtbplbdopnhnhdaaGreatDoor
