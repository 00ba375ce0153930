/- A slice of structs of integers that came in: what its cells hold. Nothing of the program. -/
import Derived.Test.YtopidlcifaenjaaGreatDoorPre1
import Derived.OpenShut
import Derived.Deep.Slices
import Derived.Deep.Fields
import Derived.ChangeSame
namespace Go.Proofs.YtopidlcifaenjaaGreatDoor
set_option linter.unusedVariables false
open Go.RowKit Go.ChangeShapes Go.WideShapes Go.Deep

/-- WHAT THE WALK IS TOLD OF A SLICE OF STRUCTS OF INTEGERS THAT CAME IN: it is nil; or element i's field j, of the kind ks[j], is the number 'Z i j', at its cell. -/
def IsStructs (ks : List IntKind) (w : World) (a : Option Addr) (len cap : Nat) (Z : Nat → Nat → Int) : Prop :=
  (a = none ∧ len = 0 ∧ cap = 0) ∨
  ∃ x, a = some x ∧ len ≤ cap ∧ cap ≤ maxLen ∧ ∀ i, i < len → ∀ j k, ks[j]? = some k → w.cell? (x.add (i * ks.length + j)) = some (.int k (Z i j)) ∧ (Lit.int k (Z i j)).wf = true

theorem open_structs {H : Type} {enc : TypeId × Value → H} {P : Program} {w : World} {base : Nat} {spare : Nat → Bool} {held : Bool} {t e : TypeId} {fs : Array Field} {fuel : Nat} {x : DataW H × List MemPlace}
    {a : Option Addr} {len cap : Nat} (ks : List IntKind) (ht : P.underlying t = some (.slice e)) (he : P.underlying e = some (.struct fs)) (hC : P.cellsOf e = ks.length)
    (hk : ∀ (j : Nat) (k : IntKind), ks[j]? = some k → ∃ f : Field, fs[j]? = some f ∧ f.offset = j ∧ P.underlying f.type = some (.int k) ∧ P.cellsOf f.type = 1)
    (h : DataW.trod enc P w base spare held fuel t [.slice a len cap] = some x) : ∃ Z, IsStructs ks w a len cap Z := by
  rcases open_slice ht h with ⟨hcs, _⟩ | ⟨x', l, c, m, n, D, Pl, hcs, hb, hl, hm, hmm, hx, hi⟩
  · simp at hcs
    obtain ⟨rfl, rfl, rfl⟩ := hcs
    exact ⟨fun _ _ => 0, .inl ⟨rfl, rfl, rfl⟩⟩
  · simp at hcs
    obtain ⟨rfl, rfl, rfl⟩ := hcs
    refine ⟨fun i j => match w.cell? (x'.add (i * ks.length + j)) with | some (.int _ q) => q | _ => 0, .inr ⟨x', rfl, hl, hm, fun i hil j k hj => ?_⟩⟩
    have him : i < m := by rw [hmm]; split <;> omega
    obtain ⟨cs', hc, ht'⟩ := hi i him
    rw [hC] at hc
    obtain ⟨xs, n', _, _, hlen, hxl, hf⟩ := DataW.trod_struct he ht'
    obtain ⟨_, hcl, hat⟩ := World.cells?_some hc
    obtain ⟨f, hf1, hf2, hf3, hf4⟩ := hk j k hj
    have hjl : j < ks.length := (List.getElem?_eq_some_iff.1 hj).1
    have hjf : j < fs.size := (Array.getElem?_eq_some_iff.1 hf1).1
    have h1 := hf j f hf1
    rw [hf2, hf4] at h1
    have hcell := hat j hjl
    have hjc : j < cs'.length := by omega
    have hone : (cs'.drop j).take 1 = [cs'[j]] := by rw [List.drop_eq_getElem_cons hjc]; rfl
    rw [hone, List.getElem?_eq_getElem (by omega : j < xs.length)] at h1
    obtain ⟨q, hq, _, hwf⟩ := DataW.trod_int hf3 h1
    simp only [List.cons.injEq, and_true] at hq
    rw [add_add, List.getElem?_eq_getElem hjc, hq] at hcell
    simp only [hcell]
    exact ⟨trivial, hwf⟩

/-- Opened: the slice is empty, or its cells are there, in every later world too. -/
theorem IsStructs.open {ks : List IntKind} {w : World} {a : Option Addr} {len cap : Nat} {Z : Nat → Nat → Int} (h : IsStructs ks w a len cap Z) (h0 : 0 < len) (hk : 0 < ks.length) :
    ∃ bx off, a = some ⟨bx, off, none⟩ ∧ ∀ w', Below w.heap.size w w' → ∀ i, i < len → ∀ j k, ks[j]? = some k → w'.cell? ⟨bx, off + (i * ks.length + j), none⟩ = some (.int k (Z i j)) ∧ (Lit.int k (Z i j)).wf = true := by
  rcases h with ⟨_, h, _⟩ | ⟨⟨bx, off, spot⟩, rfl, hl, hm, hc⟩
  · omega
  · obtain ⟨k0, hk0⟩ : ∃ k, ks[0]? = some k := ⟨ks[0], List.getElem?_eq_getElem hk⟩
    have hc0 := (hc 0 h0 0 k0 hk0).1
    have hspot : spot = none := by simpa [Addr.add] using World.cell?_spot hc0
    subst hspot
    refine ⟨bx, off, rfl, fun w' hb i hi j k hj => ?_⟩
    obtain ⟨h1, h2⟩ := hc i hi j k hj
    refine ⟨?_, h2⟩
    have he : (⟨bx, off, none⟩ : Addr).add (i * ks.length + j) = ⟨bx, off + (i * ks.length + j), none⟩ := by
      by_cases hj0 : i * ks.length + j = 0
      · rw [hj0]; simp [Addr.add]
      · simp only [Addr.add, if_neg hj0]
    rw [he] at h1
    have hlt : bx < w.heap.size := by
      rcases Nat.lt_or_ge bx w.heap.size with h | h
      · exact h
      · simp [World.cell?, Array.getElem?_eq_none h] at h1
    rw [hb.cell (p := ⟨bx, off + (i * ks.length + j), none⟩) hlt]
    exact h1
end Go.Proofs.YtopidlcifaenjaaGreatDoor
