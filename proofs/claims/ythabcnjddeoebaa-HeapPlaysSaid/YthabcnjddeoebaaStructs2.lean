/- A slice of structs, of integers and of structs of integers, that came in. Nothing of the program. -/
import Derived.Test.YthabcnjddeoebaaStructs
namespace Go.Proofs.Ythabcnjddeoebaa
set_option linter.unusedVariables false
open Go.RowKit Go.ChangeShapes Go.WideShapes Go.Deep

theorem drop_one {α : Type} {l : List α} {j : Nat} (h : j < l.length) : (l.drop j).take 1 = [l[j]] := by rw [List.drop_eq_getElem_cons h]; rfl
theorem open_structs2 {H : Type} {enc : TypeId × Value → H} {P : Program} {w : World} {base : Nat} {spare : Nat → Bool} {held : Bool} {t e : TypeId} {fs : Array Field} {fuel : Nat} {x : DataW H × List MemPlace}
    {a : Option Addr} {len cap : Nat} (ks : List IntKind) (ht : P.underlying t = some (.slice e)) (he : P.underlying e = some (.struct fs)) (hC : P.cellsOf e = ks.length)
    (hk : ∀ (j : Nat) (k : IntKind), ks[j]? = some k →
      (∃ (i : Nat) (f : Field), fs[i]? = some f ∧ f.offset = j ∧ P.underlying f.type = some (.int k) ∧ P.cellsOf f.type = 1) ∨
      (∃ (i : Nat) (f : Field) (gs : Array Field) (i2 : Nat) (g : Field) (c o : Nat), fs[i]? = some f ∧ P.underlying f.type = some (.struct gs) ∧ gs[i2]? = some g ∧ P.cellsOf f.type = c ∧ g.offset = o ∧ f.offset + o = j ∧ o < c ∧ P.underlying g.type = some (.int k) ∧ P.cellsOf g.type = 1))
    (h : DataW.trod enc P w base spare held fuel t [.slice a len cap] = some x) : ∃ Z, IsStructs ks w a len cap Z := by
  rcases open_slice ht h with ⟨hcs, _⟩ | ⟨x', l, c, m, n, D, Pl, hcs, hb, hl, hm, hmm, hx, hi⟩
  · simp at hcs
    obtain ⟨rfl, rfl, rfl⟩ := hcs
    exact ⟨fun _ _ => 0, .inl ⟨rfl, rfl, rfl⟩⟩
  · simp at hcs
    obtain ⟨rfl, rfl, rfl⟩ := hcs
    refine ⟨fun i j => match w.cell? (x'.add (i * ks.length + j)) with | some (.int _ q) => q | _ => 0, .inr ⟨x', rfl, hl, hm, fun i hil j k hj => ?_⟩⟩
    have him : i < m := by rw [hmm]; split <;> omega
    obtain ⟨cs', hc, ht'⟩ := hi i him
    rw [hC] at hc
    obtain ⟨xs, n', _, _, hlen, hxl, hf⟩ := DataW.trod_struct he ht'
    obtain ⟨_, hcl, hat⟩ := World.cells?_some hc
    have hjl : j < ks.length := (List.getElem?_eq_some_iff.1 hj).1
    have hcell := hat j hjl
    have hjc : j < cs'.length := by omega
    have fin : ∀ q, cs'[j] = Value.int k q → (Lit.int k q).wf = true → (w.cell? (x'.add (i * ks.length + j)) = some (.int k (match w.cell? (x'.add (i * ks.length + j)) with | some (.int _ q) => q | _ => 0)) ∧ (Lit.int k (match w.cell? (x'.add (i * ks.length + j)) with | some (.int _ q) => q | _ => 0)).wf = true) := by
      intro q hq hwf
      rw [add_add, List.getElem?_eq_getElem hjc, hq] at hcell
      simp only [hcell]
      exact ⟨trivial, hwf⟩
    rcases hk j k hj with ⟨i1, f, hf1, hf2, hf3, hf4⟩ | ⟨i1, f, gs, i2, g, c2, o, hf1, hf2, hg1, hf4, hgo, hfo, hoc, hg3, hg4⟩
    · have hjf : i1 < fs.size := (Array.getElem?_eq_some_iff.1 hf1).1
      have h1 := hf i1 f hf1
      rw [hf2, hf4, drop_one hjc, List.getElem?_eq_getElem (by omega : i1 < xs.length)] at h1
      obtain ⟨q, hq, _, hwf⟩ := DataW.trod_int hf3 h1
      simp only [List.cons.injEq, and_true] at hq
      exact fin q hq hwf
    · have hjf : i1 < fs.size := (Array.getElem?_eq_some_iff.1 hf1).1
      have h1 := hf i1 f hf1
      rw [List.getElem?_eq_getElem (by omega : i1 < xs.length)] at h1
      obtain ⟨ys, n2, _, _, hlen2, hyl, hf'⟩ := DataW.trod_struct hf2 h1
      have hjg : i2 < gs.size := (Array.getElem?_eq_some_iff.1 hg1).1
      have h2 := hf' i2 g hg1
      rw [List.getElem?_eq_getElem (by omega : i2 < ys.length), hgo, hg4, hf4] at h2
      have e1 : (((cs'.drop f.offset).take c2).drop o).take 1 = [cs'[j]] := by
        rw [List.drop_take, List.take_take, List.drop_drop, show min 1 (c2 - o) = 1 by omega, ← drop_one hjc, hfo]
      rw [e1] at h2
      obtain ⟨q, hq, _, hwf⟩ := DataW.trod_int hg3 h2
      simp only [List.cons.injEq, and_true] at hq
      exact fin q hq hwf
end Go.Proofs.Ythabcnjddeoebaa
