/- A slice of layer 5's acts that came in: a kind, a slice of numbers, a number. -/
import Derived.Test.YtciilbpchejpcaaInts
import Derived.Test.YtciilbpchejpcaaStructs
namespace Go.Proofs.Ytciilbpchejpcaa
set_option linter.unusedVariables false
open Go.RowKit Go.ChangeShapes Go.WideShapes Go.Deep

/-- It is nil; or act i is the number K i, the slice at A i, of length L i and capacity C i, over the numbers Z i, and the number N i. -/
def IsActs (w : World) (a : Option Addr) (len cap : Nat) (K : Nat → Int) (A : Nat → Option Addr) (L C : Nat → Nat) (Z : Nat → List Int) (N : Nat → Int) : Prop :=
  (a = none ∧ len = 0 ∧ cap = 0) ∨
  ∃ x, a = some x ∧ len ≤ cap ∧ cap ≤ maxLen ∧ ∀ i, i < len → w.cell? (x.add (i * 3)) = some (.int .u8 (K i)) ∧ (Lit.int .u8 (K i)).wf = true ∧ w.cell? (x.add (i * 3 + 1)) = some (.slice (A i) (L i) (C i)) ∧ IsRow .i64 w (A i) (L i) (C i) (Z i) ∧
    w.cell? (x.add (i * 3 + 2)) = some (.int .i64 (N i)) ∧ (Lit.int .i64 (N i)).wf = true

theorem isRow_of_trod {H : Type} {enc : TypeId × Value → H} {P : Program} {w : World} {base : Nat} {held : Bool} {t e : TypeId} {fuel : Nat} {v : Value} {x : DataW H × List MemPlace} (ht : P.underlying t = some (.slice e)) (he : P.underlying e = some (.int .i64)) (hC : P.cellsOf e = 1)
    (h : DataW.trod enc P w base (fun _ => true) held fuel t [v] = some x) : ∃ a l c zs, v = .slice a l c ∧ IsRow .i64 w a l c zs := by
  rcases open_ints ht he hC h with ⟨hcs, _⟩ | ⟨x, l, c, zs, hcs, _, hl, hm, hz, _, hcell, hwz⟩
  · exact ⟨none, 0, 0, [], by simpa using hcs, .inl ⟨rfl, rfl, rfl, rfl⟩⟩
  · exact ⟨some x, l, c, zs, by simpa using hcs, .inr ⟨_, rfl, hl, hm, by simpa using hz, hcell, hwz⟩⟩

theorem open_acts {H : Type} {enc : TypeId × Value → H} {P : Program} {w : World} {base : Nat} {held : Bool} {t e : TypeId} {fs : Array Field} {fuel : Nat} {x : DataW H × List MemPlace}
    {a : Option Addr} {len cap : Nat} {f0 f1 f2 : Field} {q : TypeId} (ht : P.underlying t = some (.slice e)) (he : P.underlying e = some (.struct fs)) (hC : P.cellsOf e = 3)
    (g0 : fs[0]? = some f0) (g1 : fs[1]? = some f1) (g2 : fs[2]? = some f2) (o0 : f0.offset = 0) (o1 : f1.offset = 1) (o2 : f2.offset = 2)
    (u0 : P.underlying f0.type = some (.int .u8)) (u1 : P.underlying f1.type = some (.slice q)) (uq : P.underlying q = some (.int .i64)) (cq : P.cellsOf q = 1) (u2 : P.underlying f2.type = some (.int .i64))
    (c0 : P.cellsOf f0.type = 1) (c1 : P.cellsOf f1.type = 1) (c2 : P.cellsOf f2.type = 1)
    (h : DataW.trod enc P w base (fun _ => true) held fuel t [.slice a len cap] = some x) : ∃ K A L C Z N, IsActs w a len cap K A L C Z N := by
  rcases open_slice ht h with ⟨hcs, _⟩ | ⟨x', l, c, m, n, D, Pl, hcs, hb, hl, hm, hmm, hx, hi⟩
  · simp at hcs
    obtain ⟨rfl, rfl, rfl⟩ := hcs
    exact ⟨fun _ => 0, fun _ => none, fun _ => 0, fun _ => 0, fun _ => [], fun _ => 0, .inl ⟨rfl, rfl, rfl⟩⟩
  · simp at hcs
    obtain ⟨rfl, rfl, rfl⟩ := hcs
    have each : ∀ i, i < len → ∃ y : Int × Option Addr × Nat × Nat × List Int × Int, w.cell? (x'.add (i * 3)) = some (.int .u8 y.1) ∧ (Lit.int .u8 y.1).wf = true ∧ w.cell? (x'.add (i * 3 + 1)) = some (.slice y.2.1 y.2.2.1 y.2.2.2.1) ∧
        IsRow .i64 w y.2.1 y.2.2.1 y.2.2.2.1 y.2.2.2.2.1 ∧ w.cell? (x'.add (i * 3 + 2)) = some (.int .i64 y.2.2.2.2.2) ∧ (Lit.int .i64 y.2.2.2.2.2).wf = true := by
      intro i hil
      have him : i < m := by rw [hmm]; split <;> omega
      obtain ⟨cs', hc, ht'⟩ := hi i him
      rw [hC] at hc
      obtain ⟨xs, n', _, _, hlen, hxl, hf⟩ := DataW.trod_struct he ht'
      obtain ⟨_, hcl, hat⟩ := World.cells?_some hc
      have one : ∀ j, j < 3 → ∃ v, cs'[j]? = some v ∧ (cs'.drop j).take 1 = [v] ∧ w.cell? (x'.add (i * 3 + j)) = some v := by
        intro j hj
        have hjc : j < cs'.length := by omega
        refine ⟨cs'[j], List.getElem?_eq_getElem hjc, by rw [List.drop_eq_getElem_cons hjc]; rfl, ?_⟩
        have := hat j hj
        rw [add_add, List.getElem?_eq_getElem hjc] at this
        exact this
      obtain ⟨v0, _, d0, e0⟩ := one 0 (by omega)
      obtain ⟨v1, _, d1, e1⟩ := one 1 (by omega)
      obtain ⟨v2, _, d2, e2⟩ := one 2 (by omega)
      have h0 := hf 0 f0 g0
      have h1 := hf 1 f1 g1
      have h2 := hf 2 f2 g2
      have hs2 : 2 < fs.size := (Array.getElem?_eq_some_iff.1 g2).1
      rw [o0, c0, d0, List.getElem?_eq_getElem (by omega : 0 < xs.length)] at h0
      rw [o1, c1, d1, List.getElem?_eq_getElem (by omega : 1 < xs.length)] at h1
      rw [o2, c2, d2, List.getElem?_eq_getElem (by omega : 2 < xs.length)] at h2
      obtain ⟨q0, hq0, _, hw0⟩ := DataW.trod_int u0 h0
      obtain ⟨aa, ll, cc, zz, hv1, hr1⟩ := isRow_of_trod u1 uq cq h1
      obtain ⟨q2, hq2, _, hw2⟩ := DataW.trod_int u2 h2
      simp only [List.cons.injEq, and_true] at hq0 hq2
      subst hq0 hv1 hq2
      exact ⟨(q0, aa, ll, cc, zz, q2), by simpa using e0, hw0, e1, hr1, e2, hw2⟩
    obtain ⟨y, hy⟩ := choose_lt each
    exact ⟨fun i => (y i).1, fun i => (y i).2.1, fun i => (y i).2.2.1, fun i => (y i).2.2.2.1, fun i => (y i).2.2.2.2.1, fun i => (y i).2.2.2.2.2, .inr ⟨x', rfl, hl, hm, hy⟩⟩

theorem IsActs.open {w : World} {a : Option Addr} {len cap : Nat} {K : Nat → Int} {A : Nat → Option Addr} {L C : Nat → Nat} {Z : Nat → List Int} {N : Nat → Int} (h : IsActs w a len cap K A L C Z N) (h0 : 0 < len) :
    ∃ bx off, a = some ⟨bx, off, none⟩ ∧ ∀ w', Below w.heap.size w w' → ∀ i, i < len → w'.cell? ⟨bx, off + i * 3, none⟩ = some (.int .u8 (K i)) ∧ w'.cell? ⟨bx, off + i * 3 + 1, none⟩ = some (.slice (A i) (L i) (C i)) ∧ w'.cell? ⟨bx, off + i * 3 + 2, none⟩ = some (.int .i64 (N i)) := by
  rcases h with ⟨_, h, _⟩ | ⟨⟨bx, off, spot⟩, rfl, hl, hm, hc⟩
  · omega
  · have hc0 := (hc 0 h0).1
    have hspot : spot = none := by simpa [Addr.add] using World.cell?_spot hc0
    subst hspot
    refine ⟨bx, off, rfl, fun w' hb i hi => ?_⟩
    obtain ⟨h1, _, h2, _, h3, _⟩ := hc i hi
    have he : ∀ j, (⟨bx, off, none⟩ : Addr).add j = ⟨bx, off + j, none⟩ := by
      intro j
      by_cases hj0 : j = 0
      · rw [hj0]; simp [Addr.add]
      · simp only [Addr.add, if_neg hj0]
    rw [he] at h1 h2 h3
    rw [← Nat.add_assoc] at h2 h3
    have hlt : bx < w.heap.size := cell_lt h1
    exact ⟨(hb.cell (p := ⟨bx, off + i * 3, none⟩) hlt).trans h1, (hb.cell (p := ⟨bx, off + i * 3 + 1, none⟩) hlt).trans h2, (hb.cell (p := ⟨bx, off + i * 3 + 2, none⟩) hlt).trans h3⟩
theorem IsActs.at {w : World} {a : Option Addr} {len cap : Nat} {K : Nat → Int} {A : Nat → Option Addr} {L C : Nat → Nat} {Z : Nat → List Int} {N : Nat → Int} (h : IsActs w a len cap K A L C Z N) (i : Nat) (hi : i < len) :
    (Lit.int .u8 (K i)).wf = true ∧ IsRow .i64 w (A i) (L i) (C i) (Z i) ∧ (Lit.int .i64 (N i)).wf = true := by
  rcases h with ⟨_, h, _⟩ | ⟨x, rfl, hl, hm, hc⟩
  · omega
  · obtain ⟨_, h1, _, h2, _, h3⟩ := hc i hi
    exact ⟨h1, h2, h3⟩
end Go.Proofs.Ytciilbpchejpcaa
