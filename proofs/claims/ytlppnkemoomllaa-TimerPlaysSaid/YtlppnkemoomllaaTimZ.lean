/- timer.Timers: its foreign blocks, more or fewer; its order. -/
import Derived.Test.YtlppnkemoomllaaTimE
namespace Go.Proofs.Ytlppnkemoomllaa
set_option linter.unusedVariables false
set_option linter.unusedSimpArgs false
open Go.RowKit Tk

theorem leE_when {a b : En} (h : leE a b) : a.1 ≤ b.1 := by
  obtain ⟨a1, a2, a3⟩ := a
  obtain ⟨b1, b2, b3⟩ := b
  have h1 : aheadE (b1, b2, b3) (a1, a2, a3) = false := h
  rw [heapAhead.ahead_eq] at h1
  by_cases he : b1 = a1
  · simp only; omega
  · rw [if_pos he] at h1
    have := of_decide_eq_false h1
    simp only; omega
theorem Te.sorted {Z : Nat → Prop} {w : World} {t n ad : Nat} {es : Nat → List En} {L : List En} (h : Te Z w t n es L ad) : L.Pairwise leE := by rw [← h.2.1]; exact sortE_ord _
theorem Te.reZ {Z : Nat → Prop} {w : World} {t n ad : Nat} {es : Nat → List En} {L : List En} (h : Te Z w t n es L ad) {b : Nat} (hb : w.heap.size ≤ b) : Te (fun q => Z q ∨ q = b) w t n es L ad := by
  obtain ⟨⟨hb', mb, c, hp, v, h1⟩, h2⟩ := h
  obtain ⟨l1, l2, l3⟩ := h1.lt
  obtain ⟨z1, z2, z3⟩ := h1.zf
  refine ⟨⟨hb', mb, c, hp, v, ⟨h1.box, h1.row, h1.hc, h1.mp, h1.he, h1.ord, h1.fix, h1.hpx, h1.hpi, h1.own, ⟨?_, ?_, ?_⟩, ?_, ?_⟩⟩, h2⟩
  · rintro (h | h); · exact z1.1 h
    · omega
  · rintro (h | h); · exact z1.2.1 h
    · omega
  · rintro (h | h); · exact z1.2.2 h
    · omega
  · rintro i hi (h | h); · exact z2 i hi h
    · have := (h1.he i hi).lt; omega
  · rintro i hi q hq (h | h); · exact z3 i hi q hq h
    · have := own_lt0 (h1.he i hi) hq; omega
theorem Te.weak {Z Z' : Nat → Prop} {w : World} {t n ad : Nat} {es : Nat → List En} {L : List En} (h : Te Z' w t n es L ad) (hz : ∀ q, Z q → Z' q) : Te Z w t n es L ad := by
  obtain ⟨⟨hb', mb, c, hp, v, h1⟩, h2⟩ := h
  obtain ⟨z1, z2, z3⟩ := h1.zf
  exact ⟨⟨hb', mb, c, hp, v, ⟨h1.box, h1.row, h1.hc, h1.mp, h1.he, h1.ord, h1.fix, h1.hpx, h1.hpi, h1.own, ⟨fun h => z1.1 (hz _ h), fun h => z1.2.1 (hz _ h), fun h => z1.2.2 (hz _ h)⟩, fun i hi h => z2 i hi (hz _ h), fun i hi q hq h => z3 i hi q hq (hz _ h)⟩⟩, h2⟩
theorem mem_ins {e x : En} {L : List En} : e ∈ insF x L ↔ e = x ∨ e ∈ L := (insF_perm x L).mem_iff.trans (by simp)
theorem Te.only {Z : Nat → Prop} {w w' : World} {t n ad : Nat} {es : Nat → List En} {L : List En} (h : Te Z w t n es L ad) {b : Nat} (o : Only b b w w') (hz : Z b) : Te Z w' t n es L ad := by
  obtain ⟨⟨hb', m2, c, hp, v, q1⟩, q2⟩ := h
  have n1 := q1.zf.1
  exact ⟨⟨hb', m2, c, hp, v, q1.other o ⟨fun e => n1.1 (e ▸ hz), fun e => n1.2.1 (e ▸ hz), fun e => n1.2.2 (e ▸ hz)⟩ (fun i hi e => q1.zf.2.1 i hi (e ▸ hz)) (fun i hi e => q1.zf.2.2 i hi b e hz)⟩, q2⟩
end Go.Proofs.Ytlppnkemoomllaa
