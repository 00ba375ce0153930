/- A slice that reads as numbers and shares no block with a batch; a slice of the call's own, changed at one place. -/
import Derived.Test.YtpmggkngakdkhaaBatch4
namespace Go.Proofs.Ytpmggkngakdkhaa
set_option linter.unusedVariables false
open Go.RowKit

/-- v reads as xs, and not over the batch's own blocks. -/
structure Stay (w : World) (p : Nat) (r : Option Nat) (v : Value) (xs : List Int) : Prop where
  rd : Reads w v xs
  off : ∀ g off n c, v = .slice (some ⟨g, off, none⟩) n c → 0 < xs.length → g ≠ p ∧ r ≠ some g
theorem Reads.lt {w : World} {g off n c : Nat} {xs : List Int} (h : Reads w (.slice (some ⟨g, off, none⟩) n c) xs) (h0 : 0 < xs.length) : g < w.heap.size := by
  obtain ⟨a', c', he, _, hrd⟩ := h
  simp only [Value.slice.injEq] at he
  obtain ⟨g', off', h2, h3, _⟩ := hrd h0
  rw [← he.1] at h2
  simp only [Option.some.injEq, Addr.mk.injEq] at h2
  rw [h2.1]; exact h3
theorem Reads.blocks {w w' : World} {v : Value} {xs : List Int} (h : Reads w v xs) (hs : w.heap.size ≤ w'.heap.size) (hb : ∀ g off n c, v = .slice (some ⟨g, off, none⟩) n c → 0 < xs.length → w'.heap[g]? = w.heap[g]?) : Reads w' v xs := by
  obtain ⟨a, c, rfl, h0, h1⟩ := h
  refine ⟨a, c, rfl, h0, fun h => ?_⟩
  obtain ⟨g, off, rfl, h2, h3⟩ := h1 h
  refine ⟨g, off, rfl, by omega, fun j hj => ?_⟩
  have := h3 j hj
  simp only [World.cell?, hb g off _ _ rfl h] at this ⊢
  exact this
theorem Stay.step {w w' : World} {p : Nat} {r r' : Option Nat} {v : Value} {xs : List Int} (h : Stay w p r v xs) (ho : OnlyO p r w w') (hr : r' = r ∨ ∀ k, r' = some k → w.heap.size ≤ k) : Stay w' p r' v xs := by
  refine ⟨h.rd.blocks ho.size fun g off n c hv h0 => ?_, fun g off n c hv h0 => ?_⟩
  · have h1 := h.off g off n c hv h0
    subst hv
    exact ho.block g (h.rd.lt h0) h1.1 (fun e => h1.2 e.symm)
  · have h1 := h.off g off n c hv h0
    refine ⟨h1.1, fun e => ?_⟩
    rcases hr with rfl | hr
    · exact h1.2 e
    · subst hv
      have := h.rd.lt h0
      have := hr g e
      omega
theorem Stay.only {w w' : World} {p : Nat} {r : Option Nat} {v : Value} {xs : List Int} (h : Stay w p r v xs) (ho : OnlyO p r w w') : Stay w' p r v xs := h.step ho (.inl rfl)
theorem Stay.below {w w' : World} {p : Nat} {r : Option Nat} {v : Value} {xs : List Int} (h : Stay w p r v xs) (hb : Below w.heap.size w w') : Stay w' p r v xs := h.only (.of_below hb)
theorem Owns.stay {w : World} {base p : Nat} {r : Option Nat} {v : Value} {xs : List Int} (h : Owns w base v xs) (hp : p < base) (hr : ∀ k, r = some k → k < base) : Stay w p r v xs :=
  ⟨h.reads, fun g off n c hv h0 => by
    have := (h.lt g (by rw [hv]; rfl)).1
    exact ⟨by omega, fun e => by have := hr g e; omega⟩⟩
theorem OnlyO.beyond {p : Nat} {r : Option Nat} {a b c : World} (h : OnlyO p r a b) (k : Below a.heap.size b c) : OnlyO p r a c :=
  ⟨k.os.trans h.os, k.tape.trans h.tape, k.output.trans h.output, Nat.le_trans h.size k.size, fun i hi h1 h2 => (k.block i hi).trans (h.block i hi h1 h2)⟩
theorem Owns.step {w : World} {base : Nat} {a : Option Addr} {n c : Nat} {zs : List Int} (h : Owns w base (.slice a n c) zs) (hn : zs.length = n) (k : Nat) (hk : k < n) :
    ∃ B, a = some ⟨B, 0, none⟩ ∧ base ≤ B ∧ B < w.heap.size ∧ w.cell? ⟨B, k, none⟩ = some (.int .i64 (zs.getD k 0)) ∧ w.frozen? ⟨B, k, none⟩ = false ∧ ∀ y, Owns (w.setCell ⟨B, k, none⟩ (.int .i64 y)) base (.slice a n c) (zs.set k y) := by
  have hrd := h.reads
  obtain ⟨h0, ⟨h1, h2⟩ | ⟨g, cap, cur, h1, h2, h3, h4, h5, h6, h7⟩⟩ := h
  · omega
  · simp only [Value.slice.injEq] at h1
    obtain ⟨rfl, _, rfl⟩ := h1
    refine ⟨g, rfl, h2, by rw [Array.getElem?_eq_some_iff] at h3; exact h3.1, ?_, by simp [World.frozen?, h3], fun y => ?_⟩
    · obtain ⟨a', c', he, _, hr⟩ := hrd
      simp only [Value.slice.injEq] at he
      obtain ⟨g', off', e2, e3, e4⟩ := hr (by omega)
      rw [← he.1] at e2
      simp only [Option.some.injEq, Addr.mk.injEq] at e2
      obtain ⟨rfl, rfl, _⟩ := e2
      simpa using e4 k (by omega)
    · refine ⟨by simp, .inr ⟨g, c, cur.setIfInBounds k (.int .i64 y), by simp [hn], h2, by simp [World.setCell, Array.getElem?_modify, h3], by simpa using h4, h5, by simpa using h6, ?_⟩⟩
      simp only [List.length_set, Nat.mul_one, Array.toList_setIfInBounds] at h7 ⊢
      rw [List.take_set, h7, List.map_set]
theorem Owns.reads_n {w : World} {base : Nat} {v : Value} {xs : List Int} {n : Nat} (h : Owns w base v xs) (hn : xs.length = n) : ∃ a c, v = .slice a n c := by
  subst hn; exact h.slice
/-- One block of the call's own is written. -/
theorem OnlyO.cell {B : Nat} {w : World} {i : Nat} {v : Value} : OnlyO B none w (w.setCell ⟨B, i, none⟩ v) := OnlyO.set w i v
end Go.Proofs.Ytpmggkngakdkhaa
