/- Slices of int: what one reads as; slices.Clone at []int. -/
import Derived.Test.YtkimfejhgfnjoaaDoorBase
import Derived.WalkLawsBesides
import Derived.WalkSpells
import Derived.OwnWalk
import Derived.Outline
import Derived.Deep.OwnRows
namespace Go.Proofs.YtkimfejhgfnjoaaDoor
set_option linter.unusedVariables false
set_option linter.unusedSimpArgs false
open Go.RowKit

theorem infoInt : (Tryd.prog.info? 3).map (fun i => (i.zero, i.size, i.bytes)) = some (some (.int .i64 0), 1, 8) := by kernel_rfl

/-- The value v is a slice that reads as the numbers xs. -/
def Reads (w : World) (v : Value) (xs : List Int) : Prop :=
  ∃ a c, v = .slice a xs.length c ∧ (xs.length ≤ c ∧ c ≤ maxLen ∧ ((a = none ∧ c = 0) ∨ ∃ ad, a = some ad)) ∧ (0 < xs.length → ∃ g off, a = some ⟨g, off, none⟩ ∧ g < w.heap.size ∧ ∀ j, j < xs.length → w.cell? ⟨g, off + j, none⟩ = some (.int .i64 (xs.getD j 0)))
/-- The value v is a slice of the call's own, from block 'base' on, that holds the numbers xs. -/
def Owns (w : World) (base : Nat) (v : Value) (xs : List Int) : Prop := w.ownsRow base 3 1 v xs.length (xs.map (Value.int .i64))

theorem cell_lt {w : World} {a : Addr} {v : Value} (h : w.cell? a = some v) : a.block < w.heap.size := by
  rcases Nat.lt_or_ge a.block w.heap.size with h' | h'
  · exact h'
  · simp [World.cell?, Array.getElem?_eq_none h'] at h
theorem Owns.reads {w : World} {base : Nat} {v : Value} {xs : List Int} (h : Owns w base v xs) : Reads w v xs := by
  obtain ⟨h0, ⟨h1, h2⟩ | ⟨g, cap, cur, h1, h2, h3, h4, h5, h6, h7⟩⟩ := h
  · exact ⟨none, 0, by rw [h1, h2], ⟨by omega, by unfold maxLen; omega, .inl ⟨rfl, rfl⟩⟩, fun h => by omega⟩
  · refine ⟨_, _, h1, ⟨h4, h5, .inr ⟨_, rfl⟩⟩, fun h => ⟨g, 0, rfl, ?_, fun j hj => ?_⟩⟩
    · rw [Array.getElem?_eq_some_iff] at h3; exact h3.1
    · have e : (cur.toList.take (xs.length * 1))[j]? = cur.toList[j]? := by rw [List.getElem?_take, if_pos (by omega)]
      rw [h7] at e
      have e' : w.cell? ⟨g, 0 + j, none⟩ = cur.toList[j]? := by simp [World.cell?, h3]
      rw [e', ← e]
      simp [hj]
theorem Reads.below {w w' : World} {B : Nat} {v : Value} {xs : List Int} (h : Reads w v xs) (hb : Below B w w') (hB : ∀ g off c, v = .slice (some ⟨g, off, none⟩) xs.length c → g < B) : Reads w' v xs := by
  obtain ⟨a, c, rfl, h0, h1⟩ := h
  refine ⟨a, c, rfl, h0, fun h => ?_⟩
  obtain ⟨g, off, rfl, h2, h3⟩ := h1 h
  have hg := hB g off c rfl
  refine ⟨g, off, rfl, by have := hb.size; omega, fun j hj => ?_⟩
  rw [hb.cell (p := ⟨g, off + j, none⟩) hg]
  exact h3 j hj
theorem Reads.of_below {w w' : World} {v : Value} {xs : List Int} (h : Reads w v xs) (hb : Below w.heap.size w w') : Reads w' v xs := by
  obtain ⟨a, c, rfl, h0, h1⟩ := h
  refine ⟨a, c, rfl, h0, fun h => ?_⟩
  obtain ⟨g, off, rfl, h2, h3⟩ := h1 h
  refine ⟨g, off, rfl, by have := hb.size; omega, fun j hj => ?_⟩
  rw [hb.cell (p := ⟨g, off + j, none⟩) h2]
  exact h3 j hj
theorem Owns.mono {w : World} {base base' : Nat} {v : Value} {xs : List Int} (h : Owns w base v xs) (hb : base' ≤ base) : Owns w base' v xs := by
  obtain ⟨h0, h1 | ⟨g, cap, cur, h1, h2, h3⟩⟩ := h
  · exact ⟨h0, .inl h1⟩
  · exact ⟨h0, .inr ⟨g, cap, cur, h1, by omega, h3⟩⟩

theorem Owns.slice {w : World} {base : Nat} {v : Value} {xs : List Int} (h : Owns w base v xs) : ∃ a c, v = .slice a xs.length c := by
  obtain ⟨h0, ⟨h1, h2⟩ | ⟨g, cap, cur, h1, _⟩⟩ := h
  · exact ⟨none, 0, by rw [h1, h2]⟩
  · exact ⟨_, _, h1⟩
theorem Owns.slice3 {w : World} {base : Nat} {v : Value} {xs : List Int} (h : Owns w base v xs) : ∃ a m c, v = .slice a m c := by
  obtain ⟨a, c, h⟩ := h.slice; exact ⟨a, _, c, h⟩
theorem news_of {w : World} {g off : Nat} {xs : List Int} (hc : ∀ j, j < xs.length → w.cell? ⟨g, off + j, none⟩ = some (.int .i64 (xs.getD j 0))) :
    ∀ j u, (xs.map (Value.int .i64))[j]? = some u → w.cell? ((⟨g, off, none⟩ : Addr).add j) = some u := by
  intro j u hj
  rw [List.getElem?_map] at hj
  rcases hx : xs[j]? with _ | x
  · rw [hx] at hj; simp at hj
  · rw [hx] at hj
    obtain ⟨hlt, hx'⟩ := List.getElem?_eq_some_iff.1 hx
    have hcj := hc j hlt
    have he : (⟨g, off, none⟩ : Addr).add j = ⟨g, off + j, none⟩ := by
      by_cases hj0 : j = 0
      · subst hj0; simp [Addr.add]
      · simp [Addr.add, hj0]
    rw [he, hcj]
    simp only [Option.map_some, Option.some.injEq] at hj
    rw [← hj, List.getD_eq_getElem?_getD, hx]; rfl
theorem ones_of (xs : List Int) : ∀ u ∈ xs.map (Value.int .i64), u.oneCell' = true := by
  intro u hu
  obtain ⟨x, _, rfl⟩ := List.mem_map.1 hu
  rfl

/-- A slice of ints that came in reads as its numbers, in every later world too. -/
theorem IsRow.reads {w : World} {a : Option Addr} {len cap : Nat} {zs : List Int} (h : IsRow .i64 w a len cap zs) :
    ∃ xs : List Int, xs = zs.take len ∧ xs.length = len ∧ ∀ w', Below w.heap.size w w' → Reads w' (.slice a len cap) xs := by
  have hlz : len ≤ zs.length := by rcases h with ⟨_, h, _⟩ | ⟨x, _, h1, _, h2, _⟩ <;> omega
  refine ⟨zs.take len, rfl, by simp; omega, fun w' hb => ?_⟩
  have hl : (zs.take len).length = len := by simp; omega
  have ho := h.open
  rcases h with ⟨rfl, rfl, rfl, rfl⟩ | ⟨⟨bx, off, spot⟩, rfl, h1, h2, h3, h4, _⟩
  · exact ⟨none, 0, by simp, ⟨by simp, by unfold maxLen; omega, .inl ⟨rfl, rfl⟩⟩, fun h => absurd h (by simp)⟩
  · refine ⟨_, _, by rw [hl], ⟨by omega, h2, .inr ⟨_, rfl⟩⟩, fun hpos => ?_⟩
    rw [hl] at hpos
    obtain ⟨bx', off', he, _, _, hc⟩ := ho.resolve_left (by omega)
    have h0 := hc w' hb 0 (by omega)
    refine ⟨bx', off', he, ?_, fun j hj => ?_⟩
    · exact cell_lt (a := ⟨bx', off' + 0, none⟩) h0
    · rw [hl] at hj
      rw [hc w' hb j hj]
      congr 2
      simp [List.getElem?_take, hj]

def ClonePost (xs : List Int) (w : World) (e : Ending) (w' : World) : Prop :=
  ∃ v', e = .returned v' ∧ Owns w' w.heap.size v' xs ∧ Below w.heap.size w w'

end Go.Proofs.YtkimfejhgfnjoaaDoor
