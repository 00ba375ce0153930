/- The tables of glyphs: the kinds' runes; strconv's powers of ten. -/
import Derived.Test.YtnaphgjkkagpoaaDoorBase
import Derived.Test.YtnaphgjkkagpoaaDoorLaid
import Derived.Test.YtnaphgjkkagpoaaDoorLaid2
import Derived.Lib.LaidTab
import Derived.Lib.ItoaNum
namespace Go.Proofs.YtnaphgjkkagpoaaDoor
set_option linter.unusedVariables false
set_option linter.unusedSimpArgs false
set_option maxRecDepth 100000
open Go.RowKit

def glRune0 : Nat → Int
  | 0 => 43
  | 1 => 33
  | 2 => 8594
  | 3 => 8634
  | 4 => 9632
  | 5 => 9790
  | 6 => 8987
  | 7 => 10013
  | _ => 0
/-- What the table "glyph.runes" holds. -/
def GlRunes (w : World) : Prop := ∃ t fr, w.heap[0]? = some (.cells #[.int .i32 43, .int .i32 33, .int .i32 8594, .int .i32 8634, .int .i32 9632, .int .i32 9790, .int .i32 8987, .int .i32 10013] t fr)
theorem arr8 {cs : Array Value} (hs : cs.size = 8) {v0 v1 v2 v3 v4 v5 v6 v7 : Value} (h0 : cs[0]? = some v0) (h1 : cs[1]? = some v1) (h2 : cs[2]? = some v2) (h3 : cs[3]? = some v3) (h4 : cs[4]? = some v4) (h5 : cs[5]? = some v5) (h6 : cs[6]? = some v6) (h7 : cs[7]? = some v7) : cs = #[v0, v1, v2, v3, v4, v5, v6, v7] := by
  apply Array.ext_getElem?
  intro i
  by_cases hi : i < 8
  · match i, hi with
    | 0, _ => exact h0
    | 1, _ => exact h1
    | 2, _ => exact h2
    | 3, _ => exact h3
    | 4, _ => exact h4
    | 5, _ => exact h5
    | 6, _ => exact h6
    | 7, _ => exact h7
  · rw [Array.getElem?_eq_none (by omega), Array.getElem?_eq_none (by simp; omega)]
theorem cell_in {w : World} {g o : Nat} {cs : Array Value} {t : TypeId} {fr : Nat × Nat} {v : Value} (h : w.heap[g]? = some (.cells cs t fr)) (hc : w.cell? ⟨g, o, none⟩ = some v) : cs[o]? = some v := by
  simpa [World.cell?, h] using hc
theorem GlRunes.of {l : List (String × DataW Unit)} {w : World} (h : laidMetH Tryd.prog l w) (hp : (l.all fun x => x.2.handleName?.isNone) = true) (j : Nat) (hm : l[j]? = some ("hostler/glyph.runes", Rows.laid_hostler_glyph_runes)) : GlRunes w := by
  have hg : Tryd.prog.globalNamed "hostler/glyph.runes" = some 0 := by kernel_rfl
  have ht : (Tryd.prog.globals[0]?).map (·.type) = some 71 := by kernel_rfl
  obtain ⟨cs, t, fr, hb, hs⟩ := laid_block h hp j hm hg ht (by kernel_rfl)
  have hs8 : cs.size = 8 := hs.trans (by kernel_rfl)
  have c0 := cell_in hb (laid_at (o := 0) h hp j hm hg ht 8 0 (v := .int .i32 43) (by kernel_rfl))
  have c1 := cell_in hb (laid_at (o := 1) h hp j hm hg ht 8 1 (v := .int .i32 33) (by kernel_rfl))
  have c2 := cell_in hb (laid_at (o := 2) h hp j hm hg ht 8 2 (v := .int .i32 8594) (by kernel_rfl))
  have c3 := cell_in hb (laid_at (o := 3) h hp j hm hg ht 8 3 (v := .int .i32 8634) (by kernel_rfl))
  have c4 := cell_in hb (laid_at (o := 4) h hp j hm hg ht 8 4 (v := .int .i32 9632) (by kernel_rfl))
  have c5 := cell_in hb (laid_at (o := 5) h hp j hm hg ht 8 5 (v := .int .i32 9790) (by kernel_rfl))
  have c6 := cell_in hb (laid_at (o := 6) h hp j hm hg ht 8 6 (v := .int .i32 8987) (by kernel_rfl))
  have c7 := cell_in hb (laid_at (o := 7) h hp j hm hg ht 8 7 (v := .int .i32 10013) (by kernel_rfl))
  exact ⟨t, fr, by rw [hb, arr8 hs8 c0 c1 c2 c3 c4 c5 c6 c7]⟩
theorem GlRunes.lt {w : World} (h : GlRunes w) : 0 < w.heap.size := by
  obtain ⟨t, fr, h⟩ := h
  obtain ⟨hl, _⟩ := Array.getElem?_eq_some_iff.1 h; exact hl
theorem GlRunes.at {w w' : World} (h : GlRunes w) (hb : Below w.heap.size w w') : GlRunes w' := by
  have hl := h.lt
  obtain ⟨t, fr, h⟩ := h
  exact ⟨t, fr, (hb.block _ hl).trans h⟩
theorem GlRunes.cell {w : World} (h : GlRunes w) (k : Nat) (hk : k < 8) : w.cell? ⟨0, k, none⟩ = some (.int .i32 (glRune0 k)) := by
  obtain ⟨t, fr, h⟩ := h
  exact match k, hk with
  | 0, _ => by simp [World.cell?, h, glRune0]
  | 1, _ => by simp [World.cell?, h, glRune0]
  | 2, _ => by simp [World.cell?, h, glRune0]
  | 3, _ => by simp [World.cell?, h, glRune0]
  | 4, _ => by simp [World.cell?, h, glRune0]
  | 5, _ => by simp [World.cell?, h, glRune0]
  | 6, _ => by simp [World.cell?, h, glRune0]
  | 7, _ => by simp [World.cell?, h, glRune0]
/-- What strconv's table of the powers of ten holds. -/
def PwTab (w : World) : Prop := Lib.TabIs Tryd.prog w "internal/strconv.uint64pow10" .u64 Lib.pow10Tab
theorem PwTab.of {l : List (String × DataW Unit)} {w : World} (h : laidMetH Tryd.prog l w) (hp : (l.all fun x => x.2.handleName?.isNone) = true) (j : Nat) (hm : l[j]? = some ("internal/strconv.uint64pow10", Rows.laid_internal_strconv_uint64pow10)) : PwTab w := by
  have hg : Tryd.prog.globalNamed "internal/strconv.uint64pow10" = some 1 := by kernel_rfl
  have ht : (Tryd.prog.globals[1]?).map (·.type) = some 105 := by kernel_rfl
  obtain ⟨cs, t, fr, hb, hs⟩ := laid_block h hp j hm hg ht (by kernel_rfl)
  have hs20 : cs.size = 20 := hs.trans (by kernel_rfl)
  have c0 := cell_in hb (laid_at (o := 0) h hp j hm hg ht 8 0 (v := .int .u64 1) (by kernel_rfl))
  have c1 := cell_in hb (laid_at (o := 1) h hp j hm hg ht 8 1 (v := .int .u64 10) (by kernel_rfl))
  have c2 := cell_in hb (laid_at (o := 2) h hp j hm hg ht 8 2 (v := .int .u64 100) (by kernel_rfl))
  have c3 := cell_in hb (laid_at (o := 3) h hp j hm hg ht 8 3 (v := .int .u64 1000) (by kernel_rfl))
  have c4 := cell_in hb (laid_at (o := 4) h hp j hm hg ht 8 4 (v := .int .u64 10000) (by kernel_rfl))
  have c5 := cell_in hb (laid_at (o := 5) h hp j hm hg ht 8 5 (v := .int .u64 100000) (by kernel_rfl))
  have c6 := cell_in hb (laid_at (o := 6) h hp j hm hg ht 8 6 (v := .int .u64 1000000) (by kernel_rfl))
  have c7 := cell_in hb (laid_at (o := 7) h hp j hm hg ht 8 7 (v := .int .u64 10000000) (by kernel_rfl))
  have c8 := cell_in hb (laid_at (o := 8) h hp j hm hg ht 8 8 (v := .int .u64 100000000) (by kernel_rfl))
  have c9 := cell_in hb (laid_at (o := 9) h hp j hm hg ht 8 9 (v := .int .u64 1000000000) (by kernel_rfl))
  have c10 := cell_in hb (laid_at (o := 10) h hp j hm hg ht 8 10 (v := .int .u64 10000000000) (by kernel_rfl))
  have c11 := cell_in hb (laid_at (o := 11) h hp j hm hg ht 8 11 (v := .int .u64 100000000000) (by kernel_rfl))
  have c12 := cell_in hb (laid_at (o := 12) h hp j hm hg ht 8 12 (v := .int .u64 1000000000000) (by kernel_rfl))
  have c13 := cell_in hb (laid_at (o := 13) h hp j hm hg ht 8 13 (v := .int .u64 10000000000000) (by kernel_rfl))
  have c14 := cell_in hb (laid_at (o := 14) h hp j hm hg ht 8 14 (v := .int .u64 100000000000000) (by kernel_rfl))
  have c15 := cell_in hb (laid_at (o := 15) h hp j hm hg ht 8 15 (v := .int .u64 1000000000000000) (by kernel_rfl))
  have c16 := cell_in hb (laid_at (o := 16) h hp j hm hg ht 8 16 (v := .int .u64 10000000000000000) (by kernel_rfl))
  have c17 := cell_in hb (laid_at (o := 17) h hp j hm hg ht 8 17 (v := .int .u64 100000000000000000) (by kernel_rfl))
  have c18 := cell_in hb (laid_at (o := 18) h hp j hm hg ht 8 18 (v := .int .u64 1000000000000000000) (by kernel_rfl))
  have c19 := cell_in hb (laid_at (o := 19) h hp j hm hg ht 8 19 (v := .int .u64 10000000000000000000) (by kernel_rfl))
  have e : cs = (Lib.pow10Tab.map fun z => Value.int .u64 z).toArray := by
    apply Array.ext_getElem?
    intro i
    by_cases hi : i < 20
    · match i, hi with
      | 0, _ => exact c0.trans (by kernel_rfl)
      | 1, _ => exact c1.trans (by kernel_rfl)
      | 2, _ => exact c2.trans (by kernel_rfl)
      | 3, _ => exact c3.trans (by kernel_rfl)
      | 4, _ => exact c4.trans (by kernel_rfl)
      | 5, _ => exact c5.trans (by kernel_rfl)
      | 6, _ => exact c6.trans (by kernel_rfl)
      | 7, _ => exact c7.trans (by kernel_rfl)
      | 8, _ => exact c8.trans (by kernel_rfl)
      | 9, _ => exact c9.trans (by kernel_rfl)
      | 10, _ => exact c10.trans (by kernel_rfl)
      | 11, _ => exact c11.trans (by kernel_rfl)
      | 12, _ => exact c12.trans (by kernel_rfl)
      | 13, _ => exact c13.trans (by kernel_rfl)
      | 14, _ => exact c14.trans (by kernel_rfl)
      | 15, _ => exact c15.trans (by kernel_rfl)
      | 16, _ => exact c16.trans (by kernel_rfl)
      | 17, _ => exact c17.trans (by kernel_rfl)
      | 18, _ => exact c18.trans (by kernel_rfl)
      | 19, _ => exact c19.trans (by kernel_rfl)
      | n + 20, hn => exact absurd hn (by omega)
    · rw [Array.getElem?_eq_none (by omega), Array.getElem?_eq_none (by simp [Lib.pow10Tab]; omega)]
  unfold PwTab Lib.TabIs World.var?
  rw [hg]
  show (match w.heap[1]? with | some (.cells cs _ _) => some cs | _ => none) = _
  rw [hb, e]
theorem PwTab.lt {w : World} (h : PwTab w) : 1 < w.heap.size := by
  unfold PwTab Lib.TabIs World.var? at h
  have hg : Tryd.prog.globalNamed "internal/strconv.uint64pow10" = some 1 := by kernel_rfl
  rw [hg] at h
  rcases Nat.lt_or_ge 1 w.heap.size with h' | h'
  · exact h'
  · simp [Array.getElem?_eq_none h'] at h
theorem PwTab.at {w w' : World} (h : PwTab w) (hb : Below w.heap.size w w') : PwTab w' := by
  have hl := h.lt
  unfold PwTab Lib.TabIs World.var? at h ⊢
  have hg : Tryd.prog.globalNamed "internal/strconv.uint64pow10" = some 1 := by kernel_rfl
  rw [hg] at h ⊢
  simp only [Option.bind_some] at h ⊢
  rw [hb.block _ hl]; exact h
end Go.Proofs.YtnaphgjkkagpoaaDoor
