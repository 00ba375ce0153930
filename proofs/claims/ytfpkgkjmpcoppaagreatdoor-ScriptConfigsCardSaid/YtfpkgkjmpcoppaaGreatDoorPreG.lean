/- What other texts are built of: Laid2, TabGl, Structs, GlW, RdE, Glyph, Glyph2, GlyP. -/
import Derived.Test.YtfpkgkjmpcoppaaGreatDoorPre1
import Derived.Lib.LaidTab
import Derived.Lib.ItoaNum
import Derived.OpenShut
import Derived.Deep.Slices
import Derived.Deep.Fields
import Derived.ChangeSame
import Derived.Lib.Join
import Derived.OwnWalk
import Derived.Laws.AppendOwnNone
import Derived.Test.YtfpkgkjmpcoppaaGreatDoorPre2
import Derived.Test.YtfpkgkjmpcoppaaGreatDoorShelf
import Derived.Laws.Concat
import Derived.Lib.ItoaLen
import Derived.Maps.AppendAt
/-! A listed package variable: its whole block. -/
namespace Go.Proofs.YtfpkgkjmpcoppaaGreatDoor
open Go.ChangeShapes Go.WideShapes
set_option linter.unusedVariables false
theorem laidVars_block {P : Program} {w : World} : ∀ {l : List (String × DataW Unit)} {ps : List MemPlace}, DataW.LaidVars P w l ps → ∀ {n : String} {d : DataW Unit}, (n, d) ∈ l → ∀ {g : Nat} {t : TypeId}, P.globalNamed n = some g → (P.globals[g]?).map (·.type) = some t →
    (match P.underlying t with | some (.array _ _) => true | some (.struct _) => true | _ => false) = true → ∃ cs t' fr, w.heap[g]? = some (.cells cs t' fr) ∧ cs.size = P.cellsOf t := by
  intro l
  induction l with
  | nil => intro ps _ n d h; cases h
  | cons y r ih =>
    intro ps h n d hm g t hg ht ha
    obtain ⟨n', d'⟩ := y
    obtain ⟨g', t', cs, fuel, p, q, hg', ht', hv, hd, hr, _⟩ := h
    rcases List.mem_cons.1 hm with e | e
    · simp only [Prod.mk.injEq] at e
      obtain ⟨rfl, rfl⟩ := e
      obtain rfl := Option.some.inj (hg.symm.trans hg')
      obtain rfl := Option.some.inj (ht.symm.trans ht')
      have hsz : cs.size = P.cellsOf t := by
        revert ha
        split
        · rename_i n0 e0 hu
          intro _
          obtain ⟨_, _, _, _, hl, _⟩ := DataW.trod_array hu hd
          simpa using hl
        · rename_i fs hu
          intro _
          obtain ⟨_, _, _, _, hl, _⟩ := DataW.trod_struct hu hd
          simpa using hl
        · intro h; cases h
      have hv' := hv
      simp only [World.var?, hg, Option.bind_some] at hv'
      split at hv'
      · rename_i cs0 t0 fr0 hh
        simp only [Option.some.injEq] at hv'
        subst hv'
        exact ⟨_, _, _, hh, hsz⟩
      · cases hv'
    · exact ih hr e hg ht ha

/-- The whole block of a listed variable: as many cells as its type has, and those that the datum says. -/
theorem laid_block {P : Program} {l : List (String × DataW Unit)} {w : World} (h : laidMetH P l w) (hp : (l.all fun x => x.2.handleName?.isNone) = true) (j : Nat) {n : String} {d : DataW Unit} (hm : l[j]? = some (n, d)) {g : Nat} {t : TypeId}
    (hg : P.globalNamed n = some g) (ht : (P.globals[g]?).map (·.type) = some t) (hagg : (match P.underlying t with | some (.array _ _) => true | some (.struct _) => true | _ => false) = true) : ∃ cs t' fr, w.heap[g]? = some (.cells cs t' fr) ∧ cs.size = P.cellsOf t := by
  rw [MakeChecks.laidMetH_plain _ _ _ hp] at h
  obtain ⟨ps, hl, _⟩ := h
  exact laidVars_block hl (List.mem_of_getElem? hm) hg ht hagg
end Go.Proofs.YtfpkgkjmpcoppaaGreatDoor
/-! The tables of glyphs: the kinds' runes; strconv's powers of ten. -/
namespace Go.Proofs.YtfpkgkjmpcoppaaGreatDoor
set_option linter.unusedVariables false
set_option linter.unusedSimpArgs false
set_option maxRecDepth 100000
open Go.RowKit

def glRune0 : Nat → Int
  | 0 => 43
  | 1 => 33
  | 2 => 8594
  | 3 => 8634
  | 4 => 9632
  | 5 => 9790
  | 6 => 8987
  | 7 => 10013
  | _ => 0
/-- What the table "glyph.runes" holds. -/
def GlRunes (w : World) : Prop := ∃ t fr, w.heap[2]? = some (.cells #[.int .i32 43, .int .i32 33, .int .i32 8594, .int .i32 8634, .int .i32 9632, .int .i32 9790, .int .i32 8987, .int .i32 10013] t fr)
theorem arr8 {cs : Array Value} (hs : cs.size = 8) {v0 v1 v2 v3 v4 v5 v6 v7 : Value} (h0 : cs[0]? = some v0) (h1 : cs[1]? = some v1) (h2 : cs[2]? = some v2) (h3 : cs[3]? = some v3) (h4 : cs[4]? = some v4) (h5 : cs[5]? = some v5) (h6 : cs[6]? = some v6) (h7 : cs[7]? = some v7) : cs = #[v0, v1, v2, v3, v4, v5, v6, v7] := by
  apply Array.ext_getElem?
  intro i
  by_cases hi : i < 8
  · match i, hi with
    | 0, _ => exact h0
    | 1, _ => exact h1
    | 2, _ => exact h2
    | 3, _ => exact h3
    | 4, _ => exact h4
    | 5, _ => exact h5
    | 6, _ => exact h6
    | 7, _ => exact h7
  · rw [Array.getElem?_eq_none (by omega), Array.getElem?_eq_none (by simp; omega)]
theorem cell_in {w : World} {g o : Nat} {cs : Array Value} {t : TypeId} {fr : Nat × Nat} {v : Value} (h : w.heap[g]? = some (.cells cs t fr)) (hc : w.cell? ⟨g, o, none⟩ = some v) : cs[o]? = some v := by
  simpa [World.cell?, h] using hc
theorem GlRunes.of {l : List (String × DataW Unit)} {w : World} (h : laidMetH Tryz.prog l w) (hp : (l.all fun x => x.2.handleName?.isNone) = true) (j : Nat) (hm : l[j]? = some ("hostler/glyph.runes", Rows.laid_hostler_glyph_runes)) : GlRunes w := by
  have hg : Tryz.prog.globalNamed "hostler/glyph.runes" = some 2 := by kernel_rfl
  have ht : (Tryz.prog.globals[2]?).map (·.type) = some 252 := by kernel_rfl
  obtain ⟨cs, t, fr, hb, hs⟩ := laid_block h hp j hm hg ht (by kernel_rfl)
  have hs8 : cs.size = 8 := hs.trans (by kernel_rfl)
  have c0 := cell_in hb (laid_at (o := 0) h hp j hm hg ht 8 0 (v := .int .i32 43) (by kernel_rfl))
  have c1 := cell_in hb (laid_at (o := 1) h hp j hm hg ht 8 1 (v := .int .i32 33) (by kernel_rfl))
  have c2 := cell_in hb (laid_at (o := 2) h hp j hm hg ht 8 2 (v := .int .i32 8594) (by kernel_rfl))
  have c3 := cell_in hb (laid_at (o := 3) h hp j hm hg ht 8 3 (v := .int .i32 8634) (by kernel_rfl))
  have c4 := cell_in hb (laid_at (o := 4) h hp j hm hg ht 8 4 (v := .int .i32 9632) (by kernel_rfl))
  have c5 := cell_in hb (laid_at (o := 5) h hp j hm hg ht 8 5 (v := .int .i32 9790) (by kernel_rfl))
  have c6 := cell_in hb (laid_at (o := 6) h hp j hm hg ht 8 6 (v := .int .i32 8987) (by kernel_rfl))
  have c7 := cell_in hb (laid_at (o := 7) h hp j hm hg ht 8 7 (v := .int .i32 10013) (by kernel_rfl))
  exact ⟨t, fr, by rw [hb, arr8 hs8 c0 c1 c2 c3 c4 c5 c6 c7]⟩
theorem GlRunes.lt {w : World} (h : GlRunes w) : 2 < w.heap.size := by
  obtain ⟨t, fr, h⟩ := h
  obtain ⟨hl, _⟩ := Array.getElem?_eq_some_iff.1 h; exact hl
theorem GlRunes.at {w w' : World} (h : GlRunes w) (hb : Below w.heap.size w w') : GlRunes w' := by
  have hl := h.lt
  obtain ⟨t, fr, h⟩ := h
  exact ⟨t, fr, (hb.block _ hl).trans h⟩
theorem GlRunes.cell {w : World} (h : GlRunes w) (k : Nat) (hk : k < 8) : w.cell? ⟨2, k, none⟩ = some (.int .i32 (glRune0 k)) := by
  obtain ⟨t, fr, h⟩ := h
  exact match k, hk with
  | 0, _ => by simp [World.cell?, h, glRune0]
  | 1, _ => by simp [World.cell?, h, glRune0]
  | 2, _ => by simp [World.cell?, h, glRune0]
  | 3, _ => by simp [World.cell?, h, glRune0]
  | 4, _ => by simp [World.cell?, h, glRune0]
  | 5, _ => by simp [World.cell?, h, glRune0]
  | 6, _ => by simp [World.cell?, h, glRune0]
  | 7, _ => by simp [World.cell?, h, glRune0]
/-- What strconv's table of the powers of ten holds. -/
def PwTab (w : World) : Prop := Lib.TabIs Tryz.prog w "internal/strconv.uint64pow10" .u64 Lib.pow10Tab
theorem PwTab.of {l : List (String × DataW Unit)} {w : World} (h : laidMetH Tryz.prog l w) (hp : (l.all fun x => x.2.handleName?.isNone) = true) (j : Nat) (hm : l[j]? = some ("internal/strconv.uint64pow10", Rows.laid_internal_strconv_uint64pow10)) : PwTab w := by
  have hg : Tryz.prog.globalNamed "internal/strconv.uint64pow10" = some 4 := by kernel_rfl
  have ht : (Tryz.prog.globals[4]?).map (·.type) = some 298 := by kernel_rfl
  obtain ⟨cs, t, fr, hb, hs⟩ := laid_block h hp j hm hg ht (by kernel_rfl)
  have hs20 : cs.size = 20 := hs.trans (by kernel_rfl)
  have c0 := cell_in hb (laid_at (o := 0) h hp j hm hg ht 8 0 (v := .int .u64 1) (by kernel_rfl))
  have c1 := cell_in hb (laid_at (o := 1) h hp j hm hg ht 8 1 (v := .int .u64 10) (by kernel_rfl))
  have c2 := cell_in hb (laid_at (o := 2) h hp j hm hg ht 8 2 (v := .int .u64 100) (by kernel_rfl))
  have c3 := cell_in hb (laid_at (o := 3) h hp j hm hg ht 8 3 (v := .int .u64 1000) (by kernel_rfl))
  have c4 := cell_in hb (laid_at (o := 4) h hp j hm hg ht 8 4 (v := .int .u64 10000) (by kernel_rfl))
  have c5 := cell_in hb (laid_at (o := 5) h hp j hm hg ht 8 5 (v := .int .u64 100000) (by kernel_rfl))
  have c6 := cell_in hb (laid_at (o := 6) h hp j hm hg ht 8 6 (v := .int .u64 1000000) (by kernel_rfl))
  have c7 := cell_in hb (laid_at (o := 7) h hp j hm hg ht 8 7 (v := .int .u64 10000000) (by kernel_rfl))
  have c8 := cell_in hb (laid_at (o := 8) h hp j hm hg ht 8 8 (v := .int .u64 100000000) (by kernel_rfl))
  have c9 := cell_in hb (laid_at (o := 9) h hp j hm hg ht 8 9 (v := .int .u64 1000000000) (by kernel_rfl))
  have c10 := cell_in hb (laid_at (o := 10) h hp j hm hg ht 8 10 (v := .int .u64 10000000000) (by kernel_rfl))
  have c11 := cell_in hb (laid_at (o := 11) h hp j hm hg ht 8 11 (v := .int .u64 100000000000) (by kernel_rfl))
  have c12 := cell_in hb (laid_at (o := 12) h hp j hm hg ht 8 12 (v := .int .u64 1000000000000) (by kernel_rfl))
  have c13 := cell_in hb (laid_at (o := 13) h hp j hm hg ht 8 13 (v := .int .u64 10000000000000) (by kernel_rfl))
  have c14 := cell_in hb (laid_at (o := 14) h hp j hm hg ht 8 14 (v := .int .u64 100000000000000) (by kernel_rfl))
  have c15 := cell_in hb (laid_at (o := 15) h hp j hm hg ht 8 15 (v := .int .u64 1000000000000000) (by kernel_rfl))
  have c16 := cell_in hb (laid_at (o := 16) h hp j hm hg ht 8 16 (v := .int .u64 10000000000000000) (by kernel_rfl))
  have c17 := cell_in hb (laid_at (o := 17) h hp j hm hg ht 8 17 (v := .int .u64 100000000000000000) (by kernel_rfl))
  have c18 := cell_in hb (laid_at (o := 18) h hp j hm hg ht 8 18 (v := .int .u64 1000000000000000000) (by kernel_rfl))
  have c19 := cell_in hb (laid_at (o := 19) h hp j hm hg ht 8 19 (v := .int .u64 10000000000000000000) (by kernel_rfl))
  have e : cs = (Lib.pow10Tab.map fun z => Value.int .u64 z).toArray := by
    apply Array.ext_getElem?
    intro i
    by_cases hi : i < 20
    · match i, hi with
      | 0, _ => exact c0.trans (by kernel_rfl)
      | 1, _ => exact c1.trans (by kernel_rfl)
      | 2, _ => exact c2.trans (by kernel_rfl)
      | 3, _ => exact c3.trans (by kernel_rfl)
      | 4, _ => exact c4.trans (by kernel_rfl)
      | 5, _ => exact c5.trans (by kernel_rfl)
      | 6, _ => exact c6.trans (by kernel_rfl)
      | 7, _ => exact c7.trans (by kernel_rfl)
      | 8, _ => exact c8.trans (by kernel_rfl)
      | 9, _ => exact c9.trans (by kernel_rfl)
      | 10, _ => exact c10.trans (by kernel_rfl)
      | 11, _ => exact c11.trans (by kernel_rfl)
      | 12, _ => exact c12.trans (by kernel_rfl)
      | 13, _ => exact c13.trans (by kernel_rfl)
      | 14, _ => exact c14.trans (by kernel_rfl)
      | 15, _ => exact c15.trans (by kernel_rfl)
      | 16, _ => exact c16.trans (by kernel_rfl)
      | 17, _ => exact c17.trans (by kernel_rfl)
      | 18, _ => exact c18.trans (by kernel_rfl)
      | 19, _ => exact c19.trans (by kernel_rfl)
      | n + 20, hn => exact absurd hn (by omega)
    · rw [Array.getElem?_eq_none (by omega), Array.getElem?_eq_none (by simp [Lib.pow10Tab]; omega)]
  unfold PwTab Lib.TabIs World.var?
  rw [hg]
  show (match w.heap[4]? with | some (.cells cs _ _) => some cs | _ => none) = _
  rw [hb, e]
theorem PwTab.lt {w : World} (h : PwTab w) : 4 < w.heap.size := by
  unfold PwTab Lib.TabIs World.var? at h
  have hg : Tryz.prog.globalNamed "internal/strconv.uint64pow10" = some 4 := by kernel_rfl
  rw [hg] at h
  rcases Nat.lt_or_ge 4 w.heap.size with h' | h'
  · exact h'
  · simp [Array.getElem?_eq_none h'] at h
theorem PwTab.at {w w' : World} (h : PwTab w) (hb : Below w.heap.size w w') : PwTab w' := by
  have hl := h.lt
  unfold PwTab Lib.TabIs World.var? at h ⊢
  have hg : Tryz.prog.globalNamed "internal/strconv.uint64pow10" = some 4 := by kernel_rfl
  rw [hg] at h ⊢
  simp only [Option.bind_some] at h ⊢
  rw [hb.block _ hl]; exact h
end Go.Proofs.YtfpkgkjmpcoppaaGreatDoor
/-! A slice of structs of integers that came in: what its cells hold. Nothing of the program. -/
namespace Go.Proofs.YtfpkgkjmpcoppaaGreatDoor
set_option linter.unusedVariables false
open Go.RowKit Go.ChangeShapes Go.WideShapes Go.Deep

/-- WHAT THE WALK IS TOLD OF A SLICE OF STRUCTS OF INTEGERS THAT CAME IN: it is nil; or element i's field j, of the kind ks[j], is the number 'Z i j', at its cell. -/
def IsStructs (ks : List IntKind) (w : World) (a : Option Addr) (len cap : Nat) (Z : Nat → Nat → Int) : Prop :=
  (a = none ∧ len = 0 ∧ cap = 0) ∨
  ∃ x, a = some x ∧ len ≤ cap ∧ cap ≤ maxLen ∧ ∀ i, i < len → ∀ j k, ks[j]? = some k → w.cell? (x.add (i * ks.length + j)) = some (.int k (Z i j)) ∧ (Lit.int k (Z i j)).wf = true

theorem open_structs {H : Type} {enc : TypeId × Value → H} {P : Program} {w : World} {base : Nat} {spare : Nat → Bool} {held : Bool} {t e : TypeId} {fs : Array Field} {fuel : Nat} {x : DataW H × List MemPlace}
    {a : Option Addr} {len cap : Nat} (ks : List IntKind) (ht : P.underlying t = some (.slice e)) (he : P.underlying e = some (.struct fs)) (hC : P.cellsOf e = ks.length)
    (hk : ∀ (j : Nat) (k : IntKind), ks[j]? = some k → ∃ f : Field, fs[j]? = some f ∧ f.offset = j ∧ P.underlying f.type = some (.int k) ∧ P.cellsOf f.type = 1)
    (h : DataW.trod enc P w base spare held fuel t [.slice a len cap] = some x) : ∃ Z, IsStructs ks w a len cap Z := by
  rcases open_slice ht h with ⟨hcs, _⟩ | ⟨x', l, c, m, n, D, Pl, hcs, hb, hl, hm, hmm, hx, hi⟩
  · simp at hcs
    obtain ⟨rfl, rfl, rfl⟩ := hcs
    exact ⟨fun _ _ => 0, .inl ⟨rfl, rfl, rfl⟩⟩
  · simp at hcs
    obtain ⟨rfl, rfl, rfl⟩ := hcs
    refine ⟨fun i j => match w.cell? (x'.add (i * ks.length + j)) with | some (.int _ q) => q | _ => 0, .inr ⟨x', rfl, hl, hm, fun i hil j k hj => ?_⟩⟩
    have him : i < m := by rw [hmm]; split <;> omega
    obtain ⟨cs', hc, ht'⟩ := hi i him
    rw [hC] at hc
    obtain ⟨xs, n', _, _, hlen, hxl, hf⟩ := DataW.trod_struct he ht'
    obtain ⟨_, hcl, hat⟩ := World.cells?_some hc
    obtain ⟨f, hf1, hf2, hf3, hf4⟩ := hk j k hj
    have hjl : j < ks.length := (List.getElem?_eq_some_iff.1 hj).1
    have hjf : j < fs.size := (Array.getElem?_eq_some_iff.1 hf1).1
    have h1 := hf j f hf1
    rw [hf2, hf4] at h1
    have hcell := hat j hjl
    have hjc : j < cs'.length := by omega
    have hone : (cs'.drop j).take 1 = [cs'[j]] := by rw [List.drop_eq_getElem_cons hjc]; rfl
    rw [hone, List.getElem?_eq_getElem (by omega : j < xs.length)] at h1
    obtain ⟨q, hq, _, hwf⟩ := DataW.trod_int hf3 h1
    simp only [List.cons.injEq, and_true] at hq
    rw [add_add, List.getElem?_eq_getElem hjc, hq] at hcell
    simp only [hcell]
    exact ⟨trivial, hwf⟩

/-- Opened: the slice is empty, or its cells are there, in every later world too. -/
theorem IsStructs.open {ks : List IntKind} {w : World} {a : Option Addr} {len cap : Nat} {Z : Nat → Nat → Int} (h : IsStructs ks w a len cap Z) (h0 : 0 < len) (hk : 0 < ks.length) :
    ∃ bx off, a = some ⟨bx, off, none⟩ ∧ ∀ w', Below w.heap.size w w' → ∀ i, i < len → ∀ j k, ks[j]? = some k → w'.cell? ⟨bx, off + (i * ks.length + j), none⟩ = some (.int k (Z i j)) ∧ (Lit.int k (Z i j)).wf = true := by
  rcases h with ⟨_, h, _⟩ | ⟨⟨bx, off, spot⟩, rfl, hl, hm, hc⟩
  · omega
  · obtain ⟨k0, hk0⟩ : ∃ k, ks[0]? = some k := ⟨ks[0], List.getElem?_eq_getElem hk⟩
    have hc0 := (hc 0 h0 0 k0 hk0).1
    have hspot : spot = none := by simpa [Addr.add] using World.cell?_spot hc0
    subst hspot
    refine ⟨bx, off, rfl, fun w' hb i hi j k hj => ?_⟩
    obtain ⟨h1, h2⟩ := hc i hi j k hj
    refine ⟨?_, h2⟩
    have he : (⟨bx, off, none⟩ : Addr).add (i * ks.length + j) = ⟨bx, off + (i * ks.length + j), none⟩ := by
      by_cases hj0 : i * ks.length + j = 0
      · rw [hj0]; simp [Addr.add]
      · simp only [Addr.add, if_neg hj0]
    rw [he] at h1
    have hlt : bx < w.heap.size := by
      rcases Nat.lt_or_ge bx w.heap.size with h | h
      · exact h
      · simp [World.cell?, Array.getElem?_eq_none h] at h1
    rw [hb.cell (p := ⟨bx, off + (i * ks.length + j), none⟩) hlt]
    exact h1
end Go.Proofs.YtfpkgkjmpcoppaaGreatDoor
/-! Words of events and rows of words: unlike events have unlike words; program-free. -/
namespace Go.Proofs.YtfpkgkjmpcoppaaGreatDoor.Gw
set_option linter.unusedVariables false
set_option linter.unusedSimpArgs false
open Go.Lib
/-- Two texts with one beginning: both begin with signs that are P, and go on with one that isn't. -/
theorem span_inj (P : UInt8 → Prop) : ∀ {a a' r r' : List UInt8}, (∀ c ∈ a, P c) → (∀ c ∈ a', P c) → (∀ c, r.head? = some c → ¬ P c) → (∀ c, r'.head? = some c → ¬ P c) → a ++ r = a' ++ r' → a = a' ∧ r = r'
  | [], [], r, r', _, _, _, _, h => ⟨rfl, by simpa using h⟩
  | [], c :: a', r, r', _, h2, h3, _, h => by
    simp only [List.nil_append, List.cons_append] at h
    exact absurd (h2 c (by simp)) (h3 c (by simp [h]))
  | c :: a, [], r, r', h1, _, _, h4, h => by
    simp only [List.nil_append, List.cons_append] at h
    exact absurd (h1 c (by simp)) (h4 c (by simp [← h]))
  | c :: a, c' :: a', r, r', h1, h2, h3, h4, h => by
    simp only [List.cons_append, List.cons.injEq] at h
    obtain ⟨e1, e2⟩ := span_inj P (fun c hc => h1 c (by simp [hc])) (fun c hc => h2 c (by simp [hc])) h3 h4 h.2
    exact ⟨by rw [h.1, e1], e2⟩
def Dig (c : UInt8) : Prop := 48 ≤ c.toNat ∧ c.toNat ≤ 57
theorem dig_of (d : Nat) (h : d < 10) : (UInt8.ofNat (48 + d)).toNat = 48 + d := by
  simp only [UInt8.toNat_ofNat']
  omega
theorem dec_dig : ∀ (u : Nat), ∀ c ∈ decDigits u, Dig c := by
  intro u
  induction u using Nat.strongRecOn with
  | _ u ih =>
    intro c hc
    rw [decDigits] at hc
    by_cases h : u < 10
    · rw [dif_pos h] at hc
      simp only [List.mem_singleton] at hc
      subst hc
      have := dig_of u h
      unfold Dig
      omega
    · rw [dif_neg h] at hc
      rcases List.mem_append.1 hc with hc | hc
      · exact ih _ (by omega) c hc
      · simp only [List.mem_singleton] at hc
        subst hc
        have := dig_of (u % 10) (by omega)
        unfold Dig
        omega
theorem dec_ne (u : Nat) : decDigits u ≠ [] := by
  rw [decDigits]
  split <;> simp
def val (l : List UInt8) : Nat := l.foldl (fun n c => 10 * n + (c.toNat - 48)) 0
theorem val_snoc (l : List UInt8) (c : UInt8) : val (l ++ [c]) = 10 * val l + (c.toNat - 48) := by simp [val]
theorem val_dec : ∀ (u : Nat), val (decDigits u) = u := by
  intro u
  induction u using Nat.strongRecOn with
  | _ u ih =>
    rw [decDigits]
    by_cases h : u < 10
    · rw [dif_pos h]
      have := dig_of u h
      simp only [val, List.foldl_cons, List.foldl_nil]
      omega
    · rw [dif_neg h, val_snoc, ih _ (by omega), dig_of _ (by omega)]
      omega
theorem dec_inj {u v : Nat} (h : decDigits u = decDigits v) : u = v := by
  rw [← val_dec u, h, val_dec]
theorem itoa_pos {n : Int} (h : 0 ≤ n) : itoa n = decDigits n.toNat := by unfold itoa; rw [if_neg (by omega)]
theorem itoa_dig {n : Int} (h : 0 ≤ n) : ∀ c ∈ itoa n, Dig c := by rw [itoa_pos h]; exact dec_dig _
theorem itoa_ne (n : Int) : itoa n ≠ [] := by unfold itoa; split; simp; exact dec_ne _
theorem itoa_inj {n m : Int} (h : itoa n = itoa m) : n = m := by
  unfold itoa at h
  split at h <;> split at h
  · simp only [List.cons.injEq, true_and] at h
    have := dec_inj h
    omega
  · have := dec_dig m.toNat 45 (by rw [← h]; simp)
    simp [Dig] at this
  · have := dec_dig n.toNat 45 (by rw [h]; simp)
    simp [Dig] at this
  · have := dec_inj h
    omega
theorem itoa_sgn (n : Int) : ∀ c ∈ itoa n, Dig c ∨ c = 45 := by
  intro c hc
  unfold itoa at hc
  split at hc
  · rcases List.mem_cons.1 hc with h | h
    · exact .inr h
    · exact .inl (dec_dig _ c h)
  · exact .inl (dec_dig _ c hc)
/-- The parts of a word. -/
def opt (b n z : Int) (s : UInt8) : List UInt8 := if n = z then [] else s :: itoa n
def gl : Nat → List UInt8
  | 0 => [43]
  | 1 => [33]
  | 2 => [226, 134, 146]
  | 3 => [226, 134, 186]
  | 4 => [226, 150, 160]
  | 5 => [226, 152, 190]
  | 6 => [226, 140, 155]
  | 7 => [226, 156, 157]
  | _ => []
def om (m : Int) : List UInt8 := if m = -1 then [] else 109 :: itoa m
def op (p : Int) : List UInt8 := if p = -1 then [] else 112 :: itoa p
def ov (v : Int) : List UInt8 := if v = 0 then [] else 61 :: itoa v
def wl (k : Nat) (g m p v : Int) : List UInt8 := gl k ++ (itoa g ++ (om m ++ (op p ++ ov v)))
theorem om_head {m : Int} : ∀ c, (om m).head? = some c → c = 109 := by unfold om; split <;> simp
theorem op_head {m : Int} : ∀ c, (op m).head? = some c → c = 112 := by unfold op; split <;> simp
theorem ov_head {m : Int} : ∀ c, (ov m).head? = some c → c = 61 := by unfold ov; split <;> simp
theorem head_app {a b : List UInt8} {c : UInt8} (h : (a ++ b).head? = some c) : a.head? = some c ∨ b.head? = some c := by
  cases a with
  | nil => exact .inr (by simpa using h)
  | cons x a => exact .inl (by simpa using h)
theorem gl_ne {k : Nat} (h : k < 8) : gl k ≠ [] :=
  match k, h with
  | 0, _ | 1, _ | 2, _ | 3, _ | 4, _ | 5, _ | 6, _ | 7, _ => by simp [gl]
theorem gl_inj {k j : Nat} {a b : List UInt8} (hk : k < 8) (hj : j < 8) (ha : ∀ c, a.head? = some c → Dig c) (hb : ∀ c, b.head? = some c → Dig c) (h : gl k ++ a = gl j ++ b) : k = j ∧ a = b := by
  have : ∀ i : Nat, i < 8 → i = 0 ∨ i = 1 ∨ i = 2 ∨ i = 3 ∨ i = 4 ∨ i = 5 ∨ i = 6 ∨ i = 7 := by omega
  rcases this k hk with rfl | rfl | rfl | rfl | rfl | rfl | rfl | rfl <;> rcases this j hj with rfl | rfl | rfl | rfl | rfl | rfl | rfl | rfl <;> simp [gl] at h ⊢ <;> exact h
theorem dig_head {g : Int} {r : List UInt8} (hg : 0 ≤ g) : ∀ c, (itoa g ++ r).head? = some c → Dig c := by
  intro c hc
  cases e : itoa g with
  | nil => exact absurd e (itoa_ne g)
  | cons x l =>
    rw [e] at hc
    simp only [List.cons_append, List.head?_cons, Option.some.injEq] at hc
    subst hc
    exact itoa_dig hg _ (by rw [e]; simp)
theorem nd109 : ¬ Dig 109 := by simp [Dig]
theorem nd112 : ¬ Dig 112 := by simp [Dig]
theorem nd61 : ¬ Dig 61 := by simp [Dig]
theorem ov_inj {v v' : Int} (h : ov v = ov v') : v = v' := by
  unfold ov at h
  split at h <;> split at h <;> simp at h
  · omega
  · exact itoa_inj h
theorem op_inj {p p' v v' : Int} (hp : -1 ≤ p) (hp' : -1 ≤ p') (h : op p ++ ov v = op p' ++ ov v') : p = p' ∧ v = v' := by
  unfold op at h
  split at h <;> split at h
  · exact ⟨by omega, ov_inj (by simpa using h)⟩
  · have := ov_head 112 (by rw [show ov v = _ by simpa using h]; simp)
    simp at this
  · have := ov_head 112 (by rw [show ov v' = _ by simpa using h.symm]; simp)
    simp at this
  · simp only [List.cons_append, List.cons.injEq, true_and] at h
    obtain ⟨e1, e2⟩ := span_inj Dig (itoa_dig (by omega)) (itoa_dig (by omega)) (fun c hc => by rw [ov_head c hc]; exact nd61) (fun c hc => by rw [ov_head c hc]; exact nd61) h
    exact ⟨itoa_inj e1, ov_inj e2⟩
theorem opv_head {p v : Int} : ∀ c, (op p ++ ov v).head? = some c → c = 112 ∨ c = 61 := fun c hc => (head_app hc).imp (op_head c) (ov_head c)
theorem opv_nd {p v : Int} : ∀ c, (op p ++ ov v).head? = some c → ¬ Dig c := fun c hc => by
  rcases opv_head c hc with rfl | rfl
  · exact nd112
  · exact nd61
theorem om_inj {m m' p p' v v' : Int} (hm : -1 ≤ m) (hm' : -1 ≤ m') (hp : -1 ≤ p) (hp' : -1 ≤ p') (h : om m ++ (op p ++ ov v) = om m' ++ (op p' ++ ov v')) : m = m' ∧ p = p' ∧ v = v' := by
  unfold om at h
  split at h <;> split at h
  · exact ⟨by omega, op_inj hp hp' (by simpa using h)⟩
  · have := opv_head 109 (by rw [show op p ++ ov v = _ by simpa using h]; simp)
    simp at this
  · have := opv_head 109 (by rw [show op p' ++ ov v' = _ by simpa using h.symm]; simp)
    simp at this
  · simp only [List.cons_append, List.cons.injEq, true_and] at h
    obtain ⟨e1, e2⟩ := span_inj Dig (itoa_dig (by omega)) (itoa_dig (by omega)) opv_nd opv_nd h
    exact ⟨itoa_inj e1, op_inj hp hp' e2⟩
theorem ompv_nd {m p v : Int} : ∀ c, (om m ++ (op p ++ ov v)).head? = some c → ¬ Dig c := fun c hc => by
  rcases head_app hc with h | h
  · rw [om_head c h]; exact nd109
  · exact opv_nd c h
theorem wl_inj {k k' : Nat} {g g' m m' p p' v v' : Int} (hk : k < 8) (hk' : k' < 8) (hg : 0 ≤ g) (hg' : 0 ≤ g') (hm : -1 ≤ m) (hm' : -1 ≤ m') (hp : -1 ≤ p) (hp' : -1 ≤ p') (h : wl k g m p v = wl k' g' m' p' v') : k = k' ∧ g = g' ∧ m = m' ∧ p = p' ∧ v = v' := by
  obtain ⟨e1, e2⟩ := gl_inj hk hk' (dig_head hg) (dig_head hg') h
  obtain ⟨e3, e4⟩ := span_inj Dig (itoa_dig hg) (itoa_dig hg') ompv_nd ompv_nd e2
  exact ⟨e1, itoa_inj e3, om_inj hm hm' hp hp' e4⟩
theorem wl_ne {k : Nat} {g m p v : Int} (hk : k < 8) : wl k g m p v ≠ [] := by
  unfold wl
  intro h
  exact gl_ne hk (List.append_eq_nil_iff.1 h).1
theorem gl_nb {k : Nat} (hk : k < 8) : ∀ c ∈ gl k, c ≠ 32 :=
  match k, hk with
  | 0, _ | 1, _ | 2, _ | 3, _ | 4, _ | 5, _ | 6, _ | 7, _ => by simp [gl]
theorem itoa_nb (n : Int) : ∀ c ∈ itoa n, c ≠ 32 := by
  intro c hc e
  subst e
  rcases itoa_sgn n 32 hc with h | h
  · simp [Dig] at h
  · simp at h
theorem wl_nb {k : Nat} {g m p v : Int} (hk : k < 8) : ∀ c ∈ wl k g m p v, c ≠ 32 := by
  intro c hc
  unfold wl at hc
  rcases List.mem_append.1 hc with h | h
  · exact gl_nb hk c h
  rcases List.mem_append.1 h with h | h
  · exact itoa_nb _ c h
  rcases List.mem_append.1 h with h | h
  · unfold om at h
    split at h
    · simp at h
    · rcases List.mem_cons.1 h with rfl | h
      · decide
      · exact itoa_nb _ c h
  rcases List.mem_append.1 h with h | h
  · unfold op at h
    split at h
    · simp at h
    · rcases List.mem_cons.1 h with rfl | h
      · decide
      · exact itoa_nb _ c h
  · unfold ov at h
    split at h
    · simp at h
    · rcases List.mem_cons.1 h with rfl | h
      · decide
      · exact itoa_nb _ c h
/-! Rows of words, blanks between them -/
def Wo (x : List UInt8) : Prop := x ≠ [] ∧ ∀ c ∈ x, c ≠ 32
theorem tail_head (r : List (List UInt8)) : ∀ c, (joinTail [32] r).head? = some c → ¬ c ≠ 32 := by
  intro c hc
  cases r with
  | nil => simp [joinTail] at hc
  | cons y r => simp [joinTail] at hc; simp [hc]
theorem tail_cons (y : List UInt8) (r : List (List UInt8)) : joinTail [32] (y :: r) = 32 :: (y ++ joinTail [32] r) := by simp [joinTail]
theorem tail_inj : ∀ {r s : List (List UInt8)}, (∀ x ∈ r, Wo x) → (∀ x ∈ s, Wo x) → joinTail [32] r = joinTail [32] s → r = s
  | [], [], _, _, _ => rfl
  | [], y :: s, _, _, h => by rw [tail_cons] at h; simp [joinTail] at h
  | y :: r, [], _, _, h => by rw [tail_cons] at h; simp [joinTail] at h
  | y :: r, z :: s, h1, h2, h => by
    rw [tail_cons, tail_cons] at h
    obtain ⟨e1, e2⟩ := span_inj (· ≠ 32) (h1 y (by simp)).2 (h2 z (by simp)).2 (tail_head r) (tail_head s) (by simpa using h)
    rw [e1, tail_inj (fun x hx => h1 x (by simp [hx])) (fun x hx => h2 x (by simp [hx])) e2]
theorem join_inj : ∀ {r s : List (List UInt8)}, (∀ x ∈ r, Wo x) → (∀ x ∈ s, Wo x) → join r [32] = join s [32] → r = s
  | [], [], _, _, _ => rfl
  | [], y :: s, _, h2, h => by
    rw [join_nil, join_cons] at h
    exact absurd (List.append_eq_nil_iff.1 h.symm).1 (h2 y (by simp)).1
  | y :: r, [], h1, _, h => by
    rw [join_nil, join_cons] at h
    exact absurd (List.append_eq_nil_iff.1 h).1 (h1 y (by simp)).1
  | y :: r, z :: s, h1, h2, h => by
    rw [join_cons, join_cons] at h
    obtain ⟨e1, e2⟩ := span_inj (· ≠ 32) (h1 y (by simp)).2 (h2 z (by simp)).2 (tail_head r) (tail_head s) h
    rw [e1, tail_inj (fun x hx => h1 x (by simp [hx])) (fun x hx => h2 x (by simp [hx])) e2]
theorem join_two {r s : List (List UInt8)} (hr : r ≠ []) (hs : s ≠ []) : join (r ++ s) [32] = join r [32] ++ (32 :: join s [32]) := by
  cases r with
  | nil => exact absurd rfl hr
  | cons y r =>
    cases s with
    | nil => exact absurd rfl hs
    | cons z s =>
      rw [List.cons_append, join_cons, join_cons, join_cons]
      simp [joinTail]
theorem join_nil_iff {r : List (List UInt8)} (h : ∀ x ∈ r, Wo x) : join r [32] = [] ↔ r = [] := by
  constructor
  · intro e
    exact join_inj h (s := []) (by simp) (by rw [e, join_nil])
  · rintro rfl; rfl
end Go.Proofs.YtfpkgkjmpcoppaaGreatDoor.Gw
/-! Slices of events: what one reads as. -/
namespace Go.Proofs.YtfpkgkjmpcoppaaGreatDoor
set_option linter.unusedVariables false
set_option linter.unusedSimpArgs false
set_option maxRecDepth 20000
open Go.RowKit

/-- An event: its kind, goroutine, machine, processor, value. -/
abbrev Ev := Int × Int × Int × Int × Int
def evc (e : Ev) : List Value := [.int .i64 e.1, .int .i64 e.2.1, .int .i64 e.2.2.1, .int .i64 e.2.2.2.1, .int .i64 e.2.2.2.2]
/-- The cells of a row of events. -/
def fe (es : List Ev) : List Value := es.flatMap evc
theorem fe_cons (e : Ev) (es : List Ev) : fe (e :: es) = .int .i64 e.1 :: .int .i64 e.2.1 :: .int .i64 e.2.2.1 :: .int .i64 e.2.2.2.1 :: .int .i64 e.2.2.2.2 :: fe es := by simp [fe, evc]
theorem fe_len : ∀ es : List Ev, (fe es).length = es.length * 5
  | [] => rfl
  | e :: es => by rw [fe_cons]; simp [fe_len es]; omega
theorem fe_app (xs ys : List Ev) : fe (xs ++ ys) = fe xs ++ fe ys := by simp [fe]
def evAt (es : List Ev) (i : Nat) : Ev := es.getD i (0, 0, 0, 0, 0)
theorem fe_get : ∀ (es : List Ev) (i : Nat), i < es.length →
    (fe es)[i * 5]? = some (.int .i64 (evAt es i).1) ∧ (fe es)[i * 5 + 1]? = some (.int .i64 (evAt es i).2.1) ∧ (fe es)[i * 5 + 2]? = some (.int .i64 (evAt es i).2.2.1) ∧ (fe es)[i * 5 + 3]? = some (.int .i64 (evAt es i).2.2.2.1) ∧ (fe es)[i * 5 + 4]? = some (.int .i64 (evAt es i).2.2.2.2)
  | [], i, h => by simp at h
  | e :: es, 0, _ => by rw [fe_cons]; simp [evAt]
  | e :: es, i + 1, h => by
    have := fe_get es i (by simpa using h)
    rw [fe_cons]
    simp only [show (i + 1) * 5 = i * 5 + 1 + 1 + 1 + 1 + 1 by omega, List.getElem?_cons_succ]
    simpa [evAt] using this
theorem fe_at {es : List Ev} {j : Nat} {u : Value} (h : (fe es)[j]? = some u) : ∃ i r, i < es.length ∧ r < 5 ∧ j = i * 5 + r ∧ (evc (evAt es i))[r]? = some u := by
  have hj : j < es.length * 5 := by rw [← fe_len]; exact (List.getElem?_eq_some_iff.1 h).1
  obtain ⟨h0, h1, h2, h3, h4⟩ := fe_get es (j / 5) (by omega)
  have hr : j % 5 = 0 ∨ j % 5 = 1 ∨ j % 5 = 2 ∨ j % 5 = 3 ∨ j % 5 = 4 := by omega
  rcases hr with e | e | e | e | e
  · rw [show j = j / 5 * 5 by omega, h0] at h
    exact ⟨j / 5, 0, by omega, by omega, by omega, h⟩
  · rw [show j = j / 5 * 5 + 1 by omega, h1] at h
    exact ⟨j / 5, 1, by omega, by omega, by omega, h⟩
  · rw [show j = j / 5 * 5 + 2 by omega, h2] at h
    exact ⟨j / 5, 2, by omega, by omega, by omega, h⟩
  · rw [show j = j / 5 * 5 + 3 by omega, h3] at h
    exact ⟨j / 5, 3, by omega, by omega, by omega, h⟩
  · rw [show j = j / 5 * 5 + 4 by omega, h4] at h
    exact ⟨j / 5, 4, by omega, by omega, by omega, h⟩
theorem fe_ones (es : List Ev) : ∀ u ∈ fe es, u.oneCell' = true := by
  intro u hu
  obtain ⟨e, _, he⟩ := List.mem_flatMap.1 hu
  simp [evc] at he
  rcases he with rfl | rfl | rfl | rfl | rfl <;> rfl
theorem ev_take {es : List Ev} {k : Nat} (h : k < es.length) : es.take (k + 1) = es.take k ++ [evAt es k] := by
  rw [List.take_add_one, List.getElem?_eq_getElem h]
  simp [evAt, List.getElem?_eq_getElem h]
theorem cell_ltE {w : World} {a : Addr} {v : Value} (h : w.cell? a = some v) : a.block < w.heap.size := by
  rcases Nat.lt_or_ge a.block w.heap.size with h' | h'
  · exact h'
  · simp [World.cell?, Array.getElem?_eq_none h'] at h
/-- A slice that reads as events (five cells each), in memory that is there. -/
def RdE (w : World) (v : Value) (es : List Ev) : Prop :=
  ∃ a c, v = .slice a es.length c ∧ (es.length ≤ c ∧ c ≤ maxLen ∧ ((a = none ∧ c = 0) ∨ ∃ ad, a = some ad)) ∧ (0 < es.length → ∃ g off, a = some ⟨g, off, none⟩ ∧ g < w.heap.size ∧ ∀ i, i < es.length →
    w.cell? ⟨g, off + i * 5, none⟩ = some (.int .i64 (evAt es i).1) ∧ w.cell? ⟨g, off + i * 5 + 1, none⟩ = some (.int .i64 (evAt es i).2.1) ∧ w.cell? ⟨g, off + i * 5 + 2, none⟩ = some (.int .i64 (evAt es i).2.2.1) ∧ w.cell? ⟨g, off + i * 5 + 3, none⟩ = some (.int .i64 (evAt es i).2.2.2.1) ∧ w.cell? ⟨g, off + i * 5 + 4, none⟩ = some (.int .i64 (evAt es i).2.2.2.2))
theorem RdE.below {w w' : World} {v : Value} {es : List Ev} (h : RdE w v es) (hb : Below w.heap.size w w') : RdE w' v es := by
  obtain ⟨a, c, h1, h2, h4⟩ := h
  refine ⟨a, c, h1, h2, fun h0 => ?_⟩
  obtain ⟨g, off, e, hg, hc⟩ := h4 h0
  have hs := hb.size
  refine ⟨g, off, e, by omega, fun i hi => ?_⟩
  obtain ⟨q0, q1, q2, q3, q4⟩ := hc i hi
  exact ⟨(hb.cell (p := ⟨g, _, none⟩) hg).trans q0, (hb.cell (p := ⟨g, _, none⟩) hg).trans q1, (hb.cell (p := ⟨g, _, none⟩) hg).trans q2, (hb.cell (p := ⟨g, _, none⟩) hg).trans q3, (hb.cell (p := ⟨g, _, none⟩) hg).trans q4⟩
theorem own_rdE {w : World} {base : Nat} {t : TypeId} {v : Value} {es : List Ev} (h : w.ownsRow base t 5 v es.length (fe es)) : RdE w v es := by
  obtain ⟨h0, ⟨h1, h2⟩ | ⟨q, cap, cur, h1, h2, h3, h4, h5, h6, h7⟩⟩ := id h
  · exact ⟨none, 0, by rw [h1, h2], ⟨by omega, by simp, .inl ⟨rfl, rfl⟩⟩, fun h => by omega⟩
  · refine ⟨_, cap, h1, ⟨h4, h5, .inr ⟨_, rfl⟩⟩, fun hn => ⟨q, 0, rfl, by obtain ⟨hl, _⟩ := Array.getElem?_eq_some_iff.1 h3; exact hl, fun i hi => ?_⟩⟩
    subst h1
    obtain ⟨k0, k1, k2, k3, k4⟩ := fe_get es i hi
    have k := fun j => h.cellAt (g := q) (cap := cap) j
    have hl := fe_len es
    simp only [Nat.zero_add]
    exact ⟨(k _ (by omega)).trans k0, (k _ (by omega)).trans k1, (k _ (by omega)).trans k2, (k _ (by omega)).trans k3, (k _ (by omega)).trans k4⟩
theorem RdE.news {w : World} {ad : Addr} {n c : Nat} {es : List Ev} (h : RdE w (.slice (some ad) n c) es) {w' : World} (hb : Below w.heap.size w w') : ∀ j u, (fe es)[j]? = some u → w'.cell? (ad.add j) = some u := by
  intro j u hj
  obtain ⟨i, r, h1, h2, rfl, h4⟩ := fe_at hj
  obtain ⟨a, c', e, _, hh⟩ := h.below hb
  simp only [Value.slice.injEq] at e
  obtain ⟨rfl, rfl, rfl⟩ := e
  obtain ⟨g, off, e, hg, hc⟩ := hh (by omega)
  simp only [Option.some.injEq] at e
  subst e
  have he : (⟨g, off, none⟩ : Addr).add (i * 5 + r) = ⟨g, off + i * 5 + r, none⟩ := by
    rw [Addr.add_lit, Nat.add_assoc]
  rw [he]
  obtain ⟨c0, c1, c2, c3, c4⟩ := hc i h1
  match r, h2, h4 with
  | 0, _, h4 => simp [evc] at h4; subst h4; exact c0
  | 1, _, h4 => simp [evc] at h4; subst h4; exact c1
  | 2, _, h4 => simp [evc] at h4; subst h4; exact c2
  | 3, _, h4 => simp [evc] at h4; subst h4; exact c3
  | 4, _, h4 => simp [evc] at h4; subst h4; exact c4
/-- Events that came in. -/
theorem IsStructs.rdE {w : World} {a : Option Addr} {len cap : Nat} {Z : Nat → Nat → Int} (h : IsStructs [.i64, .i64, .i64, .i64, .i64] w a len cap Z) :
    ∃ es : List Ev, es.length = len ∧ ∀ w', Below w.heap.size w w' → RdE w' (.slice a len cap) es := by
  refine ⟨(List.range len).map fun k => (Z k 0, Z k 1, Z k 2, Z k 3, Z k 4), by simp, fun w' hb => ?_⟩
  have hl : ((List.range len).map fun k => (Z k 0, Z k 1, Z k 2, Z k 3, Z k 4)).length = len := by simp
  have ho := h.open
  have hsz := hb.size
  rcases h with ⟨rfl, rfl, rfl⟩ | ⟨⟨bx, off, spot⟩, rfl, h1, h2, h3⟩
  · exact ⟨none, 0, by simp, ⟨by simp, by unfold maxLen; omega, .inl ⟨rfl, rfl⟩⟩, fun h => absurd h (by simp)⟩
  · refine ⟨_, _, by rw [hl], ⟨by omega, h2, .inr ⟨_, rfl⟩⟩, fun hpos => ?_⟩
    rw [hl] at hpos
    obtain ⟨bx', off', he, hc⟩ := ho hpos (by simp)
    have hlt : bx' < w.heap.size := cell_ltE (hc w (Below.refl _ _) 0 hpos 0 .i64 rfl).1
    refine ⟨bx', off', he, by omega, fun i hi => ?_⟩
    rw [hl] at hi
    have hz : evAt ((List.range len).map fun k => (Z k 0, Z k 1, Z k 2, Z k 3, Z k 4)) i = (Z i 0, Z i 1, Z i 2, Z i 3, Z i 4) := by
      simp [evAt, List.getElem?_range hi]
    rw [hz]
    have q0 := (hc w' hb i hi 0 .i64 rfl).1
    have q1 := (hc w' hb i hi 1 .i64 rfl).1
    have q2 := (hc w' hb i hi 2 .i64 rfl).1
    have q3 := (hc w' hb i hi 3 .i64 rfl).1
    have q4 := (hc w' hb i hi 4 .i64 rfl).1
    simp only [List.length_cons, List.length_nil, Nat.reduceAdd, Nat.add_zero, ← Nat.add_assoc] at q0 q1 q2 q3 q4
    exact ⟨q0, q1, q2, q3, q4⟩
end Go.Proofs.YtfpkgkjmpcoppaaGreatDoor
/-! Glyphs: a kind's rune, a rune's kind; the chapter's example. -/
namespace Go.Proofs.YtfpkgkjmpcoppaaGreatDoor
set_option linter.unusedVariables false
set_option linter.unusedSimpArgs false
open Go.RowKit

/-- A kind's rune as text. -/
def glText : Nat → ByteArray
  | 0 => { data := #[43] }
  | 1 => { data := #[33] }
  | 2 => { data := #[226, 134, 146] }
  | 3 => { data := #[226, 134, 186] }
  | 4 => { data := #[226, 150, 160] }
  | 5 => { data := #[226, 152, 190] }
  | 6 => { data := #[226, 140, 155] }
  | 7 => { data := #[226, 156, 157] }
  | _ => { data := #[] }
theorem rune_in (k : Nat) (hk : k < 8) (w : World) (T : GlRunes w) : Calls Tryz.prog 128 #[.int .i64 k] w fun e w' => e = .returned (.tuple #[.int .i32 (glRune0 k), .bool true]) ∧ w' = w := by
  have c := T.cell k hk
  have hkI : (k : Int) < 8 := by omega
  have hk0 : ¬ (k : Int) < 0 := by omega
  clear T
  go_enter Tryz.func128, Tryz.ntmps128
  go_wp2
  exact bodyPost_ret (v := .tuple #[.int .i32 (glRune0 k), .bool true]) (by simp [results, Tryz.results128, go_sem]) rfl ⟨rfl, rfl⟩
theorem rune_out (k : Int) (hk : k < 0 ∨ 7 < k) (w : World) : Calls Tryz.prog 128 #[.int .i64 k] w fun e w' => e = .returned (.tuple #[.int .i32 0, .bool false]) ∧ w' = w := by
  go_enter Tryz.func128, Tryz.ntmps128
  rcases hk with hk | hk
  · go_wp2
    exact bodyPost_ret (v := .tuple #[.int .i32 0, .bool false]) (by simp [results, Tryz.results128, go_sem]) rfl ⟨rfl, rfl⟩
  · have hk2 : ¬ k < 0 := by omega
    have hk3 : 8 ≤ k := by omega
    go_wp2
    exact bodyPost_ret (v := .tuple #[.int .i32 0, .bool false]) (by simp [results, Tryz.results128, go_sem]) rfl ⟨rfl, rfl⟩
theorem below_grow (w : World) (os : Array Obj) : Below w.heap.size w (Sort.grow w os) :=
  ⟨rfl, rfl, rfl, by simp [Sort.grow], fun k hk => by simp [Sort.grow, Array.getElem?_append, hk]⟩
theorem below_grown {w w' : World} (h : ∃ k os, w' = Sort.grow (w.drewN k) os) : Below w.heap.size w w' := by
  obtain ⟨k, os, rfl⟩ := h
  exact (Quiet.below ⟨k, rfl⟩ w.heap.size).trans (below_grow (w.drewN k) os)
/-- A number's text. -/
def itoaB (n : Int) : ByteArray := ⟨(Lib.itoa n).toArray⟩
theorem itoa_any (n : Int) (h0 : -9223372036854775808 ≤ n) (h1 : n ≤ 9223372036854775807) (w : World) (T : PwTab w) :
    Calls Tryz.prog 130 #[.int .i64 n] w fun e w' => e = .returned (.string (itoaB n)) ∧ Below w.heap.size w w' :=
  (Any.strconv_Itoa Tryz.laysItoa n h0 h1 w T).mono fun _ _ ⟨e, h⟩ => ⟨e, below_grown h⟩
theorem fmt10 (n : Int) (h0 : -9223372036854775808 ≤ n) (h1 : n ≤ 9223372036854775807) (w : World) (T : PwTab w) :
    Calls Tryz.prog 131 #[.int .i64 n, .int .i64 10] w fun e w' => e = .returned (.string (itoaB n)) ∧ Below w.heap.size w w' :=
  (Any.strconv_FormatInt_10 Tryz.laysFmt n h0 h1 w T).mono fun _ _ ⟨e, h⟩ => ⟨e, below_grown h⟩
theorem enc_text (k : Nat) (hk : k < 8) : Utf8.encode (glRune0 k) = glText k :=
  match k, hk with
  | 0, _ => by kernel_rfl
  | 1, _ => by kernel_rfl
  | 2, _ => by kernel_rfl
  | 3, _ => by kernel_rfl
  | 4, _ => by kernel_rfl
  | 5, _ => by kernel_rfl
  | 6, _ => by kernel_rfl
  | 7, _ => by kernel_rfl
/-- An event's word. -/
def wordG (k : Nat) (g : Int) : ByteArray := glText k ++ itoaB g
def wordM (k : Nat) (g m : Int) : ByteArray := if m = -1 then wordG k g else wordG k g ++ ({ data := #[109] } ++ itoaB m)
def wordP (k : Nat) (g m p : Int) : ByteArray := if p = -1 then wordM k g m else wordM k g m ++ ({ data := #[112] } ++ itoaB p)
def wordB (k : Nat) (g m p v : Int) : ByteArray := if v = 0 then wordP k g m p else wordP k g m p ++ ({ data := #[61] } ++ itoaB v)
/-- The tables, and an event in a box. -/
structure Gb (w0 : World) (G : Nat) (k g m p v : Int) (w : World) : Prop where
  r : GlRunes w
  t : PwTab w
  b : w.heap[G]? = some (.cells #[.int .i64 k, .int .i64 g, .int .i64 m, .int .i64 p, .int .i64 v] 147 (0, 0))
  bl : Below w0.heap.size w0 w
theorem Gb.below {w0 w w' : World} {G : Nat} {k g m p v : Int} (h : Gb w0 G k g m p v w) (hb : Below w.heap.size w w') : Gb w0 G k g m p v w' :=
  ⟨h.r.at hb, h.t.at hb, (hb.block _ (by have := h.b; rw [Array.getElem?_eq_some_iff] at this; exact this.1)).trans h.b, h.bl.trans (hb.mono h.bl.size)⟩
theorem Gb.cell {w0 w : World} {G : Nat} {k g m p v : Int} (h : Gb w0 G k g m p v w) :
    w.cell? ⟨G, 0, none⟩ = some (.int .i64 k) ∧ w.cell? ⟨G, 1, none⟩ = some (.int .i64 g) ∧ w.cell? ⟨G, 2, none⟩ = some (.int .i64 m) ∧ w.cell? ⟨G, 3, none⟩ = some (.int .i64 p) ∧ w.cell? ⟨G, 4, none⟩ = some (.int .i64 v) := by
  simp [World.cell?, h.b]
theorem Gb.new {w : World} (r : GlRunes w) (t : PwTab w) (k g m p v : Int) : Gb w w.heap.size k g m p v (w.alloc (.cells #[.int .i64 k, .int .i64 g, .int .i64 m, .int .i64 p, .int .i64 v] 147)) :=
  have hb : Below w.heap.size w (w.alloc (.cells #[.int .i64 k, .int .i64 g, .int .i64 m, .int .i64 p, .int .i64 v] 147)) := (Below.refl _ _).alloc (Nat.le_refl _) _
  ⟨r.at hb, t.at hb, heap_alloc_new _ _, hb⟩
theorem right_all {k g m p v : Int} (h : evRight k g m p v = true) : (0 ≤ k ∧ k < 8) ∧ (0 ≤ g ∧ g < 4096) ∧ (-1 ≤ m ∧ m < 128) ∧ (-1 ≤ p ∧ p < 64) := by
  simp only [evRight, Bool.and_eq_true, decide_eq_true_eq] at h
  omega
theorem sz109 : ({ data := #[109] } : ByteArray).size = 1 := rfl
theorem sz112 : ({ data := #[112] } : ByteArray).size = 1 := rfl
theorem sz61 : ({ data := #[61] } : ByteArray).size = 1 := rfl
theorem text_size (k : Nat) (hk : k < 8) : (glText k).size ≤ 3 :=
  match k, hk with
  | 0, _ | 1, _ | 2, _ | 3, _ | 4, _ | 5, _ | 6, _ | 7, _ => by decide
theorem itoaB_size (n : Int) (h0 : -9223372036854775808 ≤ n) (h1 : n ≤ 9223372036854775807) : (itoaB n).size ≤ 21 := by
  have := Lib.itoa_length_le n h0 h1
  simpa [itoaB, ByteArray.size] using this
/-- What a walk through Word wants of an event that may be. -/
structure Wdg (k : Nat) (g m p v y : Int) : Prop where
  k8 : k < 8
  hg : 0 ≤ g ∧ g < 4096
  hm : -1 ≤ m ∧ m < 128
  hp : -1 ≤ p ∧ p < 64
  hv : -9223372036854775808 ≤ v ∧ v ≤ 9223372036854775807
  y0 : y = glRune0 k
  hr : evRight k g m p v = true
set_option maxHeartbeats 4000000 in
theorem word_000 (k : Nat) (g m p v y : Int) (W : Wdg k g m p v y) (w : World) (R : GlRunes w) (T : PwTab w) (tm : (m != -1) = false) (tp : (p != -1) = false) (tv : (v != 0) = false) :
    Calls Tryz.prog 99 #[.agg #[.int .i64 k, .int .i64 g, .int .i64 m, .int .i64 p, .int .i64 v]] w fun e w' => e = .returned (.tuple #[.string (glText k ++ itoaB g), .int .i64 0]) ∧ Below w.heap.size w w' := by
  have H0 := hid (Gb.new R T k g m p v)
  have RA := hid (fun w => right_any k g m p v w)
  rw [W.hr] at RA
  have ET := hid (enc_text k W.k8)
  have RI := hid (rune_in k W.k8)
  rw [← W.y0] at RI ET
  have HW := hid W
  obtain ⟨c0, c1, c2, c3, c4⟩ := H0.out.cell
  have ad0 := fun w => run_string_add_sum (P := Tryz.prog) w (glText k) (itoaB g) (by have z1 := text_size k W.k8; have z2 := itoaB_size g (by have := W.hg; omega) (by have := W.hg; omega); have z3 := itoaB_size m (by have := W.hm; omega) (by have := W.hm; omega); have z4 := itoaB_size p (by have := W.hp; omega) (by have := W.hp; omega); have z5 := itoaB_size v W.hv.1 W.hv.2; (try simp only [ByteArray.size_append, sz109, sz112, sz61]); omega)
  clear R T W
  go_enter Tryz.func99, Tryz.ntmps99
  go_wp2_with fail
  refine (RI.out _ H0.out.r).mono ?_
  rintro e w1 ⟨rfl, rfl⟩
  go_wp2_with fail
  refine (RA.out _).mono ?_
  rintro e w2 ⟨rfl, hb⟩
  have H2 := hid (H0.out.below hb)
  clear c0 c1 c2 c3 c4 hb H0
  obtain ⟨c0, c1, c2, c3, c4⟩ := H2.out.cell
  go_wp2_with fail
  rw [ET.out]
  refine (itoa_any g (by have := HW.out.hg; omega) (by have := HW.out.hg; omega) _ H2.out.t).mono ?_
  rintro e w3 ⟨rfl, hb⟩
  have H3 := hid (H2.out.below hb)
  clear c0 c1 c2 c3 c4 hb H2
  obtain ⟨c0, c1, c2, c3, c4⟩ := H3.out.cell
  go_wp2
  exact bodyPost_ret (v := .tuple #[.string (glText k ++ itoaB g), .int .i64 0]) (by simp [results, Tryz.results99, go_sem]) rfl ⟨rfl, H3.out.bl⟩
set_option maxHeartbeats 4000000 in
theorem word_001 (k : Nat) (g m p v y : Int) (W : Wdg k g m p v y) (w : World) (R : GlRunes w) (T : PwTab w) (tm : (m != -1) = false) (tp : (p != -1) = false) (tv : (v != 0) = true) :
    Calls Tryz.prog 99 #[.agg #[.int .i64 k, .int .i64 g, .int .i64 m, .int .i64 p, .int .i64 v]] w fun e w' => e = .returned (.tuple #[.string ((glText k ++ itoaB g) ++ ({ data := #[61] } ++ itoaB v)), .int .i64 0]) ∧ Below w.heap.size w w' := by
  have H0 := hid (Gb.new R T k g m p v)
  have RA := hid (fun w => right_any k g m p v w)
  rw [W.hr] at RA
  have ET := hid (enc_text k W.k8)
  have RI := hid (rune_in k W.k8)
  rw [← W.y0] at RI ET
  have HW := hid W
  obtain ⟨c0, c1, c2, c3, c4⟩ := H0.out.cell
  have ad0 := fun w => run_string_add_sum (P := Tryz.prog) w (glText k) (itoaB g) (by have z1 := text_size k W.k8; have z2 := itoaB_size g (by have := W.hg; omega) (by have := W.hg; omega); have z3 := itoaB_size m (by have := W.hm; omega) (by have := W.hm; omega); have z4 := itoaB_size p (by have := W.hp; omega) (by have := W.hp; omega); have z5 := itoaB_size v W.hv.1 W.hv.2; (try simp only [ByteArray.size_append, sz109, sz112, sz61]); omega)
  have ad1 := fun w => run_string_add_sum (P := Tryz.prog) w (({ data := #[61] } : ByteArray)) (itoaB v) (by have z1 := text_size k W.k8; have z2 := itoaB_size g (by have := W.hg; omega) (by have := W.hg; omega); have z3 := itoaB_size m (by have := W.hm; omega) (by have := W.hm; omega); have z4 := itoaB_size p (by have := W.hp; omega) (by have := W.hp; omega); have z5 := itoaB_size v W.hv.1 W.hv.2; (try simp only [ByteArray.size_append, sz109, sz112, sz61]); omega)
  have ad2 := fun w => run_string_add_sum (P := Tryz.prog) w (glText k ++ itoaB g) (({ data := #[61] } : ByteArray) ++ itoaB v) (by have z1 := text_size k W.k8; have z2 := itoaB_size g (by have := W.hg; omega) (by have := W.hg; omega); have z3 := itoaB_size m (by have := W.hm; omega) (by have := W.hm; omega); have z4 := itoaB_size p (by have := W.hp; omega) (by have := W.hp; omega); have z5 := itoaB_size v W.hv.1 W.hv.2; (try simp only [ByteArray.size_append, sz109, sz112, sz61]); omega)
  clear R T W
  go_enter Tryz.func99, Tryz.ntmps99
  go_wp2_with fail
  refine (RI.out _ H0.out.r).mono ?_
  rintro e w1 ⟨rfl, rfl⟩
  go_wp2_with fail
  refine (RA.out _).mono ?_
  rintro e w2 ⟨rfl, hb⟩
  have H2 := hid (H0.out.below hb)
  clear c0 c1 c2 c3 c4 hb H0
  obtain ⟨c0, c1, c2, c3, c4⟩ := H2.out.cell
  go_wp2_with fail
  rw [ET.out]
  refine (itoa_any g (by have := HW.out.hg; omega) (by have := HW.out.hg; omega) _ H2.out.t).mono ?_
  rintro e w3 ⟨rfl, hb⟩
  have H3 := hid (H2.out.below hb)
  clear c0 c1 c2 c3 c4 hb H2
  obtain ⟨c0, c1, c2, c3, c4⟩ := H3.out.cell
  go_wp2_with fail
  refine (fmt10 v (by have := HW.out.hv; omega) (by have := HW.out.hv; omega) _ H3.out.t).mono ?_
  rintro e w4 ⟨rfl, hb⟩
  have H4 := hid (H3.out.below hb)
  clear c0 c1 c2 c3 c4 hb H3
  obtain ⟨c0, c1, c2, c3, c4⟩ := H4.out.cell
  go_wp2
  exact bodyPost_ret (v := .tuple #[.string ((glText k ++ itoaB g) ++ ({ data := #[61] } ++ itoaB v)), .int .i64 0]) (by simp [results, Tryz.results99, go_sem]) rfl ⟨rfl, H4.out.bl⟩
set_option maxHeartbeats 4000000 in
theorem word_010 (k : Nat) (g m p v y : Int) (W : Wdg k g m p v y) (w : World) (R : GlRunes w) (T : PwTab w) (tm : (m != -1) = false) (tp : (p != -1) = true) (tv : (v != 0) = false) :
    Calls Tryz.prog 99 #[.agg #[.int .i64 k, .int .i64 g, .int .i64 m, .int .i64 p, .int .i64 v]] w fun e w' => e = .returned (.tuple #[.string ((glText k ++ itoaB g) ++ ({ data := #[112] } ++ itoaB p)), .int .i64 0]) ∧ Below w.heap.size w w' := by
  have H0 := hid (Gb.new R T k g m p v)
  have RA := hid (fun w => right_any k g m p v w)
  rw [W.hr] at RA
  have ET := hid (enc_text k W.k8)
  have RI := hid (rune_in k W.k8)
  rw [← W.y0] at RI ET
  have HW := hid W
  obtain ⟨c0, c1, c2, c3, c4⟩ := H0.out.cell
  have ad0 := fun w => run_string_add_sum (P := Tryz.prog) w (glText k) (itoaB g) (by have z1 := text_size k W.k8; have z2 := itoaB_size g (by have := W.hg; omega) (by have := W.hg; omega); have z3 := itoaB_size m (by have := W.hm; omega) (by have := W.hm; omega); have z4 := itoaB_size p (by have := W.hp; omega) (by have := W.hp; omega); have z5 := itoaB_size v W.hv.1 W.hv.2; (try simp only [ByteArray.size_append, sz109, sz112, sz61]); omega)
  have ad1 := fun w => run_string_add_sum (P := Tryz.prog) w (({ data := #[112] } : ByteArray)) (itoaB p) (by have z1 := text_size k W.k8; have z2 := itoaB_size g (by have := W.hg; omega) (by have := W.hg; omega); have z3 := itoaB_size m (by have := W.hm; omega) (by have := W.hm; omega); have z4 := itoaB_size p (by have := W.hp; omega) (by have := W.hp; omega); have z5 := itoaB_size v W.hv.1 W.hv.2; (try simp only [ByteArray.size_append, sz109, sz112, sz61]); omega)
  have ad2 := fun w => run_string_add_sum (P := Tryz.prog) w (glText k ++ itoaB g) (({ data := #[112] } : ByteArray) ++ itoaB p) (by have z1 := text_size k W.k8; have z2 := itoaB_size g (by have := W.hg; omega) (by have := W.hg; omega); have z3 := itoaB_size m (by have := W.hm; omega) (by have := W.hm; omega); have z4 := itoaB_size p (by have := W.hp; omega) (by have := W.hp; omega); have z5 := itoaB_size v W.hv.1 W.hv.2; (try simp only [ByteArray.size_append, sz109, sz112, sz61]); omega)
  clear R T W
  go_enter Tryz.func99, Tryz.ntmps99
  go_wp2_with fail
  refine (RI.out _ H0.out.r).mono ?_
  rintro e w1 ⟨rfl, rfl⟩
  go_wp2_with fail
  refine (RA.out _).mono ?_
  rintro e w2 ⟨rfl, hb⟩
  have H2 := hid (H0.out.below hb)
  clear c0 c1 c2 c3 c4 hb H0
  obtain ⟨c0, c1, c2, c3, c4⟩ := H2.out.cell
  go_wp2_with fail
  rw [ET.out]
  refine (itoa_any g (by have := HW.out.hg; omega) (by have := HW.out.hg; omega) _ H2.out.t).mono ?_
  rintro e w3 ⟨rfl, hb⟩
  have H3 := hid (H2.out.below hb)
  clear c0 c1 c2 c3 c4 hb H2
  obtain ⟨c0, c1, c2, c3, c4⟩ := H3.out.cell
  go_wp2_with fail
  refine (itoa_any p (by have := HW.out.hp; omega) (by have := HW.out.hp; omega) _ H3.out.t).mono ?_
  rintro e w4 ⟨rfl, hb⟩
  have H4 := hid (H3.out.below hb)
  clear c0 c1 c2 c3 c4 hb H3
  obtain ⟨c0, c1, c2, c3, c4⟩ := H4.out.cell
  go_wp2
  exact bodyPost_ret (v := .tuple #[.string ((glText k ++ itoaB g) ++ ({ data := #[112] } ++ itoaB p)), .int .i64 0]) (by simp [results, Tryz.results99, go_sem]) rfl ⟨rfl, H4.out.bl⟩
set_option maxHeartbeats 4000000 in
theorem word_011 (k : Nat) (g m p v y : Int) (W : Wdg k g m p v y) (w : World) (R : GlRunes w) (T : PwTab w) (tm : (m != -1) = false) (tp : (p != -1) = true) (tv : (v != 0) = true) :
    Calls Tryz.prog 99 #[.agg #[.int .i64 k, .int .i64 g, .int .i64 m, .int .i64 p, .int .i64 v]] w fun e w' => e = .returned (.tuple #[.string (((glText k ++ itoaB g) ++ ({ data := #[112] } ++ itoaB p)) ++ ({ data := #[61] } ++ itoaB v)), .int .i64 0]) ∧ Below w.heap.size w w' := by
  have H0 := hid (Gb.new R T k g m p v)
  have RA := hid (fun w => right_any k g m p v w)
  rw [W.hr] at RA
  have ET := hid (enc_text k W.k8)
  have RI := hid (rune_in k W.k8)
  rw [← W.y0] at RI ET
  have HW := hid W
  obtain ⟨c0, c1, c2, c3, c4⟩ := H0.out.cell
  have ad0 := fun w => run_string_add_sum (P := Tryz.prog) w (glText k) (itoaB g) (by have z1 := text_size k W.k8; have z2 := itoaB_size g (by have := W.hg; omega) (by have := W.hg; omega); have z3 := itoaB_size m (by have := W.hm; omega) (by have := W.hm; omega); have z4 := itoaB_size p (by have := W.hp; omega) (by have := W.hp; omega); have z5 := itoaB_size v W.hv.1 W.hv.2; (try simp only [ByteArray.size_append, sz109, sz112, sz61]); omega)
  have ad1 := fun w => run_string_add_sum (P := Tryz.prog) w (({ data := #[112] } : ByteArray)) (itoaB p) (by have z1 := text_size k W.k8; have z2 := itoaB_size g (by have := W.hg; omega) (by have := W.hg; omega); have z3 := itoaB_size m (by have := W.hm; omega) (by have := W.hm; omega); have z4 := itoaB_size p (by have := W.hp; omega) (by have := W.hp; omega); have z5 := itoaB_size v W.hv.1 W.hv.2; (try simp only [ByteArray.size_append, sz109, sz112, sz61]); omega)
  have ad2 := fun w => run_string_add_sum (P := Tryz.prog) w (glText k ++ itoaB g) (({ data := #[112] } : ByteArray) ++ itoaB p) (by have z1 := text_size k W.k8; have z2 := itoaB_size g (by have := W.hg; omega) (by have := W.hg; omega); have z3 := itoaB_size m (by have := W.hm; omega) (by have := W.hm; omega); have z4 := itoaB_size p (by have := W.hp; omega) (by have := W.hp; omega); have z5 := itoaB_size v W.hv.1 W.hv.2; (try simp only [ByteArray.size_append, sz109, sz112, sz61]); omega)
  have ad3 := fun w => run_string_add_sum (P := Tryz.prog) w (({ data := #[61] } : ByteArray)) (itoaB v) (by have z1 := text_size k W.k8; have z2 := itoaB_size g (by have := W.hg; omega) (by have := W.hg; omega); have z3 := itoaB_size m (by have := W.hm; omega) (by have := W.hm; omega); have z4 := itoaB_size p (by have := W.hp; omega) (by have := W.hp; omega); have z5 := itoaB_size v W.hv.1 W.hv.2; (try simp only [ByteArray.size_append, sz109, sz112, sz61]); omega)
  have ad4 := fun w => run_string_add_sum (P := Tryz.prog) w ((glText k ++ itoaB g) ++ (({ data := #[112] } : ByteArray) ++ itoaB p)) (({ data := #[61] } : ByteArray) ++ itoaB v) (by have z1 := text_size k W.k8; have z2 := itoaB_size g (by have := W.hg; omega) (by have := W.hg; omega); have z3 := itoaB_size m (by have := W.hm; omega) (by have := W.hm; omega); have z4 := itoaB_size p (by have := W.hp; omega) (by have := W.hp; omega); have z5 := itoaB_size v W.hv.1 W.hv.2; (try simp only [ByteArray.size_append, sz109, sz112, sz61]); omega)
  clear R T W
  go_enter Tryz.func99, Tryz.ntmps99
  go_wp2_with fail
  refine (RI.out _ H0.out.r).mono ?_
  rintro e w1 ⟨rfl, rfl⟩
  go_wp2_with fail
  refine (RA.out _).mono ?_
  rintro e w2 ⟨rfl, hb⟩
  have H2 := hid (H0.out.below hb)
  clear c0 c1 c2 c3 c4 hb H0
  obtain ⟨c0, c1, c2, c3, c4⟩ := H2.out.cell
  go_wp2_with fail
  rw [ET.out]
  refine (itoa_any g (by have := HW.out.hg; omega) (by have := HW.out.hg; omega) _ H2.out.t).mono ?_
  rintro e w3 ⟨rfl, hb⟩
  have H3 := hid (H2.out.below hb)
  clear c0 c1 c2 c3 c4 hb H2
  obtain ⟨c0, c1, c2, c3, c4⟩ := H3.out.cell
  go_wp2_with fail
  refine (itoa_any p (by have := HW.out.hp; omega) (by have := HW.out.hp; omega) _ H3.out.t).mono ?_
  rintro e w4 ⟨rfl, hb⟩
  have H4 := hid (H3.out.below hb)
  clear c0 c1 c2 c3 c4 hb H3
  obtain ⟨c0, c1, c2, c3, c4⟩ := H4.out.cell
  go_wp2_with fail
  refine (fmt10 v (by have := HW.out.hv; omega) (by have := HW.out.hv; omega) _ H4.out.t).mono ?_
  rintro e w5 ⟨rfl, hb⟩
  have H5 := hid (H4.out.below hb)
  clear c0 c1 c2 c3 c4 hb H4
  obtain ⟨c0, c1, c2, c3, c4⟩ := H5.out.cell
  go_wp2
  exact bodyPost_ret (v := .tuple #[.string (((glText k ++ itoaB g) ++ ({ data := #[112] } ++ itoaB p)) ++ ({ data := #[61] } ++ itoaB v)), .int .i64 0]) (by simp [results, Tryz.results99, go_sem]) rfl ⟨rfl, H5.out.bl⟩
set_option maxHeartbeats 4000000 in
theorem word_100 (k : Nat) (g m p v y : Int) (W : Wdg k g m p v y) (w : World) (R : GlRunes w) (T : PwTab w) (tm : (m != -1) = true) (tp : (p != -1) = false) (tv : (v != 0) = false) :
    Calls Tryz.prog 99 #[.agg #[.int .i64 k, .int .i64 g, .int .i64 m, .int .i64 p, .int .i64 v]] w fun e w' => e = .returned (.tuple #[.string ((glText k ++ itoaB g) ++ ({ data := #[109] } ++ itoaB m)), .int .i64 0]) ∧ Below w.heap.size w w' := by
  have H0 := hid (Gb.new R T k g m p v)
  have RA := hid (fun w => right_any k g m p v w)
  rw [W.hr] at RA
  have ET := hid (enc_text k W.k8)
  have RI := hid (rune_in k W.k8)
  rw [← W.y0] at RI ET
  have HW := hid W
  obtain ⟨c0, c1, c2, c3, c4⟩ := H0.out.cell
  have ad0 := fun w => run_string_add_sum (P := Tryz.prog) w (glText k) (itoaB g) (by have z1 := text_size k W.k8; have z2 := itoaB_size g (by have := W.hg; omega) (by have := W.hg; omega); have z3 := itoaB_size m (by have := W.hm; omega) (by have := W.hm; omega); have z4 := itoaB_size p (by have := W.hp; omega) (by have := W.hp; omega); have z5 := itoaB_size v W.hv.1 W.hv.2; (try simp only [ByteArray.size_append, sz109, sz112, sz61]); omega)
  have ad1 := fun w => run_string_add_sum (P := Tryz.prog) w (({ data := #[109] } : ByteArray)) (itoaB m) (by have z1 := text_size k W.k8; have z2 := itoaB_size g (by have := W.hg; omega) (by have := W.hg; omega); have z3 := itoaB_size m (by have := W.hm; omega) (by have := W.hm; omega); have z4 := itoaB_size p (by have := W.hp; omega) (by have := W.hp; omega); have z5 := itoaB_size v W.hv.1 W.hv.2; (try simp only [ByteArray.size_append, sz109, sz112, sz61]); omega)
  have ad2 := fun w => run_string_add_sum (P := Tryz.prog) w (glText k ++ itoaB g) (({ data := #[109] } : ByteArray) ++ itoaB m) (by have z1 := text_size k W.k8; have z2 := itoaB_size g (by have := W.hg; omega) (by have := W.hg; omega); have z3 := itoaB_size m (by have := W.hm; omega) (by have := W.hm; omega); have z4 := itoaB_size p (by have := W.hp; omega) (by have := W.hp; omega); have z5 := itoaB_size v W.hv.1 W.hv.2; (try simp only [ByteArray.size_append, sz109, sz112, sz61]); omega)
  clear R T W
  go_enter Tryz.func99, Tryz.ntmps99
  go_wp2_with fail
  refine (RI.out _ H0.out.r).mono ?_
  rintro e w1 ⟨rfl, rfl⟩
  go_wp2_with fail
  refine (RA.out _).mono ?_
  rintro e w2 ⟨rfl, hb⟩
  have H2 := hid (H0.out.below hb)
  clear c0 c1 c2 c3 c4 hb H0
  obtain ⟨c0, c1, c2, c3, c4⟩ := H2.out.cell
  go_wp2_with fail
  rw [ET.out]
  refine (itoa_any g (by have := HW.out.hg; omega) (by have := HW.out.hg; omega) _ H2.out.t).mono ?_
  rintro e w3 ⟨rfl, hb⟩
  have H3 := hid (H2.out.below hb)
  clear c0 c1 c2 c3 c4 hb H2
  obtain ⟨c0, c1, c2, c3, c4⟩ := H3.out.cell
  go_wp2_with fail
  refine (itoa_any m (by have := HW.out.hm; omega) (by have := HW.out.hm; omega) _ H3.out.t).mono ?_
  rintro e w4 ⟨rfl, hb⟩
  have H4 := hid (H3.out.below hb)
  clear c0 c1 c2 c3 c4 hb H3
  obtain ⟨c0, c1, c2, c3, c4⟩ := H4.out.cell
  go_wp2
  exact bodyPost_ret (v := .tuple #[.string ((glText k ++ itoaB g) ++ ({ data := #[109] } ++ itoaB m)), .int .i64 0]) (by simp [results, Tryz.results99, go_sem]) rfl ⟨rfl, H4.out.bl⟩
set_option maxHeartbeats 4000000 in
theorem word_101 (k : Nat) (g m p v y : Int) (W : Wdg k g m p v y) (w : World) (R : GlRunes w) (T : PwTab w) (tm : (m != -1) = true) (tp : (p != -1) = false) (tv : (v != 0) = true) :
    Calls Tryz.prog 99 #[.agg #[.int .i64 k, .int .i64 g, .int .i64 m, .int .i64 p, .int .i64 v]] w fun e w' => e = .returned (.tuple #[.string (((glText k ++ itoaB g) ++ ({ data := #[109] } ++ itoaB m)) ++ ({ data := #[61] } ++ itoaB v)), .int .i64 0]) ∧ Below w.heap.size w w' := by
  have H0 := hid (Gb.new R T k g m p v)
  have RA := hid (fun w => right_any k g m p v w)
  rw [W.hr] at RA
  have ET := hid (enc_text k W.k8)
  have RI := hid (rune_in k W.k8)
  rw [← W.y0] at RI ET
  have HW := hid W
  obtain ⟨c0, c1, c2, c3, c4⟩ := H0.out.cell
  have ad0 := fun w => run_string_add_sum (P := Tryz.prog) w (glText k) (itoaB g) (by have z1 := text_size k W.k8; have z2 := itoaB_size g (by have := W.hg; omega) (by have := W.hg; omega); have z3 := itoaB_size m (by have := W.hm; omega) (by have := W.hm; omega); have z4 := itoaB_size p (by have := W.hp; omega) (by have := W.hp; omega); have z5 := itoaB_size v W.hv.1 W.hv.2; (try simp only [ByteArray.size_append, sz109, sz112, sz61]); omega)
  have ad1 := fun w => run_string_add_sum (P := Tryz.prog) w (({ data := #[109] } : ByteArray)) (itoaB m) (by have z1 := text_size k W.k8; have z2 := itoaB_size g (by have := W.hg; omega) (by have := W.hg; omega); have z3 := itoaB_size m (by have := W.hm; omega) (by have := W.hm; omega); have z4 := itoaB_size p (by have := W.hp; omega) (by have := W.hp; omega); have z5 := itoaB_size v W.hv.1 W.hv.2; (try simp only [ByteArray.size_append, sz109, sz112, sz61]); omega)
  have ad2 := fun w => run_string_add_sum (P := Tryz.prog) w (glText k ++ itoaB g) (({ data := #[109] } : ByteArray) ++ itoaB m) (by have z1 := text_size k W.k8; have z2 := itoaB_size g (by have := W.hg; omega) (by have := W.hg; omega); have z3 := itoaB_size m (by have := W.hm; omega) (by have := W.hm; omega); have z4 := itoaB_size p (by have := W.hp; omega) (by have := W.hp; omega); have z5 := itoaB_size v W.hv.1 W.hv.2; (try simp only [ByteArray.size_append, sz109, sz112, sz61]); omega)
  have ad3 := fun w => run_string_add_sum (P := Tryz.prog) w (({ data := #[61] } : ByteArray)) (itoaB v) (by have z1 := text_size k W.k8; have z2 := itoaB_size g (by have := W.hg; omega) (by have := W.hg; omega); have z3 := itoaB_size m (by have := W.hm; omega) (by have := W.hm; omega); have z4 := itoaB_size p (by have := W.hp; omega) (by have := W.hp; omega); have z5 := itoaB_size v W.hv.1 W.hv.2; (try simp only [ByteArray.size_append, sz109, sz112, sz61]); omega)
  have ad4 := fun w => run_string_add_sum (P := Tryz.prog) w ((glText k ++ itoaB g) ++ (({ data := #[109] } : ByteArray) ++ itoaB m)) (({ data := #[61] } : ByteArray) ++ itoaB v) (by have z1 := text_size k W.k8; have z2 := itoaB_size g (by have := W.hg; omega) (by have := W.hg; omega); have z3 := itoaB_size m (by have := W.hm; omega) (by have := W.hm; omega); have z4 := itoaB_size p (by have := W.hp; omega) (by have := W.hp; omega); have z5 := itoaB_size v W.hv.1 W.hv.2; (try simp only [ByteArray.size_append, sz109, sz112, sz61]); omega)
  clear R T W
  go_enter Tryz.func99, Tryz.ntmps99
  go_wp2_with fail
  refine (RI.out _ H0.out.r).mono ?_
  rintro e w1 ⟨rfl, rfl⟩
  go_wp2_with fail
  refine (RA.out _).mono ?_
  rintro e w2 ⟨rfl, hb⟩
  have H2 := hid (H0.out.below hb)
  clear c0 c1 c2 c3 c4 hb H0
  obtain ⟨c0, c1, c2, c3, c4⟩ := H2.out.cell
  go_wp2_with fail
  rw [ET.out]
  refine (itoa_any g (by have := HW.out.hg; omega) (by have := HW.out.hg; omega) _ H2.out.t).mono ?_
  rintro e w3 ⟨rfl, hb⟩
  have H3 := hid (H2.out.below hb)
  clear c0 c1 c2 c3 c4 hb H2
  obtain ⟨c0, c1, c2, c3, c4⟩ := H3.out.cell
  go_wp2_with fail
  refine (itoa_any m (by have := HW.out.hm; omega) (by have := HW.out.hm; omega) _ H3.out.t).mono ?_
  rintro e w4 ⟨rfl, hb⟩
  have H4 := hid (H3.out.below hb)
  clear c0 c1 c2 c3 c4 hb H3
  obtain ⟨c0, c1, c2, c3, c4⟩ := H4.out.cell
  go_wp2_with fail
  refine (fmt10 v (by have := HW.out.hv; omega) (by have := HW.out.hv; omega) _ H4.out.t).mono ?_
  rintro e w5 ⟨rfl, hb⟩
  have H5 := hid (H4.out.below hb)
  clear c0 c1 c2 c3 c4 hb H4
  obtain ⟨c0, c1, c2, c3, c4⟩ := H5.out.cell
  go_wp2
  exact bodyPost_ret (v := .tuple #[.string (((glText k ++ itoaB g) ++ ({ data := #[109] } ++ itoaB m)) ++ ({ data := #[61] } ++ itoaB v)), .int .i64 0]) (by simp [results, Tryz.results99, go_sem]) rfl ⟨rfl, H5.out.bl⟩
set_option maxHeartbeats 4000000 in
theorem word_110 (k : Nat) (g m p v y : Int) (W : Wdg k g m p v y) (w : World) (R : GlRunes w) (T : PwTab w) (tm : (m != -1) = true) (tp : (p != -1) = true) (tv : (v != 0) = false) :
    Calls Tryz.prog 99 #[.agg #[.int .i64 k, .int .i64 g, .int .i64 m, .int .i64 p, .int .i64 v]] w fun e w' => e = .returned (.tuple #[.string (((glText k ++ itoaB g) ++ ({ data := #[109] } ++ itoaB m)) ++ ({ data := #[112] } ++ itoaB p)), .int .i64 0]) ∧ Below w.heap.size w w' := by
  have H0 := hid (Gb.new R T k g m p v)
  have RA := hid (fun w => right_any k g m p v w)
  rw [W.hr] at RA
  have ET := hid (enc_text k W.k8)
  have RI := hid (rune_in k W.k8)
  rw [← W.y0] at RI ET
  have HW := hid W
  obtain ⟨c0, c1, c2, c3, c4⟩ := H0.out.cell
  have ad0 := fun w => run_string_add_sum (P := Tryz.prog) w (glText k) (itoaB g) (by have z1 := text_size k W.k8; have z2 := itoaB_size g (by have := W.hg; omega) (by have := W.hg; omega); have z3 := itoaB_size m (by have := W.hm; omega) (by have := W.hm; omega); have z4 := itoaB_size p (by have := W.hp; omega) (by have := W.hp; omega); have z5 := itoaB_size v W.hv.1 W.hv.2; (try simp only [ByteArray.size_append, sz109, sz112, sz61]); omega)
  have ad1 := fun w => run_string_add_sum (P := Tryz.prog) w (({ data := #[109] } : ByteArray)) (itoaB m) (by have z1 := text_size k W.k8; have z2 := itoaB_size g (by have := W.hg; omega) (by have := W.hg; omega); have z3 := itoaB_size m (by have := W.hm; omega) (by have := W.hm; omega); have z4 := itoaB_size p (by have := W.hp; omega) (by have := W.hp; omega); have z5 := itoaB_size v W.hv.1 W.hv.2; (try simp only [ByteArray.size_append, sz109, sz112, sz61]); omega)
  have ad2 := fun w => run_string_add_sum (P := Tryz.prog) w (glText k ++ itoaB g) (({ data := #[109] } : ByteArray) ++ itoaB m) (by have z1 := text_size k W.k8; have z2 := itoaB_size g (by have := W.hg; omega) (by have := W.hg; omega); have z3 := itoaB_size m (by have := W.hm; omega) (by have := W.hm; omega); have z4 := itoaB_size p (by have := W.hp; omega) (by have := W.hp; omega); have z5 := itoaB_size v W.hv.1 W.hv.2; (try simp only [ByteArray.size_append, sz109, sz112, sz61]); omega)
  have ad3 := fun w => run_string_add_sum (P := Tryz.prog) w (({ data := #[112] } : ByteArray)) (itoaB p) (by have z1 := text_size k W.k8; have z2 := itoaB_size g (by have := W.hg; omega) (by have := W.hg; omega); have z3 := itoaB_size m (by have := W.hm; omega) (by have := W.hm; omega); have z4 := itoaB_size p (by have := W.hp; omega) (by have := W.hp; omega); have z5 := itoaB_size v W.hv.1 W.hv.2; (try simp only [ByteArray.size_append, sz109, sz112, sz61]); omega)
  have ad4 := fun w => run_string_add_sum (P := Tryz.prog) w ((glText k ++ itoaB g) ++ (({ data := #[109] } : ByteArray) ++ itoaB m)) (({ data := #[112] } : ByteArray) ++ itoaB p) (by have z1 := text_size k W.k8; have z2 := itoaB_size g (by have := W.hg; omega) (by have := W.hg; omega); have z3 := itoaB_size m (by have := W.hm; omega) (by have := W.hm; omega); have z4 := itoaB_size p (by have := W.hp; omega) (by have := W.hp; omega); have z5 := itoaB_size v W.hv.1 W.hv.2; (try simp only [ByteArray.size_append, sz109, sz112, sz61]); omega)
  clear R T W
  go_enter Tryz.func99, Tryz.ntmps99
  go_wp2_with fail
  refine (RI.out _ H0.out.r).mono ?_
  rintro e w1 ⟨rfl, rfl⟩
  go_wp2_with fail
  refine (RA.out _).mono ?_
  rintro e w2 ⟨rfl, hb⟩
  have H2 := hid (H0.out.below hb)
  clear c0 c1 c2 c3 c4 hb H0
  obtain ⟨c0, c1, c2, c3, c4⟩ := H2.out.cell
  go_wp2_with fail
  rw [ET.out]
  refine (itoa_any g (by have := HW.out.hg; omega) (by have := HW.out.hg; omega) _ H2.out.t).mono ?_
  rintro e w3 ⟨rfl, hb⟩
  have H3 := hid (H2.out.below hb)
  clear c0 c1 c2 c3 c4 hb H2
  obtain ⟨c0, c1, c2, c3, c4⟩ := H3.out.cell
  go_wp2_with fail
  refine (itoa_any m (by have := HW.out.hm; omega) (by have := HW.out.hm; omega) _ H3.out.t).mono ?_
  rintro e w4 ⟨rfl, hb⟩
  have H4 := hid (H3.out.below hb)
  clear c0 c1 c2 c3 c4 hb H3
  obtain ⟨c0, c1, c2, c3, c4⟩ := H4.out.cell
  go_wp2_with fail
  refine (itoa_any p (by have := HW.out.hp; omega) (by have := HW.out.hp; omega) _ H4.out.t).mono ?_
  rintro e w5 ⟨rfl, hb⟩
  have H5 := hid (H4.out.below hb)
  clear c0 c1 c2 c3 c4 hb H4
  obtain ⟨c0, c1, c2, c3, c4⟩ := H5.out.cell
  go_wp2
  exact bodyPost_ret (v := .tuple #[.string (((glText k ++ itoaB g) ++ ({ data := #[109] } ++ itoaB m)) ++ ({ data := #[112] } ++ itoaB p)), .int .i64 0]) (by simp [results, Tryz.results99, go_sem]) rfl ⟨rfl, H5.out.bl⟩
set_option maxHeartbeats 4000000 in
theorem word_111 (k : Nat) (g m p v y : Int) (W : Wdg k g m p v y) (w : World) (R : GlRunes w) (T : PwTab w) (tm : (m != -1) = true) (tp : (p != -1) = true) (tv : (v != 0) = true) :
    Calls Tryz.prog 99 #[.agg #[.int .i64 k, .int .i64 g, .int .i64 m, .int .i64 p, .int .i64 v]] w fun e w' => e = .returned (.tuple #[.string ((((glText k ++ itoaB g) ++ ({ data := #[109] } ++ itoaB m)) ++ ({ data := #[112] } ++ itoaB p)) ++ ({ data := #[61] } ++ itoaB v)), .int .i64 0]) ∧ Below w.heap.size w w' := by
  have H0 := hid (Gb.new R T k g m p v)
  have RA := hid (fun w => right_any k g m p v w)
  rw [W.hr] at RA
  have ET := hid (enc_text k W.k8)
  have RI := hid (rune_in k W.k8)
  rw [← W.y0] at RI ET
  have HW := hid W
  obtain ⟨c0, c1, c2, c3, c4⟩ := H0.out.cell
  have ad0 := fun w => run_string_add_sum (P := Tryz.prog) w (glText k) (itoaB g) (by have z1 := text_size k W.k8; have z2 := itoaB_size g (by have := W.hg; omega) (by have := W.hg; omega); have z3 := itoaB_size m (by have := W.hm; omega) (by have := W.hm; omega); have z4 := itoaB_size p (by have := W.hp; omega) (by have := W.hp; omega); have z5 := itoaB_size v W.hv.1 W.hv.2; (try simp only [ByteArray.size_append, sz109, sz112, sz61]); omega)
  have ad1 := fun w => run_string_add_sum (P := Tryz.prog) w (({ data := #[109] } : ByteArray)) (itoaB m) (by have z1 := text_size k W.k8; have z2 := itoaB_size g (by have := W.hg; omega) (by have := W.hg; omega); have z3 := itoaB_size m (by have := W.hm; omega) (by have := W.hm; omega); have z4 := itoaB_size p (by have := W.hp; omega) (by have := W.hp; omega); have z5 := itoaB_size v W.hv.1 W.hv.2; (try simp only [ByteArray.size_append, sz109, sz112, sz61]); omega)
  have ad2 := fun w => run_string_add_sum (P := Tryz.prog) w (glText k ++ itoaB g) (({ data := #[109] } : ByteArray) ++ itoaB m) (by have z1 := text_size k W.k8; have z2 := itoaB_size g (by have := W.hg; omega) (by have := W.hg; omega); have z3 := itoaB_size m (by have := W.hm; omega) (by have := W.hm; omega); have z4 := itoaB_size p (by have := W.hp; omega) (by have := W.hp; omega); have z5 := itoaB_size v W.hv.1 W.hv.2; (try simp only [ByteArray.size_append, sz109, sz112, sz61]); omega)
  have ad3 := fun w => run_string_add_sum (P := Tryz.prog) w (({ data := #[112] } : ByteArray)) (itoaB p) (by have z1 := text_size k W.k8; have z2 := itoaB_size g (by have := W.hg; omega) (by have := W.hg; omega); have z3 := itoaB_size m (by have := W.hm; omega) (by have := W.hm; omega); have z4 := itoaB_size p (by have := W.hp; omega) (by have := W.hp; omega); have z5 := itoaB_size v W.hv.1 W.hv.2; (try simp only [ByteArray.size_append, sz109, sz112, sz61]); omega)
  have ad4 := fun w => run_string_add_sum (P := Tryz.prog) w ((glText k ++ itoaB g) ++ (({ data := #[109] } : ByteArray) ++ itoaB m)) (({ data := #[112] } : ByteArray) ++ itoaB p) (by have z1 := text_size k W.k8; have z2 := itoaB_size g (by have := W.hg; omega) (by have := W.hg; omega); have z3 := itoaB_size m (by have := W.hm; omega) (by have := W.hm; omega); have z4 := itoaB_size p (by have := W.hp; omega) (by have := W.hp; omega); have z5 := itoaB_size v W.hv.1 W.hv.2; (try simp only [ByteArray.size_append, sz109, sz112, sz61]); omega)
  have ad5 := fun w => run_string_add_sum (P := Tryz.prog) w (({ data := #[61] } : ByteArray)) (itoaB v) (by have z1 := text_size k W.k8; have z2 := itoaB_size g (by have := W.hg; omega) (by have := W.hg; omega); have z3 := itoaB_size m (by have := W.hm; omega) (by have := W.hm; omega); have z4 := itoaB_size p (by have := W.hp; omega) (by have := W.hp; omega); have z5 := itoaB_size v W.hv.1 W.hv.2; (try simp only [ByteArray.size_append, sz109, sz112, sz61]); omega)
  have ad6 := fun w => run_string_add_sum (P := Tryz.prog) w (((glText k ++ itoaB g) ++ (({ data := #[109] } : ByteArray) ++ itoaB m)) ++ (({ data := #[112] } : ByteArray) ++ itoaB p)) (({ data := #[61] } : ByteArray) ++ itoaB v) (by have z1 := text_size k W.k8; have z2 := itoaB_size g (by have := W.hg; omega) (by have := W.hg; omega); have z3 := itoaB_size m (by have := W.hm; omega) (by have := W.hm; omega); have z4 := itoaB_size p (by have := W.hp; omega) (by have := W.hp; omega); have z5 := itoaB_size v W.hv.1 W.hv.2; (try simp only [ByteArray.size_append, sz109, sz112, sz61]); omega)
  clear R T W
  go_enter Tryz.func99, Tryz.ntmps99
  go_wp2_with fail
  refine (RI.out _ H0.out.r).mono ?_
  rintro e w1 ⟨rfl, rfl⟩
  go_wp2_with fail
  refine (RA.out _).mono ?_
  rintro e w2 ⟨rfl, hb⟩
  have H2 := hid (H0.out.below hb)
  clear c0 c1 c2 c3 c4 hb H0
  obtain ⟨c0, c1, c2, c3, c4⟩ := H2.out.cell
  go_wp2_with fail
  rw [ET.out]
  refine (itoa_any g (by have := HW.out.hg; omega) (by have := HW.out.hg; omega) _ H2.out.t).mono ?_
  rintro e w3 ⟨rfl, hb⟩
  have H3 := hid (H2.out.below hb)
  clear c0 c1 c2 c3 c4 hb H2
  obtain ⟨c0, c1, c2, c3, c4⟩ := H3.out.cell
  go_wp2_with fail
  refine (itoa_any m (by have := HW.out.hm; omega) (by have := HW.out.hm; omega) _ H3.out.t).mono ?_
  rintro e w4 ⟨rfl, hb⟩
  have H4 := hid (H3.out.below hb)
  clear c0 c1 c2 c3 c4 hb H3
  obtain ⟨c0, c1, c2, c3, c4⟩ := H4.out.cell
  go_wp2_with fail
  refine (itoa_any p (by have := HW.out.hp; omega) (by have := HW.out.hp; omega) _ H4.out.t).mono ?_
  rintro e w5 ⟨rfl, hb⟩
  have H5 := hid (H4.out.below hb)
  clear c0 c1 c2 c3 c4 hb H4
  obtain ⟨c0, c1, c2, c3, c4⟩ := H5.out.cell
  go_wp2_with fail
  refine (fmt10 v (by have := HW.out.hv; omega) (by have := HW.out.hv; omega) _ H5.out.t).mono ?_
  rintro e w6 ⟨rfl, hb⟩
  have H6 := hid (H5.out.below hb)
  clear c0 c1 c2 c3 c4 hb H5
  obtain ⟨c0, c1, c2, c3, c4⟩ := H6.out.cell
  go_wp2
  exact bodyPost_ret (v := .tuple #[.string ((((glText k ++ itoaB g) ++ ({ data := #[109] } ++ itoaB m)) ++ ({ data := #[112] } ++ itoaB p)) ++ ({ data := #[61] } ++ itoaB v)), .int .i64 0]) (by simp [results, Tryz.results99, go_sem]) rfl ⟨rfl, H6.out.bl⟩
theorem word_any (k : Nat) (g m p v : Int) (hr : evRight k g m p v = true) (hv : -9223372036854775808 ≤ v ∧ v ≤ 9223372036854775807) (w : World) (R : GlRunes w) (T : PwTab w) :
    Calls Tryz.prog 99 #[.agg #[.int .i64 k, .int .i64 g, .int .i64 m, .int .i64 p, .int .i64 v]] w fun e w' => e = .returned (.tuple #[.string (wordB k g m p v), .int .i64 0]) ∧ Below w.heap.size w w' := by
  obtain ⟨⟨_, k8⟩, hg, hm, hp⟩ := right_all hr
  have W : Wdg k g m p v (glRune0 k) := ⟨by omega, hg, hm, hp, hv, rfl, hr⟩
  unfold wordB wordP wordM wordG
  by_cases m1 : m = -1 <;> by_cases p1 : p = -1 <;> by_cases v1 : v = 0
  · rw [if_pos m1, if_pos p1, if_pos v1]; exact word_000 k g m p v _ W w R T (by simp [m1]) (by simp [p1]) (by simp [v1])
  · rw [if_pos m1, if_pos p1, if_neg v1]; exact word_001 k g m p v _ W w R T (by simp [m1]) (by simp [p1]) (by simp [v1])
  · rw [if_pos m1, if_neg p1, if_pos v1]; exact word_010 k g m p v _ W w R T (by simp [m1]) (by simp [p1]) (by simp [v1])
  · rw [if_pos m1, if_neg p1, if_neg v1]; exact word_011 k g m p v _ W w R T (by simp [m1]) (by simp [p1]) (by simp [v1])
  · rw [if_neg m1, if_pos p1, if_pos v1]; exact word_100 k g m p v _ W w R T (by simp [m1]) (by simp [p1]) (by simp [v1])
  · rw [if_neg m1, if_pos p1, if_neg v1]; exact word_101 k g m p v _ W w R T (by simp [m1]) (by simp [p1]) (by simp [v1])
  · rw [if_neg m1, if_neg p1, if_pos v1]; exact word_110 k g m p v _ W w R T (by simp [m1]) (by simp [p1]) (by simp [v1])
  · rw [if_neg m1, if_neg p1, if_neg v1]; exact word_111 k g m p v _ W w R T (by simp [m1]) (by simp [p1]) (by simp [v1])
theorem ev5c {w : World} {B : Nat} {k g m p v : Int} {t : TypeId} (h : w.heap[B]? = some (.cells #[.int .i64 k, .int .i64 g, .int .i64 m, .int .i64 p, .int .i64 v] t (0, 0))) :
    w.cell? ⟨B, 0, none⟩ = some (.int .i64 k) ∧ w.cell? ⟨B, 1, none⟩ = some (.int .i64 g) ∧ w.cell? ⟨B, 2, none⟩ = some (.int .i64 m) ∧ w.cell? ⟨B, 3, none⟩ = some (.int .i64 p) ∧ w.cell? ⟨B, 4, none⟩ = some (.int .i64 v) := by simp [World.cell?, h]
theorem word_bad (k g m p v : Int) (hr : evRight k g m p v = false) (w : World) (R : GlRunes w) :
    Calls Tryz.prog 99 #[.agg #[.int .i64 k, .int .i64 g, .int .i64 m, .int .i64 p, .int .i64 v]] w fun e w' => e = .returned (.tuple #[.string { data := #[] }, .int .i64 1]) ∧ Below w.heap.size w w' := by
  have hb0 : Below w.heap.size w (w.alloc (.cells #[.int .i64 k, .int .i64 g, .int .i64 m, .int .i64 p, .int .i64 v] 147)) := (Below.refl _ _).alloc (Nat.le_refl _) _
  have BX := hid hb0
  have HR := hid (R.at hb0)
  have RA := hid (fun w => right_any k g m p v w)
  rw [hr] at RA
  have hbx := heap_alloc_new w (.cells #[.int .i64 k, .int .i64 g, .int .i64 m, .int .i64 p, .int .i64 v] 147)
  obtain ⟨c0, c1, c2, c3, c4⟩ := ev5c hbx
  by_cases hk : k < 0 ∨ 7 < k
  · have RO := hid (fun w => rune_out k hk w)
    clear hb0 hr hbx hk R
    go_enter Tryz.func99, Tryz.ntmps99
    go_wp2_with fail
    refine (RO.out _).mono ?_
    rintro e w1 ⟨rfl, rfl⟩
    go_wp2
    exact bodyPost_ret (v := .tuple #[.string { data := #[] }, .int .i64 1]) (by simp [results, Tryz.results99, go_sem]) rfl ⟨rfl, BX.out⟩
  · obtain ⟨j, rfl⟩ : ∃ j : Nat, k = j := ⟨k.toNat, by omega⟩
    have RI := hid (rune_in j (by omega))
    clear hb0 hr hbx hk R
    go_enter Tryz.func99, Tryz.ntmps99
    go_wp2_with fail
    refine (RI.out _ HR.out).mono ?_
    rintro e w1 ⟨rfl, rfl⟩
    go_wp2_with fail
    refine (RA.out _).mono ?_
    rintro e w2 ⟨rfl, hb⟩
    have B2 := hid (BX.out.trans (hb.mono BX.out.size))
    clear hb
    go_wp2
    exact bodyPost_ret (v := .tuple #[.string { data := #[] }, .int .i64 1]) (by simp [results, Tryz.results99, go_sem]) rfl ⟨rfl, B2.out⟩
end Go.Proofs.YtfpkgkjmpcoppaaGreatDoor
/-! Glyphs: the chapter's example. -/
namespace Go.Proofs.YtfpkgkjmpcoppaaGreatDoor
set_option linter.unusedVariables false
set_option linter.unusedSimpArgs false
open Go.RowKit

theorem itoa_3 : itoaB 3 = { data := #[51] } := by simp [itoaB, Lib.itoa, Lib.decDigits]
theorem itoa_1 : itoaB 1 = { data := #[49] } := by simp [itoaB, Lib.itoa, Lib.decDigits]
theorem itoa_0 : itoaB 0 = { data := #[48] } := by simp [itoaB, Lib.itoa, Lib.decDigits]
theorem itoa_m7 : itoaB (-7) = { data := #[45, 55] } := by simp [itoaB, Lib.itoa, Lib.decDigits]
theorem word_e1 : wordB 0 3 1 0 0 = { data := #[43, 51, 109, 49, 112, 48] } := by
  unfold wordB wordP wordM wordG
  rw [if_pos rfl, if_neg (by decide), if_neg (by decide), itoa_3, itoa_1, itoa_0]
  kernel_rfl
theorem word_e2 : wordB 5 3 1 0 (-7) = { data := #[226, 152, 190, 51, 109, 49, 112, 48, 61, 45, 55] } := by
  unfold wordB wordP wordM wordG
  rw [if_neg (by decide), if_neg (by decide), if_neg (by decide), itoa_3, itoa_1, itoa_0, itoa_m7]
  kernel_rfl
end Go.Proofs.YtfpkgkjmpcoppaaGreatDoor
/-! glyph.Print over any row of events. -/
namespace Go.Proofs.YtfpkgkjmpcoppaaGreatDoor
set_option linter.unusedVariables false
set_option linter.unusedSimpArgs false
open Go.RowKit

/-- An event's word, whether it may be, whether its value is one. -/
def wordE (e : Ev) : ByteArray := wordB e.1.toNat e.2.1 e.2.2.1 e.2.2.2.1 e.2.2.2.2
def rightE (e : Ev) : Bool := evRight e.1 e.2.1 e.2.2.1 e.2.2.2.1 e.2.2.2.2
def fitE (e : Ev) : Prop := -9223372036854775808 ≤ e.2.2.2.2 ∧ e.2.2.2.2 ≤ 9223372036854775807
def wordsL (es : List Ev) : List (List UInt8) := (es.map wordE).map (·.data.toList)
def textE (es : List Ev) : ByteArray := ⟨(Lib.join (wordsL es) [32]).toArray⟩
def allR (es : List Ev) : Bool := es.all rightE
theorem gl_list (k : Nat) (hk : k < 8) : (glText k).data.toList = Gw.gl k :=
  match k, hk with
  | 0, _ | 1, _ | 2, _ | 3, _ | 4, _ | 5, _ | 6, _ | 7, _ => rfl
theorem itoa_list (n : Int) : (itoaB n).data.toList = Lib.itoa n := rfl
theorem right_k {e : Ev} (h : rightE e = true) : ∃ k : Nat, e.1 = k ∧ k < 8 ∧ wordE e = wordB k e.2.1 e.2.2.1 e.2.2.2.1 e.2.2.2.2 := by
  obtain ⟨⟨h0, h8⟩, _⟩ := right_all h
  refine ⟨e.1.toNat, by omega, by omega, rfl⟩
theorem word_list {e : Ev} (h : rightE e = true) : (wordE e).data.toList = Gw.wl e.1.toNat e.2.1 e.2.2.1 e.2.2.2.1 e.2.2.2.2 := by
  obtain ⟨⟨h0, h8⟩, _⟩ := right_all h
  unfold wordE wordB wordP wordM wordG Gw.wl Gw.om Gw.op Gw.ov
  have hg := gl_list e.1.toNat (by omega)
  have hi := fun n => itoa_list n
  split <;> split <;> split <;> simp only [ByteArray.data_append, Array.toList_append, hg, hi, List.append_assoc, List.append_nil, List.nil_append, List.cons_append, List.singleton_append]
theorem word_size {e : Ev} (h : rightE e = true) (hf : fitE e) : (wordE e).data.toList.length ≤ 90 := by
  obtain ⟨⟨h0, h8⟩, hg, hm, hp⟩ := right_all h
  rw [word_list h]
  have t := text_size e.1.toNat (by omega)
  have z1 := Lib.itoa_length_le e.2.1 (by omega) (by omega)
  have z2 := Lib.itoa_length_le e.2.2.1 (by omega) (by omega)
  have z3 := Lib.itoa_length_le e.2.2.2.1 (by omega) (by omega)
  have z4 := Lib.itoa_length_le e.2.2.2.2 hf.1 hf.2
  have t2 : (Gw.gl e.1.toNat).length ≤ 3 := by rw [← gl_list _ (by omega)]; exact t
  unfold Gw.wl Gw.om Gw.op Gw.ov
  simp only [List.length_append]
  split <;> split <;> split <;> simp only [List.length_cons, List.length_nil] <;> omega
theorem lens_le : ∀ {xs : List (List UInt8)}, (∀ x ∈ xs, x.length ≤ 90) → Lib.lens xs ≤ xs.length * 90
  | [], _ => by simp [Lib.lens]
  | x :: xs, h => by
    have h1 := h x (by simp)
    have h2 := lens_le (xs := xs) (fun y hy => h y (by simp [hy]))
    simp only [Lib.lens, List.map_cons, List.sum_cons, List.length_cons] at h2 ⊢
    omega
theorem join_len {xs : List (List UInt8)} (h : ∀ x ∈ xs, x.length ≤ 90) : (Lib.join xs [32]).length ≤ xs.length * 100 := by
  cases xs with
  | nil => simp [Lib.join_nil]
  | cons x xs =>
    rw [Lib.join_cons, List.length_append, Lib.joinTail_length]
    have h1 := h x (by simp)
    have h2 := lens_le (xs := xs) (fun y hy => h y (by simp [hy]))
    simp only [List.length_cons, List.length_nil]
    omega
theorem wordsL_len (es : List Ev) : (wordsL es).length = es.length := by simp [wordsL]
theorem wordsL_90 {es : List Ev} (hr : allR es = true) (hf : ∀ e ∈ es, fitE e) : ∀ x ∈ wordsL es, x.length ≤ 90 := by
  intro x hx
  simp only [wordsL, List.map_map, List.mem_map, Function.comp] at hx
  obtain ⟨e, he, rfl⟩ := hx
  exact word_size (List.all_eq_true.1 hr e he) (hf e he)
/-- A row of texts that the walk owns. -/
def OwnS (w : World) (base : Nat) (v : Value) (ws : List ByteArray) : Prop := w.ownsRow base 9 1 v ws.length (ws.map Value.string)
theorem OwnS.below {w w' : World} {base : Nat} {v : Value} {ws : List ByteArray} (h : OwnS w base v ws) (hb : Below w.heap.size w w') : OwnS w' base v ws := by
  obtain ⟨h0, ⟨h1, h2⟩ | ⟨g, cap, cur, h1, h2, h3, h4⟩⟩ := h
  · exact ⟨h0, .inl ⟨h1, h2⟩⟩
  · have hg : g < w.heap.size := by obtain ⟨hl, _⟩ := Array.getElem?_eq_some_iff.1 h3; exact hl
    exact ⟨h0, .inr ⟨g, cap, cur, h1, h2, (hb.block g hg).trans h3, h4⟩⟩
theorem infoStr : (Tryz.prog.info? 9).map (fun i => (i.zero, i.size, i.bytes)) = some (some (.string { data := #[] }), 1, 16) := by kernel_rfl
theorem join_own (w : World) (base : Nat) (v : Value) (ws : List ByteArray) (h : OwnS w base v ws) (hl : ws.length ≤ 140737488355328)
    (hj : (Lib.join (ws.map (·.data.toList)) [32]).length ≤ 140737488355328) :
    Calls Tryz.prog 120 #[v, .string { data := #[32] }] w fun e w' => e = .returned (.string ⟨(Lib.join (ws.map (·.data.toList)) [32]).toArray⟩) ∧ Below w.heap.size w w' := by
  have h' := h
  obtain ⟨h0, ⟨h1, h2⟩ | ⟨g, cap, cur, h1, h2, h3, h4, h5⟩⟩ := h
  · subst h1
    have : ws = [] := List.length_eq_zero_iff.1 h2
    subst this
    exact (Any.strings_Join_none Tryz.laysJoin Tryz.Builder_Extra_156 none 0 { data := #[32] } w).mono fun e w' ⟨e1, e2⟩ => ⟨e1, e2 ▸ Below.refl _ _⟩
  · subst h1
    have hg : g < w.heap.size := by obtain ⟨hl, _⟩ := Array.getElem?_eq_some_iff.1 h3; exact hl
    refine Any.strings_Join Tryz.laysJoin Tryz.Builder_Extra_156 g 0 cap ws { data := #[32] } w (fun j x hx => ?_) hg hl h4 hj
    have hjl : j < ws.length := (List.getElem?_eq_some_iff.1 hx).1
    rw [Nat.zero_add, World.ownsRow.cellAt h' j (by omega), List.getElem?_map, hx]
    rfl
theorem allR_take {es : List Ev} {k : Nat} (h : k < es.length) : allR (es.take (k + 1)) = (allR (es.take k) && rightE (evAt es k)) := by
  rw [ev_take h]; simp [allR]
theorem evAt_mem {es : List Ev} {k : Nat} (h : k < es.length) : evAt es k ∈ es := by
  simp [evAt, List.getElem?_eq_getElem h]
/-- Events that came in. -/
theorem IsStructs.rdEf {w : World} {a : Option Addr} {len cap : Nat} {Z : Nat → Nat → Int} (h : IsStructs [.i64, .i64, .i64, .i64, .i64] w a len cap Z) :
    ∃ es : List Ev, es.length = len ∧ (∀ e ∈ es, fitE e) ∧ ∀ w', Below w.heap.size w w' → RdE w' (.slice a len cap) es := by
  obtain ⟨es, h1, h2⟩ := h.rdE
  refine ⟨es, h1, fun e he => ?_, h2⟩
  obtain ⟨i, hi, rfl⟩ := List.mem_iff_getElem.1 he
  obtain ⟨bx, off, rfl, hc⟩ := h.open (by omega) (by simp)
  obtain ⟨a', c', e', _, hh⟩ := h2 w (Below.refl _ _)
  simp only [Value.slice.injEq] at e'
  obtain ⟨rfl, e2, rfl⟩ := e'
  obtain ⟨q, o, e3, _, hq⟩ := hh (by omega)
  simp only [Option.some.injEq, Addr.mk.injEq, and_true] at e3
  obtain ⟨rfl, rfl⟩ := e3
  have c1 := (hq i hi).2.2.2.2
  have c2 := hc w (Below.refl _ _) i (by omega) 4 .i64 rfl
  have e4 : off + (i * [IntKind.i64, .i64, .i64, .i64, .i64].length + 4) = off + i * 5 + 4 := by simp; omega
  rw [e4, c1] at c2
  have e5 : evAt es i = es[i] := by simp [evAt, List.getElem?_eq_getElem hi]
  rw [e5] at c2
  obtain ⟨c2, c3⟩ := c2
  simp only [Option.some.injEq, Value.int.injEq, true_and] at c2
  rw [← c2] at c3
  exact bounds_i64 c3
set_option maxHeartbeats 4000000 in
theorem print_any (v : Value) (es : List Ev) (w : World) (R : GlRunes w) (T : PwTab w) (hr : RdE w v es) (hf : ∀ e ∈ es, fitE e) (hl : es.length ≤ 1000) :
    Calls Tryz.prog 86 #[v] w fun e w' => e = .returned (.tuple #[.string (if allR es then textE es else { data := #[] }), .int .i64 (if allR es then 0 else 1)]) ∧ Below w.heap.size w w' := by
  have RD := hid hr
  have HR := hid R
  have HT := hid T
  have HF := hid hf
  obtain ⟨a, c, rfl, _, _⟩ := hr
  obtain ⟨n, hn⟩ : ∃ n, n = es.length := ⟨_, rfl⟩
  have HN := hid hn
  rw [← hn] at hl ⊢
  obtain ⟨ts, hts⟩ : ∃ ts, ts = if allR es then textE es else { data := #[] } := ⟨_, rfl⟩
  obtain ⟨tn, htn⟩ : ∃ tn : Int, tn = if allR es then 0 else 1 := ⟨_, rfl⟩
  rw [← hts, ← htn]
  have HTS : Hid ((allR es = true → ts = textE es ∧ tn = 0) ∧ (allR es = false → ts = { data := #[] } ∧ tn = 1)) := hid ⟨fun h => by rw [hts, htn, h]; exact ⟨rfl, rfl⟩, fun h => by rw [hts, htn, h]; exact ⟨rfl, rfl⟩⟩
  clear hn R T hf hts htn
  have I0 := hid infoStr
  go_enter Tryz.func86, Tryz.ntmps86
  go_wp2_with fail
  go_loopw [4, 11] (fun x i wr => ∃ (k : Nat), k ≤ n ∧ i = .int .i64 k ∧ Hid (allR (es.take k) = true) ∧ Hid (OwnS wr w.heap.size x ((es.take k).map wordE)) ∧ Hid (Below w.heap.size w wr))
    (fun _ i _ => n - (intOf i).toNat)
  case atStart => exact ⟨0, by omega, rfl, hid (by simp [allR]), hid (show OwnS _ _ _ _ from World.ownsRow_nil w w.heap.size 9 1), hid (Below.refl _ _)⟩
  case round =>
    obtain ⟨k, hk, rfl, AR, OW, B⟩ := hrel
    by_cases hlt : k < n
    · obtain ⟨a', c', e, _, hh⟩ := RD.out.below B.out
      simp only [Value.slice.injEq] at e
      obtain ⟨rfl, _, rfl⟩ := e
      obtain ⟨q, off, rfl, _, hc⟩ := hh (by have := HN.out; omega)
      obtain ⟨h0, h1, h2, h3, h4⟩ := hc k (by have := HN.out; omega)
      have TK := hid (ev_take (es := es) (k := k) (by have := HN.out; omega))
      have AT := hid (allR_take (es := es) (k := k) (by have := HN.out; omega))
      have EM := hid (evAt_mem (es := es) (k := k) (by have := HN.out; omega))
      generalize evAt es k = ev at *
      obtain ⟨kd, gg, mm, pp, vv⟩ := ev
      simp only at h0 h1 h2 h3 h4
      have hbs := B.out.size
      have B2 := hid (B.out.alloc B.out.size (.cells #[.int .i64 kd, .int .i64 gg, .int .i64 mm, .int .i64 pp, .int .i64 vv] 147))
      have hsz : (wr.alloc (.cells #[.int .i64 kd, .int .i64 gg, .int .i64 mm, .int .i64 pp, .int .i64 vv] 147)).heap.size = wr.heap.size + 1 := by simp
      have OW2 := hid (show OwnS (wr.alloc (.cells #[.int .i64 kd, .int .i64 gg, .int .i64 mm, .int .i64 pp, .int .i64 vv] 147)) w.heap.size _ _ from World.ownsRow.alloc OW.out _)
      have hbx := heap_alloc_new wr (.cells #[.int .i64 kd, .int .i64 gg, .int .i64 mm, .int .i64 pp, .int .i64 vv] 147)
      by_cases hrt : rightE (kd, gg, mm, pp, vv) = true
      · obtain ⟨kk, hkk, hk8, hw⟩ := right_k hrt
        simp only at hkk hw
        subst hkk
        have WA := hid (word_any kk gg mm pp vv hrt (HF.out _ EM.out) _ (HR.out.at B2.out) (HT.out.at B2.out))
        rw [← hw] at WA
        have AR2 := hid (show allR (es.take (k + 1)) = true by rw [AT.out, AR.out, hrt]; rfl)
        have TW := hid (show (es.take (k + 1)).map wordE = (es.take k).map wordE ++ [wordE (↑kk, gg, mm, pp, vv)] by rw [TK.out, List.map_append]; rfl)
        have hln : ((es.take k).map wordE).length ≤ k := by rw [List.length_map]; exact List.length_take_le _ _
        generalize (es.take k).map wordE = ws at *
        generalize wordE (↑kk, gg, mm, pp, vv) = wd at *
        clear hh hc OW B AT AR hw hrt
        go_wp2_with fail
        refine WA.out.mono ?_
        rintro e w3 ⟨rfl, hb3⟩
        have B3 := hid (B2.out.trans (hb3.mono B2.out.size))
        have OW3 := hid (OW2.out.below hb3)
        have hs3 := hb3.size
        clear WA B2 OW2 hb3
        obtain ⟨i0, hi, hz0, hz1, hz2⟩ := info_parts I0.out
        have hO4 := World.ownsRow.alloc OW3.out (.cells #[.string wd] 9)
        have OWL := hid (World.ownsRow.lt OW3.out)
        have hb4 := B3.out.alloc B3.out.size (.cells #[.string wd] 9)
        go_wp2_with (at_builtin; refine wpList_append_own_at _ rfl _ _ 60 rfl w.heap.size 9 i0 (.string { data := #[] }) 1 16 Tryz.underlying60 hi hz0 hz1 hz2 rfl (by decide) _ _ _ rfl hO4 ⟨w3.heap.size, 0, none⟩ 1 1 [.string wd] rfl rfl ?c1 ?c2 ?c3 ?c4 ?c5 ?_)
        case c1 =>
          intro j u hj
          rcases j with _ | j
          · simp only [List.getElem?_cons_zero, Option.some.injEq] at hj
            subst hj
            rw [show ((⟨w3.heap.size, 0, none⟩ : Addr).add 0) = ⟨w3.heap.size, 0, none⟩ from rfl]
            have hnw := heap_alloc_new w3 (.cells #[.string wd] 9)
            simp only [World.cell?, hnw]
            rfl
          · simp at hj
        case c2 =>
          intro u hu
          simp only [List.mem_singleton] at hu
          subst hu
          rfl
        case c3 => unfold maxLen; omega
        case c4 => omega
        case c5 => simp; omega
        intro v' w6 hown6 hgrow _ _
        have O6 := hid (show OwnS w6 w.heap.size v' ((es.take (k + 1)).map wordE) by
          rw [TW.out]
          unfold OwnS
          rw [List.length_append, List.map_append]
          exact hown6)
        have B6 := hid (hb4.grown hgrow (by have := B3.out.size; simp; omega) (fun q hq => (OWL.out q hq).1))
        clear hown6 hgrow hO4 OWL hi hz0 hz1 hz2 B3 OW3 hb4
        go_wp2
        go_roundw
        case rel => exact ⟨k + 1, by omega, by go_num, AR2, O6, B6⟩
        case measure => simp [intOf]; omega
      · have hrf : rightE (kd, gg, mm, pp, vv) = false := by simpa using hrt
        have WB := hid (word_bad kd gg mm pp vv hrf _ (HR.out.at B2.out))
        have AF : allR es = false := by
          rw [allR, List.all_eq_false]
          exact ⟨_, EM.out, by rw [hrf]; simp⟩
        obtain ⟨e1, e2⟩ := HTS.out.2 AF
        subst e1 e2
        clear hh hc OW B AT AR hrt hrf AF OW2 TK
        go_wp2_with fail
        refine WB.out.mono ?_
        rintro e w3 ⟨rfl, hb3⟩
        have B3 := hid (B2.out.trans (hb3.mono B2.out.size))
        clear WB B2 hb3
        go_wp2
        exact bodyPost_ret (v := .tuple #[.string { data := #[] }, .int .i64 1]) (by simp [results, Tryz.results86, go_sem]) rfl ⟨rfl, B3.out⟩
    · obtain rfl : k = n := by omega
      rw [List.take_of_length_le (by have := HN.out; omega)] at OW AR
      have JO := hid (join_own wr w.heap.size _ _ OW.out (by rw [List.length_map]; have := HN.out; omega) (by have := join_len (wordsL_90 AR.out HF.out); rw [wordsL_len] at this; have h2 := HN.out; exact Nat.le_trans this (by omega)))
      obtain ⟨e1, e2⟩ := HTS.out.1 AR.out
      subst e1 e2
      clear OW
      go_wp2_with fail
      refine JO.out.mono ?_
      rintro e w3 ⟨rfl, hb3⟩
      have B3 := hid (B.out.trans (hb3.mono B.out.size))
      clear hb3 B JO
      go_wp2
      exact bodyPost_ret (v := .tuple #[.string (textE es), .int .i64 0]) (by simp [results, Tryz.results86, go_sem, textE, wordsL]) rfl ⟨rfl, B3.out⟩
theorem right_wl {e : Ev} (h : rightE e = true) : Gw.Wo ((wordE e).data.toList) := by
  obtain ⟨⟨h0, h8⟩, _⟩ := right_all h
  rw [word_list h]
  exact ⟨Gw.wl_ne (by omega), Gw.wl_nb (by omega)⟩
theorem wordsL_wo {es : List Ev} (hr : allR es = true) : ∀ x ∈ wordsL es, Gw.Wo x := by
  intro x hx
  simp only [wordsL, List.map_map, List.mem_map, Function.comp] at hx
  obtain ⟨e, he, rfl⟩ := hx
  exact right_wl (List.all_eq_true.1 hr e he)
theorem word_inj {e f : Ev} (he : rightE e = true) (hf : rightE f = true) (h : (wordE e).data.toList = (wordE f).data.toList) : e = f := by
  rw [word_list he, word_list hf] at h
  obtain ⟨⟨a0, a8⟩, ag, am, ap⟩ := right_all he
  obtain ⟨⟨b0, b8⟩, bg, bm, bp⟩ := right_all hf
  obtain ⟨h1, h2, h3, h4, h5⟩ := Gw.wl_inj (by omega) (by omega) ag.1 bg.1 am.1 bm.1 ap.1 bp.1 h
  obtain ⟨e1, e2, e3, e4, e5⟩ := e
  obtain ⟨f1, f2, f3, f4, f5⟩ := f
  simp only at *
  have : e1 = f1 := by omega
  subst this h2 h3 h4 h5
  rfl
theorem wordsL_inj : ∀ {es fs : List Ev}, allR es = true → allR fs = true → wordsL es = wordsL fs → es = fs
  | [], [], _, _, _ => rfl
  | [], f :: fs, _, _, h => by simp [wordsL] at h
  | e :: es, [], _, _, h => by simp [wordsL] at h
  | e :: es, f :: fs, h1, h2, h => by
    simp only [allR, List.all_cons, Bool.and_eq_true] at h1 h2
    simp only [wordsL, List.map_cons, List.cons.injEq] at h
    rw [word_inj h1.1 h2.1 h.1, wordsL_inj h1.2 h2.2 h.2]
theorem text_eqb {es fs : List Ev} (h1 : allR es = true) (h2 : allR fs = true) : ((textE es).toList == (textE fs).toList) = decide (es = fs) := by
  by_cases h : es = fs
  · subst h; simp
  · rw [decide_eq_false h]
    refine txt_ne fun e => h (wordsL_inj h1 h2 (Gw.join_inj (wordsL_wo h1) (wordsL_wo h2) ?_))
    simpa [textE] using congrArg (fun b : ByteArray => b.data.toList) e
theorem text_nil {es : List Ev} (h1 : allR es = true) : ((textE es).toList == (({ data := #[] } : ByteArray)).toList) = decide (es = []) := by
  have := text_eqb h1 (fs := []) rfl
  simpa [textE, wordsL, Lib.join_nil] using this
theorem text_size' {es : List Ev} (h1 : allR es = true) (hf : ∀ e ∈ es, fitE e) : (textE es).size ≤ es.length * 100 := by
  have := join_len (wordsL_90 h1 hf)
  rw [wordsL_len] at this
  simpa [textE, ByteArray.size] using this
theorem text_two {es fs : List Ev} (h1 : es ≠ []) (h2 : fs ≠ []) : textE (es ++ fs) = (textE es ++ { data := #[32] }) ++ textE fs := by
  have := Gw.join_two (r := wordsL es) (s := wordsL fs) (by simpa [wordsL] using h1) (by simpa [wordsL] using h2)
  have e : wordsL (es ++ fs) = wordsL es ++ wordsL fs := by simp [wordsL]
  apply ByteArray.ext
  simp [textE, e, this, ByteArray.data_append]
theorem allR_app (es fs : List Ev) : allR (es ++ fs) = (allR es && allR fs) := by simp [allR]
end Go.Proofs.YtfpkgkjmpcoppaaGreatDoor
