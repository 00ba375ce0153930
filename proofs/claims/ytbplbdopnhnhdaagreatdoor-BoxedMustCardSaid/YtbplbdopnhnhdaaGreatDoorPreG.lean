/- What other texts are built of: ByG, ByW. -/
import Derived.Test.YtbplbdopnhnhdaaGreatDoorPre1
import Derived.OpenShut
import Derived.ShutString
import Derived.ChangeSame
import Derived.WideShapes
import Derived.Deep.Slices
import Derived.Deep.Fields
import Derived.Test.YtbplbdopnhnhdaaGreatDoorByM
/-! A struct, by value or in a slice, of integers and texts and of structs of such, that came in. Nothing of the program. -/
namespace Go.Proofs.YtbplbdopnhnhdaaGreatDoor
set_option linter.unusedVariables false
open Go.RowKit Go.ChangeShapes Go.WideShapes Go.Deep
/-- A cell: an integer of a kind; a text. -/
def CellOk (k : Option IntKind) (v : Value) : Prop := match k with
  | some k => ∃ q, v = .int k q ∧ (Lit.int k q).wf = true
  | none => ∃ s : ByteArray, v = .string s ∧ s.size ≤ maxLen
def LeafOk (P : Program) (t : TypeId) (k : Option IntKind) : Prop := (match k with
  | some k => P.underlying t = some (.int k)
  | none => P.underlying t = some .string) ∧ P.cellsOf t = 1
theorem leaf_cell {H : Type} {enc : TypeId × Value → H} {P : Program} {w : World} {base : Nat} {spare : Nat → Bool} {held : Bool} {t : TypeId} {fuel : Nat} {v : Value} {k : Option IntKind} {x : DataW H × List MemPlace} (hk : LeafOk P t k)
    (h : DataW.trod enc P w base spare held fuel t [v] = some x) : CellOk k v := by
  rcases k with _ | k
  · obtain ⟨s, hs, _, hl⟩ := DataW.trod_string hk.1 h
    simp only [List.cons.injEq, and_true] at hs
    exact ⟨s, hs, hl⟩
  · obtain ⟨q, hq, _, hwf⟩ := DataW.trod_int hk.1 h
    simp only [List.cons.injEq, and_true] at hq
    exact ⟨q, hq, hwf⟩
theorem drop_oneG {α : Type} {l : List α} {j : Nat} (h : j < l.length) : (l.drop j).take 1 = [l[j]] := by rw [List.drop_eq_getElem_cons h]; rfl
/-- Where a struct's cell j lies: a field of its own, or a field of a field. -/
def FieldAt (P : Program) (fs : Array Field) (j : Nat) (k : Option IntKind) : Prop :=
  (∃ (i : Nat) (f : Field), fs[i]? = some f ∧ f.offset = j ∧ LeafOk P f.type k) ∨
  (∃ (i : Nat) (f : Field) (gs : Array Field) (i2 : Nat) (g : Field) (c o : Nat), fs[i]? = some f ∧ P.underlying f.type = some (.struct gs) ∧ gs[i2]? = some g ∧ P.cellsOf f.type = c ∧ g.offset = o ∧ f.offset + o = j ∧ o < c ∧ LeafOk P g.type k)
theorem struct_cells {H : Type} {enc : TypeId × Value → H} {P : Program} {w : World} {base : Nat} {spare : Nat → Bool} {held : Bool} {e : TypeId} {fs : Array Field} {fuel : Nat} {x : DataW H × List MemPlace} {cs : List Value}
    (ks : List (Option IntKind)) (he : P.underlying e = some (.struct fs)) (hC : P.cellsOf e = ks.length) (hk : ∀ (j : Nat) (k : Option IntKind), ks[j]? = some k → FieldAt P fs j k)
    (h : DataW.trod enc P w base spare held fuel e cs = some x) (hl : cs.length = ks.length) (j : Nat) (k : Option IntKind) (hj : ks[j]? = some k) : ∃ v, cs[j]? = some v ∧ CellOk k v := by
  obtain ⟨xs, n', _, _, hlen, hxl, hf⟩ := DataW.trod_struct he h
  have hjl : j < ks.length := (List.getElem?_eq_some_iff.1 hj).1
  have hjc : j < cs.length := by omega
  refine ⟨cs[j], List.getElem?_eq_getElem hjc, ?_⟩
  rcases hk j k hj with ⟨i1, f, hf1, hf2, hf3⟩ | ⟨i1, f, gs, i2, g, c2, o, hf1, hf2, hg1, hf4, hgo, hfo, hoc, hg3⟩
  · have hjf : i1 < fs.size := (Array.getElem?_eq_some_iff.1 hf1).1
    have h1 := hf i1 f hf1
    rw [hf2, hf3.2, drop_oneG hjc, List.getElem?_eq_getElem (by omega : i1 < xs.length)] at h1
    exact leaf_cell hf3 h1
  · have hjf : i1 < fs.size := (Array.getElem?_eq_some_iff.1 hf1).1
    have h1 := hf i1 f hf1
    rw [List.getElem?_eq_getElem (by omega : i1 < xs.length)] at h1
    obtain ⟨ys, n2, _, _, hlen2, hyl, hf'⟩ := DataW.trod_struct hf2 h1
    have hjg : i2 < gs.size := (Array.getElem?_eq_some_iff.1 hg1).1
    have h2 := hf' i2 g hg1
    rw [List.getElem?_eq_getElem (by omega : i2 < ys.length), hgo, hg3.2, hf4] at h2
    have e1 : (((cs.drop f.offset).take c2).drop o).take 1 = [cs[j]] := by
      rw [List.drop_take, List.take_take, List.drop_drop, show min 1 (c2 - o) = 1 by omega, ← drop_oneG hjc, hfo]
    rw [e1] at h2
    exact leaf_cell hg3 h2
/-- A slice of structs of such cells. -/
def IsMixed (ks : List (Option IntKind)) (w : World) (a : Option Addr) (len cap : Nat) (Z : Nat → Nat → Value) : Prop :=
  (a = none ∧ len = 0 ∧ cap = 0) ∨
  ∃ x, a = some x ∧ len ≤ cap ∧ cap ≤ maxLen ∧ ∀ i, i < len → ∀ (j : Nat) (k : Option IntKind), ks[j]? = some k → w.cell? (x.add (i * ks.length + j)) = some (Z i j) ∧ CellOk k (Z i j)
theorem open_mixed {H : Type} {enc : TypeId × Value → H} {P : Program} {w : World} {base : Nat} {spare : Nat → Bool} {held : Bool} {t e : TypeId} {fs : Array Field} {fuel : Nat} {x : DataW H × List MemPlace}
    {a : Option Addr} {len cap : Nat} (ks : List (Option IntKind)) (ht : P.underlying t = some (.slice e)) (he : P.underlying e = some (.struct fs)) (hC : P.cellsOf e = ks.length) (hk : ∀ (j : Nat) (k : Option IntKind), ks[j]? = some k → FieldAt P fs j k)
    (h : DataW.trod enc P w base spare held fuel t [.slice a len cap] = some x) : ∃ Z, IsMixed ks w a len cap Z := by
  rcases open_slice ht h with ⟨hcs, _⟩ | ⟨x', l, c, m, n, D, Pl, hcs, hb, hl, hm, hmm, hx, hi⟩
  · simp at hcs
    obtain ⟨rfl, rfl, rfl⟩ := hcs
    exact ⟨fun _ _ => .nilIface, .inl ⟨rfl, rfl, rfl⟩⟩
  · simp at hcs
    obtain ⟨rfl, rfl, rfl⟩ := hcs
    refine ⟨fun i j => (w.cell? (x'.add (i * ks.length + j))).getD .nilIface, .inr ⟨x', rfl, hl, hm, fun i hil j k hj => ?_⟩⟩
    have him : i < m := by rw [hmm]; split <;> omega
    obtain ⟨cs', hc, ht'⟩ := hi i him
    rw [hC] at hc
    obtain ⟨_, hcl, hat⟩ := World.cells?_some hc
    have hjl : j < ks.length := (List.getElem?_eq_some_iff.1 hj).1
    obtain ⟨v, hv, hok⟩ := struct_cells ks he hC hk ht' hcl j k hj
    have hcell := hat j hjl
    rw [add_add, hv] at hcell
    simp only [hcell, Option.getD_some]
    exact ⟨trivial, hok⟩
/-- A struct of such cells, by value. -/
def IsMix1 (ks : List (Option IntKind)) (cs : Array Value) (Z : Nat → Value) : Prop :=
  cs = ((List.range ks.length).map Z).toArray ∧ ∀ (j : Nat) (k : Option IntKind), ks[j]? = some k → CellOk k (Z j)
theorem open_mix1 {H : Type} {enc : TypeId × Value → H} {P : Program} {w : World} {base : Nat} {spare : Nat → Bool} {held : Bool} {t : TypeId} {fs : Array Field} {d : DataW H} {p : List MemPlace} {cs : Array Value}
    (ks : List (Option IntKind)) (ht : P.underlying t = some (.struct fs)) (hC : P.cellsOf t = ks.length) (hk : ∀ (j : Nat) (k : Option IntKind), ks[j]? = some k → FieldAt P fs j k)
    (h : DataW.Trod enc P w base spare held t (.agg cs) d p) : ∃ Z, IsMix1 ks cs Z := by
  obtain ⟨fuel, h⟩ := h
  have hl : (Value.agg cs).cells.toList.length = ks.length := by
    obtain ⟨xs, n, _, _, hlen, hxl, hf⟩ := DataW.trod_struct ht h
    omega
  have key := struct_cells ks ht hC hk h hl
  have hsz : cs.size = ks.length := by simpa [Value.cells] using hl
  refine ⟨fun j => cs[j]?.getD .nilIface, ?_, fun j k hj => ?_⟩
  · apply Array.ext_getElem?
    intro j
    rcases Nat.lt_or_ge j ks.length with hj | hj
    · have : j < cs.size := by omega
      simp [hj, this]
    · rw [Array.getElem?_eq_none (by omega)]
      simp [hj]
  · obtain ⟨v, hv, hok⟩ := key j k hj
    have : cs[j]? = some v := by simpa [Value.cells] using hv
    simp only [this, Option.getD_some]
    exact hok
theorem IsMixed.open {ks : List (Option IntKind)} {w : World} {a : Option Addr} {len cap : Nat} {Z : Nat → Nat → Value} (h : IsMixed ks w a len cap Z) (h0 : 0 < len) (hk : 0 < ks.length) :
    ∃ bx off, a = some ⟨bx, off, none⟩ ∧ bx < w.heap.size ∧ ∀ i, i < len → ∀ j k, ks[j]? = some k → w.cell? ⟨bx, off + (i * ks.length + j), none⟩ = some (Z i j) ∧ CellOk k (Z i j) := by
  rcases h with ⟨_, h, _⟩ | ⟨⟨bx, off, spot⟩, rfl, hl, hm, hc⟩
  · omega
  · obtain ⟨c0, _⟩ := hc 0 h0 0 ks[0] (List.getElem?_eq_getElem hk)
    have hs : spot = none := by simpa [Addr.add] using World.cell?_spot c0
    subst hs
    have hb : bx < w.heap.size := by
      rcases Nat.lt_or_ge bx w.heap.size with h | h
      · exact h
      · simp [World.cell?, Addr.add, Array.getElem?_eq_none h] at c0
    refine ⟨bx, off, rfl, hb, fun i hi j k hj => ?_⟩
    have := hc i hi j k hj
    rw [Addr.add_lit] at this
    exact this
end Go.Proofs.YtbplbdopnhnhdaaGreatDoor
/-! Raw things that came in, as raw things. -/
namespace Go.Proofs.YtbplbdopnhnhdaaGreatDoor
open Go.RowKit
set_option linter.unusedVariables false
set_option linter.unusedSimpArgs false
set_option maxRecDepth 20000
abbrev rawK : List (Option IntKind) := [some .u8, some .i64, some .i64, some .i64, some .u8, some .u8, some .i64, some .i64, some .i64, some .i64, some .i64, some .i64, some .i64, some .i64, some .i64, some .i32, none]
def intV : Value → Int
  | .int _ q => q
  | _ => 0
def strV : Value → ByteArray
  | .string s => s
  | _ => { data := #[] }
def rawOf (z : Nat → Value) : Raw := ⟨intV (z 0), (intV (z 1), intV (z 2), intV (z 3)), (intV (z 4), intV (z 5), intV (z 6), intV (z 7), intV (z 8)), (intV (z 9), intV (z 10), intV (z 11), intV (z 12), intV (z 13)), intV (z 14), intV (z 15), strV (z 16)⟩
theorem int_ok {k : IntKind} {v : Value} (h : CellOk (some k) v) : v = .int k (intV v) ∧ (Lit.int k (intV v)).wf = true := by
  obtain ⟨q, rfl, hw⟩ := h
  exact ⟨rfl, hw⟩
theorem str_ok {v : Value} (h : CellOk none v) : v = .string (strV v) := by
  obtain ⟨s, rfl, _⟩ := h
  rfl
/-- Kinds and runes are in their ranges. -/
def RawIn (x : Raw) : Prop := (0 ≤ x.k ∧ x.k < 256) ∧ -2147483648 ≤ x.r ∧ x.r ≤ 2147483647
theorem raw_of {z : Nat → Value} (h : ∀ j k, rawK[j]? = some k → CellOk k (z j)) : (∀ j, j < 17 → (rawc (rawOf z))[j]? = some (z j)) ∧ RawIn (rawOf z) := by
  have i := fun j k (hj : rawK[j]? = some (some k)) => int_ok (h j _ hj)
  refine ⟨fun j hj => ?_, ?_, ?_⟩
  · match j, hj with
    | 0, _ => exact congrArg some (i 0 .u8 rfl).1.symm
    | 1, _ => exact congrArg some (i 1 .i64 rfl).1.symm
    | 2, _ => exact congrArg some (i 2 .i64 rfl).1.symm
    | 3, _ => exact congrArg some (i 3 .i64 rfl).1.symm
    | 4, _ => exact congrArg some (i 4 .u8 rfl).1.symm
    | 5, _ => exact congrArg some (i 5 .u8 rfl).1.symm
    | 6, _ => exact congrArg some (i 6 .i64 rfl).1.symm
    | 7, _ => exact congrArg some (i 7 .i64 rfl).1.symm
    | 8, _ => exact congrArg some (i 8 .i64 rfl).1.symm
    | 9, _ => exact congrArg some (i 9 .i64 rfl).1.symm
    | 10, _ => exact congrArg some (i 10 .i64 rfl).1.symm
    | 11, _ => exact congrArg some (i 11 .i64 rfl).1.symm
    | 12, _ => exact congrArg some (i 12 .i64 rfl).1.symm
    | 13, _ => exact congrArg some (i 13 .i64 rfl).1.symm
    | 14, _ => exact congrArg some (i 14 .i64 rfl).1.symm
    | 15, _ => exact congrArg some (i 15 .i32 rfl).1.symm
    | 16, _ => exact congrArg some (str_ok (h 16 none rfl)).symm
    | n + 17, hj => omega
  · have := (i 0 .u8 rfl).2
    simp [Lit.wf, IntKind.wrap, IntKind.bits, IntKind.signed] at this
    show 0 ≤ intV (z 0) ∧ intV (z 0) < 256
    have h1 : IntKind.u8.min = 0 := rfl
    have h2 : IntKind.u8.max = 255 := rfl
    omega
  · have := (i 15 .i32 rfl).2
    simp [Lit.wf, IntKind.wrap, IntKind.bits, IntKind.signed] at this
    show -2147483648 ≤ intV (z 15) ∧ intV (z 15) ≤ 2147483647
    have h1 : IntKind.i32.min = -2147483648 := rfl
    have h2 : IntKind.i32.max = 2147483647 := rfl
    omega
theorem raws_of {w : World} {a : Option Addr} {len cap : Nat} {Z : Nat → Nat → Value} (h : IsMixed rawK w a len cap Z) : ∃ xs : List Raw, xs.length = len ∧ RdR w (.slice a len cap) xs ∧ ∀ x ∈ xs, RawIn x := by
  rcases Nat.eq_zero_or_pos len with h0 | h0
  · subst h0
    refine ⟨[], rfl, ?_, fun x hx => by simp at hx⟩
    rcases h with ⟨rfl, _, rfl⟩ | ⟨x, rfl, hl, hm, _⟩
    · exact ⟨none, 0, rfl, Nat.le_refl _, by simp, fun h => by simp at h⟩
    · exact ⟨_, cap, rfl, hl, hm, fun h => by simp at h⟩
  · have hh := h.open h0 (by decide)
    obtain ⟨hl, hm⟩ : len ≤ cap ∧ cap ≤ maxLen := by
      rcases h with ⟨_, h1, _⟩ | ⟨x, _, hl, hm, _⟩
      · omega
      · exact ⟨hl, hm⟩
    obtain ⟨bx, off, rfl, hb, hc⟩ := hh
    have hx : ∀ i, i < len → _ := fun i hi => raw_of (z := Z i) (fun j k hj => (hc i hi j k hj).2)
    refine ⟨(List.range len).map fun i => rawOf (Z i), by simp, ⟨some ⟨bx, off, none⟩, cap, by simp, by simpa using hl, hm, fun _ => ⟨bx, off, rfl, hb, fun i hi j hj => ?_⟩⟩, fun x hx' => ?_⟩
    · simp at hi
      obtain ⟨k, hk⟩ : ∃ k, rawK[j]? = some k := ⟨_, List.getElem?_eq_getElem (show j < rawK.length from hj)⟩
      have h1 := (hc i hi j k hk).1
      rw [show rawK.length = 17 from rfl] at h1
      rw [h1, show rawAt ((List.range len).map fun i => rawOf (Z i)) i = rawOf (Z i) from by simp [rawAt, hi]]
      exact ((hx i hi).1 j hj).symm
    · obtain ⟨i, hi, rfl⟩ := List.mem_map.1 hx'
      exact (hx i (List.mem_range.1 hi)).2
theorem few_ok {l : List Raw} (h : fewB l = true) (hi : ∀ x ∈ l, RawIn x) : l.length ≤ 40 ∧ ∀ x ∈ l, RawOk x := by
  unfold fewB at h
  rw [Bool.and_eq_true] at h
  refine ⟨of_decide_eq_true h.2, fun x hx => ?_⟩
  have h1 := of_decide_eq_true (List.all_eq_true.1 h.1 x hx)
  obtain ⟨⟨k0, k1⟩, r0, r1⟩ := hi x hx
  exact ⟨k0, k1, r0, r1, by omega⟩
end Go.Proofs.YtbplbdopnhnhdaaGreatDoor
