/- glyph.read of any text: the event whose word it is, or none. -/
import Derived.Test.YtnaphgjkkagpoaaDoorRdWd
import Derived.Test.YtnaphgjkkagpoaaDoorGlyph3
import Derived.Test.YtnaphgjkkagpoaaDoorGlyph4
import Derived.BigQuiet
import Derived.Deep.CutRange
import Derived.Deep.CutBlock
namespace Go.Proofs.YtnaphgjkkagpoaaDoor
set_option linter.unusedVariables false
set_option linter.unusedSimpArgs false
set_option maxRecDepth 20000
open Go.RowKit

theorem kind_hit (x : Int) (q : Nat) (hq : q < 8) (h : IsKind x q) (w : World) (R : GlRunes w) : Calls Tryd.prog 39 #[.int .i32 x] w fun e w' => e = .returned (.tuple #[.int .i64 q, .bool true]) ∧ w' = w := by
  have := kind_any x q (by omega) h w R
  rw [if_pos hq, decide_eq_true hq] at this
  exact this
theorem kind_miss (x : Int) (h : IsKind x 8) (w : World) (R : GlRunes w) : Calls Tryd.prog 39 #[.int .i32 x] w fun e w' => e = .returned (.tuple #[.int .i64 0, .bool false]) ∧ w' = w :=
  kind_any x 8 (by omega) h w R
theorem rune_inj : ∀ i j : Nat, i < 8 → j < 8 → glRune0 i = glRune0 j → i = j := by
  intro i j hi hj h
  match i, hi, j, hj with
  | 0, _, j, hj => match j, hj with
    | 0, _ | 1, _ | 2, _ | 3, _ | 4, _ | 5, _ | 6, _ | 7, _ => first | rfl | exact absurd h (by decide)
  | 1, _, j, hj => match j, hj with
    | 0, _ | 1, _ | 2, _ | 3, _ | 4, _ | 5, _ | 6, _ | 7, _ => first | rfl | exact absurd h (by decide)
  | 2, _, j, hj => match j, hj with
    | 0, _ | 1, _ | 2, _ | 3, _ | 4, _ | 5, _ | 6, _ | 7, _ => first | rfl | exact absurd h (by decide)
  | 3, _, j, hj => match j, hj with
    | 0, _ | 1, _ | 2, _ | 3, _ | 4, _ | 5, _ | 6, _ | 7, _ => first | rfl | exact absurd h (by decide)
  | 4, _, j, hj => match j, hj with
    | 0, _ | 1, _ | 2, _ | 3, _ | 4, _ | 5, _ | 6, _ | 7, _ => first | rfl | exact absurd h (by decide)
  | 5, _, j, hj => match j, hj with
    | 0, _ | 1, _ | 2, _ | 3, _ | 4, _ | 5, _ | 6, _ | 7, _ => first | rfl | exact absurd h (by decide)
  | 6, _, j, hj => match j, hj with
    | 0, _ | 1, _ | 2, _ | 3, _ | 4, _ | 5, _ | 6, _ | 7, _ => first | rfl | exact absurd h (by decide)
  | 7, _, j, hj => match j, hj with
    | 0, _ | 1, _ | 2, _ | 3, _ | 4, _ | 5, _ | 6, _ | 7, _ => first | rfl | exact absurd h (by decide)
theorem isKind_own (j : Nat) (hj : j < 8) : IsKind (glRune0 j) j := ⟨fun m hm h => by have := rune_inj m j (by omega) hj h; omega, fun _ => rfl⟩
theorem isKind_ex (x : Int) : ∃ q, q ≤ 8 ∧ IsKind x q := by
  have go : ∀ n, n ≤ 8 → (∃ q, q ≤ 8 ∧ IsKind x q) ∨ ∀ m, m < n → glRune0 m ≠ x := by
    intro n
    induction n with
    | zero => intro _; exact .inr (fun m hm => by omega)
    | succ n ih =>
      intro hn
      rcases ih (by omega) with h | h
      · exact .inl h
      · by_cases hx : glRune0 n = x
        · exact .inl ⟨n, by omega, h, fun _ => hx⟩
        · exact .inr fun m hm => by
            by_cases hmn : m = n
            · rw [hmn]; exact hx
            · exact h m (by omega)
  rcases go 8 (by omega) with h | h
  · exact h
  · exact ⟨8, by omega, h, fun h => by omega⟩
/-- A text is an event's word. -/
def IsW (s : ByteArray) (e : Ev) : Prop := rightE e = true ∧ fitE e ∧ wordE e = s
/-- What stands behind the rune of an event's word. -/
def tailW (e : Ev) : List UInt8 := Lib.itoa e.2.1 ++ (Gw.om e.2.2.1 ++ (Gw.op e.2.2.2.1 ++ Gw.ov e.2.2.2.2))
theorem isW_list {s : ByteArray} {e : Ev} (h : IsW s e) : s.data.toList = Gw.gl e.1.toNat ++ tailW e := by
  rw [← h.2.2, word_list h.1]
  rfl
theorem isW_dec {s : ByteArray} {e : Ev} (h : IsW s e) : ((Utf8.decode s 0).1 : Int) = glRune0 e.1.toNat ∧ tailW e = s.data.toList.drop (Utf8.decode s 0).2 ∧ 0 < s.size := by
  obtain ⟨⟨h0, h8⟩, _⟩ := right_all h.1
  have hl := isW_list h
  obtain ⟨e1, e2⟩ := dec_gl (by omega) hl
  refine ⟨e1, ?_, ?_⟩
  · rw [e2, hl, List.drop_left]
  · rw [Lib.size_eq, hl, List.length_append]
    have : 0 < (Gw.gl e.1.toNat).length := List.length_pos_iff.2 (Gw.gl_ne (by omega))
    omega
/-- The boxes of a reading: the answer, the event so far, the rest of the text. -/
structure Rb (w0 : World) (k g m p v : Int) (s : ByteArray) (w : World) : Prop where
  b0 : w.heap[w0.heap.size]? = some (.cells #[.int .i64 0, .int .i64 0, .int .i64 0, .int .i64 0, .int .i64 0] 29 (0, 0))
  b1 : w.heap[w0.heap.size + 1]? = some (.cells #[.int .i64 k, .int .i64 g, .int .i64 m, .int .i64 p, .int .i64 v] 29 (0, 0))
  b2 : w.heap[w0.heap.size + 1 + 1]? = some (.cells #[.string s] 9 (0, 0))
  bl : Below w0.heap.size w0 w
theorem Rb.below {w0 w w' : World} {k g m p v : Int} {s : ByteArray} (h : Rb w0 k g m p v s w) (hb : Below w.heap.size w w') : Rb w0 k g m p v s w' := by
  have l0 := (Array.getElem?_eq_some_iff.1 h.b0).1
  have l1 := (Array.getElem?_eq_some_iff.1 h.b1).1
  have l2 := (Array.getElem?_eq_some_iff.1 h.b2).1
  exact ⟨(hb.block _ l0).trans h.b0, (hb.block _ l1).trans h.b1, (hb.block _ l2).trans h.b2, h.bl.trans (hb.mono h.bl.size)⟩
theorem Rb.setK {w0 w : World} {k g m p v : Int} {s : ByteArray} (h : Rb w0 k g m p v s w) (x : Int) : Rb w0 x g m p v s (w.setCell ⟨w0.heap.size + 1, 0, none⟩ (.int .i64 x)) :=
  ⟨(heap_setCell_other w _ _ _ (by simp)).trans h.b0, by rw [heap_setCell_same w _ 0 _ _ _ h.b1]; rfl, (heap_setCell_other w _ _ _ (by simp)).trans h.b2, h.bl.setCell (by simp) _⟩
theorem Rb.setG {w0 w : World} {k g m p v : Int} {s : ByteArray} (h : Rb w0 k g m p v s w) (x : Int) : Rb w0 k x m p v s (w.setCell ⟨w0.heap.size + 1, 1, none⟩ (.int .i64 x)) :=
  ⟨(heap_setCell_other w _ _ _ (by simp)).trans h.b0, by rw [heap_setCell_same w _ 1 _ _ _ h.b1]; rfl, (heap_setCell_other w _ _ _ (by simp)).trans h.b2, h.bl.setCell (by simp) _⟩
theorem Rb.setM {w0 w : World} {k g m p v : Int} {s : ByteArray} (h : Rb w0 k g m p v s w) (x : Int) : Rb w0 k g x p v s (w.setCell ⟨w0.heap.size + 1, 2, none⟩ (.int .i64 x)) :=
  ⟨(heap_setCell_other w _ _ _ (by simp)).trans h.b0, by rw [heap_setCell_same w _ 2 _ _ _ h.b1]; rfl, (heap_setCell_other w _ _ _ (by simp)).trans h.b2, h.bl.setCell (by simp) _⟩
theorem Rb.setP {w0 w : World} {k g m p v : Int} {s : ByteArray} (h : Rb w0 k g m p v s w) (x : Int) : Rb w0 k g m x v s (w.setCell ⟨w0.heap.size + 1, 3, none⟩ (.int .i64 x)) :=
  ⟨(heap_setCell_other w _ _ _ (by simp)).trans h.b0, by rw [heap_setCell_same w _ 3 _ _ _ h.b1]; rfl, (heap_setCell_other w _ _ _ (by simp)).trans h.b2, h.bl.setCell (by simp) _⟩
theorem Rb.setV {w0 w : World} {k g m p v : Int} {s : ByteArray} (h : Rb w0 k g m p v s w) (x : Int) : Rb w0 k g m p x s (w.setCell ⟨w0.heap.size + 1, 4, none⟩ (.int .i64 x)) :=
  ⟨(heap_setCell_other w _ _ _ (by simp)).trans h.b0, by rw [heap_setCell_same w _ 4 _ _ _ h.b1]; rfl, (heap_setCell_other w _ _ _ (by simp)).trans h.b2, h.bl.setCell (by simp) _⟩
theorem Rb.setS {w0 w : World} {k g m p v : Int} {s : ByteArray} (h : Rb w0 k g m p v s w) (x : ByteArray) : Rb w0 k g m p v x (w.setCell ⟨w0.heap.size + 1 + 1, 0, none⟩ (.string x)) :=
  ⟨(heap_setCell_other w _ _ _ (by simp; omega)).trans h.b0, (heap_setCell_other w _ _ _ (by simp)).trans h.b1, by rw [heap_setCell_same w _ 0 _ _ _ h.b2]; rfl, h.bl.setCell (by simp; omega) _⟩
theorem Rb.cells {w0 w : World} {k g m p v : Int} {s : ByteArray} (h : Rb w0 k g m p v s w) :
    (w.cell? ⟨w0.heap.size + 1, 0, none⟩ = some (.int .i64 k) ∧ w.cell? ⟨w0.heap.size + 1, 1, none⟩ = some (.int .i64 g) ∧ w.cell? ⟨w0.heap.size + 1, 2, none⟩ = some (.int .i64 m) ∧ w.cell? ⟨w0.heap.size + 1, 3, none⟩ = some (.int .i64 p) ∧ w.cell? ⟨w0.heap.size + 1, 4, none⟩ = some (.int .i64 v)) ∧ w.cell? ⟨w0.heap.size + 1 + 1, 0, none⟩ = some (.string s) := by
  simp [World.cell?, h.b1, h.b2]
theorem Rb.cells0 {w0 w : World} {k g m p v : Int} {s : ByteArray} (h : Rb w0 k g m p v s w) :
    w.cell? ⟨w0.heap.size, 0, none⟩ = some (.int .i64 0) ∧ w.cell? ⟨w0.heap.size, 1, none⟩ = some (.int .i64 0) ∧ w.cell? ⟨w0.heap.size, 2, none⟩ = some (.int .i64 0) ∧ w.cell? ⟨w0.heap.size, 3, none⟩ = some (.int .i64 0) ∧ w.cell? ⟨w0.heap.size, 4, none⟩ = some (.int .i64 0) := by
  simp [World.cell?, h.b0]
theorem Rb.froz {w0 w : World} {k g m p v : Int} {s : ByteArray} (h : Rb w0 k g m p v s w) (i : Nat) : w.frozen? ⟨w0.heap.size, i, none⟩ = false ∧ w.frozen? ⟨w0.heap.size + 1, i, none⟩ = false ∧ w.frozen? ⟨w0.heap.size + 1 + 1, i, none⟩ = false := by
  simp [World.frozen?, h.b0, h.b1, h.b2]
theorem fin5 {w : World} {B : Nat} {t : TypeId} {a0 a1 a2 a3 a4 : Value} (h : w.heap[B]? = some (.cells #[a0, a1, a2, a3, a4] t (0, 0))) (x0 x1 x2 x3 x4 : Value) :
    (((((w.setCell ⟨B, 0, none⟩ x0).setCell ⟨B, 1, none⟩ x1).setCell ⟨B, 2, none⟩ x2).setCell ⟨B, 3, none⟩ x3).setCell ⟨B, 4, none⟩ x4).heap[B]? = some (.cells #[x0, x1, x2, x3, x4] t (0, 0)) := by
  have h0 := heap_setCell_same w B 0 _ t x0 h
  have h1 := heap_setCell_same _ B 1 _ t x1 h0
  have h2 := heap_setCell_same _ B 2 _ t x2 h1
  have h3 := heap_setCell_same _ B 3 _ t x3 h2
  exact heap_setCell_same _ B 4 _ t x4 h3
theorem fin5_below {w0 w : World} (h : Below w0.heap.size w0 w) (x0 x1 x2 x3 x4 : Value) :
    Below w0.heap.size w0 (((((w.setCell ⟨w0.heap.size, 0, none⟩ x0).setCell ⟨w0.heap.size, 1, none⟩ x1).setCell ⟨w0.heap.size, 2, none⟩ x2).setCell ⟨w0.heap.size, 3, none⟩ x3).setCell ⟨w0.heap.size, 4, none⟩ x4) :=
  ((((h.setCell (by simp) _).setCell (by simp) _).setCell (by simp) _).setCell (by simp) _).setCell (by simp) _
/-- .. and the text's iterator stands there. -/
structure Ri (w0 : World) (t : ByteArray) (pos : Nat) (k : Int) (w : World) : Prop where
  rb : Rb w0 k 0 (-1) (-1) 0 { data := #[] } w
  it : w.heap[w0.heap.size + 1 + 1 + 1]? = some (.stringIter t pos)
theorem Ri.new (w : World) (t : ByteArray) : Ri w t 0 0 ((((w.alloc (.cells #[.int .i64 0, .int .i64 0, .int .i64 0, .int .i64 0, .int .i64 0] 29)).alloc (.cells #[.int .i64 0, .int .i64 0, .int .i64 (-1), .int .i64 (-1), .int .i64 0] 29)).alloc (.cells #[.string { data := #[] }] 9)).iter t 0) := by
  generalize ho1 : (Obj.cells #[.int .i64 0, .int .i64 0, .int .i64 0, .int .i64 0, .int .i64 0] 29 (0, 0)) = o1
  generalize ho2 : (Obj.cells #[.int .i64 0, .int .i64 0, .int .i64 (-1), .int .i64 (-1), .int .i64 0] 29 (0, 0)) = o2
  generalize ho3 : (Obj.cells #[.string { data := #[] }] 9 (0, 0)) = o3
  have s1 : (w.alloc o1).heap.size = w.heap.size + 1 := by simp
  have s2 : ((w.alloc o1).alloc o2).heap.size = w.heap.size + 2 := by simp
  have s3 : (((w.alloc o1).alloc o2).alloc o3).heap.size = w.heap.size + 3 := by simp
  have hi : (((w.alloc o1).alloc o2).alloc o3).iter t 0 = (((w.alloc o1).alloc o2).alloc o3).alloc (.stringIter t 0) := rfl
  rw [hi]
  refine ⟨⟨?_, ?_, ?_, ?_⟩, ?_⟩
  · rw [Below.heap_alloc _ _ _ (by omega), Below.heap_alloc _ _ _ (by omega), Below.heap_alloc _ _ _ (by omega), heap_alloc_new, ← ho1]
  · rw [Below.heap_alloc _ _ _ (by omega), Below.heap_alloc _ _ _ (by omega), ← s1, heap_alloc_new, ← ho2]
  · rw [Below.heap_alloc _ _ _ (by omega), ← s2, heap_alloc_new, ← ho3]
  · exact ((((Below.refl _ _).alloc (Nat.le_refl _) _).alloc (by omega) _).alloc (by omega) _).alloc (by omega) _
  · rw [← s3, heap_alloc_new]
theorem Ri.next {w0 w : World} {t : ByteArray} {pos : Nat} {k : Int} (h : Ri w0 t pos k w) (pos' : Nat) : Ri w0 t pos' k (w.iterAt (w0.heap.size + 1 + 1 + 1) t pos') :=
  ⟨⟨(Lib.iterAt_other _ _ _ _ _ (by omega)).trans h.rb.b0, (Lib.iterAt_other _ _ _ _ _ (by omega)).trans h.rb.b1, (Lib.iterAt_other _ _ _ _ _ (by omega)).trans h.rb.b2, Lib.below_iterAt h.rb.bl (by omega) t _⟩, Lib.iterAt_heap w _ t pos _ h.it⟩
theorem Ri.setK {w0 w : World} {t : ByteArray} {pos : Nat} {k : Int} (h : Ri w0 t pos k w) (x : Int) : Ri w0 t pos x (w.setCell ⟨w0.heap.size + 1, 0, none⟩ (.int .i64 x)) :=
  ⟨h.rb.setK x, (heap_setCell_other w _ _ _ (by simp; omega)).trans h.it⟩
/-- A mark, of the boxes. -/
theorem trim_has {s : ByteArray} {c : UInt8} (h : hasB s { data := #[c] } = true) : (trimB s { data := #[c] }).data.toList = s.data.toList.drop 1 := by
  unfold trimB Lib.trimPrefix
  rw [show Lib.hasPrefix s.data.toList (({ data := #[c] } : ByteArray).data.toList) = true from h]
  simp
theorem trim_not {s : ByteArray} {c : UInt8} (h : hasB s { data := #[c] } = false) : (trimB s { data := #[c] }).data.toList = s.data.toList := by
  unfold trimB Lib.trimPrefix
  rw [show Lib.hasPrefix s.data.toList (({ data := #[c] } : ByteArray).data.toList) = false from h]
  simp
theorem trim_size (s : ByteArray) (c : UInt8) : (trimB s { data := #[c] }).size ≤ s.size := by
  cases h : hasB s { data := #[c] }
  · rw [Lib.size_eq, trim_not h, Lib.size_eq]; exact Nat.le_refl _
  · rw [Lib.size_eq, trim_has h, Lib.size_eq, List.length_drop]; omega
theorem mark_rb {w0 w : World} {k g m p v : Int} {s : ByteArray} (h : Rb w0 k g m p v s w) (c : UInt8) :
    Calls Tryd.prog 41 #[.pointer (some ⟨w0.heap.size + 1 + 1, 0, none⟩), .string { data := #[c] }] w fun e w' => e = .returned (.bool (hasB s { data := #[c] })) ∧ Hid (Rb w0 k g m p v (trimB s { data := #[c] }) w') := by
  refine (mark_any _ s { data := #[c] } w h.cells.2 (h.froz 0).2.2).mono ?_
  rintro e w' ⟨h1, rfl⟩
  exact ⟨h1, hid (h.setS _)⟩
theorem number_rb {w0 w : World} {k g m p v : Int} {s : ByteArray} (h : Rb w0 k g m p v s w) (hl : s.size ≤ 1000000) (S : ErrSy w) (R : ErrRa w) :
    Calls Tryd.prog 40 #[.string s] w fun e w' => ∃ x s2, e = .returned (.tuple #[.int .i64 x, .string s2]) ∧ Hid (s2.data.toList = s.data.toList.dropWhile isD ∧ NumL (s.data.toList.takeWhile isD) x) ∧ s2.size ≤ s.size ∧ Hid (Rb w0 k g m p v s w') := by
  refine (number_any s hl w S R).mono ?_
  rintro e w' ⟨x, s2, h1, h2, h3, h4, h5⟩
  exact ⟨x, s2, h1, hid ⟨h2, h3⟩, h4, hid (h.below h5)⟩
theorem pint_rb {w0 w : World} {k g m p v : Int} {s : ByteArray} (h : Rb w0 k g m p v s w) (hl : s.size ≤ 1000000) (S : ErrSy w) (R : ErrRa w) :
    Calls Tryd.prog 42 #[.string s, .int .i64 10, .int .i64 64] w fun e w' => ∃ x er, e = .returned (.tuple #[.int .i64 x, er]) ∧ Hid ((-9223372036854775808 ≤ x ∧ x ≤ 9223372036854775807) ∧ ∀ u : Int, -9223372036854775808 ≤ u → u ≤ 9223372036854775807 → s.data.toList = Lib.itoa u → x = u) ∧ Hid (Rb w0 k g m p v s w') := by
  refine (pint_any s (by omega) w S R).mono ?_
  rintro e w' ⟨x, er, h1, h2, h5⟩
  exact ⟨x, er, h1, hid h2, hid (h.below h5)⟩
end Go.Proofs.YtnaphgjkkagpoaaDoor
