/- hostlerlaw01.do: one act at the memory and at the document's: the answers agree, and both stay alike. -/
import Derived.Test.YtdbionbdcjpmaaaRef01b
namespace Go.Proofs.Ytdbionbdcjpmaaa.cellPlays
open Go.RowKit
set_option linter.unusedVariables false
set_option linter.unusedSimpArgs false

theorem only_below {b g : Nat} {w w' : World} (h : Below w.heap.size w w') : Only b g w w' := ⟨h.os, h.tape, h.output, h.size, fun k hk _ _ => h.block k hk⟩
theorem set_self (xs : List Int) (j : Nat) : xs.set j (xs.getD j 0) = xs := by
  apply List.ext_getElem?
  intro i
  rw [List.getElem?_set]
  by_cases h : j = i
  · subst h
    by_cases hj : j < xs.length
    · simp [hj, List.getD_eq_getElem?_getD]
    · simp [hj]
  · simp [h]
/-- What one act leaves. -/
def DoPost (w : World) (base n b g : Nat) (v : Value) (xs : List Int) (k : Nat) (e : Ending) (w' : World) : Prop :=
  ∃ a c, e = .returned (.tuple #[.agg #[.slice a n c, .int .i64 k], .bool true]) ∧ (∀ q, (Value.slice a n c).ownBlock = some q → v.ownBlock = some q ∨ w.heap.size ≤ q) ∧ Offs w' base 30 (.slice a n c) (vals xs) ∧ Mem w' b g xs k ∧ Only b g w w'
/-- The cells while an act is done: the boxes of the arguments, the result, the document's answer (E). -/
structure Dz (w y : World) (b g E : Nat) (kd i X Y D : Int) (v : Value) (k' : Nat) (a : Option Addr) (n c k : Nat) : Prop where
  only : Only b g w y
  lb : b < w.heap.size
  lg : g < w.heap.size
  box4 : y.heap[w.heap.size]? = some (.cells #[v, .int .i64 k'] 28 (0, 0))
  box5 : y.heap[w.heap.size + 1]? = some (.cells #[.int .u8 kd, .int .i64 i, .int .u64 X, .int .u64 Y, .int .i64 D] 32 (0, 0))
  res : y.heap[w.heap.size + 1 + 1]? = some (.cells #[.slice none 0 0, .int .i64 0] 28 (0, 0))
  new : y.heap[E]? = some (.cells #[.slice a n c, .int .i64 k] 28 (0, 0))
  size : w.heap.size + 3 ≤ E
namespace Dz
variable {w y y' : World} {b g E : Nat} {kd i X Y D : Int} {v : Value} {k' : Nat} {a : Option Addr} {n c k : Nat}
theorem lt (h : Dz w y b g E kd i X Y D v k' a n c k) : E < y.heap.size := by obtain ⟨hl, _⟩ := Array.getElem?_eq_some_iff.1 h.new; exact hl
theorem next (h : Dz w y b g E kd i X Y D v k' a n c k) (ho : Only b g y y') : Dz w y' b g E kd i X Y D v k' a n c k := by
  have h1 := h.lb
  have h2 := h.lg
  have h3 := h.lt
  have h4 := h.size
  exact ⟨h.only.trans ho, h1, h2, (ho.block _ (by omega) (by omega) (by omega)).trans h.box4, (ho.block _ (by omega) (by omega) (by omega)).trans h.box5, (ho.block _ (by omega) (by omega) (by omega)).trans h.res, (ho.block _ (by omega) (by omega) (by omega)).trans h.new, h4⟩
theorem drew (h : Dz w y b g E kd i X Y D v k' a n c k) : Dz w y.drew b g E kd i X Y D v k' a n c k := h.next ⟨rfl, rfl, rfl, Nat.le_refl _, fun _ _ _ _ => rfl⟩
/-- The cells that are read. -/
def S (w : World) (E : Nat) (i X Y D : Int) (a : Option Addr) (n c k : Nat) (y : World) : Prop :=
  y.cell? ⟨E, 0, none⟩ = some (.slice a n c) ∧ y.cell? ⟨E, 1, none⟩ = some (.int .i64 k) ∧ y.cell? ⟨w.heap.size + 1, 1, none⟩ = some (.int .i64 i) ∧ y.cell? ⟨w.heap.size + 1, 2, none⟩ = some (.int .u64 X) ∧ y.cell? ⟨w.heap.size + 1, 3, none⟩ = some (.int .u64 Y) ∧ y.cell? ⟨w.heap.size + 1, 4, none⟩ = some (.int .i64 D)
theorem s (h : Dz w y b g E kd i X Y D v k' a n c k) : S w E i X Y D a n c k y :=
  ⟨cell_blk1 h.new rfl, cell_blk1 h.new rfl, cell_blk1 h.box5 rfl, cell_blk1 h.box5 rfl, cell_blk1 h.box5 rfl, cell_blk1 h.box5 rfl⟩
theorem r (h : Dz w y b g E kd i X Y D v k' a n c k) : (y.cell? ⟨w.heap.size + 1 + 1, 0, none⟩ = some (.slice none 0 0) ∧ y.cell? ⟨w.heap.size + 1 + 1, 1, none⟩ = some (.int .i64 0)) ∧ y.frozen? ⟨w.heap.size + 1 + 1, 0, none⟩ = false ∧ y.frozen? ⟨w.heap.size + 1 + 1, 1, none⟩ = false :=
  ⟨⟨cell_blk1 h.res rfl, cell_blk1 h.res rfl⟩, by simp [World.frozen?, h.res], by simp [World.frozen?, h.res]⟩
theorem fin (h : Dz w y b g E kd i X Y D v k' a n c k) (u1 u2 : Value) : Only b g w ((y.setCell ⟨w.heap.size + 1 + 1, 0, none⟩ u1).setCell ⟨w.heap.size + 1 + 1, 1, none⟩ u2) ∧ ((y.setCell ⟨w.heap.size + 1 + 1, 0, none⟩ u1).setCell ⟨w.heap.size + 1 + 1, 1, none⟩ u2).heap[w.heap.size + 1 + 1]? = some (.cells #[u1, u2] 28 (0, 0)) ∧
    ∀ k, k ≠ w.heap.size + 1 + 1 → ((y.setCell ⟨w.heap.size + 1 + 1, 0, none⟩ u1).setCell ⟨w.heap.size + 1 + 1, 1, none⟩ u2).heap[k]? = y.heap[k]? := by
  have k : ∀ k, k ≠ w.heap.size + 1 + 1 → ((y.setCell ⟨w.heap.size + 1 + 1, 0, none⟩ u1).setCell ⟨w.heap.size + 1 + 1, 1, none⟩ u2).heap[k]? = y.heap[k]? := fun k hk => by
    rw [Below.heap_setCell _ _ _ _ hk, Below.heap_setCell _ _ _ _ hk]
  exact ⟨⟨h.only.os, h.only.tape, h.only.output, by simpa [World.setCell] using h.only.size, fun q h1 h2 h3 => (k q (by omega)).trans (h.only.block q h1 h2 h3)⟩, by simp [World.setCell, Array.getElem?_modify, h.res], k⟩
theorem stored (h : Dz w y b g E kd i X Y D v k' a n c k) (u1 u2 : Value) : S w E i X Y D a n c k ((y.setCell ⟨w.heap.size + 1 + 1, 0, none⟩ u1).setCell ⟨w.heap.size + 1 + 1, 1, none⟩ u2) := by
  obtain ⟨_, _, hk⟩ := h.fin u1 u2
  have h4 := h.size
  have e1 := (hk E (by omega)).trans h.new
  have e2 := (hk (w.heap.size + 1) (by omega)).trans h.box5
  exact ⟨cell_blk1 e1 rfl, cell_blk1 e1 rfl, cell_blk1 e2 rfl, cell_blk1 e2 rfl, cell_blk1 e2 rfl, cell_blk1 e2 rfl⟩
end Dz
/-- The three boxes at the beginning. -/
structure D0 (w y : World) (b g : Nat) (kd i X Y D : Int) (v : Value) (k' : Nat) : Prop where
  only : Only b g w y
  lb : b < w.heap.size
  lg : g < w.heap.size
  box4 : y.heap[w.heap.size]? = some (.cells #[v, .int .i64 k'] 28 (0, 0))
  box5 : y.heap[w.heap.size + 1]? = some (.cells #[.int .u8 kd, .int .i64 i, .int .u64 X, .int .u64 Y, .int .i64 D] 32 (0, 0))
  res : y.heap[w.heap.size + 1 + 1]? = some (.cells #[.slice none 0 0, .int .i64 0] 28 (0, 0))
  size : w.heap.size + 3 ≤ y.heap.size
namespace D0
variable {w y y' : World} {b g : Nat} {kd i X Y D : Int} {v : Value} {k' : Nat}
theorem firstB (w : World) (o1 o2 o3 : Obj) : Below w.heap.size w (((w.alloc o1).alloc o2).alloc o3) := (((Below.refl w.heap.size w).alloc (Nat.le_refl _) _).alloc (by simp) _).alloc (by simp; omega) _
theorem first (w : World) (b g : Nat) (hb : b < w.heap.size) (hg : g < w.heap.size) (kd i X Y D : Int) (v : Value) (k' : Nat) : D0 w (((w.alloc (.cells #[v, .int .i64 k'] 28)).alloc (.cells #[.int .u8 kd, .int .i64 i, .int .u64 X, .int .u64 Y, .int .i64 D] 32)).alloc (.cells #[.slice none 0 0, .int .i64 0] 28)) b g kd i X Y D v k' := by
  refine ⟨only_below (firstB w _ _ _), hb, hg, (Below.heap_alloc _ _ _ (by simp; omega)).trans ((Below.heap_alloc _ _ _ (by simp)).trans (Deep.blk_alloc_new _ _)), ?_, ?_, by simp⟩
  · refine (Below.heap_alloc _ _ _ (by simp)).trans ?_
    have := Deep.blk_alloc_new (w.alloc (.cells #[v, .int .i64 k'] 28)) (.cells #[.int .u8 kd, .int .i64 i, .int .u64 X, .int .u64 Y, .int .i64 D] 32)
    rw [World.size_alloc] at this
    exact this
  · have := Deep.blk_alloc_new ((w.alloc (.cells #[v, .int .i64 k'] 28)).alloc (.cells #[.int .u8 kd, .int .i64 i, .int .u64 X, .int .u64 Y, .int .i64 D] 32)) (.cells #[.slice none 0 0, .int .i64 0] 28)
    rw [World.size_alloc, World.size_alloc] at this
    exact this
theorem next (h : D0 w y b g kd i X Y D v k') (hb : Below y.heap.size y y') : D0 w y' b g kd i X Y D v k' := by
  have hs := h.size
  have hs2 := hb.size
  exact ⟨h.only.trans (only_below hb), h.lb, h.lg, (hb.block _ (by omega)).trans h.box4, (hb.block _ (by omega)).trans h.box5, (hb.block _ (by omega)).trans h.res, by omega⟩
theorem s (h : D0 w y b g kd i X Y D v k') : (y.cell? ⟨w.heap.size, 0, none⟩ = some v ∧ y.cell? ⟨w.heap.size, 1, none⟩ = some (.int .i64 k')) ∧ y.cell? ⟨w.heap.size + 1, 0, none⟩ = some (.int .u8 kd) ∧ y.cell? ⟨w.heap.size + 1, 1, none⟩ = some (.int .i64 i) ∧ y.cell? ⟨w.heap.size + 1, 2, none⟩ = some (.int .u64 X) ∧ y.cell? ⟨w.heap.size + 1, 3, none⟩ = some (.int .u64 Y) ∧ y.cell? ⟨w.heap.size + 1, 4, none⟩ = some (.int .i64 D) :=
  ⟨⟨cell_blk1 h.box4 rfl, cell_blk1 h.box4 rfl⟩, cell_blk1 h.box5 rfl, cell_blk1 h.box5 rfl, cell_blk1 h.box5 rfl, cell_blk1 h.box5 rfl, cell_blk1 h.box5 rfl⟩
theorem dz (h : D0 w y b g kd i X Y D v k') (a : Option Addr) (n c k : Nat) : Dz w (y.alloc (.cells #[.slice a n c, .int .i64 k] 28)) b g y.heap.size kd i X Y D v k' a n c k :=
  ⟨h.only.trans (only_below ((Below.refl _ _).alloc (Nat.le_refl _) _)), h.lb, h.lg, (Below.heap_alloc _ _ _ (by have := h.size; omega)).trans h.box4, (Below.heap_alloc _ _ _ (by have := h.size; omega)).trans h.box5, (Below.heap_alloc _ _ _ (by have := h.size; omega)).trans h.res, Deep.blk_alloc_new _ _, h.size⟩
/-- A call that turns the memory alone. -/
theorem call (h : D0 w y b g kd i X Y D v k') (ho : Only b g y y') : D0 w y' b g kd i X Y D v k' := by
  have h1 := h.lb
  have h2 := h.lg
  have hs := h.size
  have hs2 := ho.size
  exact ⟨h.only.trans ho, h1, h2, (ho.block _ (by omega) (by omega) (by omega)).trans h.box4, (ho.block _ (by omega) (by omega) (by omega)).trans h.box5, (ho.block _ (by omega) (by omega) (by omega)).trans h.res, by omega⟩
/-- The arguments are laid anew. -/
theorem again (h : D0 w y b g kd i X Y D v k') (u1 : Value) (k2 : Nat) (X2 : Int) : D0 w (((y.setCell ⟨w.heap.size, 0, none⟩ u1).setCell ⟨w.heap.size, 1, none⟩ (.int .i64 k2)).setCell ⟨w.heap.size + 1, 2, none⟩ (.int .u64 X2)) b g kd i X2 Y D u1 k2 ∧
    ∀ k, k < w.heap.size ∨ w.heap.size + 1 + 1 < k → (((y.setCell ⟨w.heap.size, 0, none⟩ u1).setCell ⟨w.heap.size, 1, none⟩ (.int .i64 k2)).setCell ⟨w.heap.size + 1, 2, none⟩ (.int .u64 X2)).heap[k]? = y.heap[k]? := by
  have k : ∀ k, k ≠ w.heap.size → k ≠ w.heap.size + 1 → (((y.setCell ⟨w.heap.size, 0, none⟩ u1).setCell ⟨w.heap.size, 1, none⟩ (.int .i64 k2)).setCell ⟨w.heap.size + 1, 2, none⟩ (.int .u64 X2)).heap[k]? = y.heap[k]? := fun k h1 h2 => by
    rw [Below.heap_setCell _ _ _ _ h2, Below.heap_setCell _ _ _ _ h1, Below.heap_setCell _ _ _ _ h1]
  have e4 : (((y.setCell ⟨w.heap.size, 0, none⟩ u1).setCell ⟨w.heap.size, 1, none⟩ (.int .i64 k2)).setCell ⟨w.heap.size + 1, 2, none⟩ (.int .u64 X2)).heap[w.heap.size]? = some (.cells #[u1, .int .i64 k2] 28 (0, 0)) := by
    rw [Below.heap_setCell _ _ _ _ (show w.heap.size ≠ w.heap.size + 1 by omega)]
    simp [World.setCell, Array.getElem?_modify, h.box4]
  have e5 : (((y.setCell ⟨w.heap.size, 0, none⟩ u1).setCell ⟨w.heap.size, 1, none⟩ (.int .i64 k2)).setCell ⟨w.heap.size + 1, 2, none⟩ (.int .u64 X2)).heap[w.heap.size + 1]? = some (.cells #[.int .u8 kd, .int .i64 i, .int .u64 X2, .int .u64 Y, .int .i64 D] 32 (0, 0)) := by
    have : ((y.setCell ⟨w.heap.size, 0, none⟩ u1).setCell ⟨w.heap.size, 1, none⟩ (.int .i64 k2)).heap[w.heap.size + 1]? = some (.cells #[.int .u8 kd, .int .i64 i, .int .u64 X, .int .u64 Y, .int .i64 D] 32 (0, 0)) := by
      rw [Below.heap_setCell _ _ _ _ (show w.heap.size + 1 ≠ w.heap.size by omega), Below.heap_setCell _ _ _ _ (show w.heap.size + 1 ≠ w.heap.size by omega)]; exact h.box5
    generalize (y.setCell ⟨w.heap.size, 0, none⟩ u1).setCell ⟨w.heap.size, 1, none⟩ (.int .i64 k2) = q at this ⊢
    simp [World.setCell, Array.getElem?_modify, this]
  exact ⟨⟨⟨h.only.os, h.only.tape, h.only.output, by simpa [World.setCell] using h.only.size, fun q h1 h2 h3 => (k q (by omega) (by omega)).trans (h.only.block q h1 h2 h3)⟩, h.lb, h.lg, e4, e5, (k _ (by omega) (by omega)).trans h.res, by simpa [World.setCell] using h.size⟩, fun q hq => k q (by omega) (by omega)⟩
end D0
theorem load_o (b g : Nat) (xs : List Int) (c : Nat) (i : Int) (w : World) (hm : Mem w b g xs c) (hi : i < 0 ∨ xs.length ≤ i) :
    Calls Try.prog 13 #[.pointer (some ⟨b, 0, none⟩), .int .i64 i] w fun e w' => e = .returned (.int .u64 0) ∧ Mem w' b g xs c ∧ Only b g w w' :=
  (load_out b g xs c i w hm hi).mono (by rintro e w' ⟨rfl, rfl⟩; exact ⟨rfl, hm, Only.refl _ _ _⟩)
theorem store_o (b g : Nat) (xs : List Int) (c : Nat) (i x : Int) (w : World) (hm : Mem w b g xs c) (hi : i < 0 ∨ xs.length ≤ i) :
    Calls Try.prog 28 #[.pointer (some ⟨b, 0, none⟩), .int .i64 i, .int .u64 x] w fun e w' => e = .returned (.bool false) ∧ Mem w' b g xs c ∧ Only b g w w' :=
  (store_out b g xs c i x w hm hi).mono (by rintro e w' ⟨rfl, rfl⟩; exact ⟨rfl, hm, Only.refl _ _ _⟩)
theorem add_o (b g : Nat) (xs : List Int) (c : Nat) (i d : Int) (w : World) (hm : Mem w b g xs c) (hi : i < 0 ∨ xs.length ≤ i) :
    Calls Try.prog 24 #[.pointer (some ⟨b, 0, none⟩), .int .i64 i, .int .i64 d] w fun e w' => e = .returned (.int .u64 0) ∧ Mem w' b g xs c ∧ Only b g w w' :=
  (add_out b g xs c i d w hm hi).mono (by rintro e w' ⟨rfl, rfl⟩; exact ⟨rfl, hm, Only.refl _ _ _⟩)
theorem swap_o (b g : Nat) (xs : List Int) (c : Nat) (i o x : Int) (w : World) (hm : Mem w b g xs c) (hi : i < 0 ∨ xs.length ≤ i) :
    Calls Try.prog 25 #[.pointer (some ⟨b, 0, none⟩), .int .i64 i, .int .u64 o, .int .u64 x] w fun e w' => e = .returned (.bool false) ∧ Mem w' b g xs c ∧ Only b g w w' :=
  (swap_out b g xs c i o x w hm hi).mono (by rintro e w' ⟨rfl, rfl⟩; exact ⟨rfl, hm, Only.refl _ _ _⟩)
end Go.Proofs.Ytdbionbdcjpmaaa.cellPlays
