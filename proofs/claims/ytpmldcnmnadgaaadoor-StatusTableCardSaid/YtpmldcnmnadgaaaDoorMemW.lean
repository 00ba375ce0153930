/- Small words on worlds: what a call by value lays, what stays. -/
import Derived.Test.YtpmldcnmnadgaaaDoorMem
namespace Go.Proofs.YtpmldcnmnadgaaaDoor
set_option linter.unusedVariables false
open Go.RowKit

theorem Mem.quiet {w : World} {b g : Nat} {xs : List Int} {c : Nat} (h : Mem w b g xs c) {w' : World} (q : Quiet w w') : Mem w' b g xs c :=
  h.kept (by rw [q.heap]) (by rw [q.heap])
theorem Only.of_below {b g : Nat} {w w' : World} (h : Below w.heap.size w w') : Only b g w w' := ⟨h.os, h.tape, h.output, h.size, fun k hk _ _ => h.block k hk⟩
theorem Only.of_quiet {b g : Nat} {w w' : World} (h : Quiet w w') : Only b g w w' := .of_below (h.below _)
theorem Only.alloc {b g : Nat} (w : World) (o : Obj) : Only b g w (w.alloc o) := .of_below ((Below.refl _ _).alloc (Nat.le_refl _) _)
theorem Mem.alloc {w : World} {b g : Nat} {xs : List Int} {c : Nat} (h : Mem w b g xs c) (o : Obj) : Mem (w.alloc o) b g xs c :=
  h.below ((Below.refl _ _).alloc (Nat.le_refl _) _) h.sb h.sg

theorem Mem.adrew {w : World} {b g : Nat} {xs : List Int} {c : Nat} (h : Mem w b g xs c) (o : Obj) : Mem (w.alloc o).drew b g xs c :=
  (h.alloc o).quiet ⟨1, rfl⟩

/-- The block that a call by value lays is there behind a call that turns others. -/
theorem Only.new {b g : Nat} {w w' : World} {o : Obj} (h : Only b g (w.alloc o) w') (hb : b < w.heap.size) (hg : g < w.heap.size) : w'.heap[w.heap.size]? = some o := by
  rw [h.block _ (by simp) (by omega) (by omega)]; exact Deep.blk_alloc_new _ _

theorem ret_int' {k : IntKind} {a b : Int} (h : a = b) : Ending.returned (.int k a) = .returned (.int k b) := by rw [h]
theorem Only.keep {b g p : Nat} {w w' : World} {o : Obj} (h : Only b g w w') (hp : w.heap[p]? = some o) (h1 : p ≠ b) (h2 : p ≠ g) : w'.heap[p]? = some o := by
  rw [h.block p (by rw [Array.getElem?_eq_some_iff] at hp; exact hp.1) h1 h2]; exact hp
theorem cell_of_blk {w : World} {p i : Nat} {cs : Array Value} {t : TypeId} {v : Value} (h : w.heap[p]? = some (.cells cs t (0, 0))) (hi : cs[i]? = some v) : w.cell? ⟨p, i, none⟩ = some v := by
  simp [World.cell?, h, hi]
theorem free_of_blk {w : World} {p i : Nat} {cs : Array Value} {t : TypeId} (h : w.heap[p]? = some (.cells cs t (0, 0))) : w.frozen? ⟨p, i, none⟩ = false := by
  simp [World.frozen?, h]
theorem Mem.drew {w : World} {b g : Nat} {xs : List Int} {c : Nat} (h : Mem w b g xs c) : Mem w.drew b g xs c := h.quiet ⟨1, rfl⟩
theorem keep_drew {b g p : Nat} {w w' : World} {o : Obj} (h : Only b g w.drew w') (hp : w.heap[p]? = some o) (h1 : p ≠ b) (h2 : p ≠ g) : w'.heap[p]? = some o :=
  Only.keep h (w := w.drew) hp h1 h2
theorem only_drew {b g : Nat} {w w' : World} (h : Only b g w.drew w') : Only b g w w' := (Only.of_quiet ⟨1, rfl⟩).trans h
theorem Mem.setOther {w : World} {b g p i : Nat} {xs : List Int} {c : Nat} {v : Value} (h : Mem w b g xs c) (h1 : p ≠ b) (h2 : p ≠ g) : Mem (w.setCell ⟨p, i, none⟩ v) b g xs c :=
  h.kept (Below.heap_setCell _ _ _ _ (Ne.symm h1)) (Below.heap_setCell _ _ _ _ (Ne.symm h2))
theorem set_same {bs : List Bool} {j : Nat} {r : Bool} (h : r = bs.getD j false) (hj : j < bs.length) : bs.set j r = bs := by
  subst h
  apply List.ext_getElem (by simp)
  intro i h1 h2
  rw [List.getElem_set]
  split
  · rename_i he; subst he; simp [hj]
  · rfl
end Go.Proofs.YtpmldcnmnadgaaaDoor
