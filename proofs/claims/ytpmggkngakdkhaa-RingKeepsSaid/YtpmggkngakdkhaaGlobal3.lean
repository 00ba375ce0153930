/- Two queues of one heap that don't know of each other; a queue's copy. -/
import Derived.Test.YtpmggkngakdkhaaGlobal2
namespace Go.Proofs.Ytpmggkngakdkhaa
set_option linter.unusedVariables false
set_option linter.unusedSimpArgs false
open Go.RowKit

theorem QNew.quiet {P : Int} {xs : List Int} {w w1 : World} {e : Ending} {w' : World} (h : QNew P xs w1 e w') (hq : Quiet w w1) : QNew P xs w e w' := by
  obtain ⟨q, p, r, he, h1, h2, h3, h4, h5⟩ := h
  rw [hq.heap] at h2 h3 h4 h5
  exact ⟨q, p, r, he, h1, h2, h3, h4, (hq.below _).trans h5⟩

set_option maxHeartbeats 1000000 in
theorem qcopy (q p : Nat) (P : Int) (r : Option Nat) (xs : List Int) (w : World) (h : Qu w q p P r xs) :
    Calls Try.prog 39 #[.pointer (some ⟨q, 0, none⟩)] w (QNew P xs w) := by
  have c0 := h.c0
  have H := hid h
  have hlo := h.lo
  have hhi := h.hi
  have C := hid (fun w h => bcopy_any p r xs w h)
  have c1 := h.c1
  clear h
  go_enter Try.func39, Try.ntmps39
  go_wp2_with fail
  go_region_with (go_at_call 11; refine (C.out _ H.out.drew.hb).mono ?_; rintro e w1 ⟨p', r', rfl, hb, hp, hr, hbel⟩; have d1 := (H.out.drew.below hbel).c1; have HB := hid hb; have HR := hid hr; have HBL := hid hbel; clear hb hr hbel)
  all_goals
    go_wp2
    go_ret
    have hbel := HBL.out
    have hs := hbel.size
    have hlt := HB.out.lt
    have hrl := HB.out.rlt
    exact QNew.quiet (w1 := w.drew) ⟨w1.heap.size, p', r', rfl, ⟨Deep.blk_alloc_new _ _, HB.out.below ((Below.refl _ _).alloc (Nat.le_refl _) _), by omega, fun e => by have := hrl _ e; omega, hlo, hhi⟩, by omega, hp, HR.out, hbel.alloc hs _⟩ ⟨1, rfl⟩

/-- Two queues of one heap, apart. -/
structure Two (w : World) (P : Int) (q p : Nat) (r : Option Nat) (xs : List Int) (q' p' : Nat) (r' : Option Nat) (ys : List Int) : Prop where
  a : Qu w q p P r xs
  b : Qu w q' p' P r' ys
  n1 : q ≠ p'
  n2 : r' ≠ some q
  n3 : q' ≠ p
  n4 : r ≠ some q'
  n5 : p ≠ p'
  n6 : r' ≠ some p
  n7 : r ≠ some p'
  n8 : ∀ k, r = some k → r' ≠ some k
theorem Two.swap {w : World} {P : Int} {q p : Nat} {r : Option Nat} {xs : List Int} {q' p' : Nat} {r' : Option Nat} {ys : List Int} (h : Two w P q p r xs q' p' r' ys) : Two w P q' p' r' ys q p r xs :=
  ⟨h.b, h.a, h.n3, h.n4, h.n1, h.n2, h.n5.symm, h.n7, h.n6, fun k hk e => h.n8 k e hk⟩
theorem Two.below {w w' : World} {P : Int} {q p : Nat} {r : Option Nat} {xs : List Int} {q' p' : Nat} {r' : Option Nat} {ys : List Int} (h : Two w P q p r xs q' p' r' ys) (hb : Below w.heap.size w w') : Two w' P q p r xs q' p' r' ys :=
  ⟨h.a.below hb, h.b.below hb, h.n1, h.n2, h.n3, h.n4, h.n5, h.n6, h.n7, h.n8⟩
theorem Two.quiet {w w' : World} {P : Int} {q p : Nat} {r : Option Nat} {xs : List Int} {q' p' : Nat} {r' : Option Nat} {ys : List Int} (h : Two w P q p r xs q' p' r' ys) (hb : Quiet w w') : Two w' P q p r xs q' p' r' ys := h.below (hb.below _)
theorem Two.made {w w' : World} {P : Int} {q p : Nat} {r : Option Nat} {xs : List Int} {q' p' : Nat} {r' : Option Nat} {ys : List Int} (h : Qu w q p P r xs) (hb : Below w.heap.size w w') (k : Qu w' q' p' P r' ys) (h1 : w.heap.size ≤ q') (h2 : w.heap.size ≤ p') (h3 : ∀ k, r' = some k → w.heap.size ≤ k) : Two w' P q p r xs q' p' r' ys := by
  have l1 := h.lt
  have l2 := h.hb.lt
  have l3 := h.hb.rlt
  exact ⟨h.below hb, k, by omega, fun e => by have := h3 _ e; omega, by omega, fun e => by have := l3 _ e; omega, by omega, fun e => by have := h3 _ e; omega, fun e => by have := l3 _ e; omega, fun k hk e => by have := l3 k hk; have := h3 k e; omega⟩
/-- A deed of the first one. -/
theorem Two.first {w w' : World} {P : Int} {q p : Nat} {r : Option Nat} {xs : List Int} {q' p' : Nat} {r' : Option Nat} {ys : List Int} (h : Two w P q p r xs q' p' r' ys) {r2 : Option Nat} {zs : List Int} (hb : Bat w' p r2 zs) (ho : OnlyO p r w w') (hr : r2 = r ∨ ∀ k, r2 = some k → w.heap.size ≤ k) : Two w' P q p r2 zs q' p' r' ys := by
  have l1 := h.b.lt
  have l2 := h.b.hb.lt
  have l3 := h.b.hb.rlt
  refine ⟨h.a.after ho hb hr, ⟨(ho.block q' l1 h.n3 (fun e => h.n4 e.symm)).trans h.b.hq, h.b.hb.kept (ho.block p' l2 h.n5.symm (fun e => h.n7 e.symm)) (fun k hk => ho.block k (l3 k hk) (fun e => h.n6 (by rw [hk, e])) (fun e => h.n8 k e.symm hk)), h.b.ne, h.b.nr, h.b.lo, h.b.hi⟩, h.n1, h.n2, h.n3, ?_, h.n5, h.n6, ?_, ?_⟩
  · rcases hr with e | hr
    · rw [e]; exact h.n4
    · intro e; have := hr _ e; omega
  · rcases hr with e | hr
    · rw [e]; exact h.n7
    · intro e; have := hr _ e; omega
  · rcases hr with e | hr
    · rw [e]; exact h.n8
    · intro k hk e; have := hr k hk; have := l3 k e; omega
/-- The bound of a row's block behind a deed. -/
theorem fresh_ge {B : Nat} {w : World} {r r2 : Option Nat} (h : ∀ k, r = some k → B ≤ k) (hr : r2 = r ∨ ∀ k, r2 = some k → w.heap.size ≤ k) (hB : B ≤ w.heap.size) : ∀ k, r2 = some k → B ≤ k := by
  rcases hr with rfl | hr
  · exact h
  · intro k hk; have := hr k hk; omega
end Go.Proofs.Ytpmggkngakdkhaa
