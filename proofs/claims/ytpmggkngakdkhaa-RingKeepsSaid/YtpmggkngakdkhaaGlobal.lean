/- The contracts of package global: what each method answers and what it makes of the queue; the law's row of numbers. -/
import Derived.Test.YtpmggkngakdkhaaLives05
import Derived.Deep.RegionWith
namespace Go.Proofs.Ytpmggkngakdkhaa
set_option linter.unusedVariables false
set_option linter.unusedSimpArgs false
open Go.RowKit

/-- A queue: block q is the struct; its row is the batch at block p. -/
structure Qu (w : World) (q p : Nat) (P : Int) (r : Option Nat) (xs : List Int) : Prop where
  hq : w.heap[q]? = some (.cells #[.pointer (some ⟨p, 0, none⟩), .int .i64 P] 83 (0, 0))
  hb : Bat w p r xs
  ne : q ≠ p
  nr : r ≠ some q
  lo : 1 ≤ P
  hi : P ≤ 64
theorem Qu.lt {w : World} {q p : Nat} {P : Int} {r : Option Nat} {xs : List Int} (h : Qu w q p P r xs) : q < w.heap.size := by
  have := h.hq; rw [Array.getElem?_eq_some_iff] at this; exact this.1
theorem Qu.c0 {w : World} {q p : Nat} {P : Int} {r : Option Nat} {xs : List Int} (h : Qu w q p P r xs) : w.cell? ⟨q, 0, none⟩ = some (.pointer (some ⟨p, 0, none⟩)) := by
  simp [World.cell?, h.hq]
theorem Qu.c1 {w : World} {q p : Nat} {P : Int} {r : Option Nat} {xs : List Int} (h : Qu w q p P r xs) : w.cell? ⟨q, 1, none⟩ = some (.int .i64 P) := by
  simp [World.cell?, h.hq]
theorem Qu.after {w w' : World} {q p : Nat} {P : Int} {r r' : Option Nat} {xs ys : List Int} (h : Qu w q p P r xs) (ho : OnlyO p r w w') (hb : Bat w' p r' ys) (hr : r' = r ∨ ∀ k, r' = some k → w.heap.size ≤ k) : Qu w' q p P r' ys := by
  refine ⟨(ho.block q h.lt h.ne (fun e => h.nr e.symm)).trans h.hq, hb, h.ne, fun e => ?_, h.lo, h.hi⟩
  rcases hr with hr | hr
  · rw [hr] at e; exact h.nr e
  · have := hr q e; have := h.lt; omega
theorem Qu.below {w w' : World} {q p : Nat} {P : Int} {r : Option Nat} {xs : List Int} (h : Qu w q p P r xs) (hb : Below w.heap.size w w') : Qu w' q p P r xs :=
  ⟨(hb.block q h.lt).trans h.hq, h.hb.below hb, h.ne, h.nr, h.lo, h.hi⟩
theorem Qu.quiet {w w' : World} {q p : Nat} {P : Int} {r : Option Nat} {xs : List Int} (h : Qu w q p P r xs) (hq : Quiet w w') : Qu w' q p P r xs := h.below (hq.below _)
theorem Qu.drew {w : World} {q p : Nat} {P : Int} {r : Option Nat} {xs : List Int} (h : Qu w q p P r xs) : Qu w.drew q p P r xs := h.quiet ⟨1, rfl⟩

set_option maxHeartbeats 1000000 in
theorem qlen (q p : Nat) (P : Int) (r : Option Nat) (xs : List Int) (w : World) (h : Qu w q p P r xs) :
    Calls Try.prog 43 #[.pointer (some ⟨q, 0, none⟩)] w fun e w' => e = .returned (.int .i64 xs.length) ∧ Quiet w w' := by
  have c0 := h.c0
  have HB := hid h.hb
  clear h
  go_enter Try.func43, Try.ntmps43
  go_wp2_with fail
  refine (blen_any p r xs _ HB.out).mono ?_
  rintro e w1 ⟨rfl, hq⟩
  go_wp2
  go_ret
  exact ⟨rfl, hq⟩

set_option maxHeartbeats 1000000 in
theorem qput (q p : Nat) (P : Int) (r : Option Nat) (xs ys : List Int) (vl : Value) (w : World) (h : Qu w q p P r xs) (hr : Reads w vl ys) (hl : (xs ++ ys).length ≤ 1000000) :
    Calls Try.prog 38 #[.pointer (some ⟨q, 0, none⟩), vl] w (PutPost p r (xs ++ ys) w) := by
  have c0 := h.c0
  have PU := hid (put_any p r xs ys vl w h.hb hr hl)
  clear h hr
  go_enter Try.func38, Try.ntmps38
  go_wp2_with fail
  refine PU.out.mono ?_
  rintro e w1 hp
  have FIN := hid hp
  obtain ⟨rfl, _⟩ := hp
  go_wp2
  go_end0
  exact FIN.out

set_option maxHeartbeats 1000000 in
theorem share_any (q p : Nat) (P : Int) (r : Option Nat) (xs : List Int) (w : World) (h : Qu w q p P r xs) (n : Nat) (hn : xs.length = n) (s : Int) (hs : s = min (min ((n : Int) / P + 1) n) 128) :
    Calls Try.prog 44 #[.pointer (some ⟨q, 0, none⟩)] w fun e w' => e = .returned (.int .i64 s) ∧ Quiet w w' := by
  have L := hid (fun w h => qlen q p P r xs w h)
  rw [hn] at L
  have hlo := h.lo
  have hhi := h.hi
  have hnl : n ≤ 1000000 := by have := h.hb.len; omega
  have H := hid h
  have hP0 : (P == 0) = false := beq_eq_false_iff_ne.2 (by omega)
  have hd0 : 0 ≤ (n : Int) / P := Int.ediv_nonneg (by omega) (by omega)
  have hd1 : (n : Int) / P ≤ n := Int.ediv_le_self _ (by omega)
  obtain ⟨m, hm⟩ : ∃ m, m = min ((n : Int) / P + 1) n := ⟨_, rfl⟩
  have e1 : (if (n : Int) < (n : Int) / P + 1 then (n : Int) else (n : Int) / P + 1) = m := by rw [hm]; split <;> omega
  have e2 : (if 128 < m then 128 else m) = s := by rw [hs, ← hm]; split <;> omega
  clear hm hs h hn
  go_enter Try.func44, Try.ntmps44
  go_wp2_with fail
  refine (L.out _ H.out).mono ?_
  rintro e w1 ⟨rfl, hq⟩
  have c1 := (H.out.quiet hq).c1
  go_wp2
  go_outline
  go_ret
  exact ⟨rfl, hq⟩
end Go.Proofs.Ytpmggkngakdkhaa
