/- A world of one: all of it, at one time. -/
import Derived.Test.YtfpkgkjmpcoppaaGreatDoorWoL
import Derived.Test.YtfpkgkjmpcoppaaGreatDoorWoG
namespace Go.Proofs.YtfpkgkjmpcoppaaGreatDoor
open Go.RowKit
set_option linter.unusedVariables false
set_option linter.unusedSimpArgs false
set_option maxRecDepth 20000
/-- The blocks of a world. -/
structure Bs where
  W : Nat
  b1 : Nat
  g1 : Nat
  b2 : Nat
  g2 : Nat
  rb : Nat
  tb : Nat
  rg : Nat
  q : Nat
  qp : Nat
  sb : Nat
  ib : Nat
  mb : Nat
  rc : Nat
def Bs.l (B : Bs) : List Nat := [B.W, B.b1, B.g1, B.b2, B.g2, B.rb, B.tb, B.rg, B.q, B.qp, B.mb]
structure Wd (w0 w : World) (B : Bs) (r : Option Nat) (lg : Value) (xs ys : List Int) (c d n : Nat) (evs : List Value) (qs : List Int) (pl g got : Int) (inn : Bool) (rest : Value) (bk s0 s1 s2 s3 s4 : Int) (yes : Bool) : Prop where
  wb : Wb w B.W B.b1 B.b2 B.rb B.tb B.q B.sb B.ib B.mb B.rc lg
  mc : Mc w B.mb pl 0 g (-1) got (-1) 0 false inn rest bk 0 0 s0 s1 s2 s3 s4 yes 0
  m1 : Mem w B.b1 B.g1 xs c
  m2 : Mem w B.b2 B.g2 ys d
  l1 : xs.length = 9
  l2 : ys.length = 9
  c1 : c ≤ 1000
  c2 : d ≤ 1000
  tl : B.tb < w.heap.size
  qu : Qu w B.q B.qp 1 r qs
  lgr : Lg w w0.heap.size lg n evs
  n1 : n < 1000
  T1 : MaPlaces w
  T2 : EvNames w
  T3 : EvSteps w
  U1 : 0 < w0.heap.size
  U2 : 3 < w0.heap.size
  U3 : 1 < w0.heap.size
  bl : Below w0.heap.size w0 w
  nd : ∀ i j : Nat, i < j → j < 11 → B.l.getD i 0 ≠ B.l.getD j 0
  ge : ∀ k ∈ B.l, w0.heap.size ≤ k
  al : ∀ k ∈ B.l, k < w.heap.size
  ro : ∀ k, r = some k → k ∉ B.l ∧ w0.heap.size ≤ k
  lo : ∀ k, lg.ownBlock = some k → k ∉ B.l ∧ r ≠ some k
section
variable {w0 w w' : World} {B : Bs} {r r' : Option Nat} {lg : Value} {xs xs' ys : List Int} {c c' d n : Nat} {evs : List Value} {qs qs' : List Int} {pl pl' g g' got got' : Int} {inn inn' : Bool} {rest rest' : Value} {bk bk' s0 s1 s2 s3 s4 t0 t1 t2 t3 t4 : Int} {yes yes' : Bool}
/-- The tables stay. -/
theorem tabs (h1 : MaPlaces w) (h2 : EvNames w) (h3 : EvSteps w) (e1 : w'.heap[0]? = w.heap[0]?) (e2 : w'.heap[3]? = w.heap[3]?) (e3 : w'.heap[1]? = w.heap[1]?) : MaPlaces w' ∧ EvNames w' ∧ EvSteps w' := by
  refine ⟨fun k hk => ?_, fun k hk => ?_, fun k hk => ?_⟩
  · have := h1 k hk
    simpa [World.cell?, e1] using this
  · have := h2 k hk
    simpa [World.cell?, e2] using this
  · have := h3 k hk
    simpa [World.cell?, e3] using this
/-- A step that writes a machine, its turns, the memory, the queue, and no more. -/
theorem Wd.upd (h : Wd w0 w B r lg xs ys c d n evs qs pl g got inn rest bk s0 s1 s2 s3 s4 yes) {S : List Nat} (hl : OnL S w w') (hS : ∀ k ∈ S, k = B.mb ∨ k = B.tb ∨ k = B.b1 ∨ k = B.g1 ∨ k = B.rg ∨ k = B.qp ∨ r = some k)
    (hm : Mc w' B.mb pl' 0 g' (-1) got' (-1) 0 false inn' rest' bk' 0 0 t0 t1 t2 t3 t4 yes' 0) (hm1 : Mem w' B.b1 B.g1 xs' c') (hl1 : xs'.length = 9) (hc : c' ≤ 1000) (hq : Qu w' B.q B.qp 1 r' qs') (hr : ∀ k, r' = some k → r = some k ∨ w.heap.size ≤ k) :
    Wd w0 w' B r' lg xs' ys c' d n evs qs' pl' g' got' inn' rest' bk' t0 t1 t2 t3 t4 yes' := by
  have hbig : ∀ k ∈ B.l, k < w.heap.size → k ≠ B.mb → k ≠ B.tb → k ≠ B.b1 → k ≠ B.g1 → k ≠ B.rg → k ≠ B.qp → w'.heap[k]? = w.heap[k]? := fun k hk hlt a1 a2 a3 a4 a5 a6 => hl.block k hlt (fun e => by
    rcases hS k e with h' | h' | h' | h' | h' | h' | h'
    · exact a1 h'
    · exact a2 h'
    · exact a3 h'
    · exact a4 h'
    · exact a5 h'
    · exact a6 h'
    · exact (h.ro k h').1 hk)
  have hlow : ∀ k, k < w0.heap.size → w'.heap[k]? = w.heap[k]? := fun k hk => hl.block k (Nat.lt_of_lt_of_le hk h.bl.size) (fun e => by
    have : w0.heap.size ≤ k := by
      rcases hS k e with h' | h' | h' | h' | h' | h' | h'
      · rw [h']; exact h.ge _ (by simp [Bs.l])
      · rw [h']; exact h.ge _ (by simp [Bs.l])
      · rw [h']; exact h.ge _ (by simp [Bs.l])
      · rw [h']; exact h.ge _ (by simp [Bs.l])
      · rw [h']; exact h.ge _ (by simp [Bs.l])
      · rw [h']; exact h.ge _ (by simp [Bs.l])
      · exact (h.ro k h').2
    omega)
  have kW := hbig B.W (by simp [Bs.l]) h.wb.lt (h.nd 0 10 (by decide) (by decide)) (h.nd 0 6 (by decide) (by decide)) (h.nd 0 1 (by decide) (by decide)) (h.nd 0 2 (by decide) (by decide)) (h.nd 0 7 (by decide) (by decide)) (h.nd 0 9 (by decide) (by decide))
  have kb := hbig B.b2 (by simp [Bs.l]) h.m2.sb (h.nd 3 10 (by decide) (by decide)) (h.nd 3 6 (by decide) (by decide)) (Ne.symm (h.nd 1 3 (by decide) (by decide))) (Ne.symm (h.nd 2 3 (by decide) (by decide))) (h.nd 3 7 (by decide) (by decide)) (h.nd 3 9 (by decide) (by decide))
  have kg := hbig B.g2 (by simp [Bs.l]) h.m2.sg (h.nd 4 10 (by decide) (by decide)) (h.nd 4 6 (by decide) (by decide)) (Ne.symm (h.nd 1 4 (by decide) (by decide))) (Ne.symm (h.nd 2 4 (by decide) (by decide))) (h.nd 4 7 (by decide) (by decide)) (h.nd 4 9 (by decide) (by decide))
  obtain ⟨T1, T2, T3⟩ := tabs h.T1 h.T2 h.T3 (hlow _ h.U1) (hlow _ h.U2) (hlow _ h.U3)
  refine ⟨h.wb.kept kW, hm, hm1, h.m2.blocks kb kg, hl1, h.l2, hc, h.c2, Nat.lt_of_lt_of_le h.tl hl.size, hq, h.lgr.kept (fun k hk => hl.block k (h.lgr.lt k hk).2 (fun e => ?_)), h.n1, T1, T2, T3, h.U1, h.U2, h.U3, h.bl.trans ⟨hl.os, hl.tape, hl.output, hl.size, fun k hk => hlow k hk⟩, h.nd, h.ge, fun k hk => Nat.lt_of_lt_of_le (h.al k hk) hl.size, fun k hk => ?_, fun k hk => ⟨(h.lo k hk).1, fun e => ?_⟩⟩
  · have h1 := h.lo k hk
    rcases hS k e with h' | h' | h' | h' | h' | h' | h'
    · exact h1.1 (by rw [h']; simp [Bs.l])
    · exact h1.1 (by rw [h']; simp [Bs.l])
    · exact h1.1 (by rw [h']; simp [Bs.l])
    · exact h1.1 (by rw [h']; simp [Bs.l])
    · exact h1.1 (by rw [h']; simp [Bs.l])
    · exact h1.1 (by rw [h']; simp [Bs.l])
    · exact h1.2 h'
  · rcases hr k hk with h' | h'
    · exact h.ro k h'
    · refine ⟨fun e => ?_, Nat.le_trans h.bl.size h'⟩
      have := h.al k e; omega
  · rcases hr k e with h' | h'
    · exact (h.lo k hk).2 h'
    · have := (h.lgr.lt k hk).2; omega
theorem Wd.below (h : Wd w0 w B r lg xs ys c d n evs qs pl g got inn rest bk s0 s1 s2 s3 s4 yes) (hb : Below w.heap.size w w') : Wd w0 w' B r lg xs ys c d n evs qs pl g got inn rest bk s0 s1 s2 s3 s4 yes :=
  h.upd (S := []) (OnL.of_below hb) (fun k hk => by cases hk) (h.mc.kept (hb.block _ h.mc.lt)) (h.m1.below hb h.m1.sb h.m1.sg) h.l1 h.c1 (h.qu.below hb) (fun k hk => .inl hk)
theorem Wd.nW (h : Wd w0 w B r lg xs ys c d n evs qs pl g got inn rest bk s0 s1 s2 s3 s4 yes) : B.W ≠ B.mb := h.nd 0 10 (by decide) (by decide)
end
end Go.Proofs.YtfpkgkjmpcoppaaGreatDoor
