/- What other texts are built of: WkN, WkO, WkP, WkQ. -/
import Derived.Test.YtfpkgkjmpcoppaaGreatDoorWoQ
/-! A world of one, all of it, at one time; and blocks that stay. -/
namespace Go.Proofs.YtfpkgkjmpcoppaaGreatDoor
open Go.RowKit
set_option linter.unusedVariables false
set_option linter.unusedSimpArgs false
set_option maxRecDepth 20000
namespace K
/-- The blocks of a world. -/
structure Bs where
  W : Nat
  b1 : Nat
  g1 : Nat
  b2 : Nat
  g2 : Nat
  rb : Nat
  tb : Nat
  rg : Nat
  q : Nat
  qp : Nat
  sb : Nat
  ib : Nat
  mb : Nat
  rc : Nat
  K : Nat → Prop
  v : Nat → Option Obj
def Bs.l (B : Bs) : List Nat := [B.W, B.b1, B.g1, B.b2, B.g2, B.rb, B.tb, B.rg, B.q, B.qp, B.mb]
structure Wd (w0 w : World) (B : Bs) (r : Option Nat) (lg : Value) (xs ys : List Int) (c d n : Nat) (evs : List Value) (qs : List Int) (pl g got : Int) (inn : Bool) (rest : Value) (bk s0 s1 s2 s3 s4 : Int) (yes : Bool) : Prop where
  wb : Wb w B.W B.b1 B.b2 B.rb B.tb B.q B.sb B.ib B.mb B.rc lg
  mc : Mc w B.mb pl 0 g (-1) got (-1) 0 false inn rest bk 0 0 s0 s1 s2 s3 s4 yes 0
  m1 : Mem w B.b1 B.g1 xs c
  m2 : Mem w B.b2 B.g2 ys d
  l1 : xs.length = 9
  l2 : ys.length = 9
  c1 : c ≤ 1000
  c2 : d ≤ 1000
  tl : B.tb < w.heap.size
  qu : Qu w B.q B.qp 1 r qs
  lgr : Lg w w0.heap.size lg n evs
  n1 : n < 1000
  T1 : MaPlaces w
  T2 : EvNames w
  T3 : EvSteps w
  U1 : 0 < w0.heap.size
  U2 : 3 < w0.heap.size
  U3 : 1 < w0.heap.size
  bl : Below w0.heap.size w0 w
  nd : ∀ i j : Nat, i < j → j < 11 → B.l.getD i 0 ≠ B.l.getD j 0
  ge : ∀ k ∈ B.l, w0.heap.size ≤ k
  al : ∀ k ∈ B.l, k < w.heap.size
  ro : ∀ k, r = some k → k ∉ B.l ∧ w0.heap.size ≤ k
  lo : ∀ k, lg.ownBlock = some k → k ∉ B.l ∧ r ≠ some k
  kz : ∀ k, B.K k → w.heap[k]? = B.v k
  kn : ∀ k, B.K k → k < w.heap.size ∧ k ∉ B.l ∧ r ≠ some k ∧ lg.ownBlock ≠ some k
section
variable {w0 w w' : World} {B : Bs} {r r' : Option Nat} {lg : Value} {xs xs' ys : List Int} {c c' d n : Nat} {evs : List Value} {qs qs' : List Int} {pl pl' g g' got got' : Int} {inn inn' : Bool} {rest rest' : Value} {bk bk' s0 s1 s2 s3 s4 t0 t1 t2 t3 t4 : Int} {yes yes' : Bool}
/-- The tables stay. -/
theorem tabs (h1 : MaPlaces w) (h2 : EvNames w) (h3 : EvSteps w) (e1 : w'.heap[0]? = w.heap[0]?) (e2 : w'.heap[3]? = w.heap[3]?) (e3 : w'.heap[1]? = w.heap[1]?) : MaPlaces w' ∧ EvNames w' ∧ EvSteps w' := by
  refine ⟨fun k hk => ?_, fun k hk => ?_, fun k hk => ?_⟩
  · have := h1 k hk
    simpa [World.cell?, e1] using this
  · have := h2 k hk
    simpa [World.cell?, e2] using this
  · have := h3 k hk
    simpa [World.cell?, e3] using this
/-- A step that writes a machine, its turns, the memory, the queue, and no more. -/
theorem Wd.upd (h : Wd w0 w B r lg xs ys c d n evs qs pl g got inn rest bk s0 s1 s2 s3 s4 yes) {S : List Nat} (hl : OnL S w w') (hS : ∀ k ∈ S, k = B.mb ∨ k = B.tb ∨ k = B.b1 ∨ k = B.g1 ∨ k = B.rg ∨ k = B.qp ∨ r = some k)
    (hm : Mc w' B.mb pl' 0 g' (-1) got' (-1) 0 false inn' rest' bk' 0 0 t0 t1 t2 t3 t4 yes' 0) (hm1 : Mem w' B.b1 B.g1 xs' c') (hl1 : xs'.length = 9) (hc : c' ≤ 1000) (hq : Qu w' B.q B.qp 1 r' qs') (hr : ∀ k, r' = some k → r = some k ∨ w.heap.size ≤ k) :
    Wd w0 w' B r' lg xs' ys c' d n evs qs' pl' g' got' inn' rest' bk' t0 t1 t2 t3 t4 yes' := by
  have hbig : ∀ k ∈ B.l, k < w.heap.size → k ≠ B.mb → k ≠ B.tb → k ≠ B.b1 → k ≠ B.g1 → k ≠ B.rg → k ≠ B.qp → w'.heap[k]? = w.heap[k]? := fun k hk hlt a1 a2 a3 a4 a5 a6 => hl.block k hlt (fun e => by
    rcases hS k e with h' | h' | h' | h' | h' | h' | h'
    · exact a1 h'
    · exact a2 h'
    · exact a3 h'
    · exact a4 h'
    · exact a5 h'
    · exact a6 h'
    · exact (h.ro k h').1 hk)
  have hlow : ∀ k, k < w0.heap.size → w'.heap[k]? = w.heap[k]? := fun k hk => hl.block k (Nat.lt_of_lt_of_le hk h.bl.size) (fun e => by
    have : w0.heap.size ≤ k := by
      rcases hS k e with h' | h' | h' | h' | h' | h' | h'
      · rw [h']; exact h.ge _ (by simp [Bs.l])
      · rw [h']; exact h.ge _ (by simp [Bs.l])
      · rw [h']; exact h.ge _ (by simp [Bs.l])
      · rw [h']; exact h.ge _ (by simp [Bs.l])
      · rw [h']; exact h.ge _ (by simp [Bs.l])
      · rw [h']; exact h.ge _ (by simp [Bs.l])
      · exact (h.ro k h').2
    omega)
  have kW := hbig B.W (by simp [Bs.l]) h.wb.lt (h.nd 0 10 (by decide) (by decide)) (h.nd 0 6 (by decide) (by decide)) (h.nd 0 1 (by decide) (by decide)) (h.nd 0 2 (by decide) (by decide)) (h.nd 0 7 (by decide) (by decide)) (h.nd 0 9 (by decide) (by decide))
  have kb := hbig B.b2 (by simp [Bs.l]) h.m2.sb (h.nd 3 10 (by decide) (by decide)) (h.nd 3 6 (by decide) (by decide)) (Ne.symm (h.nd 1 3 (by decide) (by decide))) (Ne.symm (h.nd 2 3 (by decide) (by decide))) (h.nd 3 7 (by decide) (by decide)) (h.nd 3 9 (by decide) (by decide))
  have kg := hbig B.g2 (by simp [Bs.l]) h.m2.sg (h.nd 4 10 (by decide) (by decide)) (h.nd 4 6 (by decide) (by decide)) (Ne.symm (h.nd 1 4 (by decide) (by decide))) (Ne.symm (h.nd 2 4 (by decide) (by decide))) (h.nd 4 7 (by decide) (by decide)) (h.nd 4 9 (by decide) (by decide))
  obtain ⟨T1, T2, T3⟩ := tabs h.T1 h.T2 h.T3 (hlow _ h.U1) (hlow _ h.U2) (hlow _ h.U3)
  refine ⟨h.wb.kept kW, hm, hm1, h.m2.blocks kb kg, hl1, h.l2, hc, h.c2, Nat.lt_of_lt_of_le h.tl hl.size, hq, h.lgr.kept (fun k hk => hl.block k (h.lgr.lt k hk).2 (fun e => ?_)), h.n1, T1, T2, T3, h.U1, h.U2, h.U3, h.bl.trans ⟨hl.os, hl.tape, hl.output, hl.size, fun k hk => hlow k hk⟩, h.nd, h.ge, fun k hk => Nat.lt_of_lt_of_le (h.al k hk) hl.size, fun k hk => ?_, fun k hk => ⟨(h.lo k hk).1, fun e => ?_⟩, fun k hk => (hl.block k (h.kn k hk).1 (fun e => ?_)).trans (h.kz k hk), fun k hk => ⟨Nat.lt_of_lt_of_le (h.kn k hk).1 hl.size, (h.kn k hk).2.1, fun e => (hr k e).elim (h.kn k hk).2.2.1 (fun h' => by have := (h.kn k hk).1; omega), (h.kn k hk).2.2.2⟩⟩
  · have h1 := h.lo k hk
    rcases hS k e with h' | h' | h' | h' | h' | h' | h'
    · exact h1.1 (by rw [h']; simp [Bs.l])
    · exact h1.1 (by rw [h']; simp [Bs.l])
    · exact h1.1 (by rw [h']; simp [Bs.l])
    · exact h1.1 (by rw [h']; simp [Bs.l])
    · exact h1.1 (by rw [h']; simp [Bs.l])
    · exact h1.1 (by rw [h']; simp [Bs.l])
    · exact h1.2 h'
  · rcases hr k hk with h' | h'
    · exact h.ro k h'
    · refine ⟨fun e => ?_, Nat.le_trans h.bl.size h'⟩
      have := h.al k e; omega
  · rcases hr k e with h' | h'
    · exact (h.lo k hk).2 h'
    · have := (h.lgr.lt k hk).2; omega
  · have h1 := (h.kn k hk).2
    rcases hS k e with h' | h' | h' | h' | h' | h' | h'
    · exact h1.1 (by rw [h']; simp [Bs.l])
    · exact h1.1 (by rw [h']; simp [Bs.l])
    · exact h1.1 (by rw [h']; simp [Bs.l])
    · exact h1.1 (by rw [h']; simp [Bs.l])
    · exact h1.1 (by rw [h']; simp [Bs.l])
    · exact h1.1 (by rw [h']; simp [Bs.l])
    · exact h1.2.1 h'
theorem Wd.below (h : Wd w0 w B r lg xs ys c d n evs qs pl g got inn rest bk s0 s1 s2 s3 s4 yes) (hb : Below w.heap.size w w') : Wd w0 w' B r lg xs ys c d n evs qs pl g got inn rest bk s0 s1 s2 s3 s4 yes :=
  h.upd (S := []) (OnL.of_below hb) (fun k hk => by cases hk) (h.mc.kept (hb.block _ h.mc.lt)) (h.m1.below hb h.m1.sb h.m1.sg) h.l1 h.c1 (h.qu.below hb) (fun k hk => .inl hk)
theorem Wd.nW (h : Wd w0 w B r lg xs ys c d n evs qs pl g got inn rest bk s0 s1 s2 s3 s4 yes) : B.W ≠ B.mb := h.nd 0 10 (by decide) (by decide)
end
end K
end Go.Proofs.YtfpkgkjmpcoppaaGreatDoor
/-! A world of one: its first ten steps; blocks that stay. -/
namespace Go.Proofs.YtfpkgkjmpcoppaaGreatDoor
open Go.RowKit
set_option linter.unusedVariables false
set_option linter.unusedSimpArgs false
set_option maxRecDepth 20000
namespace K
section
variable {w0 w w' : World} {B : Bs} {r r' : Option Nat} {lg : Value} {xs xs' ys : List Int} {c c' d n : Nat} {evs : List Value} {qs qs' : List Int} {pl pl' g g' got got' : Int} {inn inn' : Bool} {rest rest' : Value} {bk bk' s0 s1 s2 s3 s4 t0 t1 t2 t3 t4 : Int} {yes yes' : Bool}
variable {ra : Option Addr} {rn rcc : Nat}
theorem Wd.quk (h : Wd w0 w B r lg xs ys c d n evs qs pl g got inn rest bk s0 s1 s2 s3 s4 yes) {S : List Nat} (hl : OnL S w w') (h1 : B.q ∉ S) (h2 : B.qp ∉ S) (h3 : ∀ k, r = some k → k ∉ S) : Qu w' B.q B.qp 1 r qs :=
  ⟨(hl.block _ h.qu.lt h1).trans h.qu.hq, h.qu.hb.kept (hl.block _ h.qu.hb.lt h2) (fun k hk => hl.block k (h.qu.hb.rlt k hk) (h3 k hk)), h.qu.ne, h.qu.nr, h.qu.lo, h.qu.hi⟩
theorem Wd.m1k (h : Wd w0 w B r lg xs ys c d n evs qs pl g got inn rest bk s0 s1 s2 s3 s4 yes) {S : List Nat} (hl : OnL S w w') (h1 : B.b1 ∉ S) (h2 : B.g1 ∉ S) : Mem w' B.b1 B.g1 xs c := h.m1.blocks (hl.block _ h.m1.sb h1) (hl.block _ h.m1.sg h2)
theorem Wd.rs (h : Wd w0 w B r lg xs ys c d n evs qs pl g got inn rest bk s0 s1 s2 s3 s4 yes) : ∀ k, r = some k → k ≠ B.mb ∧ k ≠ B.tb ∧ k ≠ B.b1 ∧ k ≠ B.g1 ∧ k ≠ B.rg := fun k hk => by
  have := (h.ro k hk).1
  simp [Bs.l] at this
  omega
/-- Sched: the processor has a turn. -/
theorem wstep0 (h : Wd w0 w B r lg xs ys c d n evs qs 1 g got false (.slice ra rn rcc) bk s0 s1 s2 s3 s4 yes) (ht : w.cell? ⟨B.tb, 0, none⟩ = some (.int .i64 0)) (hf : w.frozen? ⟨B.tb, 0, none⟩ = false) :
    Calls Tryz.prog 36 #[.pointer (some ⟨B.W, 0, none⟩), stepV] w fun e w' => e = .returned (.bool true) ∧ Wd w0 w' B r lg xs ys c d n evs qs 3 g got false (.slice ra rn rcc) bk s0 s1 s2 s3 s4 yes ∧ OnL [B.mb, B.tb] w w' := by
  have n1 : B.tb ≠ B.mb := h.nd 6 10 (by decide) (by decide)
  have n2 : B.tb ≠ B.W := Ne.symm (h.nd 0 6 (by decide) (by decide))
  refine (step_pick (fun w1 w' => ∃ w2, Below w1.heap.size w1 w2 ∧ Mc w' B.mb 3 0 g (-1) got (-1) 0 false false (.slice ra rn rcc) bk 0 0 s0 s1 s2 s3 s4 yes 0 ∧ OnL [B.mb, B.tb] w2 w') (fun w1 hb1 => ?_)).mono ?_
  · have h1 := h.below hb1
    refine pick_pass 1 _ h1.wb h1.mc h1.T1 (by decide) (by decide) (by decide) (by decide) (by decide) (fun w2 hb2 => ?_)
    have h2 := h1.below hb2
    have hb := hb1.trans (hb2.mono hb1.size)
    refine (pass_sched h2.wb h2.mc ((hb.cell (p := ⟨B.tb, 0, none⟩) h.tl).trans ht) (by rw [← hf]; simp [World.frozen?, hb.block _ h.tl]) n1 n2 (Ne.symm h.nW)).mono ?_
    rintro e w' ⟨he, hm, _, hl⟩
    exact ⟨he, hm, hl⟩
  · rintro e w' ⟨he, w1, hb1, w2, hb2, hm, hl⟩
    have h2 := (h.below hb1).below hb2
    have ne := h.nd
    refine ⟨he, h2.upd hl (by simp) hm (h2.m1.blocks (hl.block _ h2.m1.sb (by simp; exact ⟨ne 1 10 (by decide) (by decide), ne 1 6 (by decide) (by decide)⟩)) (hl.block _ h2.m1.sg (by simp; exact ⟨ne 2 10 (by decide) (by decide), ne 2 6 (by decide) (by decide)⟩))) h2.l1 h2.c1 ?_ (fun k hk => .inl hk), (OnL.of_below (hb1.trans (hb2.mono hb1.size))).trans hl⟩
    exact h2.quk hl (by simp; exact ⟨ne 8 10 (by decide) (by decide), Ne.symm (ne 6 8 (by decide) (by decide))⟩) (by simp; exact ⟨ne 9 10 (by decide) (by decide), Ne.symm (ne 6 9 (by decide) (by decide))⟩) (fun k hk => by have := h2.rs k hk; simp; omega)
/-- What a section's step leaves of a world whose machine is at its place, but for the do. -/
theorem Wd.sect (h : Wd w0 w B r lg xs ys c d n evs qs pl g got inn rest bk s0 s1 s2 s3 s4 yes) (hl : OnL [B.mb, B.b1, B.g1] w w') (hm : Mc w' B.mb pl' 0 g' (-1) got' (-1) 0 false inn' rest' bk' 0 0 t0 t1 t2 t3 t4 yes' 0) (hm1 : Mem w' B.b1 B.g1 xs' c') (hl1 : xs'.length = 9) (hc : c' ≤ 1000) :
    Wd w0 w' B r lg xs' ys c' d n evs qs pl' g' got' inn' rest' bk' t0 t1 t2 t3 t4 yes' :=
  have ne := h.nd
  h.upd hl (by simp) hm hm1 hl1 hc (h.quk hl (by simp; exact ⟨ne 8 10 (by decide) (by decide), Ne.symm (ne 1 8 (by decide) (by decide)), Ne.symm (ne 2 8 (by decide) (by decide))⟩) (by simp; exact ⟨ne 9 10 (by decide) (by decide), Ne.symm (ne 1 9 (by decide) (by decide)), Ne.symm (ne 2 9 (by decide) (by decide))⟩) (fun k hk => by have := h.rs k hk; simp; omega)) (fun k hk => .inl hk)
theorem Wd.sb (h : Wd w0 w B r lg xs ys c d n evs qs pl g got inn rest bk s0 s1 s2 s3 s4 yes) : B.mb ≠ B.b1 ∧ B.mb ≠ B.g1 := ⟨Ne.symm (h.nd 1 10 (by decide) (by decide)), Ne.symm (h.nd 2 10 (by decide) (by decide))⟩
/-- A section begins. -/
theorem wfirst (k L : Nat) (h : Wd w0 w B r lg xs ys c d n evs qs k g got false (.slice ra rn rcc) bk s0 s1 s2 s3 s4 yes) (hk : k < 31) (hk0 : (k : Int) ≠ 0) (hk16 : (k : Int) ≠ 16) (hlk : lk (maPlace1 k) 0 0 1 = L) (hL : L ≤ 1) (hx : xs.getD (2 * L) 0 = 0) (hc : c + 1 ≤ 1000) :
    Calls Tryz.prog 36 #[.pointer (some ⟨B.W, 0, none⟩), stepV] w fun e w' => e = .returned (.bool true) ∧ Wd w0 w' B r lg (xs.set (2 * L) 1) ys (c + 1) d n evs qs k g got true (.slice ra rn rcc) bk (2 * (L : Int)) (2 * (L : Int) + 1) 1 0 0 yes ∧ OnL [B.mb, B.b1, B.g1] w w' := by
  refine (step_pick (fun w1 w' => ∃ w2, Below w1.heap.size w1 w2 ∧ ∃ w3, OnL [B.mb] w2 w3 ∧ Mc w' B.mb k 0 g (-1) got (-1) 0 false true (.slice ra rn rcc) bk 0 0 (2 * (L : Int)) (2 * (L : Int) + 1) 1 0 0 yes 0 ∧ Mem w' B.b1 B.g1 (xs.set (2 * L) 1) (c + 1) ∧ OnL [B.mb, B.b1, B.g1] w3 w') (fun w1 hb1 => ?_)).mono ?_
  · have h1 := h.below hb1
    refine pick_lock k _ h1.wb h1.mc h1.T1 hk hk0 hk16 (L : Int) hlk (by omega) (by decide) (fun w2 hb2 => ?_)
    have h2 := h1.below hb2
    refine locked_first k L _ h2.wb h2.mc h2.T1 hk hlk hL (by decide) h2.nW (fun w3 pw pi hl3 _ _ _ _ hm3 => ?_)
    have hm1 := h2.m1k hl3 (by simp; exact Ne.symm h2.sb.1) (by simp; exact Ne.symm h2.sb.2)
    have hlen := h2.l1
    have hcc := h2.c1
    refine (step_take (cloV pw pi) hm3.sct hm1 h2.sb.1 h2.sb.2 (by omega) (by omega) (by omega) 0 (by rw [show (2 * (L : Int)).toNat = 2 * L by omega]; exact hx) (by unfold inU; omega)).mono ?_
    rintro e w' ⟨he, hs, hm', ho⟩
    rw [show (2 * (L : Int)).toNat = 2 * L by omega, show U (0 + 1) = 1 from U_of (by unfold inU; omega)] at hm'
    exact ⟨he, hm3.on3 ho hs, hm', OnL.of_on3 ho (by simp) (by simp) (by simp)⟩
  · rintro e w' ⟨he, w1, hb1, w2, hb2, w3, hl3, hm, hm1, hl⟩
    have h2 := (h.below hb1).below hb2
    have hl' := (hl3.mono (S' := [B.mb, B.b1, B.g1]) (by simp)).trans hl
    exact ⟨he, h2.sect hl' hm hm1 (by simp [h.l1]) hc, (OnL.of_below (hb1.trans (hb2.mono hb1.size))).trans hl'⟩
/-- A section that waits is let in. -/
theorem wwait (h : Wd w0 w B r lg xs ys c d n evs qs pl g got true rest bk s0 s1 1 0 s4 yes) (h0 : pl ≠ 0) (h16 : pl ≠ 16) (hs1 : 0 ≤ s1) (hs9 : s1 < 9) (hx : xs.getD s1.toNat 0 = 0) (hc : c + 1 ≤ 1000) :
    Calls Tryz.prog 36 #[.pointer (some ⟨B.W, 0, none⟩), stepV] w fun e w' => e = .returned (.bool true) ∧ Wd w0 w' B r lg xs ys (c + 1) d n evs qs pl g got true rest bk s0 s1 2 0 s4 yes ∧ OnL [B.mb, B.b1, B.g1] w w' := by
  refine (step_pick (fun w1 w' => ∃ w2, Below w1.heap.size w1 w2 ∧ ∃ w3, Below w2.heap.size w2 w3 ∧ Mc w' B.mb pl 0 g (-1) got (-1) 0 false true rest bk 0 0 s0 s1 2 0 s4 yes 0 ∧ Mem w' B.b1 B.g1 xs (c + 1) ∧ OnL [B.mb, B.b1, B.g1] w3 w') (fun w1 hb1 => ?_)).mono ?_
  · have h1 := h.below hb1
    refine pick_in _ h1.wb h1.mc h0 h16 (fun w2 hb2 => ?_)
    have h2 := h1.below hb2
    refine locked_in _ h2.wb h2.mc (fun w3 pw pi hL => ?_)
    have h3 := h2.below hL.bl
    have hlen := h3.l1
    have hcc := h3.c1
    refine (step_wait_yes (cloV pw pi) h3.mc.sct h3.m1 h3.sb.1 h3.sb.2 (by omega) hs1 (by omega) 0 hx (by unfold inU; omega) (by unfold inU; omega) (by decide)).mono ?_
    rintro e w' ⟨he, hs, hm', ho⟩
    exact ⟨he, h3.mc.on3 ho hs, hm', OnL.of_on3 ho (by simp) (by simp) (by simp)⟩
  · rintro e w' ⟨he, w1, hb1, w2, hb2, w3, hb3, hm, hm1, hl⟩
    have h3 := ((h.below hb1).below hb2).below hb3
    have hb := (hb1.trans (hb2.mono hb1.size)).trans (hb3.mono (Nat.le_trans hb1.size hb2.size))
    exact ⟨he, h3.sect hl hm hm1 h.l1 hc, (OnL.of_below hb).trans hl⟩
/-- A section at Local does: there is none. -/
theorem wlocal (h : Wd w0 w B r lg xs ys c d n evs qs 3 g got true rest bk s0 s1 2 s3 0 yes) (hr : w.cell? ⟨B.rb, 0, none⟩ = some (.pointer (some ⟨B.rg, 0, none⟩))) (hR : Rg w B.rg [] 0 false 0) :
    Calls Tryz.prog 36 #[.pointer (some ⟨B.W, 0, none⟩), stepV] w fun e w' => e = .returned (.bool true) ∧ Wd w0 w' B r lg xs ys c d n evs qs 3 g got true rest bk s0 s1 3 s3 1 false := by
  have nm : B.mb ≠ B.rg := Ne.symm (h.nd 7 10 (by decide) (by decide))
  refine (step_pick (fun w1 w' => ∃ w2, Below w1.heap.size w1 w2 ∧ ∃ w3, Below w2.heap.size w2 w3 ∧ Mc w' B.mb 3 0 g (-1) got (-1) 0 false true rest bk 0 0 s0 s1 3 s3 1 false 0 ∧ OnL [B.mb, B.rg] w3 w') (fun w1 hb1 => ?_)).mono ?_
  · have h1 := h.below hb1
    refine pick_in _ h1.wb h1.mc (by decide) (by decide) (fun w2 hb2 => ?_)
    have h2 := h1.below hb2
    refine locked_in _ h2.wb h2.mc (fun w3 pw pi hL => ?_)
    have h3 := h2.below hL.bl
    have hb := (hb1.trans (hb2.mono hb1.size)).trans (hL.bl.mono (Nat.le_trans hb1.size hb2.size))
    have hr3 := (hb.cell (p := ⟨B.rb, 0, none⟩) (h.al _ (by simp [Bs.l]))).trans hr
    have hR3 := hR.below hb
    have hba : Below w3.heap.size w3 (w3.alloc (.cells #[.bool false] 4)) := (Below.refl _ _).alloc (Nat.le_refl _) _
    have h4 := h3.below hba
    have hgo := goes_with (W := B.W) (pw := pw) (pi := pi) 0 w3 (fun w' => Mc w' B.mb 3 0 g (-1) got (-1) 0 false true rest bk 0 0 s0 s1 2 s3 0 false 0 ∧ OnL [B.mb, B.rg] w3 w') (blk_cell hL.a rfl) (blk_cell hL.b rfl) ((with_local h4.wb h4.mc ((hba.cell (p := ⟨B.rb, 0, none⟩) (h3.al _ (by simp [Bs.l]))).trans hr3) (hR3.below hba) nm 0).mono (fun e w' hx => by
      obtain ⟨he, hm, hl⟩ := hx
      refine ⟨he, (hl.block _ (by simp) (by simp; have := h3.mc.lt; have := h3.al B.rg (by simp [Bs.l]); omega)).trans (heap_alloc_new _ _), fun w2 ho => ⟨hm.kept (ho.block _ hm.lt (by simp; have := h3.mc.lt; omega)), ((OnL.of_below hba).trans hl).fresh ho (Nat.le_refl _)⟩⟩))
    refine (step_do (cloV pw pi) false (fun w' => Mc w' B.mb 3 0 g (-1) got (-1) 0 false true rest bk 0 0 s0 s1 2 s3 0 false 0 ∧ OnL [B.mb, B.rg] w3 w') h3.mc.sct hgo (fun w1 hb => hb.1.sct) (by omega) (by omega)).mono ?_
    rintro e w' ⟨w5, ⟨hm5, hl5⟩, he, rfl⟩
    simp only [Bool.false_eq_true, if_false]
    exact ⟨he, (hm5.up15 3).up17 (0 + 1), hl5.trans ((OnL.set _ _ _ _ (by simp)).trans (OnL.set _ _ _ _ (by simp)))⟩
  · rintro e w' ⟨he, w1, hb1, w2, hb2, w3, hb3, hm, hl⟩
    have h3 := ((h.below hb1).below hb2).below hb3
    have ne := h.nd
    exact ⟨he, h3.upd hl (by simp) hm (h3.m1k hl (by simp; exact ⟨ne 1 10 (by decide) (by decide), ne 1 7 (by decide) (by decide)⟩) (by simp; exact ⟨ne 2 10 (by decide) (by decide), ne 2 7 (by decide) (by decide)⟩)) h3.l1 h3.c1 (h3.quk hl (by simp; exact ⟨ne 8 10 (by decide) (by decide), Ne.symm (ne 7 8 (by decide) (by decide))⟩) (by simp; exact ⟨ne 9 10 (by decide) (by decide), Ne.symm (ne 7 9 (by decide) (by decide))⟩) (fun k hk => by have := h3.rs k hk; simp; omega)) (fun k hk => .inl hk)⟩
end
end K
end Go.Proofs.YtfpkgkjmpcoppaaGreatDoor
/-! A world of one: its steps, on; blocks that stay. -/
namespace Go.Proofs.YtfpkgkjmpcoppaaGreatDoor
open Go.RowKit
set_option linter.unusedVariables false
set_option linter.unusedSimpArgs false
set_option maxRecDepth 20000
namespace K
section
variable {w0 w w' : World} {B : Bs} {r r' : Option Nat} {lg : Value} {xs xs' ys : List Int} {c c' d n : Nat} {evs : List Value} {qs qs' : List Int} {pl pl' g g' got got' : Int} {inn inn' : Bool} {rest rest' : Value} {bk bk' s0 s1 s2 s3 s4 t0 t1 t2 t3 t4 : Int} {yes yes' : Bool}
variable {ra : Option Addr} {rn rcc : Nat}
/-- A section at Global does: there is one, and it is taken. -/
theorem wglobal (h : Wd w0 w B r lg xs ys c d n evs [0] 4 g got true rest bk s0 s1 2 s3 0 yes) :
    Calls Tryz.prog 36 #[.pointer (some ⟨B.W, 0, none⟩), stepV] w fun e w' => e = .returned (.bool true) ∧ ∃ r' ra rcc, RcOK ra rcc ∧ Wd w0 w' B r' lg xs ys c d n evs [] 4 g 0 true (.slice ra 0 rcc) bk s0 s1 3 s3 1 true := by
  have n1 : B.mb ≠ B.qp := Ne.symm (h.nd 9 10 (by decide) (by decide))
  have n3 : B.mb ≠ B.q := Ne.symm (h.nd 8 10 (by decide) (by decide))
  have n2 : r ≠ some B.mb := fun e => (h.ro _ e).1 (by simp [Bs.l])
  refine (step_pick (fun w1 w' => ∃ w2, Below w1.heap.size w1 w2 ∧ ∃ w3, Below w2.heap.size w2 w3 ∧ ∃ ra rcc, RcOK ra rcc ∧ Mc w' B.mb 4 0 g (-1) 0 (-1) 0 false true (.slice ra 0 rcc) bk 0 0 s0 s1 3 s3 1 true 0 ∧ (∃ r', Qu w' B.q B.qp 1 r' [] ∧ ∀ k, r' = some k → r = some k ∨ w3.heap.size ≤ k) ∧ OnL (B.mb :: B.qp :: r.toList) w3 w') (fun w1 hb1 => ?_)).mono ?_
  · have h1 := h.below hb1
    refine pick_in _ h1.wb h1.mc (by decide) (by decide) (fun w2 hb2 => ?_)
    have h2 := h1.below hb2
    refine locked_in _ h2.wb h2.mc (fun w3 pw pi hL => ?_)
    have h3 := h2.below hL.bl
    have hba : Below w3.heap.size w3 (w3.alloc (.cells #[.bool false] 4)) := (Below.refl _ _).alloc (Nat.le_refl _) _
    have h4 := h3.below hba
    have lm := h3.mc.lt
    have lq := h3.qu.hb.lt
    have lq2 := h3.qu.lt
    have lr := h3.qu.hb.rlt
    have hgo := goes_with (W := B.W) (pw := pw) (pi := pi) 0 w3 (fun w' => ∃ ra rcc, RcOK ra rcc ∧ Mc w' B.mb 4 0 g (-1) 0 (-1) 0 false true (.slice ra 0 rcc) bk 0 0 s0 s1 2 s3 0 true 0 ∧ (∃ r', Qu w' B.q B.qp 1 r' [] ∧ ∀ k, r' = some k → r = some k ∨ w3.heap.size < k) ∧ OnL (B.mb :: B.qp :: r.toList) w3 w') (blk_cell hL.a rfl) (blk_cell hL.b rfl) ((with_global h4.wb h4.mc h4.qu n1 n2 n3 0).mono (fun e w' hx => by
      obtain ⟨he, ⟨ra, rcc, hrc, hm⟩, ⟨r', hq, hr'⟩, hl⟩ := hx
      have hG : w3.heap.size ∉ B.mb :: B.qp :: r.toList := by
        simp only [List.mem_cons, not_or, Option.mem_toList]
        exact ⟨by omega, by omega, fun e => by have := lr _ e; omega⟩
      have hrk : ∀ k, r' = some k → r = some k ∨ w3.heap.size < k := fun k hk => (hr' k hk).imp id (fun h => by simp at h; omega)
      refine ⟨he, (hl.block _ (by simp) hG).trans (heap_alloc_new _ _), fun w2 ho => ⟨ra, rcc, hrc, hm.kept (ho.block _ hm.lt (by simp; omega)), ⟨r', ⟨(ho.block _ hq.lt (by simp; omega)).trans hq.hq, hq.hb.kept (ho.block _ hq.hb.lt (by simp; omega)) (fun k hk => ho.block k (hq.hb.rlt k hk) (by
        simp
        rcases hrk k hk with h | h
        · have := lr _ h; omega
        · omega)), hq.ne, hq.nr, hq.lo, hq.hi⟩, hrk⟩, ((OnL.of_below hba).trans hl).fresh ho (Nat.le_refl _)⟩⟩))
    refine (step_do (cloV pw pi) false _ h3.mc.sct hgo (fun w1 hb => by obtain ⟨ra, rcc, hrc, hm, _⟩ := hb; exact hm.sct) (by omega) (by omega)).mono ?_
    rintro e w' ⟨w5, ⟨ra, rcc, hrc, hm5, ⟨r', hq, hr'⟩, hl5⟩, he, rfl⟩
    simp only [Bool.false_eq_true, if_false]
    have ho : OnL [B.mb] w5 ((w5.setCell ⟨B.mb, 13 + 2, none⟩ (.int .i64 3)).setCell ⟨B.mb, 13 + 4, none⟩ (.int .i64 (0 + 1))) := (OnL.set _ _ _ _ (by simp)).trans (OnL.set _ _ _ _ (by simp))
    refine ⟨he, ra, rcc, hrc, (hm5.up15 3).up17 (0 + 1), ⟨r', ⟨(ho.block _ hq.lt (by simp; exact Ne.symm n3)).trans hq.hq, hq.hb.kept (ho.block _ hq.hb.lt (by simp; exact Ne.symm n1)) (fun k hk => ho.block k (hq.hb.rlt k hk) (by
      simp
      intro e; subst e
      rcases hr' _ hk with h | h
      · exact n2 h
      · omega)), hq.ne, hq.nr, hq.lo, hq.hi⟩, fun k hk => (hr' k hk).imp id (fun h => by omega)⟩, hl5.trans (ho.mono (by simp))⟩
  · rintro e w' ⟨he, w1, hb1, w2, hb2, w3, hb3, ra, rcc, hrc, hm, ⟨r', hq, hr'⟩, hl⟩
    have h3 := ((h.below hb1).below hb2).below hb3
    have ne := h.nd
    have ro := h.ro
    refine ⟨he, r', ra, rcc, hrc, h3.upd hl (fun k hk => ?_) hm (h3.m1k hl ?_ ?_) h3.l1 h3.c1 hq hr'⟩
    · simp only [List.mem_cons, Option.mem_toList] at hk
      rcases hk with rfl | rfl | hk
      · exact .inl rfl
      · exact .inr (.inr (.inr (.inr (.inr (.inl rfl)))))
      · exact .inr (.inr (.inr (.inr (.inr (.inr hk)))))
    · simp only [List.mem_cons, not_or, Option.mem_toList]
      exact ⟨ne 1 10 (by decide) (by decide), ne 1 9 (by decide) (by decide), fun e => (ro _ e).1 (by simp [Bs.l])⟩
    · simp only [List.mem_cons, not_or, Option.mem_toList]
      exact ⟨ne 2 10 (by decide) (by decide), ne 2 9 (by decide) (by decide), fun e => (ro _ e).1 (by simp [Bs.l])⟩
/-- A section is over, and what it found tells where its machine goes on. -/
theorem wfree (h : Wd w0 w B r lg xs ys c d n evs qs pl g got true rest bk s0 s1 3 0 s4 yes) (h0 : pl ≠ 0) (h16 : pl ≠ 16) (hs1 : 0 ≤ s1) (hs9 : s1 < 9) (hx : xs.getD s1.toNat 0 = 0) (hc : c + 2 ≤ 1000)
    (HG : ∀ w3, Wb w3 B.W B.b1 B.b2 B.rb B.tb B.q B.sb B.ib B.mb B.rc lg → Mc w3 B.mb pl 0 g (-1) got (-1) 0 false false rest bk 0 0 0 0 0 0 0 yes 0 → Calls Tryz.prog 141 #[.pointer (some ⟨B.W, 0, none⟩), .int .i64 0] w3 fun e w' => e = .returned (.tuple #[]) ∧ Mc w' B.mb pl' 0 g (-1) got (-1) 0 false false rest bk' 0 0 0 0 0 0 0 yes 0 ∧ OnL [B.mb] w3 w') :
    Calls Tryz.prog 36 #[.pointer (some ⟨B.W, 0, none⟩), stepV] w fun e w' => e = .returned (.bool true) ∧ Wd w0 w' B r lg (xs.set s1.toNat 1) ys (c + 2) d n evs qs pl' g got false rest bk' 0 0 0 0 0 yes := by
  refine (step_pick (fun w1 w' => ∃ w2, Below w1.heap.size w1 w2 ∧ ∃ w3, Below w2.heap.size w2 w3 ∧ Mc w' B.mb pl' 0 g (-1) got (-1) 0 false false rest bk' 0 0 0 0 0 0 0 yes 0 ∧ Mem w' B.b1 B.g1 (xs.set s1.toNat 1) (c + 2) ∧ OnL [B.mb, B.b1, B.g1] w3 w') (fun w1 hb1 => ?_)).mono ?_
  · have h1 := h.below hb1
    refine pick_in _ h1.wb h1.mc h0 h16 (fun w2 hb2 => ?_)
    have h2 := h1.below hb2
    refine locked_free (fun w3 w' => Mem w' B.b1 B.g1 (xs.set s1.toNat 1) (c + 2) ∧ Wb w' B.W B.b1 B.b2 B.rb B.tb B.q B.sb B.ib B.mb B.rc lg ∧ OnL [B.mb, B.b1, B.g1] w3 w') _ (rest' := rest) (yes' := yes) (t0 := s0) (t1 := s1) (t2 := 4) (t3 := 0) (t4 := s4) h2.wb h2.mc (fun w3 pw pi hL => ?_) (fun w3 w4 w5 hb3 hx hl5 hm5 => ?_)
    · have h3 := h2.below hL.bl
      have hlen := h3.l1
      have hcc := h3.c1
      have lm := h3.mc.lt
      have l1 := h3.m1.sb
      have l2 := h3.m1.sg
      have a1 := h2.mc.lt
      have a2 := h2.m1.sb
      have a3 := h2.m1.sg
      have a4 := hL.la
      have a5 := hL.lb
      refine (step_free (cloV pw pi) h3.mc.sct h3.m1 h3.sb.1 h3.sb.2 (by omega) hs1 (by omega) hx (by unfold inU; omega)).mono ?_
      rintro e w' ⟨he, hs, hm', ho⟩
      rw [show U (0 + 1) = 1 from U_of (by unfold inU; omega)] at hm'
      have hl : OnL [B.mb, B.b1, B.g1] w3 w' := OnL.of_on3 ho (by simp) (by simp) (by simp)
      have ne := h.nd
      exact ⟨he, h3.mc.on3 ho hs, ⟨blk_cell ((hl.block pw (blk_lt hL.a) (by simp; omega)).trans hL.a) rfl, blk_cell ((hl.block pi (blk_lt hL.b) (by simp; omega)).trans hL.b) rfl⟩, hm', h3.wb.kept (hl.block _ h3.wb.lt (by simp; exact ⟨ne 0 10 (by decide) (by decide), ne 0 1 (by decide) (by decide), ne 0 2 (by decide) (by decide)⟩)), hl⟩
    · obtain ⟨hm1, hwb, hl4⟩ := hx
      have hwb5 := hwb.kept (w' := w5) (hl5.block _ hwb.lt (by simp; exact h.nW))
      refine (HG w5 hwb5 hm5).mono ?_
      rintro e w' ⟨he, hm, hl⟩
      have hl' := hl5.trans hl
      exact ⟨he, hm, hm1.blocks (hl'.block _ hm1.sb (by simp; exact Ne.symm h.sb.1)) (hl'.block _ hm1.sg (by simp; exact Ne.symm h.sb.2)), hl4.trans (hl'.mono (by simp))⟩
  · rintro e w' ⟨he, w1, hb1, w2, hb2, w3, hb3, hm, hm1, hl⟩
    have h3 := ((h.below hb1).below hb2).below hb3
    exact ⟨he, h3.sect hl hm hm1 (by simp [h.l1]) hc⟩
/-- The dispatch: its goroutine runs. -/
theorem wdispatch (h : Wd w0 w B r lg xs ys c d n evs qs 20 g 0 false (.slice ra rn rcc) bk s0 s1 s2 s3 s4 yes) :
    Calls Tryz.prog 36 #[.pointer (some ⟨B.W, 0, none⟩), stepV] w fun e w' => e = .returned (.bool true) ∧ ∃ lg', Wb w' B.W B.b1 B.b2 B.rb B.tb B.q B.sb B.ib B.mb B.rc lg' ∧ Mc w' B.mb 0 0 0 (-1) (-1) (-1) 0 false false (.slice ra rn rcc) bk 0 0 s0 s1 s2 s3 s4 yes 0 ∧ Mem w' B.b2 B.g2 (ys.set 8 2) (d + 1) ∧ Lg w' w0.heap.size lg' (n + 1) (evs ++ [.int .i64 2, .int .i64 0, .int .i64 0, .int .i64 0, .int .i64 0]) ∧ lg'.ownBlock ≠ some B.W ∧ Below w0.heap.size w0 w' ∧ (∀ k, lg'.ownBlock = some k → k ≠ B.b2 ∧ k ≠ B.g2) ∧ B.W ≠ B.b2 ∧ B.W ≠ B.g2 ∧ (∀ k, B.K k → k < w'.heap.size ∧ w'.heap[k]? = B.v k ∧ k ≠ B.b2 ∧ k ≠ B.g2) := by
  have ne := h.nd
  have lo := h.lo
  refine (step_pick (fun w1 w' => ∃ w2, Below w1.heap.size w1 w2 ∧ ∃ w3, SeeP B.W B.b1 B.g1 B.b2 B.g2 B.rb B.tb B.q B.sb B.ib B.mb B.rc w0.heap.size lg n evs xs ys c d 2 2 0 0 0 w2 w3 ∧ Mc w' B.mb 0 0 0 (-1) (-1) (-1) 0 false false (.slice ra rn rcc) bk 0 0 s0 s1 s2 s3 s4 yes 0 ∧ OnL [B.mb] w3 w') (fun w1 hb1 => ?_)).mono ?_
  · have h1 := h.below hb1
    refine pick_pass 20 _ h1.wb h1.mc h1.T1 (by decide) (by decide) (by decide) (by decide) (by decide) (fun w2 hb2 => ?_)
    have h2 := h1.below hb2
    have c1 := h2.c1
    have c2 := h2.c2
    refine (pass_dispatch h2.wb h2.mc h2.lgr h2.n1 h2.bl.size h2.m1 h2.m2 (by omega) (by omega) h2.l1 h2.l2 h2.T2 h2.T3 ⟨ne 1 3 (by decide) (by decide), ne 1 4 (by decide) (by decide), ne 2 3 (by decide) (by decide), ne 2 4 (by decide) (by decide), ne 0 1 (by decide) (by decide), ne 0 2 (by decide) (by decide), ne 0 3 (by decide) (by decide), ne 0 4 (by decide) (by decide)⟩
      (fun k hk => by have := (lo k hk).1; simp [Bs.l] at this; omega) ⟨Ne.symm h.nW, h.sb.1, h.sb.2, Ne.symm (ne 3 10 (by decide) (by decide)), Ne.symm (ne 4 10 (by decide) (by decide))⟩ (fun e => (lo _ e).1 (by simp [Bs.l]))).mono ?_
    rintro e w' ⟨he, w3, hs, hm, hl⟩
    exact ⟨he, w3, hs, hm, hl⟩
  · rintro e w' ⟨he, w1, hb1, w2, hb2, w3, ⟨lg', hwb, hlg, hm1, hm2, hnW, hown, hl3⟩, hm, hl⟩
    have h2 := (h.below hb1).below hb2
    have n10 := Ne.symm h.nW
    have hS : ∀ k ∈ B.W :: B.b1 :: B.g1 :: B.b2 :: B.g2 :: lg.ownBlock.toList, w0.heap.size ≤ k := fun k hk => by
      simp only [List.mem_cons, Option.mem_toList] at hk
      rcases hk with rfl | rfl | rfl | rfl | rfl | hk
      · exact h.ge _ (by simp [Bs.l])
      · exact h.ge _ (by simp [Bs.l])
      · exact h.ge _ (by simp [Bs.l])
      · exact h.ge _ (by simp [Bs.l])
      · exact h.ge _ (by simp [Bs.l])
      · exact (h.lgr.lt k hk).1
    have hb3 := hl3.below hS h2.bl.size
    have hb4 := hl.below (B := w0.heap.size) (by simp; exact h.ge _ (by simp [Bs.l])) (Nat.le_trans h2.bl.size hl3.size)
    refine ⟨he, lg', hwb.kept (hl.block _ hwb.lt (by simp; exact h.nW)), hm, hm2.blocks (hl.block _ hm2.sb (by simp; exact ne 3 10 (by decide) (by decide))) (hl.block _ hm2.sg (by simp; exact ne 4 10 (by decide) (by decide))), hlg.kept (fun k hk => hl.block k (hlg.lt k hk).2 (by
      simp
      intro e; subst e
      rcases hown _ hk with h' | h'
      · exact (lo _ h').1 (by simp [Bs.l])
      · have := h2.mc.lt; omega)), hnW, (h2.bl.trans (hb3.mono (Nat.le_refl _))).trans hb4, fun k hk => ?_, ne 0 3 (by decide) (by decide), ne 0 4 (by decide) (by decide), fun k hk => ?_⟩
    rotate_left
    · have h1 := h2.kn k hk
      have h3 := h1.2.1
      simp only [Bs.l, List.mem_cons, List.not_mem_nil, or_false, not_or] at h3
      refine ⟨Nat.lt_of_lt_of_le h1.1 (Nat.le_trans hl3.size hl.size), (hl.block k (Nat.lt_of_lt_of_le h1.1 hl3.size) (by simp; omega)).trans ((hl3.block k h1.1 (fun e => ?_)).trans (h2.kz k hk)), by omega, by omega⟩
      simp only [List.mem_cons, Option.mem_toList] at e
      rcases e with e | e | e | e | e | e
      · omega
      · omega
      · omega
      · omega
      · omega
      · exact h1.2.2.2 e
    rcases hown k hk with h' | h'
    · have := (lo k h').1
      simp [Bs.l] at this
      exact ⟨by omega, by omega⟩
    · have := h2.al B.b2 (by simp [Bs.l])
      have := h2.al B.g2 (by simp [Bs.l])
      exact ⟨by omega, by omega⟩
end
end K
end Go.Proofs.YtfpkgkjmpcoppaaGreatDoor
/-! A world of one: ten steps in a row; blocks that stay. -/
namespace Go.Proofs.YtfpkgkjmpcoppaaGreatDoor
open Go.RowKit
set_option linter.unusedVariables false
set_option linter.unusedSimpArgs false
set_option maxRecDepth 20000
namespace K
/-- The first event: goroutine 0 is spawned. -/
@[reducible] def ev0 : List Value := [.int .i64 0, .int .i64 0, .int .i64 (-1), .int .i64 (-1), .int .i64 0]
/-- The ring of processor 0 is empty. -/
def Rn (w : World) (B : Bs) : Prop := w.cell? ⟨B.rb, 0, none⟩ = some (.pointer (some ⟨B.rg, 0, none⟩)) ∧ Rg w B.rg [] 0 false 0
/-- A world of one behind so many steps. -/
def At (w0 : World) (B : Bs) : Nat → World → Prop
  | 0, w => ∃ r lg ra rn rcc bk s0 s1 s2 s3 s4 yes, Wd w0 w B r lg [0, 0, 0, 0, 0, 0, 0, 0, 1] [0, 0, 0, 0, 0, 0, 0, 0, 1] 1 1 1 ev0 [0] 1 (-1) (-1) false (.slice ra rn rcc) bk s0 s1 s2 s3 s4 yes ∧ w.cell? ⟨B.tb, 0, none⟩ = some (.int .i64 0) ∧ w.frozen? ⟨B.tb, 0, none⟩ = false ∧ Rn w B
  | 1, w => ∃ r lg ra rn rcc bk s0 s1 s2 s3 s4 yes, Wd w0 w B r lg [0, 0, 0, 0, 0, 0, 0, 0, 1] [0, 0, 0, 0, 0, 0, 0, 0, 1] 1 1 1 ev0 [0] 3 (-1) (-1) false (.slice ra rn rcc) bk s0 s1 s2 s3 s4 yes ∧ Rn w B
  | 2, w => ∃ r lg ra rn rcc bk yes, Wd w0 w B r lg [0, 0, 1, 0, 0, 0, 0, 0, 1] [0, 0, 0, 0, 0, 0, 0, 0, 1] 2 1 1 ev0 [0] 3 (-1) (-1) true (.slice ra rn rcc) bk 2 3 1 0 0 yes ∧ Rn w B
  | 3, w => ∃ r lg ra rn rcc bk yes, Wd w0 w B r lg [0, 0, 1, 0, 0, 0, 0, 0, 1] [0, 0, 0, 0, 0, 0, 0, 0, 1] 3 1 1 ev0 [0] 3 (-1) (-1) true (.slice ra rn rcc) bk 2 3 2 0 0 yes ∧ Rn w B
  | 4, w => ∃ r lg ra rn rcc bk, Wd w0 w B r lg [0, 0, 1, 0, 0, 0, 0, 0, 1] [0, 0, 0, 0, 0, 0, 0, 0, 1] 3 1 1 ev0 [0] 3 (-1) (-1) true (.slice ra rn rcc) bk 2 3 3 0 1 false
  | 5, w => ∃ r lg ra rn rcc bk, Wd w0 w B r lg [0, 0, 1, 1, 0, 0, 0, 0, 1] [0, 0, 0, 0, 0, 0, 0, 0, 1] 5 1 1 ev0 [0] 4 (-1) (-1) false (.slice ra rn rcc) bk 0 0 0 0 0 false
  | 6, w => ∃ r lg ra rn rcc bk, Wd w0 w B r lg [1, 0, 1, 1, 0, 0, 0, 0, 1] [0, 0, 0, 0, 0, 0, 0, 0, 1] 6 1 1 ev0 [0] 4 (-1) (-1) true (.slice ra rn rcc) bk 0 1 1 0 0 false
  | 7, w => ∃ r lg ra rn rcc bk, Wd w0 w B r lg [1, 0, 1, 1, 0, 0, 0, 0, 1] [0, 0, 0, 0, 0, 0, 0, 0, 1] 7 1 1 ev0 [0] 4 (-1) (-1) true (.slice ra rn rcc) bk 0 1 2 0 0 false
  | 8, w => ∃ r lg ra rcc bk, RcOK ra rcc ∧ Wd w0 w B r lg [1, 0, 1, 1, 0, 0, 0, 0, 1] [0, 0, 0, 0, 0, 0, 0, 0, 1] 7 1 1 ev0 [] 4 (-1) 0 true (.slice ra 0 rcc) bk 0 1 3 0 1 true
  | 9, w => ∃ r lg ra rcc, RcOK ra rcc ∧ Wd w0 w B r lg [1, 1, 1, 1, 0, 0, 0, 0, 1] [0, 0, 0, 0, 0, 0, 0, 0, 1] 9 1 1 ev0 [] 20 (-1) 0 false (.slice ra 0 rcc) 20 0 0 0 0 0 true
  | _, w => ∃ ra rcc lg, RcOK ra rcc ∧ Wb w B.W B.b1 B.b2 B.rb B.tb B.q B.sb B.ib B.mb B.rc lg ∧ Mc w B.mb 0 0 0 (-1) (-1) (-1) 0 false false (.slice ra 0 rcc) 20 0 0 0 0 0 0 0 true 0 ∧ Mem w B.b2 B.g2 [0, 0, 0, 0, 0, 0, 0, 0, 2] 2 ∧ Lg w w0.heap.size lg 2 (ev0 ++ [.int .i64 2, .int .i64 0, .int .i64 0, .int .i64 0, .int .i64 0]) ∧ lg.ownBlock ≠ some B.W ∧ Below w0.heap.size w0 w ∧ (∀ k, lg.ownBlock = some k → k ≠ B.b2 ∧ k ≠ B.g2) ∧ B.W ≠ B.b2 ∧ B.W ≠ B.g2 ∧ (∀ k, B.K k → k < w.heap.size ∧ w.heap[k]? = B.v k ∧ k ≠ B.b2 ∧ k ≠ B.g2)
section
variable {w0 w w' : World} {B : Bs} {r r' : Option Nat} {lg : Value} {xs xs' ys : List Int} {c c' d n : Nat} {evs : List Value} {qs qs' : List Int} {pl pl' g g' got got' : Int} {inn inn' : Bool} {rest rest' : Value} {bk bk' s0 s1 s2 s3 s4 t0 t1 t2 t3 t4 : Int} {yes yes' : Bool}
theorem Rn.kept (h : Wd w0 w B r lg xs ys c d n evs qs pl g got inn rest bk s0 s1 s2 s3 s4 yes) (k : Rn w B) {S : List Nat} (hl : OnL S w w') (h1 : B.rb ∉ S) (h2 : B.rg ∉ S) : Rn w' B := by
  refine ⟨?_, k.2.kept (hl.block _ (h.al _ (by simp [Bs.l])) h2)⟩
  rw [← k.1]
  exact World.cell?_of_block (hl.block _ (h.al _ (by simp [Bs.l])) h1)
theorem Rn.sect (h : Wd w0 w B r lg xs ys c d n evs qs pl g got inn rest bk s0 s1 s2 s3 s4 yes) (k : Rn w B) (hl : OnL [B.mb, B.b1, B.g1] w w') : Rn w' B := by
  have ne := h.nd
  refine k.kept h hl ?_ ?_
  · simp only [List.mem_cons, not_or, List.not_mem_nil, not_false_eq_true, and_true]
    exact ⟨ne 5 10 (by decide) (by decide), Ne.symm (ne 1 5 (by decide) (by decide)), Ne.symm (ne 2 5 (by decide) (by decide))⟩
  · simp only [List.mem_cons, not_or, List.not_mem_nil, not_false_eq_true, and_true]
    exact ⟨ne 7 10 (by decide) (by decide), Ne.symm (ne 1 7 (by decide) (by decide)), Ne.symm (ne 2 7 (by decide) (by decide))⟩
theorem at_next (i : Nat) (hi : i < 10) (h : At w0 B i w) :
    Calls Tryz.prog 36 #[.pointer (some ⟨B.W, 0, none⟩), stepV] w fun e w' => e = .returned (.bool true) ∧ At w0 B (i + 1) w' := by
  match i, hi with
  | 0, _ =>
    obtain ⟨r, lg, ra, rn, rcc, bk, s0, s1, s2, s3, s4, yes, hw, ht, hf, hr⟩ := h
    refine (wstep0 hw ht hf).mono ?_
    rintro e w' ⟨he, hw', hl⟩
    have ne := hw.nd
    exact ⟨he, r, lg, ra, rn, rcc, bk, s0, s1, s2, s3, s4, yes, hw', hr.kept hw hl (by simp; exact ⟨ne 5 10 (by decide) (by decide), ne 5 6 (by decide) (by decide)⟩) (by simp; exact ⟨ne 7 10 (by decide) (by decide), Ne.symm (ne 6 7 (by decide) (by decide))⟩)⟩
  | 1, _ =>
    obtain ⟨r, lg, ra, rn, rcc, bk, s0, s1, s2, s3, s4, yes, hw, hr⟩ := h
    refine (wfirst 3 1 hw (by decide) (by decide) (by decide) (by decide) (by decide) rfl (by decide)).mono ?_
    rintro e w' ⟨he, hw', hl⟩
    exact ⟨he, r, lg, ra, rn, rcc, bk, yes, hw', hr.sect hw hl⟩
  | 2, _ =>
    obtain ⟨r, lg, ra, rn, rcc, bk, yes, hw, hr⟩ := h
    refine (wwait hw (by decide) (by decide) (by decide) (by decide) rfl (by decide)).mono ?_
    rintro e w' ⟨he, hw', hl⟩
    exact ⟨he, r, lg, ra, rn, rcc, bk, yes, hw', hr.sect hw hl⟩
  | 3, _ =>
    obtain ⟨r, lg, ra, rn, rcc, bk, yes, hw, hr⟩ := h
    refine (wlocal hw hr.1 hr.2).mono ?_
    rintro e w' ⟨he, hw'⟩
    exact ⟨he, r, lg, ra, rn, rcc, bk, hw'⟩
  | 4, _ =>
    obtain ⟨r, lg, ra, rn, rcc, bk, hw⟩ := h
    have hn := hw.nW
    refine (wfree (pl' := 4) (bk' := bk) hw (by decide) (by decide) (by decide) (by decide) rfl (by decide) (fun w3 hb hm => goOn_local hb hm hn)).mono ?_
    rintro e w' ⟨he, hw'⟩
    exact ⟨he, r, lg, ra, rn, rcc, bk, hw'⟩
  | 5, _ =>
    obtain ⟨r, lg, ra, rn, rcc, bk, hw⟩ := h
    refine (wfirst 4 0 hw (by decide) (by decide) (by decide) (by decide) (by decide) rfl (by decide)).mono ?_
    rintro e w' ⟨he, hw', hl⟩
    exact ⟨he, r, lg, ra, rn, rcc, bk, hw'⟩
  | 6, _ =>
    obtain ⟨r, lg, ra, rn, rcc, bk, hw⟩ := h
    refine (wwait hw (by decide) (by decide) (by decide) (by decide) rfl (by decide)).mono ?_
    rintro e w' ⟨he, hw', hl⟩
    exact ⟨he, r, lg, ra, rn, rcc, bk, hw'⟩
  | 7, _ =>
    obtain ⟨r, lg, ra, rn, rcc, bk, hw⟩ := h
    refine (wglobal hw).mono ?_
    rintro e w' ⟨he, r', ra', rcc', hrc, hw'⟩
    exact ⟨he, r', lg, ra', rcc', bk, hrc, hw'⟩
  | 8, _ =>
    obtain ⟨r, lg, ra, rcc, bk, hrc, hw⟩ := h
    have hn := hw.nW
    refine (wfree (pl' := 20) (bk' := 20) hw (by decide) (by decide) (by decide) (by decide) rfl (by decide) (fun w3 hb hm => goOn_global hb hm hn)).mono ?_
    rintro e w' ⟨he, hw'⟩
    exact ⟨he, r, lg, ra, rcc, hrc, hw'⟩
  | 9, _ =>
    obtain ⟨r, lg, ra, rcc, hrc, hw⟩ := h
    refine (wdispatch hw).mono ?_
    rintro e w' ⟨he, lg', hwb, hm, hm2, hl, hn, hb, hlg⟩
    exact ⟨he, ra, rcc, lg', hrc, hwb, hm, hm2, hl, hn, hb, hlg⟩
theorem At.below (i : Nat) (hi : i ≤ 10) (h : At w0 B i w) (hb : Below w.heap.size w w') : At w0 B i w' := by
  match i, hi with
  | 0, _ =>
    obtain ⟨r, lg, ra, rn, rcc, bk, s0, s1, s2, s3, s4, yes, hw, ht, hf, hr⟩ := h
    exact ⟨r, lg, ra, rn, rcc, bk, s0, s1, s2, s3, s4, yes, hw.below hb, (hb.cell (p := ⟨B.tb, 0, none⟩) hw.tl).trans ht, by rw [← hf]; simp [World.frozen?, hb.block _ hw.tl], hr.kept hw (S := []) (OnL.of_below hb) (by simp) (by simp)⟩
  | 1, _ =>
    obtain ⟨r, lg, ra, rn, rcc, bk, s0, s1, s2, s3, s4, yes, hw, hr⟩ := h
    exact ⟨r, lg, ra, rn, rcc, bk, s0, s1, s2, s3, s4, yes, hw.below hb, hr.kept hw (S := []) (OnL.of_below hb) (by simp) (by simp)⟩
  | 2, _ =>
    obtain ⟨r, lg, ra, rn, rcc, bk, yes, hw, hr⟩ := h
    exact ⟨r, lg, ra, rn, rcc, bk, yes, hw.below hb, hr.kept hw (S := []) (OnL.of_below hb) (by simp) (by simp)⟩
  | 3, _ =>
    obtain ⟨r, lg, ra, rn, rcc, bk, yes, hw, hr⟩ := h
    exact ⟨r, lg, ra, rn, rcc, bk, yes, hw.below hb, hr.kept hw (S := []) (OnL.of_below hb) (by simp) (by simp)⟩
  | 4, _ => obtain ⟨r, lg, ra, rn, rcc, bk, hw⟩ := h; exact ⟨r, lg, ra, rn, rcc, bk, hw.below hb⟩
  | 5, _ => obtain ⟨r, lg, ra, rn, rcc, bk, hw⟩ := h; exact ⟨r, lg, ra, rn, rcc, bk, hw.below hb⟩
  | 6, _ => obtain ⟨r, lg, ra, rn, rcc, bk, hw⟩ := h; exact ⟨r, lg, ra, rn, rcc, bk, hw.below hb⟩
  | 7, _ => obtain ⟨r, lg, ra, rn, rcc, bk, hw⟩ := h; exact ⟨r, lg, ra, rn, rcc, bk, hw.below hb⟩
  | 8, _ => obtain ⟨r, lg, ra, rcc, bk, hrc, hw⟩ := h; exact ⟨r, lg, ra, rcc, bk, hrc, hw.below hb⟩
  | 9, _ => obtain ⟨r, lg, ra, rcc, hrc, hw⟩ := h; exact ⟨r, lg, ra, rcc, hrc, hw.below hb⟩
  | 10, _ =>
    obtain ⟨ra, rcc, lg, hrc, hwb, hm, hm2, hl, hn, hb0, hlg, q1, q2, hk⟩ := h
    exact ⟨ra, rcc, lg, hrc, hwb.kept (hb.block _ hwb.lt), hm.kept (hb.block _ hm.lt), hm2.below hb hm2.sb hm2.sg, hl.kept (fun q hq => hb.block _ (hl.lt q hq).2), hn, hb0.trans (hb.mono hb0.size), hlg, q1, q2, fun k h => ⟨Nat.lt_of_lt_of_le (hk k h).1 hb.size, (hb.block k (hk k h).1).trans (hk k h).2.1, (hk k h).2.2⟩⟩
end
end K
end Go.Proofs.YtfpkgkjmpcoppaaGreatDoor
