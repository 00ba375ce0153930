/- An Idle as a whole: its processors (a mask), who is pending, its machines, who polls; what stands while a law goes on. -/
import Derived.Test.YtnabikoieolfcaaDoorIdf
import Derived.Test.YtnabikoieolfcaaDoorMask5
import Derived.Test.YtnabikoieolfcaaDoorDel
namespace Go.Proofs.YtnabikoieolfcaaDoor
set_option linter.unusedVariables false
set_option linter.unusedSimpArgs false
open Go.RowKit

theorem owns_lt {w : World} {base : Nat} {v : Value} {xs : List Int} {k : Nat} (h : Owns w base v xs) (hk : v.ownBlock = some k) : k < w.heap.size := by
  obtain ⟨h0, ⟨h1, h2⟩ | ⟨q, cap, cur, h1, h2, h3, h4⟩⟩ := h
  · rw [h1] at hk; cases hk
  · rw [h1] at hk
    simp only [Value.ownBlock, Option.some.injEq] at hk
    subst hk
    rw [Array.getElem?_eq_some_iff] at h3; exact h3.1

/-- An Idle: block x; its mask's blocks mx, my; the stopped ones in block r, the pending ones in block rp. -/
structure Ids0 (w : World) (Z : Nat → Prop) (x mx my : Nat) (r rp : Option Nat) (np : Nat) (W : List Nat) (pv : Value) (pd : List Int) (N : Int) (ss : List Int) (pl : Int) : Prop where
  i : Idf w x r (.pointer (some ⟨mx, 0, none⟩)) pv N ss pl
  p : Owns w 0 pv pd
  q : pv.ownBlock = rp
  m : Msk w mx my np W
  d1 : x ≠ mx
  d2 : x ≠ my
  d3 : r ≠ some mx
  d4 : r ≠ some my
  d5 : rp ≠ some x
  d6 : rp ≠ some mx
  d7 : rp ≠ some my
  d8 : ∀ k, r = some k → rp = some k → False
  b1 : ¬ Z x
  b2 : ¬ Z mx
  b3 : ¬ Z my
  b4 : ∀ k, r = some k → ¬ Z k
  b5 : ∀ k, rp = some k → ¬ Z k
  zl : ∀ k, Z k → k < w.heap.size
namespace Ids0
variable {w : World} {Z : Nat → Prop} {x mx my : Nat} {r rp : Option Nat} {np : Nat} {W : List Nat} {pv : Value} {pd : List Int} {N : Int} {ss : List Int} {pl : Int}
theorem k0 (h : Ids0 w Z x mx my r rp np W pv pd N ss pl) : w.cell? ⟨x, 0, none⟩ = some (.pointer (some ⟨mx, 0, none⟩)) := by
  obtain ⟨sv, h1, _⟩ := h.i.h; simp [World.cell?, h1]
theorem k1 (h : Ids0 w Z x mx my r rp np W pv pd N ss pl) : w.cell? ⟨x, 1, none⟩ = some pv := by
  obtain ⟨sv, h1, _⟩ := h.i.h; simp [World.cell?, h1]
theorem rlt (h : Ids0 w Z x mx my r rp np W pv pd N ss pl) {k : Nat} (hk : r = some k) : k < w.heap.size := by
  obtain ⟨sv, _, h2, h3⟩ := h.i.h
  exact owns_lt h2 (h3.trans hk)
theorem plt (h : Ids0 w Z x mx my r rp np W pv pd N ss pl) {k : Nat} (hk : rp = some k) : k < w.heap.size := owns_lt h.p (h.q.trans hk)
theorem quiet (h : Ids0 w Z x mx my r rp np W pv pd N ss pl) {w' : World} (q : Quiet w w') : Ids0 w' Z x mx my r rp np W pv pd N ss pl :=
  ⟨h.i.kept (by rw [q.heap]) (fun k _ => by rw [q.heap]), h.p.kept (fun k _ => by rw [q.heap]), h.q, h.m.quiet q, h.d1, h.d2, h.d3, h.d4, h.d5, h.d6, h.d7, h.d8, h.b1, h.b2, h.b3, h.b4, h.b5, fun k hk => by rw [q.heap]; exact h.zl k hk⟩
/-- While blocks below a bound stay, it stays. -/
theorem below (h : Ids0 w Z x mx my r rp np W pv pd N ss pl) {w' : World} (hb : Below w.heap.size w w') : Ids0 w' Z x mx my r rp np W pv pd N ss pl :=
  ⟨h.i.kept (hb.block _ h.i.lt) (fun k hk => hb.block _ (h.rlt hk)), h.p.kept (fun k hk => hb.block _ (owns_lt h.p hk)), h.q, h.m.below hb h.m.sx h.m.sy, h.d1, h.d2, h.d3, h.d4, h.d5, h.d6, h.d7, h.d8, h.b1, h.b2, h.b3, h.b4, h.b5, fun k hk => Nat.lt_of_lt_of_le (h.zl k hk) hb.size⟩
/-- Behind a deed on the mask. -/
theorem mask (h : Ids0 w Z x mx my r rp np W pv pd N ss pl) {W' : List Nat} {w' : World} (hm : Msk w' mx my np W') (ho : Only mx my w w') : Ids0 w' Z x mx my r rp np W' pv pd N ss pl :=
  ⟨h.i.kept (ho.block _ h.i.lt h.d1 h.d2) (fun k hk => ho.block _ (h.rlt hk) (fun e => h.d3 (by rw [hk, e])) (fun e => h.d4 (by rw [hk, e]))),
   h.p.kept (fun k hk => ho.block _ (owns_lt h.p hk) (fun e => h.d6 (by rw [← h.q, hk, e])) (fun e => h.d7 (by rw [← h.q, hk, e]))), h.q, hm, h.d1, h.d2, h.d3, h.d4, h.d5, h.d6, h.d7, h.d8, h.b1, h.b2, h.b3, h.b4, h.b5, fun k hk => Nat.lt_of_lt_of_le (h.zl k hk) ho.size⟩
/-- Behind a deed on the machines. -/
theorem stops (h : Ids0 w Z x mx my r rp np W pv pd N ss pl) {ss' : List Int} {pl' : Int} {v : Value} {e : Ending} {w' : World} (hp : IPost x r (.pointer (some ⟨mx, 0, none⟩)) pv v N ss' pl' w e w') :
    e = .returned v ∧ ∃ r', Ids0 w' Z x mx my r' rp np W pv pd N ss' pl' ∧ OnX x r w w' := by
  obtain ⟨r', he, hi, ho, hr⟩ := hp
  have fresh : ∀ k, r' = some k → r = some k ∨ w.heap.size ≤ k := fun k hk => by
    rcases hr with e | e
    · exact .inl (by rw [← e, hk])
    · exact .inr (e k hk)
  refine ⟨he, r', ⟨hi, h.p.kept (fun k hk => ho.block _ (owns_lt h.p hk) (fun e => h.d5 (by rw [← h.q, hk, e])) (fun e => h.d8 k e.symm (by rw [← h.q, hk]))), h.q, h.m.kept (ho.block _ h.m.sx (Ne.symm h.d1) (fun e => h.d3 e.symm)) (ho.block _ h.m.sy (Ne.symm h.d2) (fun e => h.d4 e.symm)), h.d1, h.d2, fun e => ?_, fun e => ?_, h.d5, h.d6, h.d7, fun k h1 h2 => ?_, h.b1, h.b2, h.b3, fun k hk hz => ?_, h.b5, fun k hk => Nat.lt_of_lt_of_le (h.zl k hk) ho.size⟩, ho⟩
  · rcases fresh _ e with e | e
    · exact h.d3 e
    · have := h.m.sx; omega
  · rcases fresh _ e with e | e
    · exact h.d4 e
    · have := h.m.sy; omega
  · rcases fresh _ h1 with e | e
    · exact h.d8 k e h2
    · have := h.plt h2; omega
  · rcases fresh _ hk with e | e
    · exact h.b4 k e hz
    · have := h.zl k hz; omega
/-- Behind a deed on the pending ones. -/
theorem pends (h : Ids0 w Z x mx my r rp np W pv pd N ss pl) {pd' : List Int} {pv' : Value} {w' : World} (hi : Idf w' x r (.pointer (some ⟨mx, 0, none⟩)) pv' N ss pl) (hp : Owns w' 0 pv' pd') (ho : OnX x rp w w') (hr : ∀ k, pv'.ownBlock = some k → rp = some k ∨ w.heap.size ≤ k) :
    ∃ rp', Ids0 w' Z x mx my r rp' np W pv' pd' N ss pl := by
  refine ⟨pv'.ownBlock, hi, hp, rfl, h.m.kept (ho.block _ h.m.sx (Ne.symm h.d1) (fun e => h.d6 e.symm)) (ho.block _ h.m.sy (Ne.symm h.d2) (fun e => h.d7 e.symm)), h.d1, h.d2, h.d3, h.d4, fun e => ?_, fun e => ?_, fun e => ?_, fun k h1 h2 => ?_, h.b1, h.b2, h.b3, h.b4, fun k hk hz => ?_, fun k hk => Nat.lt_of_lt_of_le (h.zl k hk) ho.size⟩
  · rcases hr _ e with e | e
    · exact h.d5 e
    · have := h.i.lt; omega
  · rcases hr _ e with e | e
    · exact h.d6 e
    · have := h.m.sx; omega
  · rcases hr _ e with e | e
    · exact h.d7 e
    · have := h.m.sy; omega
  · rcases hr _ h2 with e | e
    · exact h.d8 k h1 e
    · have := h.rlt h1; omega
  · rcases hr _ hk with e | e
    · exact h.b5 k e hz
    · have := h.zl k hz; omega
end Ids0

/-- What is foreign stays. -/
structure Fr (Z : Nat → Prop) (w w' : World) : Prop where
  os : w'.os = w.os
  tape : w'.tape = w.tape
  output : w'.output = w.output
  size : w.heap.size ≤ w'.heap.size
  block : ∀ k, Z k → w'.heap[k]? = w.heap[k]?
theorem Fr.refl (Z : Nat → Prop) (w : World) : Fr Z w w := ⟨rfl, rfl, rfl, Nat.le_refl _, fun _ _ => rfl⟩
theorem Fr.trans {Z : Nat → Prop} {a b c : World} (h : Fr Z a b) (k : Fr Z b c) : Fr Z a c :=
  ⟨k.os.trans h.os, k.tape.trans h.tape, k.output.trans h.output, Nat.le_trans h.size k.size, fun i hi => (k.block i hi).trans (h.block i hi)⟩
theorem Fr.of_quiet {Z : Nat → Prop} {w w' : World} (q : Quiet w w') : Fr Z w w' := by
  obtain ⟨n, rfl⟩ := q; exact ⟨rfl, rfl, rfl, Nat.le_refl _, fun _ _ => rfl⟩
theorem Fr.below {Z : Nat → Prop} {w w' : World} (h : Fr Z w w') {B : Nat} (hz : ∀ k, k < B → Z k) : Below B w w' :=
  ⟨h.os, h.tape, h.output, h.size, fun k hk => h.block k (hz k hk)⟩
theorem Fr.of_below {Z : Nat → Prop} {w w' : World} (hb : Below w.heap.size w w') (zl : ∀ k, Z k → k < w.heap.size) : Fr Z w w' :=
  ⟨hb.os, hb.tape, hb.output, hb.size, fun k hk => hb.block k (zl k hk)⟩
theorem Fr.low {Z : Nat → Prop} {w0 w w' : World} {B : Nat} (h : Fr Z w w') (hb : Below B w0 w) (hz : ∀ k, k < B → Z k) : Below B w0 w' := hb.trans (h.below hz)
/-- An Idle of the call's own; what is Z is foreign. -/
structure Ids (Z : Nat → Prop) (x np : Nat) (f : Nat → Bool) (pd : List Int) (N : Int) (ss : List Int) (pl : Int) (w : World) : Prop where
  h : ∃ mx my r rp W pv, Ids0 w Z x mx my r rp np W pv pd N ss pl ∧ bitAt W = f
  T : DbTab w
  hz : Z 0
/-- What a deed of it leaves. -/
def DPost (v : Value) (Z : Nat → Prop) (x np : Nat) (f : Nat → Bool) (pd : List Int) (N : Int) (ss : List Int) (pl : Int) (w : World) (e : Ending) (w' : World) : Prop :=
  e = .returned v ∧ Ids Z x np f pd N ss pl w' ∧ Fr Z w w'
namespace Ids
variable {Z : Nat → Prop} {w : World} {x np : Nat} {f : Nat → Bool} {pd : List Int} {N : Int} {ss : List Int} {pl : Int}
theorem zl (h : Ids Z x np f pd N ss pl w) : ∀ k, Z k → k < w.heap.size := by
  obtain ⟨mx, my, r, rp, W, pv, h1, h2⟩ := h.h
  exact h1.zl
theorem below (h : Ids Z x np f pd N ss pl w) {w' : World} (hb : Below w.heap.size w w') : Ids Z x np f pd N ss pl w' := by
  obtain ⟨mx, my, r, rp, W, pv, h1, h2⟩ := h.h
  exact ⟨⟨mx, my, r, rp, W, pv, h1.below hb, h2⟩, h.T.at hb, h.hz⟩
theorem quiet (h : Ids Z x np f pd N ss pl w) {w' : World} (q : Quiet w w') : Ids Z x np f pd N ss pl w' := h.below (q.below _)
theorem qpost (h : Ids Z x np f pd N ss pl w) {w' : World} (q : Quiet w w') (v : Value) : DPost v Z x np f pd N ss pl w (.returned v) w' := ⟨rfl, h.quiet q, .of_quiet q⟩
/-- Another block, foreign, is turned. -/
theorem other (h : Ids Z x np f pd N ss pl w) {b : Nat} {w' : World} (ho : Only b b w w') (hb : Z b) (hg : b ≠ 0) : Ids Z x np f pd N ss pl w' := by
  obtain ⟨mx, my, r, rp, W, pv, h1, h2⟩ := h.h
  have ne : ∀ k, ¬ Z k → k ≠ b := fun k hk e => hk (e ▸ hb)
  exact ⟨⟨mx, my, r, rp, W, pv, ⟨h1.i.kept (ho.block _ h1.i.lt (ne _ h1.b1) (ne _ h1.b1)) (fun k hk => ho.block _ (h1.rlt hk) (ne _ (h1.b4 k hk)) (ne _ (h1.b4 k hk))), h1.p.kept (fun k hk => ho.block _ (owns_lt h1.p hk) (ne _ (h1.b5 k (by rw [← h1.q, hk]))) (ne _ (h1.b5 k (by rw [← h1.q, hk])))), h1.q, h1.m.kept (ho.block _ h1.m.sx (ne _ h1.b2) (ne _ h1.b2)) (ho.block _ h1.m.sy (ne _ h1.b3) (ne _ h1.b3)), h1.d1, h1.d2, h1.d3, h1.d4, h1.d5, h1.d6, h1.d7, h1.d8, h1.b1, h1.b2, h1.b3, h1.b4, h1.b5, fun k hk => Nat.lt_of_lt_of_le (h1.zl k hk) ho.size⟩, h2⟩, h.T.eq (ho.block _ h.T.lt (Ne.symm hg) (Ne.symm hg)), h.hz⟩
/-- More is foreign: blocks that were not there when it was made, and are none of its own. -/
theorem more (h : Ids Z x np f pd N ss pl w) {w' : World} (hb : Below w.heap.size w w') : Ids (fun k => Z k ∨ (w.heap.size ≤ k ∧ k < w'.heap.size)) x np f pd N ss pl w' := by
  obtain ⟨mx, my, r, rp, W, pv, h0, h2⟩ := h.h
  have h1 := h0.below hb
  have hs := hb.size
  exact ⟨⟨mx, my, r, rp, W, pv, ⟨h1.i, h1.p, h1.q, h1.m, h1.d1, h1.d2, h1.d3, h1.d4, h1.d5, h1.d6, h1.d7, h1.d8,
    fun e => e.elim h0.b1 (fun e => by have := h0.i.lt; omega), fun e => e.elim h0.b2 (fun e => by have := h0.m.sx; omega), fun e => e.elim h0.b3 (fun e => by have := h0.m.sy; omega),
    fun k hk e => e.elim (h0.b4 k hk) (fun e => by have := h0.rlt hk; omega), fun k hk e => e.elim (h0.b5 k hk) (fun e => by have := h0.plt hk; omega),
    fun k e => e.elim (h1.zl k) (fun e => e.2)⟩, h2⟩, h.T.at hb, .inl h.hz⟩
theorem lift (h : Ids Z x np f pd N ss pl w) {mx my : Nat} {r rp : Option Nat} {W : List Nat} {pv : Value} (h0 : Ids0 w Z x mx my r rp np W pv pd N ss pl) {ss' : List Int} {pl' : Int} {v : Value} {e : Ending} {w' : World} (hf : bitAt W = f) (hp : IPost x r (.pointer (some ⟨mx, 0, none⟩)) pv v N ss' pl' w e w') :
    DPost v Z x np f pd N ss' pl' w e w' := by
  obtain ⟨he, r', h1, ho⟩ := h0.stops hp
  have fr : Fr Z w w' := ⟨ho.os, ho.tape, ho.output, ho.size, fun k hk => ho.block k (h0.zl k hk) (fun e => h0.b1 (e ▸ hk)) (fun e => h0.b4 k e.symm hk)⟩
  exact ⟨he, ⟨⟨mx, my, r', rp, W, pv, h1, hf⟩, h.T.eq (fr.block _ h.hz), h.hz⟩, fr⟩
theorem liftm (h : Ids Z x np f pd N ss pl w) {mx my : Nat} {r rp : Option Nat} {W : List Nat} {pv : Value} (h0 : Ids0 w Z x mx my r rp np W pv pd N ss pl) {W' : List Nat} {w' : World} (hm : Msk w' mx my np W') (ho : Only mx my w w') : Ids Z x np (bitAt W') pd N ss pl w' ∧ Fr Z w w' := by
  have fr : Fr Z w w' := ⟨ho.os, ho.tape, ho.output, ho.size, fun k hk => ho.block k (h0.zl k hk) (fun e => h0.b2 (e ▸ hk)) (fun e => h0.b3 (e ▸ hk))⟩
  exact ⟨⟨⟨mx, my, r, rp, W', pv, h0.mask hm ho, rfl⟩, h.T.eq (fr.block _ h.hz), h.hz⟩, fr⟩
theorem liftp (h : Ids Z x np f pd N ss pl w) {mx my : Nat} {r rp : Option Nat} {W : List Nat} {pv : Value} (h0 : Ids0 w Z x mx my r rp np W pv pd N ss pl) (hf : bitAt W = f) {pd' : List Int} {pv' : Value} {w' : World} (hi : Idf w' x r (.pointer (some ⟨mx, 0, none⟩)) pv' N ss pl) (hp : Owns w' 0 pv' pd') (ho : OnX x rp w w') (hr : ∀ k, pv'.ownBlock = some k → rp = some k ∨ w.heap.size ≤ k) : Ids Z x np f pd' N ss pl w' ∧ Fr Z w w' := by
  obtain ⟨rp', h1⟩ := h0.pends hi hp ho hr
  have fr : Fr Z w w' := ⟨ho.os, ho.tape, ho.output, ho.size, fun k hk => ho.block k (h0.zl k hk) (fun e => h0.b1 (e ▸ hk)) (fun e => h0.b5 k e.symm hk)⟩
  exact ⟨⟨⟨mx, my, r, rp', W, pv', h1, hf⟩, h.T.eq (fr.block _ h.hz), h.hz⟩, fr⟩
end Ids
end Go.Proofs.YtnabikoieolfcaaDoor
