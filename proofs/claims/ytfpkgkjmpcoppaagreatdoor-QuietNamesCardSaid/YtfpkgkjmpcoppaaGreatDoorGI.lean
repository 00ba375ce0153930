/- What other texts are built of: Ids, Ids2, IdsN, Ids3, Ids4. -/
import Derived.Test.YtfpkgkjmpcoppaaGreatDoorPre2
import Derived.Test.YtfpkgkjmpcoppaaGreatDoorPre3
import Derived.Test.YtfpkgkjmpcoppaaGreatDoorDel
/-! An Idle as a whole: its processors (a mask), who is pending, its machines, who polls; what stands while a law goes on. -/
namespace Go.Proofs.YtfpkgkjmpcoppaaGreatDoor
set_option maxRecDepth 20000
set_option linter.unusedVariables false
set_option linter.unusedSimpArgs false
open Go.RowKit

theorem owns_lt {w : World} {base : Nat} {v : Value} {xs : List Int} {k : Nat} (h : Owns w base v xs) (hk : v.ownBlock = some k) : k < w.heap.size := by
  obtain ⟨h0, ⟨h1, h2⟩ | ⟨q, cap, cur, h1, h2, h3, h4⟩⟩ := h
  · rw [h1] at hk; cases hk
  · rw [h1] at hk
    simp only [Value.ownBlock, Option.some.injEq] at hk
    subst hk
    rw [Array.getElem?_eq_some_iff] at h3; exact h3.1

/-- An Idle: block x; its mask's blocks mx, my; the stopped ones in block r, the pending ones in block rp. -/
structure Ids0 (w : World) (Z : Nat → Prop) (x mx my : Nat) (r rp : Option Nat) (np : Nat) (W : List Nat) (pv : Value) (pd : List Int) (N : Int) (ss : List Int) (pl : Int) : Prop where
  i : Idf w x r (.pointer (some ⟨mx, 0, none⟩)) pv N ss pl
  p : Owns w 0 pv pd
  q : pv.ownBlock = rp
  m : Msk w mx my np W
  d1 : x ≠ mx
  d2 : x ≠ my
  d3 : r ≠ some mx
  d4 : r ≠ some my
  d5 : rp ≠ some x
  d6 : rp ≠ some mx
  d7 : rp ≠ some my
  d8 : ∀ k, r = some k → rp = some k → False
  b1 : ¬ Z x
  b2 : ¬ Z mx
  b3 : ¬ Z my
  b4 : ∀ k, r = some k → ¬ Z k
  b5 : ∀ k, rp = some k → ¬ Z k
  zl : ∀ k, Z k → k < w.heap.size
namespace Ids0
variable {w : World} {Z : Nat → Prop} {x mx my : Nat} {r rp : Option Nat} {np : Nat} {W : List Nat} {pv : Value} {pd : List Int} {N : Int} {ss : List Int} {pl : Int}
theorem k0 (h : Ids0 w Z x mx my r rp np W pv pd N ss pl) : w.cell? ⟨x, 0, none⟩ = some (.pointer (some ⟨mx, 0, none⟩)) := by
  obtain ⟨sv, h1, _⟩ := h.i.h; simp [World.cell?, h1]
theorem k1 (h : Ids0 w Z x mx my r rp np W pv pd N ss pl) : w.cell? ⟨x, 1, none⟩ = some pv := by
  obtain ⟨sv, h1, _⟩ := h.i.h; simp [World.cell?, h1]
theorem rlt (h : Ids0 w Z x mx my r rp np W pv pd N ss pl) {k : Nat} (hk : r = some k) : k < w.heap.size := by
  obtain ⟨sv, _, h2, h3⟩ := h.i.h
  exact owns_lt h2 (h3.trans hk)
theorem plt (h : Ids0 w Z x mx my r rp np W pv pd N ss pl) {k : Nat} (hk : rp = some k) : k < w.heap.size := owns_lt h.p (h.q.trans hk)
theorem quiet (h : Ids0 w Z x mx my r rp np W pv pd N ss pl) {w' : World} (q : Quiet w w') : Ids0 w' Z x mx my r rp np W pv pd N ss pl :=
  ⟨h.i.kept (by rw [q.heap]) (fun k _ => by rw [q.heap]), h.p.kept (fun k _ => by rw [q.heap]), h.q, h.m.quiet q, h.d1, h.d2, h.d3, h.d4, h.d5, h.d6, h.d7, h.d8, h.b1, h.b2, h.b3, h.b4, h.b5, fun k hk => by rw [q.heap]; exact h.zl k hk⟩
/-- While blocks below a bound stay, it stays. -/
theorem below (h : Ids0 w Z x mx my r rp np W pv pd N ss pl) {w' : World} (hb : Below w.heap.size w w') : Ids0 w' Z x mx my r rp np W pv pd N ss pl :=
  ⟨h.i.kept (hb.block _ h.i.lt) (fun k hk => hb.block _ (h.rlt hk)), h.p.kept (fun k hk => hb.block _ (owns_lt h.p hk)), h.q, h.m.below hb h.m.sx h.m.sy, h.d1, h.d2, h.d3, h.d4, h.d5, h.d6, h.d7, h.d8, h.b1, h.b2, h.b3, h.b4, h.b5, fun k hk => Nat.lt_of_lt_of_le (h.zl k hk) hb.size⟩
/-- Behind a deed on the mask. -/
theorem mask (h : Ids0 w Z x mx my r rp np W pv pd N ss pl) {W' : List Nat} {w' : World} (hm : Msk w' mx my np W') (ho : Only mx my w w') : Ids0 w' Z x mx my r rp np W' pv pd N ss pl :=
  ⟨h.i.kept (ho.block _ h.i.lt h.d1 h.d2) (fun k hk => ho.block _ (h.rlt hk) (fun e => h.d3 (by rw [hk, e])) (fun e => h.d4 (by rw [hk, e]))),
   h.p.kept (fun k hk => ho.block _ (owns_lt h.p hk) (fun e => h.d6 (by rw [← h.q, hk, e])) (fun e => h.d7 (by rw [← h.q, hk, e]))), h.q, hm, h.d1, h.d2, h.d3, h.d4, h.d5, h.d6, h.d7, h.d8, h.b1, h.b2, h.b3, h.b4, h.b5, fun k hk => Nat.lt_of_lt_of_le (h.zl k hk) ho.size⟩
/-- Behind a deed on the machines. -/
theorem stops (h : Ids0 w Z x mx my r rp np W pv pd N ss pl) {ss' : List Int} {pl' : Int} {v : Value} {e : Ending} {w' : World} (hp : IPost x r (.pointer (some ⟨mx, 0, none⟩)) pv v N ss' pl' w e w') :
    e = .returned v ∧ ∃ r', Ids0 w' Z x mx my r' rp np W pv pd N ss' pl' ∧ OnX x r w w' := by
  obtain ⟨r', he, hi, ho, hr⟩ := hp
  have fresh : ∀ k, r' = some k → r = some k ∨ w.heap.size ≤ k := fun k hk => by
    rcases hr with e | e
    · exact .inl (by rw [← e, hk])
    · exact .inr (e k hk)
  refine ⟨he, r', ⟨hi, h.p.kept (fun k hk => ho.block _ (owns_lt h.p hk) (fun e => h.d5 (by rw [← h.q, hk, e])) (fun e => h.d8 k e.symm (by rw [← h.q, hk]))), h.q, h.m.kept (ho.block _ h.m.sx (Ne.symm h.d1) (fun e => h.d3 e.symm)) (ho.block _ h.m.sy (Ne.symm h.d2) (fun e => h.d4 e.symm)), h.d1, h.d2, fun e => ?_, fun e => ?_, h.d5, h.d6, h.d7, fun k h1 h2 => ?_, h.b1, h.b2, h.b3, fun k hk hz => ?_, h.b5, fun k hk => Nat.lt_of_lt_of_le (h.zl k hk) ho.size⟩, ho⟩
  · rcases fresh _ e with e | e
    · exact h.d3 e
    · have := h.m.sx; omega
  · rcases fresh _ e with e | e
    · exact h.d4 e
    · have := h.m.sy; omega
  · rcases fresh _ h1 with e | e
    · exact h.d8 k e h2
    · have := h.plt h2; omega
  · rcases fresh _ hk with e | e
    · exact h.b4 k e hz
    · have := h.zl k hz; omega
/-- Behind a deed on the pending ones. -/
theorem pends (h : Ids0 w Z x mx my r rp np W pv pd N ss pl) {pd' : List Int} {pv' : Value} {w' : World} (hi : Idf w' x r (.pointer (some ⟨mx, 0, none⟩)) pv' N ss pl) (hp : Owns w' 0 pv' pd') (ho : OnX x rp w w') (hr : ∀ k, pv'.ownBlock = some k → rp = some k ∨ w.heap.size ≤ k) :
    ∃ rp', Ids0 w' Z x mx my r rp' np W pv' pd' N ss pl := by
  refine ⟨pv'.ownBlock, hi, hp, rfl, h.m.kept (ho.block _ h.m.sx (Ne.symm h.d1) (fun e => h.d6 e.symm)) (ho.block _ h.m.sy (Ne.symm h.d2) (fun e => h.d7 e.symm)), h.d1, h.d2, h.d3, h.d4, fun e => ?_, fun e => ?_, fun e => ?_, fun k h1 h2 => ?_, h.b1, h.b2, h.b3, h.b4, fun k hk hz => ?_, fun k hk => Nat.lt_of_lt_of_le (h.zl k hk) ho.size⟩
  · rcases hr _ e with e | e
    · exact h.d5 e
    · have := h.i.lt; omega
  · rcases hr _ e with e | e
    · exact h.d6 e
    · have := h.m.sx; omega
  · rcases hr _ e with e | e
    · exact h.d7 e
    · have := h.m.sy; omega
  · rcases hr _ h2 with e | e
    · exact h.d8 k h1 e
    · have := h.rlt h1; omega
  · rcases hr _ hk with e | e
    · exact h.b5 k e hz
    · have := h.zl k hz; omega
end Ids0

/-- What is foreign stays. -/
structure Fr (Z : Nat → Prop) (w w' : World) : Prop where
  os : w'.os = w.os
  tape : w'.tape = w.tape
  output : w'.output = w.output
  size : w.heap.size ≤ w'.heap.size
  block : ∀ k, Z k → w'.heap[k]? = w.heap[k]?
theorem Fr.refl (Z : Nat → Prop) (w : World) : Fr Z w w := ⟨rfl, rfl, rfl, Nat.le_refl _, fun _ _ => rfl⟩
theorem Fr.trans {Z : Nat → Prop} {a b c : World} (h : Fr Z a b) (k : Fr Z b c) : Fr Z a c :=
  ⟨k.os.trans h.os, k.tape.trans h.tape, k.output.trans h.output, Nat.le_trans h.size k.size, fun i hi => (k.block i hi).trans (h.block i hi)⟩
theorem Fr.of_quiet {Z : Nat → Prop} {w w' : World} (q : Quiet w w') : Fr Z w w' := by
  obtain ⟨n, rfl⟩ := q; exact ⟨rfl, rfl, rfl, Nat.le_refl _, fun _ _ => rfl⟩
theorem Fr.below {Z : Nat → Prop} {w w' : World} (h : Fr Z w w') {B : Nat} (hz : ∀ k, k < B → Z k) : Below B w w' :=
  ⟨h.os, h.tape, h.output, h.size, fun k hk => h.block k (hz k hk)⟩
theorem Fr.of_below {Z : Nat → Prop} {w w' : World} (hb : Below w.heap.size w w') (zl : ∀ k, Z k → k < w.heap.size) : Fr Z w w' :=
  ⟨hb.os, hb.tape, hb.output, hb.size, fun k hk => hb.block k (zl k hk)⟩
theorem Fr.low {Z : Nat → Prop} {w0 w w' : World} {B : Nat} (h : Fr Z w w') (hb : Below B w0 w) (hz : ∀ k, k < B → Z k) : Below B w0 w' := hb.trans (h.below hz)
/-- An Idle of the call's own; what is Z is foreign. -/
structure Ids (Z : Nat → Prop) (x np : Nat) (f : Nat → Bool) (pd : List Int) (N : Int) (ss : List Int) (pl : Int) (w : World) : Prop where
  h : ∃ mx my r rp W pv, Ids0 w Z x mx my r rp np W pv pd N ss pl ∧ bitAt W = f
  T : DbTab w
  hz : Z 7
/-- What a deed of it leaves. -/
def DPost (v : Value) (Z : Nat → Prop) (x np : Nat) (f : Nat → Bool) (pd : List Int) (N : Int) (ss : List Int) (pl : Int) (w : World) (e : Ending) (w' : World) : Prop :=
  e = .returned v ∧ Ids Z x np f pd N ss pl w' ∧ Fr Z w w'
namespace Ids
variable {Z : Nat → Prop} {w : World} {x np : Nat} {f : Nat → Bool} {pd : List Int} {N : Int} {ss : List Int} {pl : Int}
theorem zl (h : Ids Z x np f pd N ss pl w) : ∀ k, Z k → k < w.heap.size := by
  obtain ⟨mx, my, r, rp, W, pv, h1, h2⟩ := h.h
  exact h1.zl
theorem below (h : Ids Z x np f pd N ss pl w) {w' : World} (hb : Below w.heap.size w w') : Ids Z x np f pd N ss pl w' := by
  obtain ⟨mx, my, r, rp, W, pv, h1, h2⟩ := h.h
  exact ⟨⟨mx, my, r, rp, W, pv, h1.below hb, h2⟩, h.T.at hb, h.hz⟩
theorem quiet (h : Ids Z x np f pd N ss pl w) {w' : World} (q : Quiet w w') : Ids Z x np f pd N ss pl w' := h.below (q.below _)
theorem qpost (h : Ids Z x np f pd N ss pl w) {w' : World} (q : Quiet w w') (v : Value) : DPost v Z x np f pd N ss pl w (.returned v) w' := ⟨rfl, h.quiet q, .of_quiet q⟩
/-- Another block, foreign, is turned. -/
theorem other (h : Ids Z x np f pd N ss pl w) {b : Nat} {w' : World} (ho : Only b b w w') (hb : Z b) (hg : b ≠ 7) : Ids Z x np f pd N ss pl w' := by
  obtain ⟨mx, my, r, rp, W, pv, h1, h2⟩ := h.h
  have ne : ∀ k, ¬ Z k → k ≠ b := fun k hk e => hk (e ▸ hb)
  exact ⟨⟨mx, my, r, rp, W, pv, ⟨h1.i.kept (ho.block _ h1.i.lt (ne _ h1.b1) (ne _ h1.b1)) (fun k hk => ho.block _ (h1.rlt hk) (ne _ (h1.b4 k hk)) (ne _ (h1.b4 k hk))), h1.p.kept (fun k hk => ho.block _ (owns_lt h1.p hk) (ne _ (h1.b5 k (by rw [← h1.q, hk]))) (ne _ (h1.b5 k (by rw [← h1.q, hk])))), h1.q, h1.m.kept (ho.block _ h1.m.sx (ne _ h1.b2) (ne _ h1.b2)) (ho.block _ h1.m.sy (ne _ h1.b3) (ne _ h1.b3)), h1.d1, h1.d2, h1.d3, h1.d4, h1.d5, h1.d6, h1.d7, h1.d8, h1.b1, h1.b2, h1.b3, h1.b4, h1.b5, fun k hk => Nat.lt_of_lt_of_le (h1.zl k hk) ho.size⟩, h2⟩, h.T.eq (ho.block _ h.T.lt (Ne.symm hg) (Ne.symm hg)), h.hz⟩
/-- More is foreign: blocks that were not there when it was made, and are none of its own. -/
theorem more (h : Ids Z x np f pd N ss pl w) {w' : World} (hb : Below w.heap.size w w') : Ids (fun k => Z k ∨ (w.heap.size ≤ k ∧ k < w'.heap.size)) x np f pd N ss pl w' := by
  obtain ⟨mx, my, r, rp, W, pv, h0, h2⟩ := h.h
  have h1 := h0.below hb
  have hs := hb.size
  exact ⟨⟨mx, my, r, rp, W, pv, ⟨h1.i, h1.p, h1.q, h1.m, h1.d1, h1.d2, h1.d3, h1.d4, h1.d5, h1.d6, h1.d7, h1.d8,
    fun e => e.elim h0.b1 (fun e => by have := h0.i.lt; omega), fun e => e.elim h0.b2 (fun e => by have := h0.m.sx; omega), fun e => e.elim h0.b3 (fun e => by have := h0.m.sy; omega),
    fun k hk e => e.elim (h0.b4 k hk) (fun e => by have := h0.rlt hk; omega), fun k hk e => e.elim (h0.b5 k hk) (fun e => by have := h0.plt hk; omega),
    fun k e => e.elim (h1.zl k) (fun e => e.2)⟩, h2⟩, h.T.at hb, .inl h.hz⟩
theorem lift (h : Ids Z x np f pd N ss pl w) {mx my : Nat} {r rp : Option Nat} {W : List Nat} {pv : Value} (h0 : Ids0 w Z x mx my r rp np W pv pd N ss pl) {ss' : List Int} {pl' : Int} {v : Value} {e : Ending} {w' : World} (hf : bitAt W = f) (hp : IPost x r (.pointer (some ⟨mx, 0, none⟩)) pv v N ss' pl' w e w') :
    DPost v Z x np f pd N ss' pl' w e w' := by
  obtain ⟨he, r', h1, ho⟩ := h0.stops hp
  have fr : Fr Z w w' := ⟨ho.os, ho.tape, ho.output, ho.size, fun k hk => ho.block k (h0.zl k hk) (fun e => h0.b1 (e ▸ hk)) (fun e => h0.b4 k e.symm hk)⟩
  exact ⟨he, ⟨⟨mx, my, r', rp, W, pv, h1, hf⟩, h.T.eq (fr.block _ h.hz), h.hz⟩, fr⟩
theorem liftm (h : Ids Z x np f pd N ss pl w) {mx my : Nat} {r rp : Option Nat} {W : List Nat} {pv : Value} (h0 : Ids0 w Z x mx my r rp np W pv pd N ss pl) {W' : List Nat} {w' : World} (hm : Msk w' mx my np W') (ho : Only mx my w w') : Ids Z x np (bitAt W') pd N ss pl w' ∧ Fr Z w w' := by
  have fr : Fr Z w w' := ⟨ho.os, ho.tape, ho.output, ho.size, fun k hk => ho.block k (h0.zl k hk) (fun e => h0.b2 (e ▸ hk)) (fun e => h0.b3 (e ▸ hk))⟩
  exact ⟨⟨⟨mx, my, r, rp, W', pv, h0.mask hm ho, rfl⟩, h.T.eq (fr.block _ h.hz), h.hz⟩, fr⟩
theorem liftp (h : Ids Z x np f pd N ss pl w) {mx my : Nat} {r rp : Option Nat} {W : List Nat} {pv : Value} (h0 : Ids0 w Z x mx my r rp np W pv pd N ss pl) (hf : bitAt W = f) {pd' : List Int} {pv' : Value} {w' : World} (hi : Idf w' x r (.pointer (some ⟨mx, 0, none⟩)) pv' N ss pl) (hp : Owns w' 0 pv' pd') (ho : OnX x rp w w') (hr : ∀ k, pv'.ownBlock = some k → rp = some k ∨ w.heap.size ≤ k) : Ids Z x np f pd' N ss pl w' ∧ Fr Z w w' := by
  obtain ⟨rp', h1⟩ := h0.pends hi hp ho hr
  have fr : Fr Z w w' := ⟨ho.os, ho.tape, ho.output, ho.size, fun k hk => ho.block k (h0.zl k hk) (fun e => h0.b1 (e ▸ hk)) (fun e => h0.b5 k e.symm hk)⟩
  exact ⟨⟨⟨mx, my, r, rp', W, pv', h1, hf⟩, h.T.eq (fr.block _ h.hz), h.hz⟩, fr⟩
end Ids
end Go.Proofs.YtfpkgkjmpcoppaaGreatDoor
/-! An Idle as a whole: New, and what each deed on processors answers and leaves. -/
namespace Go.Proofs.YtfpkgkjmpcoppaaGreatDoor
set_option maxRecDepth 20000
set_option linter.unusedVariables false
set_option linter.unusedSimpArgs false
open Go.RowKit

variable {Z : Nat → Prop} {w : World} {x np : Nat} {f : Nat → Bool} {pd : List Int} {N : Int} {ss : List Int} {pl : Int}
set_option maxHeartbeats 1000000 in
theorem countP_any (h : Ids Z x np f pd N ss pl w) : Calls Tryz.prog 19 #[.pointer (some ⟨x, 0, none⟩)] w fun e w' => e = .returned (.int .i64 (card f np)) ∧ w = w' := by
  obtain ⟨mx, my, r, rp, W, pv, h0, rfl⟩ := h.h
  have k0 := h0.k0
  have C := hid (mcount_any mx my np W w h0.m)
  clear h h0
  go_enter Tryz.func19, Tryz.ntmps19
  go_wp2_with fail
  refine C.out.mono ?_
  rintro e w2 ⟨rfl, rfl⟩
  go_wp2
  go_ret
  exact ⟨rfl, rfl⟩
set_option maxHeartbeats 1000000 in
theorem pending_any (h : Ids Z x np f pd N ss pl w) : Calls Tryz.prog 92 #[.pointer (some ⟨x, 0, none⟩)] w fun e w' => e = .returned (.int .i64 pd.length) ∧ w = w' := by
  obtain ⟨mx, my, r, rp, W, pv, h0, rfl⟩ := h.h
  have k1 := h0.k1
  obtain ⟨a, c, rfl⟩ := h0.p.slice
  clear h h0
  go_enter Tryz.func92, Tryz.ntmps92
  go_wp2
  go_ret
  exact ⟨rfl, rfl⟩
/-- Is a processor idle? -/
def inF (f : Nat → Bool) (np : Nat) (i : Int) : Bool := decide (0 ≤ i ∧ i < np) && f i.toNat
theorem inF_out {f : Nat → Bool} {np : Nat} {i : Int} (h : i < 0 ∨ (np : Int) ≤ i) : inF f np i = false := by
  simp only [inF]; rw [decide_eq_false (by omega)]; rfl
theorem inF_in {f : Nat → Bool} {np : Nat} {k : Nat} (h : k < np) : inF f np (k : Int) = f k := by
  simp only [inF]; rw [decide_eq_true (by omega)]; simp
theorem mhas_any (mx my np : Nat) (W : List Nat) (i : Int) (w : World) (hm : Msk w mx my np W) :
    Calls Tryz.prog 275 #[.pointer (some ⟨mx, 0, none⟩), .int .i64 i] w fun e w' => e = .returned (.bool (inF (bitAt W) np i)) ∧ Quiet w w' := by
  by_cases h : i < 0 ∨ (np : Int) ≤ i
  · rw [inF_out h]
    exact (has_out mx my np W i w hm h).mono fun e w' ⟨he, hw⟩ => ⟨he, .of_eq hw⟩
  · obtain ⟨k, rfl⟩ : ∃ k : Nat, i = k := ⟨i.toNat, by omega⟩
    rw [inF_in (by omega)]
    exact has_in mx my np W k _ w hm (by omega) rfl
set_option maxHeartbeats 1000000 in
theorem hasP_any (h : Ids Z x np f pd N ss pl w) (i : Int) : Calls Tryz.prog 266 #[.pointer (some ⟨x, 0, none⟩), .int .i64 i] w fun e w' => e = .returned (.bool (inF f np i)) ∧ Quiet w w' := by
  obtain ⟨mx, my, r, rp, W, pv, h0, rfl⟩ := h.h
  have k0 := h0.k0
  have C := hid (mhas_any mx my np W i w h0.m)
  clear h h0
  go_enter Tryz.func266, Tryz.ntmps266
  go_wp2_with fail
  refine C.out.mono ?_
  rintro e w2 ⟨rfl, hq⟩
  have HQ := hid hq
  clear hq
  go_wp2
  go_ret
  exact ⟨rfl, HQ.out⟩

/-- Put, where nothing is turned. -/
theorem mput_no (mx my np : Nat) (W : List Nat) (i : Int) (w : World) (hm : Msk w mx my np W) (h : (i < 0 ∨ (np : Int) ≤ i) ∨ inF (bitAt W) np i = true) :
    Calls Tryz.prog 110 #[.pointer (some ⟨mx, 0, none⟩), .int .i64 i] w fun e w' => e = .returned (.bool false) ∧ Quiet w w' := by
  by_cases h1 : i < 0 ∨ (np : Int) ≤ i
  · exact (put_out mx my np W i w hm h1).mono fun e w' ⟨he, hw⟩ => ⟨he, .of_eq hw⟩
  · obtain ⟨k, rfl⟩ : ∃ k : Nat, i = k := ⟨i.toNat, by omega⟩
    rcases h with h | h
    · omega
    · rw [inF_in (by omega)] at h
      exact put_no mx my np W k w hm (by omega) h
set_option maxHeartbeats 2000000 in
theorem putP_has (h : Ids Z x np f pd N ss pl w) (i : Int) (hi : hasB i pd = true) (hl : pd.length ≤ 100000) : Calls Tryz.prog 73 #[.pointer (some ⟨x, 0, none⟩), .int .i64 i] w (DPost (.bool false) Z x np f pd N ss pl w) := by
  obtain ⟨mx, my, r, rp, W, pv, h0, hf⟩ := h.h
  have k1 := h0.k1
  have C := hid (contains_any pv pd i w h0.p.reads (by omega))
  rw [hi] at C
  obtain ⟨a, c, rfl⟩ := h0.p.reads_n (n := pd.length) rfl
  have FIN := hid (fun w' q => h.quiet (w' := w') q)
  obtain ⟨n, hn⟩ : ∃ n, n = pd.length := ⟨_, rfl⟩
  rw [← hn] at k1 C
  clear h h0 hi hf hn hl
  go_enter Tryz.func73, Tryz.ntmps73
  go_wp2_with fail
  refine C.out.mono ?_
  rintro e w2 ⟨rfl, hq⟩
  have HQ := hid hq
  clear hq
  go_wp2
  go_ret
  exact ⟨rfl, FIN.out _ HQ.out, .of_quiet HQ.out⟩
set_option maxHeartbeats 2000000 in
theorem putP_no (h : Ids Z x np f pd N ss pl w) (i : Int) (hi : hasB i pd = false) (hl : pd.length ≤ 100000) (hx : (i < 0 ∨ (np : Int) ≤ i) ∨ inF f np i = true) : Calls Tryz.prog 73 #[.pointer (some ⟨x, 0, none⟩), .int .i64 i] w (DPost (.bool false) Z x np f pd N ss pl w) := by
  obtain ⟨mx, my, r, rp, W, pv, h0, rfl⟩ := h.h
  have k1 := h0.k1
  have C := hid (contains_any pv pd i w h0.p.reads (by omega))
  rw [hi] at C
  obtain ⟨a, c, rfl⟩ := h0.p.reads_n (n := pd.length) rfl
  have FIN := hid (fun w' q => h.quiet (w' := w') q)
  have H0 := hid h0
  have PT := hid (fun w' hm => mput_no mx my np W i w' hm hx)
  obtain ⟨n, hn⟩ : ∃ n, n = pd.length := ⟨_, rfl⟩
  rw [← hn] at k1 C
  clear h h0 hi hn hl hx
  go_enter Tryz.func73, Tryz.ntmps73
  go_wp2_with fail
  refine C.out.mono ?_
  rintro e w2 ⟨rfl, hq⟩
  have HQ := hid hq
  have H2 := hid (H0.out.quiet hq)
  have k0 := H2.out.k0
  clear hq
  go_wp2_with fail
  refine (PT.out _ H2.out.m).mono ?_
  rintro e w3 ⟨rfl, hq⟩
  have HQ3 := hid (HQ.out.trans hq)
  clear hq
  go_wp2
  go_ret
  exact ⟨rfl, FIN.out _ HQ3.out, .of_quiet HQ3.out⟩
set_option maxHeartbeats 2000000 in
theorem putP_yes (h : Ids Z x np f pd N ss pl w) (k : Nat) (hi : hasB (k : Int) pd = false) (hl : pd.length ≤ 100000) (hk : k < np) (hf : f k = false) : Calls Tryz.prog 73 #[.pointer (some ⟨x, 0, none⟩), .int .i64 k] w (DPost (.bool true) Z x np (upd f k true) pd N ss pl w) := by
  obtain ⟨mx, my, r, rp, W, pv, h0, rfl⟩ := h.h
  have k1 := h0.k1
  have C := hid (contains_any pv pd k w h0.p.reads (by omega))
  rw [hi] at C
  obtain ⟨a, c, rfl⟩ := h0.p.reads_n (n := pd.length) rfl
  have FIN := hid (fun w' q => h.quiet (w' := w') q)
  have H0 := hid h0
  have PT := hid (fun w' hm => put_yes mx my np W k w' hm hk hf)
  obtain ⟨n, hn⟩ : ∃ n, n = pd.length := ⟨_, rfl⟩
  rw [← hn] at k1 C
  clear h h0 hi hn hl hk hf
  go_enter Tryz.func73, Tryz.ntmps73
  go_wp2_with fail
  refine C.out.mono ?_
  rintro e w2 ⟨rfl, hq⟩
  have HQ := hid hq
  have F2 := hid (FIN.out _ hq)
  have H2 := hid (H0.out.quiet hq)
  have k0 := H2.out.k0
  clear hq
  go_wp2_with fail
  refine (PT.out _ H2.out.m).mono ?_
  rintro e w3 ⟨W', rfl, hm3, hb3, ho3⟩
  have F3 := hid (F2.out.liftm H2.out hm3 ho3)
  rw [hb3] at F3
  clear hm3 hb3 ho3
  go_wp2
  go_ret
  exact ⟨rfl, F3.out.1, (Fr.of_quiet HQ.out).trans F3.out.2⟩
set_option maxHeartbeats 2000000 in
theorem takeP_none (h : Ids Z x np f pd N ss pl w) (hf : ∀ i, i < np → f i = false) : Calls Tryz.prog 184 #[.pointer (some ⟨x, 0, none⟩)] w (DPost (.tuple #[.int .i64 0, .bool false]) Z x np f pd N ss pl w) := by
  obtain ⟨mx, my, r, rp, W, pv, h0, rfl⟩ := h.h
  have k0 := h0.k0
  have FI := hid (mfirst_any mx my np W w h0.m h.T)
  rw [next_none (fun i _ hi => hf i hi)] at FI
  have TK := hid (take_out mx my np W (-1) w h0.m (by omega))
  have FIN := hid h
  clear h h0 hf
  go_enter Tryz.func184, Tryz.ntmps184
  go_wp2_with fail
  refine FI.out.mono ?_
  rintro e w2 ⟨rfl, rfl⟩
  go_wp2_with fail
  refine TK.out.mono ?_
  rintro e w2 ⟨rfl, rfl⟩
  go_wp2
  go_ret2
  exact ⟨rfl, FIN.out, .refl _ _⟩
set_option maxHeartbeats 2000000 in
theorem takeP_least (h : Ids Z x np f pd N ss pl w) (k : Nat) (hk : k < np) (hf : f k = true) (hl : ∀ i, i < k → f i = false) : Calls Tryz.prog 184 #[.pointer (some ⟨x, 0, none⟩)] w (DPost (.tuple #[.int .i64 k, .bool true]) Z x np (upd f k false) pd N ss pl w) := by
  obtain ⟨mx, my, r, rp, W, pv, h0, rfl⟩ := h.h
  have k0 := h0.k0
  have FI := hid (mfirst_any mx my np W w h0.m h.T)
  rw [next_some (by omega) hk hf (fun i _ hi => hl i hi)] at FI
  have TK := hid (take_yes mx my np W k w h0.m hk hf)
  have FIN := hid h
  have H0 := hid h0
  clear h h0 hf hl hk
  go_enter Tryz.func184, Tryz.ntmps184
  go_wp2_with fail
  refine FI.out.mono ?_
  rintro e w2 ⟨rfl, rfl⟩
  go_wp2_with fail
  refine TK.out.mono ?_
  rintro e w3 ⟨W', rfl, hm3, hb3, ho3⟩
  have F3 := hid (FIN.out.liftm H0.out hm3 ho3)
  rw [hb3] at F3
  clear hm3 hb3 ho3
  go_wp2
  go_ret2
  exact ⟨rfl, F3.out⟩
end Go.Proofs.YtfpkgkjmpcoppaaGreatDoor
/-! An Idle as a whole: (New) deed on processors answers and leaves. -/
namespace Go.Proofs.YtfpkgkjmpcoppaaGreatDoor
set_option maxRecDepth 20000
set_option linter.unusedVariables false
set_option linter.unusedSimpArgs false
open Go.RowKit

set_option maxHeartbeats 4000000 in
theorem inew_any (P M : Int) (np : Nat) (N : Int) (hnp : (np : Int) = min (max P 1) 64) (hN : N = min (max M 1) 128) (w : World) (T : DbTab w) :
    Calls Tryz.prog 41 #[.int .i64 P, .int .i64 M] w fun e w' => ∃ x, e = .returned (.pointer (some ⟨x, 0, none⟩)) ∧ Ids (· < w.heap.size) x np (fun _ => false) [] N [] (-1) w' ∧ Below w.heap.size w w' := by
  have FIN := hid (fun (mx my : Nat) (W : List Nat) (w2 : World) (hm : Msk w2 mx my np W) (hb : Below w.heap.size w w2) (hx : w.heap.size ≤ mx) (hy : w.heap.size ≤ my) (hW : bitAt W = fun _ => false) =>
    (show Ids (· < w.heap.size) w2.heap.size np (fun _ => false) [] N [] (-1) (w2.alloc (.cells #[.pointer (some ⟨mx, 0, none⟩), .slice none 0 0, .int .i64 N, .slice none 0 0, .int .i64 (-1)] 105)) ∧ Below w.heap.size w (w2.alloc (.cells #[.pointer (some ⟨mx, 0, none⟩), .slice none 0 0, .int .i64 N, .slice none 0 0, .int .i64 (-1)] 105)) from by
      have hs2 := hb.size
      have hB : Below w.heap.size w (w2.alloc (.cells #[.pointer (some ⟨mx, 0, none⟩), .slice none 0 0, .int .i64 N, .slice none 0 0, .int .i64 (-1)] 105)) := hb.alloc (by omega) _
      have hl : Below w2.heap.size w2 (w2.alloc (.cells #[.pointer (some ⟨mx, 0, none⟩), .slice none 0 0, .int .i64 N, .slice none 0 0, .int .i64 (-1)] 105)) := (Below.refl _ _).alloc (Nat.le_refl _) _
      have hmx := hm.sx
      have hmy := hm.sy
      refine ⟨⟨⟨mx, my, none, none, W, .slice none 0 0, ⟨⟨⟨.slice none 0 0, Deep.blk_alloc_new _ _, ⟨by simp, .inl ⟨rfl, rfl⟩⟩, rfl⟩, by simp⟩, ⟨by simp, .inl ⟨rfl, rfl⟩⟩, rfl, hm.below hl hmx hmy, by omega, by omega, by simp, by simp, by simp, by simp, by simp, by simp, by omega, by omega, by omega, by simp, by simp, fun k hk => by simp; omega⟩, hW⟩, T.at hB, T.lt⟩, hB⟩))
  have hP : P < 1 ∨ (1 ≤ P ∧ P ≤ 64) ∨ 64 < P := by omega
  have hM : M < 1 ∨ (1 ≤ M ∧ M ≤ 128) ∨ 128 < M := by omega
  clear T
  rcases hP with hP | ⟨hP, hP'⟩ | hP
  · obtain rfl : np = 1 := by omega
    have MN := hid (mnew_any 1 1 (by omega) w)
    rcases hM with hM | ⟨hM, hM'⟩ | hM
    · obtain rfl : N = 1 := by omega
      clear hnp hN
      go_enter Tryz.func41, Tryz.ntmps41
      go_wp2_with fail
      (with_reducible refine MN.out.mono ?_)
      rintro e w2 ⟨rfl, hm2, hb2, hs2⟩
      have F2 := hid (FIN.out _ _ _ _ hm2 hb2 (by omega) (by omega) (by funext i; exact bitAt_zero _ _))
      clear hm2 hb2 hs2
      go_wp2
      go_ret
      exact ⟨_, rfl, F2.out.1, F2.out.2⟩
    · obtain rfl : N = M := by omega
      clear hnp hN
      go_enter Tryz.func41, Tryz.ntmps41
      go_wp2_with fail
      (with_reducible refine MN.out.mono ?_)
      rintro e w2 ⟨rfl, hm2, hb2, hs2⟩
      have F2 := hid (FIN.out _ _ _ _ hm2 hb2 (by omega) (by omega) (by funext i; exact bitAt_zero _ _))
      clear hm2 hb2 hs2
      go_wp2
      go_ret
      exact ⟨_, rfl, F2.out.1, F2.out.2⟩
    · obtain rfl : N = 128 := by omega
      clear hnp hN
      go_enter Tryz.func41, Tryz.ntmps41
      go_wp2_with fail
      (with_reducible refine MN.out.mono ?_)
      rintro e w2 ⟨rfl, hm2, hb2, hs2⟩
      have F2 := hid (FIN.out _ _ _ _ hm2 hb2 (by omega) (by omega) (by funext i; exact bitAt_zero _ _))
      clear hm2 hb2 hs2
      go_wp2
      go_ret
      exact ⟨_, rfl, F2.out.1, F2.out.2⟩
  · obtain rfl : P = np := by omega
    have MN := hid (mnew_any (np : Int) np (by omega) w)
    rcases hM with hM | ⟨hM, hM'⟩ | hM
    · obtain rfl : N = 1 := by omega
      clear hnp hN
      go_enter Tryz.func41, Tryz.ntmps41
      go_wp2_with fail
      (with_reducible refine MN.out.mono ?_)
      rintro e w2 ⟨rfl, hm2, hb2, hs2⟩
      have F2 := hid (FIN.out _ _ _ _ hm2 hb2 (by omega) (by omega) (by funext i; exact bitAt_zero _ _))
      clear hm2 hb2 hs2
      go_wp2
      go_ret
      exact ⟨_, rfl, F2.out.1, F2.out.2⟩
    · obtain rfl : N = M := by omega
      clear hnp hN
      go_enter Tryz.func41, Tryz.ntmps41
      go_wp2_with fail
      (with_reducible refine MN.out.mono ?_)
      rintro e w2 ⟨rfl, hm2, hb2, hs2⟩
      have F2 := hid (FIN.out _ _ _ _ hm2 hb2 (by omega) (by omega) (by funext i; exact bitAt_zero _ _))
      clear hm2 hb2 hs2
      go_wp2
      go_ret
      exact ⟨_, rfl, F2.out.1, F2.out.2⟩
    · obtain rfl : N = 128 := by omega
      clear hnp hN
      go_enter Tryz.func41, Tryz.ntmps41
      go_wp2_with fail
      (with_reducible refine MN.out.mono ?_)
      rintro e w2 ⟨rfl, hm2, hb2, hs2⟩
      have F2 := hid (FIN.out _ _ _ _ hm2 hb2 (by omega) (by omega) (by funext i; exact bitAt_zero _ _))
      clear hm2 hb2 hs2
      go_wp2
      go_ret
      exact ⟨_, rfl, F2.out.1, F2.out.2⟩
  · obtain rfl : np = 64 := by omega
    have MN := hid (mnew_any 64 64 (by omega) w)
    rcases hM with hM | ⟨hM, hM'⟩ | hM
    · obtain rfl : N = 1 := by omega
      clear hnp hN
      go_enter Tryz.func41, Tryz.ntmps41
      go_wp2_with fail
      (with_reducible refine MN.out.mono ?_)
      rintro e w2 ⟨rfl, hm2, hb2, hs2⟩
      have F2 := hid (FIN.out _ _ _ _ hm2 hb2 (by omega) (by omega) (by funext i; exact bitAt_zero _ _))
      clear hm2 hb2 hs2
      go_wp2
      go_ret
      exact ⟨_, rfl, F2.out.1, F2.out.2⟩
    · obtain rfl : N = M := by omega
      clear hnp hN
      go_enter Tryz.func41, Tryz.ntmps41
      go_wp2_with fail
      (with_reducible refine MN.out.mono ?_)
      rintro e w2 ⟨rfl, hm2, hb2, hs2⟩
      have F2 := hid (FIN.out _ _ _ _ hm2 hb2 (by omega) (by omega) (by funext i; exact bitAt_zero _ _))
      clear hm2 hb2 hs2
      go_wp2
      go_ret
      exact ⟨_, rfl, F2.out.1, F2.out.2⟩
    · obtain rfl : N = 128 := by omega
      clear hnp hN
      go_enter Tryz.func41, Tryz.ntmps41
      go_wp2_with fail
      (with_reducible refine MN.out.mono ?_)
      rintro e w2 ⟨rfl, hm2, hb2, hs2⟩
      have F2 := hid (FIN.out _ _ _ _ hm2 hb2 (by omega) (by omega) (by funext i; exact bitAt_zero _ _))
      clear hm2 hb2 hs2
      go_wp2
      go_ret
      exact ⟨_, rfl, F2.out.1, F2.out.2⟩
end Go.Proofs.YtfpkgkjmpcoppaaGreatDoor
/-! An Idle as a whole: what each deed on pending processors and on machines answers and leaves. -/
namespace Go.Proofs.YtfpkgkjmpcoppaaGreatDoor
set_option maxRecDepth 20000
set_option linter.unusedVariables false
set_option linter.unusedSimpArgs false
open Go.RowKit
variable {Z : Nat → Prop} {w : World} {x np : Nat} {f : Nat → Bool} {pd : List Int} {N : Int} {ss : List Int} {pl : Int}

set_option maxHeartbeats 2000000 in
theorem pend_no (h : Ids Z x np f pd N ss pl w) (i : Int) (hl : pd.length ≤ 100000) (hx : (i < 0 ∨ (np : Int) ≤ i) ∨ (0 ≤ i ∧ i < (np : Int) ∧ inF f np i = true) ∨ (0 ≤ i ∧ i < (np : Int) ∧ inF f np i = false ∧ hasB i pd = true)) : Calls Tryz.prog 255 #[.pointer (some ⟨x, 0, none⟩), .int .i64 i] w (DPost (.bool false) Z x np f pd N ss pl w) := by
  obtain ⟨mx, my, r, rp, W, pv, h0, hf⟩ := h.h
  have k0 := h0.k0
  have LN := hid (mlen_any mx my np W w h0.m)
  have FIN := hid (fun w' q => h.quiet (w' := w') q)
  have H0 := hid h0
  have HP := hid (hasP_any h i)
  have CO := hid (fun w2 (q : Quiet w w2) => contains_any pv pd i w2 (h0.p.reads.of_below (q.below _)) (by omega))
  rcases hx with (hx | hx) | ⟨h1, h2, h3⟩ | ⟨h1, h2, h3, h4⟩
  · clear h h0 hf hl
    go_enter Tryz.func255, Tryz.ntmps255
    go_wp2
    go_ret
    exact ⟨rfl, FIN.out _ (Quiet.refl _), .refl _ _⟩
  · have h0i : 0 ≤ i := by omega
    clear h h0 hf hl
    go_enter Tryz.func255, Tryz.ntmps255
    go_wp2_with fail
    refine LN.out.mono ?_
    rintro e w2 ⟨rfl, rfl⟩
    go_wp2
    go_ret
    exact ⟨rfl, FIN.out _ (Quiet.refl _), .refl _ _⟩
  · rw [h3] at HP
    clear h h0 hf hl h3
    go_enter Tryz.func255, Tryz.ntmps255
    go_wp2_with fail
    refine LN.out.mono ?_
    rintro e w2 ⟨rfl, rfl⟩
    go_wp2_with fail
    refine HP.out.mono ?_
    rintro e w2 ⟨rfl, hq⟩
    have HQ := hid hq
    clear hq
    go_wp2
    go_ret
    exact ⟨rfl, FIN.out _ HQ.out, .of_quiet HQ.out⟩
  · rw [h3] at HP
    rw [h4] at CO
    obtain ⟨a, c, rfl⟩ := h0.p.reads_n (n := pd.length) rfl
    obtain ⟨n, hn⟩ : ∃ n, n = pd.length := ⟨_, rfl⟩
    rw [← hn] at CO H0
    clear h h0 hf hl h3 h4 hn
    go_enter Tryz.func255, Tryz.ntmps255
    go_wp2_with fail
    refine LN.out.mono ?_
    rintro e w2 ⟨rfl, rfl⟩
    go_wp2_with fail
    refine HP.out.mono ?_
    rintro e w2 ⟨rfl, hq⟩
    have HQ := hid hq
    have H2 := hid (H0.out.quiet hq)
    have k1 := H2.out.k1
    clear hq
    go_wp2_with fail
    refine (CO.out _ HQ.out).mono ?_
    rintro e w3 ⟨rfl, hq⟩
    have HQ3 := hid (HQ.out.trans hq)
    clear hq
    go_wp2
    go_ret
    exact ⟨rfl, FIN.out _ HQ3.out, .of_quiet HQ3.out⟩

theorem pend_fin {mx my : Nat} {r rp : Option Nat} {W : List Nat} {pv v6 : Value} {w2 w6 : World} {m : Int} (F : Ids Z x np f pd N ss pl w2) (H : Ids0 w2 Z x mx my r rp np W pv pd N ss pl) (hf : bitAt W = f)
    (hown : w6.ownsRow 0 3 1 v6 (pd.length + 1) (pd.map (Value.int .i64) ++ [.int .i64 m])) (hg : (w2.alloc (.cells #[.int .i64 m] 3)).grownBy w6 pv.ownBlock) (hat : v6.ownBlock = pv.ownBlock ∨ v6.ownBlock = some (w2.heap.size + 1)) :
    (w6.cell? ⟨x, 1, none⟩ = some pv ∧ w6.frozen? ⟨x, 1, none⟩ = false) ∧ Ids Z x np f (pd ++ [m]) N ss pl (w6.setCell ⟨x, 1, none⟩ v6) ∧ Fr Z w2 (w6.setCell ⟨x, 1, none⟩ v6) := by
  obtain ⟨sv, h1, h2, h3⟩ := H.i.h
  have hx := H.i.lt
  have hkeep : ∀ k, k < w2.heap.size → some k ≠ rp → w6.heap[k]? = w2.heap[k]? := fun k hk hne => by
    rw [hg.block k (by simp; omega) (fun e => hne (by rw [← H.q]; exact e)), Below.heap_alloc _ _ _ hk]
  have h6 : w6.heap[x]? = some (.cells #[.pointer (some ⟨mx, 0, none⟩), pv, .int .i64 N, sv, .int .i64 pl] 105 (0, 0)) := by
    rw [hkeep x hx (fun e => H.d5 e.symm)]; exact h1
  have hfresh : ∀ k, v6.ownBlock = some k → rp = some k ∨ w2.heap.size ≤ k := fun k hk => by
    rcases hat with h | h
    · exact .inl (by rw [← H.q, ← h, hk])
    · rw [h] at hk; simp only [Option.some.injEq] at hk; exact .inr (by omega)
  refine ⟨⟨by simp [World.cell?, h6], by simp [World.frozen?, h6]⟩, F.liftp H hf (pv' := v6) ⟨⟨sv, ?_, h2.kept fun k hk => ?_, h3⟩, H.i.ne⟩ ?_ ?_ hfresh⟩
  · simp [World.setCell, Array.getElem?_modify, h6]
  · have hr : r = some k := by rw [← h3, hk]
    rw [Below.heap_setCell _ _ _ _ (fun e => H.i.ne (by rw [hr, e])), hkeep k (H.rlt hr) (fun e => H.d8 k hr e.symm)]
  · have ho : Owns w6 0 v6 (pd ++ [m]) := by
      unfold Owns
      rw [List.length_append, List.map_append]; exact hown
    refine ho.kept fun k hk => Below.heap_setCell _ _ _ _ (fun e => ?_)
    subst e
    rcases hfresh _ hk with e | e
    · exact H.d5 e
    · omega
  · have h26 : OnX x rp w2 w6 := ⟨hg.os, hg.tape, hg.output, by have := hg.size; simp at this; omega, fun k hk _ h2 => hkeep k hk h2⟩
    exact h26.trans (OnX.set w6 1 _)

set_option maxHeartbeats 4000000 in
theorem pend_yes (h : Ids Z x np f pd N ss pl w) (k : Nat) (hl : pd.length ≤ 100000) (hk : k < np) (hfk : f k = false) (hpk : hasB (k : Int) pd = false) : Calls Tryz.prog 255 #[.pointer (some ⟨x, 0, none⟩), .int .i64 k] w (DPost (.bool true) Z x np f (pd ++ [(k : Int)]) N ss pl w) := by
  obtain ⟨mx, my, r, rp, W, pv, h0, hf⟩ := h.h
  have k0 := h0.k0
  have LN := hid (mlen_any mx my np W w h0.m)
  have HP := hid (hasP_any h k)
  rw [inF_in hk, hfk] at HP
  have CO := hid (fun w2 (q : Quiet w w2) => contains_any pv pd k w2 (h0.p.reads.of_below (q.below _)) (by omega))
  rw [hpk] at CO
  obtain ⟨n, hn⟩ : ∃ n, n = pd.length := ⟨_, rfl⟩
  obtain ⟨a, c, rfl⟩ := h0.p.reads_n hn.symm
  have H := hid h
  have H0 := hid h0
  have HN := hid hn
  have HF := hid hf
  have hki : (k : Int) < np := by omega
  have hk0 : 0 ≤ (k : Int) := by omega
  rw [← hn] at hl
  clear h h0 hf hk hfk hpk hn
  go_enter Tryz.func255, Tryz.ntmps255
  go_wp2_with fail
  refine LN.out.mono ?_
  rintro e w2 ⟨rfl, rfl⟩
  go_wp2_with fail
  refine HP.out.mono ?_
  rintro e w2 ⟨rfl, hq⟩
  have HQ := hid hq
  have H2 := hid (H0.out.quiet hq)
  have k1 := H2.out.k1
  clear hq
  go_wp2_with fail
  refine (CO.out _ HQ.out).mono ?_
  rintro e w3 ⟨rfl, hq⟩
  have HQ3 := hid (HQ.out.trans hq)
  have F3 := hid (H.out.quiet HQ3.out)
  have H3 := hid (H0.out.quiet HQ3.out)
  have d1 := H3.out.k1
  clear hq k1
  have HO := hid (show (w3.alloc (.cells #[.int .i64 k] 3)).ownsRow 0 3 1 (.slice a n c) n (pd.map (Value.int .i64)) by
    have := H3.out.p; unfold Owns at this; rw [← HN.out] at this; exact this.alloc _)
  have B1 := hid (show n + 1 ≤ maxLen by unfold maxLen; omega)
  have B2 := hid (show (n + 1) * 8 ≤ 140737488355328 by omega)
  have B3 := hid (show 0 ≤ (w3.alloc (.cells #[.int .i64 k] 3)).heap.size by omega)
  go_upto_region 3 with (fail)
  obtain ⟨i0, hi, hz0, hz1, hz2⟩ := info_parts infoInt
  have HI := hid hi
  have HZ0 := hid hz0
  have HZ1 := hid hz1
  have HZ2 := hid hz2
  clear hi hz0 hz1 hz2
  go_wp2_with (at_builtin; refine wpList_append_own_at _ rfl _ _ 35 rfl 0 3 i0 (.int .i64 0) 1 8 Tryz.underlying35 HI.out HZ0.out HZ1.out HZ2.out rfl (by decide) _ _ _ rfl HO.out ⟨w3.heap.size, 0, none⟩ 1 1 [.int .i64 k] rfl rfl (cell_one_new _ _ _) (ones_of [(k : Int)]) B1.out B2.out B3.out ?_)
  intro v6 w6 hown6 hgr6 _ hat6
  obtain ⟨⟨k3, g3⟩, hfin⟩ := pend_fin (v6 := v6) (m := (k : Int)) F3.out H3.out HF.out (by rw [← HN.out]; exact hown6) (by rw [H3.out.q]; rw [← H3.out.q]; exact hgr6) (by simpa using hat6)
  have FIN := hid hfin
  obtain ⟨va6, vc6, rfl⟩ : ∃ a c, v6 = .slice a (n + 1) c := by
    obtain ⟨h0, ⟨h1, h2⟩ | ⟨g, cap, cur, h1, _⟩⟩ := hown6
    · omega
    · exact ⟨_, _, h1⟩
  clear hown6 hgr6 hat6 hfin HO
  go_wp2
  go_ret
  exact ⟨rfl, FIN.out.1, (Fr.of_quiet HQ3.out).trans FIN.out.2⟩
end Go.Proofs.YtfpkgkjmpcoppaaGreatDoor
/-! An Idle as a whole: TakePending; what each deed on machines answers and leaves. -/
namespace Go.Proofs.YtfpkgkjmpcoppaaGreatDoor
set_option maxRecDepth 20000
set_option linter.unusedVariables false
set_option linter.unusedSimpArgs false
open Go.RowKit
variable {Z : Nat → Prop} {w : World} {x np : Nat} {f : Nat → Bool} {pd : List Int} {N : Int} {ss : List Int} {pl : Int}

set_option maxHeartbeats 1000000 in
theorem takePend_none (h : Ids Z x np f [] N ss pl w) : Calls Tryz.prog 225 #[.pointer (some ⟨x, 0, none⟩)] w (DPost (.tuple #[.int .i64 0, .bool false]) Z x np f [] N ss pl w) := by
  obtain ⟨mx, my, r, rp, W, pv, h0, hf⟩ := h.h
  have k1 := h0.k1
  obtain ⟨a, c, rfl⟩ := h0.p.reads_n (show ([] : List Int).length = 0 from rfl)
  have H := hid h
  clear h h0 hf
  go_enter Tryz.func225, Tryz.ntmps225
  go_wp2
  go_ret2
  exact ⟨rfl, H.out, .refl _ _⟩

theorem tpend_fin {m : Int} {mx my g : Nat} {r rp : Option Nat} {W : List Nat} {pv v6 : Value} {w2 : World} (F : Ids Z x np f (m :: pd) N ss pl w) (H : Ids0 w Z x mx my r rp np W pv (m :: pd) N ss pl) (hf : bitAt W = f)
    (hown : Owns w2 0 v6 pd) (hb : v6.ownBlock = some g) (hrp : rp = some g) (ho : Only g g w w2) :
    (w2.cell? ⟨x, 1, none⟩ = some pv ∧ w2.frozen? ⟨x, 1, none⟩ = false) ∧ Ids Z x np f pd N ss pl (w2.setCell ⟨x, 1, none⟩ v6) ∧ Fr Z w (w2.setCell ⟨x, 1, none⟩ v6) := by
  obtain ⟨sv, h1, h2, h3⟩ := H.i.h
  have hx := H.i.lt
  subst hrp
  have hxg : x ≠ g := fun e => H.d5 (by rw [e])
  have h6 : w2.heap[x]? = some (.cells #[.pointer (some ⟨mx, 0, none⟩), pv, .int .i64 N, sv, .int .i64 pl] 105 (0, 0)) := by
    rw [ho.block x hx hxg hxg]; exact h1
  refine ⟨⟨by simp [World.cell?, h6], by simp [World.frozen?, h6]⟩, F.liftp H hf (pv' := v6) ⟨⟨sv, ?_, h2.kept fun k hk => ?_, h3⟩, H.i.ne⟩ ?_ ?_ (fun k hk => .inl (by rw [← hb, hk]))⟩
  · simp [World.setCell, Array.getElem?_modify, h6]
  · have hr : r = some k := by rw [← h3, hk]
    have hkg : k ≠ g := fun e => H.d8 k hr (by rw [e])
    rw [Below.heap_setCell _ _ _ _ (fun e => H.i.ne (by rw [hr, e])), ho.block k (H.rlt hr) hkg hkg]
  · refine hown.kept fun k hk => Below.heap_setCell _ _ _ _ (fun e => ?_)
    rw [hb] at hk; simp only [Option.some.injEq] at hk
    exact hxg (by rw [hk, e])
  · have h26 : OnX x (some g) w w2 := ⟨ho.os, ho.tape, ho.output, ho.size, fun k hk _ h2 => ho.block k hk (fun e => h2 (by rw [e])) (fun e => h2 (by rw [e]))⟩
    exact h26.trans (OnX.set w2 1 _)

set_option maxHeartbeats 2000000 in
theorem takePend_first (m : Int) (h : Ids Z x np f (m :: pd) N ss pl w) : Calls Tryz.prog 225 #[.pointer (some ⟨x, 0, none⟩)] w (DPost (.tuple #[.int .i64 m, .bool true]) Z x np f pd N ss pl w) := by
  obtain ⟨mx, my, r, rp, W, pv, h0, hf⟩ := h.h
  have k1 := h0.k1
  obtain ⟨g, c, cur, hpv, hb, hcap, hcm, hcs, hl⟩ : ∃ g c, ∃ cur : Array Value, pv = .slice (some ⟨g, 0, none⟩) (pd.length + 1) c ∧ w.heap[g]? = some (.cells cur 3 (0, 0)) ∧ pd.length + 1 ≤ c ∧ c ≤ maxLen ∧ cur.size = c ∧ cur.toList.take (pd.length + 1) = (m :: pd).map (Value.int .i64) := by
    obtain ⟨h0, ⟨h1, h2⟩ | ⟨g, c, cur, h1, h2, h3, h4, h5, h6, h7⟩⟩ := h0.p
    · simp at h2
    · refine ⟨g, c, cur, h1, h3, h4, h5, by omega, ?_⟩
      rw [Nat.mul_one] at h7
      exact h7
  obtain ⟨n, hn⟩ : ∃ n, n = pd.length := ⟨_, rfl⟩
  rw [← hn] at hpv hcap hl
  have DEL := hid (del_first g n c m pd w cur hn hb hcs hcm hcap hl)
  have hc0 : w.cell? ⟨g, 0, none⟩ = some (.int .i64 m) := by
    have e : (cur.toList.take (n + 1))[0]? = cur.toList[0]? := by rw [List.getElem?_take, if_pos (by omega)]
    rw [hl] at e
    simp [World.cell?, hb]
    simpa using e.symm
  subst hpv
  have hrp : rp = some g := by rw [← h0.q]; rfl
  have FIN := hid (fun v6 w2 h1 h2 h3 => tpend_fin (v6 := v6) (w2 := w2) h h0 hf h1 h2 hrp h3)
  have hn1 : ((n + 1 : Nat) : Int) = (n : Int) + 1 := by omega
  have t : (((n : Int) + 1) == 0) = false := beq_eq_false_iff_ne.2 (by omega)
  have hp0 : (0 : Int) < (n : Int) + 1 := by omega
  clear h h0 hf hrp hb hcap hcm hcs hl hn
  go_enter Tryz.func225, Tryz.ntmps225
  go_wp2_with fail
  refine DEL.out.mono ?_
  rintro e w2 ⟨v6, rfl, ho6, hb6, hw6⟩
  obtain ⟨⟨k3, g3⟩, hfin⟩ := FIN.out v6 w2 ho6 hb6 hw6
  have HF := hid hfin
  obtain ⟨va6, vm6, vc6, rfl⟩ := ho6.slice3
  clear ho6 hb6 hw6 hfin k1
  go_wp2
  go_ret2
  exact ⟨rfl, HF.out⟩

theorem iStop_first (h : Ids Z x np f pd N ss (-1) w) (m : Int) (h0 : 0 ≤ m) (h1 : m < N) (hs : hasB m ss = false) (hl : ss.length ≤ 100000) : Calls Tryz.prog 74 #[.pointer (some ⟨x, 0, none⟩), .int .i64 m] w (DPost (.tuple #[.bool true, .bool true]) Z x np f pd N ss m w) := by
  obtain ⟨mx, my, r, rp, W, pv, i0, hf⟩ := h.h
  exact (stop_first x r _ _ N ss m w i0.i h0 h1 hs hl).mono fun e w' hp => h.lift i0 hf hp
theorem iStop_more (h : Ids Z x np f pd N ss pl w) (m : Int) (hp : 0 ≤ pl) (hmp : m ≠ pl) (h0 : 0 ≤ m) (h1 : m < N) (hs : hasB m ss = false) (hl : ss.length ≤ 100000) : Calls Tryz.prog 74 #[.pointer (some ⟨x, 0, none⟩), .int .i64 m] w (DPost (.tuple #[.bool false, .bool true]) Z x np f pd N (ss ++ [m]) pl w) := by
  obtain ⟨mx, my, r, rp, W, pv, i0, hf⟩ := h.h
  exact (stop_more x r _ _ N ss pl m w i0.i hp hmp h0 h1 hs hl).mono fun e w' hp => h.lift i0 hf hp
theorem iStop_no (h : Ids Z x np f pd N ss pl w) (m : Int) (h0 : 0 ≤ m) (h1 : m < N) (hs : m = pl ∨ (m ≠ pl ∧ hasB m ss = true)) (hl : ss.length ≤ 100000) : Calls Tryz.prog 74 #[.pointer (some ⟨x, 0, none⟩), .int .i64 m] w (DPost (.tuple #[.bool false, .bool false]) Z x np f pd N ss pl w) := by
  obtain ⟨mx, my, r, rp, W, pv, i0, hf⟩ := h.h
  exact (stop_no x r _ _ N ss pl m w i0.i h0 h1 hs hl).mono fun e w' ⟨he, hq⟩ => ⟨he, h.quiet hq, .of_quiet hq⟩
set_option maxHeartbeats 1000000 in
theorem iStop_out (h : Ids Z x np f pd N ss pl w) (m : Int) (h0 : m < 0 ∨ N ≤ m) : Calls Tryz.prog 74 #[.pointer (some ⟨x, 0, none⟩), .int .i64 m] w (DPost (.tuple #[.bool false, .bool false]) Z x np f pd N ss pl w) := by
  obtain ⟨mx, my, r, rp, W, pv, i0, hf⟩ := h.h
  have c2 := i0.i.c2
  have c4 := i0.i.c4
  have H := hid h
  clear h i0 hf
  by_cases hm : m < 0
  · clear h0
    go_enter Tryz.func74, Tryz.ntmps74
    go_wp2
    go_ret2
    exact ⟨rfl, H.out, .refl _ _⟩
  · have hm0 : 0 ≤ m := by omega
    have hm1 : N ≤ m := by omega
    clear h0 hm
    go_enter Tryz.func74, Tryz.ntmps74
    go_wp2
    go_ret2
    exact ⟨rfl, H.out, .refl _ _⟩
theorem iTakeM_last (m : Int) (h : Ids Z x np f pd N (ss ++ [m]) pl w) (hl : ss.length ≤ 100000) : Calls Tryz.prog 254 #[.pointer (some ⟨x, 0, none⟩)] w (DPost (.tuple #[.int .i64 m, .bool true]) Z x np f pd N ss pl w) := by
  obtain ⟨mx, my, r, rp, W, pv, i0, hf⟩ := h.h
  exact (takeM_last x r _ _ N ss pl m w i0.i hl).mono fun e w' hp => h.lift i0 hf hp
theorem iTakeM_poller (h : Ids Z x np f pd N [] pl w) (hp : 0 ≤ pl) : Calls Tryz.prog 254 #[.pointer (some ⟨x, 0, none⟩)] w (DPost (.tuple #[.int .i64 pl, .bool true]) Z x np f pd N [] (-1) w) := by
  obtain ⟨mx, my, r, rp, W, pv, i0, hf⟩ := h.h
  exact (takeM_poller x r _ _ N pl w i0.i hp).mono fun e w' hp => h.lift i0 hf hp
theorem iTakeM_none (h : Ids Z x np f pd N [] (-1) w) : Calls Tryz.prog 254 #[.pointer (some ⟨x, 0, none⟩)] w (DPost (.tuple #[.int .i64 0, .bool false]) Z x np f pd N [] (-1) w) := by
  obtain ⟨mx, my, r, rp, W, pv, i0, hf⟩ := h.h
  exact (takeM_none x r _ _ N w i0.i).mono fun e w' hp => h.lift i0 hf hp
theorem iCountM (h : Ids Z x np f pd N ss pl w) (n : Nat) (hn : ss.length = n) : Calls Tryz.prog 17 #[.pointer (some ⟨x, 0, none⟩)] w fun e w' => e = .returned (.int .i64 n) ∧ w = w' := by
  obtain ⟨mx, my, r, rp, W, pv, i0, hf⟩ := h.h
  exact countM x r _ _ N ss pl n hn w i0.i
theorem iPoller_no (h : Ids Z x np f pd N ss (-1) w) : Calls Tryz.prog 18 #[.pointer (some ⟨x, 0, none⟩)] w fun e w' => e = .returned (.tuple #[.int .i64 0, .bool false]) ∧ w = w' := by
  obtain ⟨mx, my, r, rp, W, pv, i0, hf⟩ := h.h
  exact poller_no x r _ _ N ss w i0.i
theorem iPoller_yes (h : Ids Z x np f pd N ss pl w) (hp : 0 ≤ pl) : Calls Tryz.prog 18 #[.pointer (some ⟨x, 0, none⟩)] w fun e w' => e = .returned (.tuple #[.int .i64 pl, .bool true]) ∧ w = w' := by
  obtain ⟨mx, my, r, rp, W, pv, i0, hf⟩ := h.h
  exact poller_yes x r _ _ N ss pl w i0.i hp

/-- More blocks; its own ones have stayed. -/
theorem Ids.grow (h : Ids Z x np f pd N ss pl w) {w' : World} (hs : w.heap.size + 1 ≤ w'.heap.size) (hk : ∀ k, ¬ Z k → k < w.heap.size → w'.heap[k]? = w.heap[k]?) (hg : w'.heap[7]? = w.heap[7]?) :
    Ids (fun k => Z k ∨ (w.heap.size ≤ k ∧ k < w'.heap.size)) x np f pd N ss pl w' := by
  obtain ⟨mx, my, r, rp, W, pv, h0, h2⟩ := h.h
  exact ⟨⟨mx, my, r, rp, W, pv, ⟨h0.i.kept (hk _ h0.b1 h0.i.lt) (fun k e => hk k (h0.b4 k e) (h0.rlt e)), h0.p.kept (fun k e => hk k (h0.b5 k (by rw [← h0.q, e])) (owns_lt h0.p e)), h0.q, h0.m.kept (hk _ h0.b2 h0.m.sx) (hk _ h0.b3 h0.m.sy), h0.d1, h0.d2, h0.d3, h0.d4, h0.d5, h0.d6, h0.d7, h0.d8,
    fun e => e.elim h0.b1 (fun e => by have := h0.i.lt; omega), fun e => e.elim h0.b2 (fun e => by have := h0.m.sx; omega), fun e => e.elim h0.b3 (fun e => by have := h0.m.sy; omega),
    fun k hk e => e.elim (h0.b4 k hk) (fun e => by have := h0.rlt hk; omega), fun k hk e => e.elim (h0.b5 k hk) (fun e => by have := h0.plt hk; omega),
    fun k e => e.elim (fun e => by have := h0.zl k e; omega) (fun e => e.2)⟩, h2⟩, h.T.eq hg, .inl h.hz⟩
/-- PutP, whatever it is asked. -/
theorem putP_any (h : Ids Z x np f pd N ss pl w) (i : Int) (hl : pd.length ≤ 100000) : Calls Tryz.prog 73 #[.pointer (some ⟨x, 0, none⟩), .int .i64 i] w fun e w' => ∃ b f', e = .returned (.bool b) ∧ Ids Z x np f' pd N ss pl w' ∧ Fr Z w w' := by
  rcases hp : hasB i pd with _ | _
  · by_cases ho : i < 0 ∨ (np : Int) ≤ i
    · exact (putP_no h i hp hl (.inl ho)).mono fun e w' ⟨a, b, c⟩ => ⟨_, _, a, b, c⟩
    · obtain ⟨k, rfl⟩ : ∃ k : Nat, i = k := ⟨i.toNat, by omega⟩
      rcases hf : f k with _ | _
      · exact (putP_yes h k hp hl (by omega) hf).mono fun e w' ⟨a, b, c⟩ => ⟨_, _, a, b, c⟩
      · exact (putP_no h k hp hl (.inr (by rw [inF_in (by omega)]; exact hf))).mono fun e w' ⟨a, b, c⟩ => ⟨_, _, a, b, c⟩
  · exact (putP_has h i hp hl).mono fun e w' ⟨a, b, c⟩ => ⟨_, _, a, b, c⟩
theorem pend_refused (h : Ids Z x np f pd N ss pl w) (k : Nat) (hk : k < np) (hl : pd.length ≤ 100000) (hx : f k = true ∨ hasB (k : Int) pd = true) : Calls Tryz.prog 255 #[.pointer (some ⟨x, 0, none⟩), .int .i64 k] w (DPost (.bool false) Z x np f pd N ss pl w) := by
  rcases hf : f k with _ | _
  · rcases hx with hx | hx
    · rw [hf] at hx; cases hx
    · exact pend_no h k hl (.inr (.inr ⟨by omega, by omega, by rw [inF_in hk]; exact hf, hx⟩))
  · exact pend_no h k hl (.inr (.inl ⟨by omega, by omega, by rw [inF_in hk]; exact hf⟩))

end Go.Proofs.YtfpkgkjmpcoppaaGreatDoor
