/- The document's Idle by value: what its deeds hand back; free; New. -/
import Derived.Test.YtnabikoieolfcaaDoorRef13A
namespace Go.Proofs.YtnabikoieolfcaaDoor
set_option linter.unusedVariables false
set_option linter.unusedSimpArgs false
open Go.RowKit
/-- The cells of the document's Idle. -/
@[reducible] def ix (NP NM : Int) (vP vQ vM : Value) (pl : Int) : Array Value := #[.int .i64 NP, .int .i64 NM, vP, vQ, vM, .int .i64 pl]
@[reducible] def iz : Array Value := #[.int .i64 0, .int .i64 0, .slice none 0 0, .slice none 0 0, .slice none 0 0, .int .i64 0]
structure Di (w : World) (vP vQ vM : Value) (Pl Q M : List Int) : Prop where
  hp : Reads w vP Pl
  hq : Reads w vQ Q
  hm : Reads w vM M
  lp : Pl.length ≤ 1000
  lq : Q.length ≤ 1000
  lm : M.length ≤ 1000
theorem Di.below {w w' : World} {vP vQ vM : Value} {Pl Q M : List Int} (h : Di w vP vQ vM Pl Q M) (hb : Below w.heap.size w w') : Di w' vP vQ vM Pl Q M := ⟨h.hp.of_below hb, h.hq.of_below hb, h.hm.of_below hb, h.lp, h.lq, h.lm⟩
theorem Di.sl {w : World} {vP vQ vM : Value} {Pl Q M : List Int} (h : Di w vP vQ vM Pl Q M) : ∃ aP nP cP aQ nQ cQ aM nM cM, vP = .slice aP nP cP ∧ vQ = .slice aQ nQ cQ ∧ vM = .slice aM nM cM ∧ Hid (Pl.length = nP) ∧ Hid (Q.length = nQ) ∧ Hid (M.length = nM) ∧ nP ≤ 1000 ∧ nQ ≤ 1000 ∧ nM ≤ 1000 := by
  obtain ⟨a, c, e, _⟩ := h.hp
  obtain ⟨a', c', e', _⟩ := h.hq
  obtain ⟨a2, c2, e2, _⟩ := h.hm
  exact ⟨_, _, _, _, _, _, _, _, _, e, e', e2, hid rfl, hid rfl, hid rfl, h.lp, h.lq, h.lm⟩
/-- The box and the result's cells. -/
structure K13 (w y : World) (cs : Array Value) : Prop where
  below : Below w.heap.size w y
  box : y.heap[w.heap.size]? = some (.cells cs 28 (0, 0))
  res : y.heap[w.heap.size + 1]? = some (.cells iz 28 (0, 0))
  size : w.heap.size + 2 ≤ y.heap.size
theorem K13.mono {w y y' : World} {cs : Array Value} (h : K13 w y cs) (hb : Below y.heap.size y y') : K13 w y' cs :=
  ⟨h.below.trans (hb.mono h.below.size), (hb.block _ (by have := h.size; omega)).trans h.box, (hb.block _ (by have := h.size; omega)).trans h.res, by have := h.size; have := hb.size; omega⟩
theorem K13.grown {w y y' : World} {cs : Array Value} {row : Option Nat} (h : K13 w y cs) (hg : y.grownBy y' row) (hr : ∀ q, row = some q → w.heap.size + 2 ≤ q) : K13 w y' cs := by
  have hs := h.size
  have hs2 := hg.size
  exact ⟨h.below.grown hg (by omega) (fun q hq => by have := hr q hq; omega), (hg.block _ (by omega) (fun e => by have := hr _ e.symm; omega)).trans h.box, (hg.block _ (by omega) (fun e => by have := hr _ e.symm; omega)).trans h.res, by omega⟩
theorem K13.set {w y : World} {cs cs' : Array Value} (h : K13 w y cs) (i : Nat) (v : Value) (hc : cs.setIfInBounds i v = cs') : K13 w (y.setCell ⟨w.heap.size, i, none⟩ v) cs' :=
  ⟨h.below.setCell (p := ⟨w.heap.size, i, none⟩) (Nat.le_refl _) v, blk_set v h.box hc, (heap_setCell_other _ _ _ _ (by simp)).trans h.res, by simpa using h.size⟩
def DiPost (w : World) (vP vQ vM : Value) (NP NM : Int) (Pl Q M : List Int) (pl : Int) (rs : List Value) (e : Ending) (w' : World) : Prop :=
  ∃ vP' vQ' vM', e = .returned (.tuple (.agg (ix NP NM vP' vQ' vM' pl) :: rs).toArray) ∧ Di w' vP' vQ' vM' Pl Q M ∧ Below w.heap.size w w' ∧ (∀ q, vP'.ownBlock = some q → vP.ownBlock = some q ∨ (w.heap.size ≤ q ∧ q < w'.heap.size)) ∧ (∀ q, vQ'.ownBlock = some q → vQ.ownBlock = some q ∨ (w.heap.size ≤ q ∧ q < w'.heap.size)) ∧ (∀ q, vM'.ownBlock = some q → vM.ownBlock = some q ∨ (w.heap.size ≤ q ∧ q < w'.heap.size))
theorem Reads.row {w : World} {v : Value} {S : List Int} (h : Reads w v S) {g : Nat} {cs : Array Value} (hs : (w.setRow g cs).heap.size = w.heap.size) (hk : 0 < S.length → ∀ q, v.ownBlock = some q → q ≠ g) : Reads (w.setRow g cs) v S := by
  obtain ⟨a, c, rfl, x1, x2⟩ := h
  refine ⟨a, c, rfl, x1, fun h0 => ?_⟩
  obtain ⟨q, off, rfl, hg, hc⟩ := x2 h0
  have hk2 : (w.setRow g cs).heap[q]? = w.heap[q]? := row_other _ _ _ _ (hk h0 q rfl)
  exact ⟨q, off, rfl, by omega, fun i hi => (World.cell?_of_block hk2).trans (hc i hi)⟩
/-- What the last store leaves. -/
theorem K13.fin {w y : World} {NP NM pl : Int} {vP vQ vM vP0 vQ0 vM0 : Value} {Pl Q M : List Int} (h : K13 w y (ix NP NM vP vQ vM pl)) (hd : Di y vP vQ vM Pl Q M) (rs : List Value)
    (k1 : ∀ q, vP.ownBlock = some q → vP0.ownBlock = some q ∨ (w.heap.size ≤ q ∧ q < y.heap.size)) (k2 : ∀ q, vQ.ownBlock = some q → vQ0.ownBlock = some q ∨ (w.heap.size ≤ q ∧ q < y.heap.size)) (k3 : ∀ q, vM.ownBlock = some q → vM0.ownBlock = some q ∨ (w.heap.size ≤ q ∧ q < y.heap.size))
    (n1 : 0 < Pl.length → ∀ q, vP.ownBlock = some q → q ≠ w.heap.size + 1) (n2 : 0 < Q.length → ∀ q, vQ.ownBlock = some q → q ≠ w.heap.size + 1) (n3 : 0 < M.length → ∀ q, vM.ownBlock = some q → q ≠ w.heap.size + 1) :
    DiPost w vP0 vQ0 vM0 NP NM Pl Q M pl rs (.returned (.tuple (.agg (ix NP NM vP vQ vM pl) :: rs).toArray)) (y.setRow (w.heap.size + 1) (ix NP NM vP vQ vM pl)) := by
  have hs : (y.setRow (w.heap.size + 1) (ix NP NM vP vQ vM pl)).heap.size = y.heap.size := row_size _ _ _
  exact ⟨_, _, _, rfl, ⟨hd.hp.row hs n1, hd.hq.row hs n2, hd.hm.row hs n3, hd.lp, hd.lq, hd.lm⟩, row_below h.below (by omega) _, by rw [hs]; exact k1, by rw [hs]; exact k2, by rw [hs]; exact k3⟩
theorem Reads.own_lt {w : World} {v : Value} {S : List Int} (h : Reads w v S) (h0 : 0 < S.length) : ∀ q, v.ownBlock = some q → q < w.heap.size := fun q hq => by
  obtain ⟨a, c, rfl, _, x2⟩ := h
  obtain ⟨g, off, rfl, hg, _⟩ := x2 h0
  simp [Value.ownBlock] at hq
  omega
theorem results_row_t13 {P : Program} {fn : Func} {p u : Tmp} {ty : TypeId} (h : fn.results = #[.cell p ty, .tmp u]) (tmps : Array Value) (w : World) (g : Nat) (t : TypeId) (cs : Array Value) (fr : Nat × Nat) (d : TypeDesc)
    (hp : tmps.getD p undef = .pointer (some ⟨g, 0, none⟩)) (hg : w.heap[g]? = some (.cells cs t fr))
    (hu : P.underlying ty = some d) (hd : (match d with | .struct _ | .array _ _ => true | _ => false) = true) (hi : (P.info? ty).map (·.size) = some cs.size) (b : Value) (hb : tmps.getD u undef = b) :
    (results fn tmps).run P w = .ok (.tuple #[.agg cs, b]) w := by
  rw [results_cell_tmp h, hp, hb]
  simp [asAddr, run_loadVar_row w g t ty cs fr d hg hu hd hi, Result.andThen]
theorem results_row_2t13 {P : Program} {fn : Func} {p u v : Tmp} {ty : TypeId} (h : fn.results = #[.cell p ty, .tmp u, .tmp v]) (tmps : Array Value) (w : World) (g : Nat) (t : TypeId) (cs : Array Value) (fr : Nat × Nat) (d : TypeDesc)
    (hp : tmps.getD p undef = .pointer (some ⟨g, 0, none⟩)) (hg : w.heap[g]? = some (.cells cs t fr))
    (hu : P.underlying ty = some d) (hd : (match d with | .struct _ | .array _ _ => true | _ => false) = true) (hi : (P.info? ty).map (·.size) = some cs.size) (b c : Value) (hb : tmps.getD u undef = b) (hc : tmps.getD v undef = c) :
    (results fn tmps).run P w = .ok (.tuple #[.agg cs, b, c]) w := by
  have hp' : tmps[p]?.getD undef = .pointer (some ⟨g, 0, none⟩) := by simpa using hp
  have hb' : tmps[u]?.getD undef = b := by simpa using hb
  have hc' : tmps[v]?.getD undef = c := by simpa using hc
  simp [results, h, hp', hb', hc', asAddr, run_loadVar_row w g t ty cs fr d hg hu hd hi, Result.andThen, Sem.run_bind]
/-- What a deed that changes nothing, or a number alone, hands back. -/
theorem K13.keep {w y : World} {NP NM pl : Int} {vP vQ vM : Value} {Pl Q M : List Int} (h : K13 w y (ix NP NM vP vQ vM pl)) (hd : Di w vP vQ vM Pl Q M) (rs : List Value) :
    DiPost w vP vQ vM NP NM Pl Q M pl rs (.returned (.tuple (.agg (ix NP NM vP vQ vM pl) :: rs).toArray)) (y.setRow (w.heap.size + 1) (ix NP NM vP vQ vM pl)) :=
  h.fin (hd.below h.below) rs (fun q hq => .inl hq) (fun q hq => .inl hq) (fun q hq => .inl hq) (fun h0 q hq => by have := hd.hp.own_lt h0 q hq; omega) (fun h0 q hq => by have := hd.hq.own_lt h0 q hq; omega) (fun h0 q hq => by have := hd.hm.own_lt h0 q hq; omega)
/-- May a processor be put? -/
def frB (NP : Int) (Pl Q : List Int) (p : Int) : Bool := decide (0 ≤ p) && (decide (p < NP) && (!hasB p Pl && !hasB p Q))
set_option maxHeartbeats 4000000 in
theorem rfree (w : World) (NP NM pl : Int) (vP vQ vM : Value) (Pl Q M : List Int) (h : Di w vP vQ vM Pl Q M) (p : Int) (b : Bool) (hb : frB NP Pl Q p = b) :
    Calls Tryd.prog 33 #[.agg (ix NP NM vP vQ vM pl), .int .i64 p] w fun e w' => e = .returned (.bool b) ∧ Below w.heap.size w w' := by
  obtain ⟨aP, nP, cP, aQ, nQ, cQ, aM, nM, cM, rfl, rfl, rfl, _, _, _, _, _, _⟩ := h.sl
  have B := (Below.refl w.heap.size w).alloc (Nat.le_refl _) (.cells (ix NP NM (.slice aP nP cP) (.slice aQ nQ cQ) (.slice aM nM cM) pl) 28)
  have HD := h.below B
  have HB := hid B
  clear B h
  by_cases h1 : p < 0
  · have d1 : decide (0 ≤ p) = false := decide_eq_false (by omega)
    have E : b = false := by rw [← hb]; unfold frB; rw [d1]; rfl
    subst E
    clear hb HD
    go_enter Tryd.func33, Tryd.ntmps33
    go_wp2
    go_ret
    exact ⟨rfl, HB.out⟩
  have d1 : decide (0 ≤ p) = true := decide_eq_true (by omega)
  by_cases h2 : NP ≤ p
  · have d2 : decide (p < NP) = false := decide_eq_false (by omega)
    have E : b = false := by rw [← hb]; unfold frB; rw [d2, Bool.false_and, Bool.and_false]
    subst E
    clear hb HD
    go_enter Tryd.func33, Tryd.ntmps33
    go_wp2
    go_ret
    exact ⟨rfl, HB.out⟩
  have d2 : decide (p < NP) = true := decide_eq_true (by omega)
  rcases h3 : hasB p Pl with _ | _
  · rcases h4 : hasB p Q with _ | _
    · have E : b = true := by rw [← hb]; unfold frB; rw [d1, d2, h3, h4]; rfl
      subst E
      have I1 := hid (rin _ _ _ HD.hp HD.lp p _ h3)
      have I2 := hid (rin _ _ _ HD.hq HD.lq p _ h4)
      clear hb HD h3 h4
      go_enter Tryd.func33, Tryd.ntmps33
      go_wp2_with fail
      refine I1.out.mono ?_
      rintro e w2 ⟨rfl, rfl⟩
      go_wp2_with fail
      refine I2.out.mono ?_
      rintro e w2 ⟨rfl, rfl⟩
      clear I1 I2
      go_wp2
      go_ret
      exact ⟨rfl, HB.out⟩
    · have E : b = false := by rw [← hb]; unfold frB; rw [d1, d2, h3, h4]; rfl
      subst E
      have I1 := hid (rin _ _ _ HD.hp HD.lp p _ h3)
      have I2 := hid (rin _ _ _ HD.hq HD.lq p _ h4)
      clear hb HD h3 h4
      go_enter Tryd.func33, Tryd.ntmps33
      go_wp2_with fail
      refine I1.out.mono ?_
      rintro e w2 ⟨rfl, rfl⟩
      go_wp2_with fail
      refine I2.out.mono ?_
      rintro e w2 ⟨rfl, rfl⟩
      clear I1 I2
      go_wp2
      go_ret
      exact ⟨rfl, HB.out⟩
  · have E : b = false := by rw [← hb]; unfold frB; rw [d1, d2, h3]; rfl
    subst E
    have I1 := hid (rin _ _ _ HD.hp HD.lp p _ h3)
    clear hb HD h3
    go_enter Tryd.func33, Tryd.ntmps33
    go_wp2_with fail
    refine I1.out.mono ?_
    rintro e w2 ⟨rfl, rfl⟩
    clear I1
    go_wp2
    go_ret
    exact ⟨rfl, HB.out⟩
end Go.Proofs.YtnabikoieolfcaaDoor
