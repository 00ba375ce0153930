/- ModelPlays: what stands between two events. -/
import Derived.Test.YtkimfejhgfnjoaaDoorMoW
import Derived.Test.YtkimfejhgfnjoaaDoorMoU
import Derived.Test.YtkimfejhgfnjoaaDoorModC
namespace Go.Proofs.YtkimfejhgfnjoaaDoor
open Go.RowKit
set_option linter.unusedVariables false
set_option linter.unusedSimpArgs false
set_option maxRecDepth 20000
/-- The events that were let so far. -/
def evZ (z : Nat → Nat → Int) (q : Nat) : Ev := (z q 0, z q 1, z q 2, z q 3, z q 4)
def lts (s0 : Ms) (z : Nat → Nat → Int) : Nat → List Ev
  | 0 => []
  | q + 1 => match wrongM (mst s0 z q) (z q 0) (z q 1) (z q 2) (z q 3) (z q 4) with
    | none => lts s0 z q ++ [evZ z q]
    | some _ => lts s0 z q
theorem lts_none {s0 : Ms} {z : Nat → Nat → Int} {q : Nat} (h : wrongM (mst s0 z q) (z q 0) (z q 1) (z q 2) (z q 3) (z q 4) = none) : lts s0 z (q + 1) = lts s0 z q ++ [evZ z q] := by simp only [lts, h]
theorem lts_some {s0 : Ms} {z : Nat → Nat → Int} {q x : Nat} (h : wrongM (mst s0 z q) (z q 0) (z q 1) (z q 2) (z q 3) (z q 4) = some x) : lts s0 z (q + 1) = lts s0 z q := by simp only [lts, h]
theorem lts_len (s0 : Ms) (z : Nat → Nat → Int) : ∀ q, (lts s0 z q).length ≤ q
  | 0 => by simp [lts]
  | q + 1 => by
    have := lts_len s0 z q
    rcases h : wrongM (mst s0 z q) (z q 0) (z q 1) (z q 2) (z q 3) (z q 4) with _ | x
    · rw [lts_none h]; simp; omega
    · rw [lts_some h]; omega
theorem rl_all (P : Int) (K : Nat) (G : Int) (z : Nat → Nat → Int) : ∀ q, Rl P K G (mst (newM P K G) z q) (lts (newM P K G) z q)
  | 0 => Rl.new P K G
  | q + 1 => by
    have ih := rl_all P K G z q
    rcases h : wrongM (mst (newM P K G) z q) (z q 0) (z q 1) (z q 2) (z q 3) (z q 4) with _ | x
    · rw [lts_none h]
      have := ih.add (v := z q 4) h
      unfold mst addM
      rw [if_pos h]
      exact this
    · rw [lts_some h]
      unfold mst addM
      rw [if_neg (by rw [h]; simp)]
      exact ih
/-- What stands between two events. -/
structure Mq (w : World) (hi b : Nat) (s0 : Ms) (z : Nat → Nat → Int) (q : Nat) (v13 v14 : Value) (wr : World) : Prop where
  m : Mdl wr w.heap.size hi b (mst s0 z q)
  o13 : wr.ownsRow hi 33 5 v13 (lts s0 z q).length (fe (lts s0 z q))
  o14 : wr.ownsRow hi 38 2 v14 (fnd s0 z q).length (flF (fnd s0 z q))
  ne : ∀ x, v13.ownBlock = some x → v14.ownBlock ≠ some x
  bl : Below w.heap.size w wr
  hs : hi ≤ wr.heap.size
  ws : w.heap.size ≤ hi
section
variable {w wr w' : World} {hi b q : Nat} {s0 : Ms} {z : Nat → Nat → Int} {v13 v14 : Value}
theorem own_belowE {w w' : World} {base n sz : Nat} {t : TypeId} {v : Value} {xs : List Value} (h : w.ownsRow base t sz v n xs) (hb : Below w.heap.size w w') : w'.ownsRow base t sz v n xs := by
  obtain ⟨h0, ⟨h1, h2⟩ | ⟨g, cap, cur, h1, h2, h3, h4⟩⟩ := h
  · exact ⟨h0, .inl ⟨h1, h2⟩⟩
  · have hg : g < w.heap.size := by obtain ⟨hl, _⟩ := Array.getElem?_eq_some_iff.1 h3; exact hl
    exact ⟨h0, .inr ⟨g, cap, cur, h1, h2, (hb.block g hg).trans h3, h4⟩⟩
theorem own_keptV {w w' : World} {base n sz : Nat} {t : TypeId} {v : Value} {xs : List Value} (h : w.ownsRow base t sz v n xs) (hb : ∀ g, v.ownBlock = some g → w'.heap[g]? = w.heap[g]?) : w'.ownsRow base t sz v n xs := by
  obtain ⟨h0, ⟨h1, h2⟩ | ⟨g, cap, cur, h1, h2, h3, h4⟩⟩ := h
  · exact ⟨h0, .inl ⟨h1, h2⟩⟩
  · exact ⟨h0, .inr ⟨g, cap, cur, h1, h2, (hb g (by rw [h1]; rfl)).trans h3, h4⟩⟩
theorem news_ev (w : World) (e : Ev) (t : TypeId) : ∀ j u, (fe [e])[j]? = some u → (w.alloc (.cells #[.int .i64 e.1, .int .i64 e.2.1, .int .i64 e.2.2.1, .int .i64 e.2.2.2.1, .int .i64 e.2.2.2.2] t)).cell? ((⟨w.heap.size, 0, none⟩ : Addr).add j) = some u := by
  intro j u hj
  have hj5 : j < 5 := by
    have := (List.getElem?_eq_some_iff.1 hj).1
    rw [fe_len] at this
    simpa using this
  have hnw := heap_alloc_new w (.cells #[.int .i64 e.1, .int .i64 e.2.1, .int .i64 e.2.2.1, .int .i64 e.2.2.2.1, .int .i64 e.2.2.2.2] t)
  have ha : (⟨w.heap.size, 0, none⟩ : Addr).add j = ⟨w.heap.size, 0 + j, none⟩ := Addr.add_lit _ _ _
  rw [ha, Nat.zero_add]
  simp only [fe, evc, List.flatMap_cons, List.flatMap_nil, List.append_nil] at hj
  simp only [World.cell?, hnw]
  rcases (show j = 0 ∨ j = 1 ∨ j = 2 ∨ j = 3 ∨ j = 4 by omega) with rfl | rfl | rfl | rfl | rfl <;> simpa using hj
theorem Mq.below (h : Mq w hi b s0 z q v13 v14 wr) (hb : Below wr.heap.size wr w') : Mq w hi b s0 z q v13 v14 w' :=
  ⟨h.m.below hb, own_belowE h.o13 hb, own_belowE h.o14 hb, h.ne, h.bl.trans (hb.mono h.bl.size), Nat.le_trans h.hs hb.size, h.ws⟩
theorem Mq.rd (h : Mq w hi b s0 z q v13 v14 wr) : RdE wr v13 (lts s0 z q) := own_rdE h.o13
/-- The model told: what it was is kept besides. -/
structure Mt (w : World) (hi b : Nat) (s0 : Ms) (z : Nat → Nat → Int) (q : Nat) (v13 v14 : Value) (wr : World) : Prop where
  m : Mdl wr w.heap.size hi b (mst s0 z (q + 1))
  o13 : wr.ownsRow hi 33 5 v13 (lts s0 z q).length (fe (lts s0 z q))
  o14 : wr.ownsRow hi 38 2 v14 (fnd s0 z q).length (flF (fnd s0 z q))
  ne : ∀ x, v13.ownBlock = some x → v14.ownBlock ≠ some x
  bl : Below w.heap.size w wr
  hs : hi ≤ wr.heap.size
  ws : w.heap.size ≤ hi
theorem Mq.add (h : Mq w hi b s0 z q v13 v14 wr) (hm : Mdl w' w.heap.size hi b (mst s0 z (q + 1))) (ho : OM w.heap.size hi wr w') : Mt w hi b s0 z q v13 v14 w' := by
  refine ⟨hm, own_keptV h.o13 (fun g hg => ?_), own_keptV h.o14 (fun g hg => ?_), h.ne, h.bl.trans (ho.below (Nat.le_refl _) h.bl.size), Nat.le_trans h.hs ho.size, h.ws⟩
  · have := World.ownsRow.lt h.o13 g hg
    exact ho.block g this.2 (.inr this.1)
  · have := World.ownsRow.lt h.o14 g hg
    exact ho.block g this.2 (.inr this.1)
theorem Mt.below (h : Mt w hi b s0 z q v13 v14 wr) (hb : Below wr.heap.size wr w') : Mt w hi b s0 z q v13 v14 w' :=
  ⟨h.m.below hb, own_belowE h.o13 hb, own_belowE h.o14 hb, h.ne, h.bl.trans (hb.mono h.bl.size), Nat.le_trans h.hs hb.size, h.ws⟩
/-- One more that was let. -/
theorem Mt.let (h : Mt w hi b s0 z q v13 v14 wr) {x : Value} (hn : wrongM (mst s0 z q) (z q 0) (z q 1) (z q 2) (z q 3) (z q 4) = none)
    (ho : w'.ownsRow hi 33 5 x ((lts s0 z q).length + 1) (fe (lts s0 z q) ++ fe [evZ z q])) (hg : wr.grownBy w' v13.ownBlock) (hx : x.ownBlock = v13.ownBlock ∨ x.ownBlock = some wr.heap.size) : Mq w hi b s0 z (q + 1) x v14 w' := by
  have l13 := World.ownsRow.lt h.o13
  have l14 := World.ownsRow.lt h.o14
  refine ⟨?_, ?_, ?_, ?_, h.bl.grown hg h.bl.size (fun g e => by have := (l13 g e).1; have := h.ws; omega), Nat.le_trans h.hs hg.size, h.ws⟩
  · obtain ⟨b1, b2, b3, m1, m2⟩ := h.m
    have k := m2.h
    have hh := h.hs
    have kk : ∀ g, g < hi → w'.heap[g]? = wr.heap[g]? := fun g hg2 => hg.block g (by omega) (fun e => by have := (l13 g e.symm).1; omega)
    exact ⟨b1, b2, b3, m1.kept (kk _ (by omega)) (kk _ (by omega)) (kk _ (by omega)) (kk _ (by omega)), m2⟩
  · rw [lts_none hn, List.length_append, fe_app]; exact ho
  · rw [fnd_none hn]
    exact own_keptV h.o14 (fun g e => hg.block g (l14 g e).2 (fun e2 => h.ne g e2.symm e))
  · intro g e1 e2
    rcases hx with e | e
    · exact h.ne g (e ▸ e1) e2
    · rw [e] at e1; cases e1
      have := (l14 _ e2).2; omega
/-- One more that is wrong. -/
theorem Mt.bad (h : Mt w hi b s0 z q v13 v14 wr) {x : Value} {k : Nat} (hn : wrongM (mst s0 z q) (z q 0) (z q 1) (z q 2) (z q 3) (z q 4) = some k)
    (ho : w'.ownsRow hi 38 2 x ((fnd s0 z q).length + 1) (flF (fnd s0 z q) ++ [.int .u8 k, .int .i64 q])) (hg : wr.grownBy w' v14.ownBlock) (hx : x.ownBlock = v14.ownBlock ∨ x.ownBlock = some wr.heap.size) : Mq w hi b s0 z (q + 1) v13 x w' := by
  have l13 := World.ownsRow.lt h.o13
  have l14 := World.ownsRow.lt h.o14
  refine ⟨?_, ?_, ?_, ?_, h.bl.grown hg h.bl.size (fun g e => by have := (l14 g e).1; have := h.ws; omega), Nat.le_trans h.hs hg.size, h.ws⟩
  · obtain ⟨b1, b2, b3, m1, m2⟩ := h.m
    have k := m2.h
    have hh := h.hs
    have kk : ∀ g, g < hi → w'.heap[g]? = wr.heap[g]? := fun g hg2 => hg.block g (by omega) (fun e => by have := (l14 g e.symm).1; omega)
    exact ⟨b1, b2, b3, m1.kept (kk _ (by omega)) (kk _ (by omega)) (kk _ (by omega)) (kk _ (by omega)), m2⟩
  · rw [lts_some hn]
    exact own_keptV h.o13 (fun g e => hg.block g (l13 g e).2 (fun e2 => h.ne g e e2.symm))
  · rw [fnd_some hn, List.length_append, flF_app]; exact ho
  · intro g e1 e2
    rcases hx with e | e
    · exact h.ne g e1 (e ▸ e2)
    · rw [e] at e2; cases e2
      have := (l13 _ e1).2; omega
end
theorem rc_out {K : Nat} {f : Int → Option (Int × Int)} (h : f K = none) : rc f (K + 1) = rc f K := by simp [rc, h]
/-- Are two findings one? -/
theorem equalIn_fd (a b a' b' : Int) (w : World) : (Op.equalIn 10000 38 (.agg #[.int .u8 a, .int .i64 b]) (.agg #[.int .u8 a', .int .i64 b'])).run Tryd.prog w = .ok (decide ((a, b) = (a', b'))) w := by
  have u0 := Tryd.underlying5
  have u1 := Tryd.underlying3
  have hS : Tryd.prog.underlying 38 = some (.struct (Tryd.prog.fieldsOf 38)) := by kernel_rfl
  have hp : Tryd.prog.stoodInHeld 38 = false := by kernel_rfl
  rw [show (10000 : Nat) = 9999 + 1 from rfl, run_equalIn_agg w 9999 38 _ _ hS hp]
  simp only [Program.fieldsOf, Tryd.underlying38]
  go_simp
  by_cases h1 : a = a' <;> by_cases h2 : b = b' <;> simp [h1, h2]
theorem flF_get : ∀ (l : List (Int × Int)) (i : Nat), (h : i < l.length) → (flF l)[i * 2]? = some (.int .u8 l[i].1) ∧ (flF l)[i * 2 + 1]? = some (.int .i64 l[i].2)
  | x :: l, 0, _ => by simp [flF]
  | x :: l, i + 1, h => by
    have ih := flF_get l i (by simpa using h)
    have e : flF (x :: l) = .int .u8 x.1 :: .int .i64 x.2 :: flF l := by simp [flF]
    rw [e, show (i + 1) * 2 = i * 2 + 1 + 1 by omega]
    simpa using ih
theorem flF_len (l : List (Int × Int)) : (flF l).length = l.length * 2 := by
  induction l with
  | nil => rfl
  | cons x l ih =>
    have e : flF (x :: l) = .int .u8 x.1 :: .int .i64 x.2 :: flF l := by simp [flF]
    rw [e]; simp [ih]; omega
/-- Findings, as they read. -/
def RdF (w : World) (v : Value) (F : List (Int × Int)) : Prop :=
  ∃ a c, v = .slice a F.length c ∧ F.length ≤ c ∧ (0 < F.length → ∃ g, a = some ⟨g, 0, none⟩ ∧ g < w.heap.size ∧ ∀ i, (h : i < F.length) → w.cell? ⟨g, i * 2, none⟩ = some (.int .u8 F[i].1) ∧ w.cell? ⟨g, i * 2 + 1, none⟩ = some (.int .i64 F[i].2))
theorem own_rdF {w : World} {base : Nat} {t : TypeId} {v : Value} {F : List (Int × Int)} (h : w.ownsRow base t 2 v F.length (flF F)) : RdF w v F := by
  obtain ⟨h0, ⟨h1, h2⟩ | ⟨q, cap, cur, h1, h2, h3, h4, h5, h6, h7⟩⟩ := id h
  · exact ⟨none, 0, by rw [h1, h2], by omega, fun h => by omega⟩
  · refine ⟨_, cap, h1, h4, fun hn => ⟨q, rfl, by obtain ⟨hl, _⟩ := Array.getElem?_eq_some_iff.1 h3; exact hl, fun i hi => ?_⟩⟩
    subst h1
    obtain ⟨k0, k1⟩ := flF_get F i hi
    have k := fun j => h.cellAt (g := q) (cap := cap) j
    have hl := flF_len F
    exact ⟨(k _ (by omega)).trans k0, (k _ (by omega)).trans k1⟩
theorem RdF.below {w w' : World} {v : Value} {F : List (Int × Int)} (h : RdF w v F) (hb : Below w.heap.size w w') : RdF w' v F := by
  obtain ⟨a, c, h1, h2, h3⟩ := h
  refine ⟨a, c, h1, h2, fun hn => ?_⟩
  obtain ⟨g, e, hg, hc⟩ := h3 hn
  have := hb.size
  exact ⟨g, e, by omega, fun i hi => ⟨(hb.cell (p := ⟨g, _, none⟩) hg).trans (hc i hi).1, (hb.cell (p := ⟨g, _, none⟩) hg).trans (hc i hi).2⟩⟩
end Go.Proofs.YtkimfejhgfnjoaaDoor
