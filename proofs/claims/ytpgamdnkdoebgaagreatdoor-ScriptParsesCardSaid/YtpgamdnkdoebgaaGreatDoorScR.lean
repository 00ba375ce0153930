/- Rows of steps: a script's rounds as memory. -/
import Derived.Test.YtpgamdnkdoebgaaGreatDoorScT
import Derived.OwnWalk
import Derived.Maps.AppendAt
namespace Go.Proofs.YtpgamdnkdoebgaaGreatDoor
open Go.RowKit
set_option linter.unusedVariables false
set_option linter.unusedSimpArgs false
set_option maxRecDepth 20000
/-- A step's cells. -/
def stc (x : Sp) : List Value := [.int .u8 x.1, .int .u8 x.2.1, .int .i64 x.2.2.1, .int .i64 x.2.2.2.1, .int .i64 x.2.2.2.2]
def ft (l : List Sp) : List Value := l.flatMap stc
theorem ft_cons (e : Sp) (es : List Sp) : ft (e :: es) = .int .u8 e.1 :: .int .u8 e.2.1 :: .int .i64 e.2.2.1 :: .int .i64 e.2.2.2.1 :: .int .i64 e.2.2.2.2 :: ft es := by simp [ft, stc]
theorem ft_len : ∀ es : List Sp, (ft es).length = es.length * 5
  | [] => rfl
  | e :: es => by rw [ft_cons]; simp [ft_len es]; omega
theorem ft_app (xs ys : List Sp) : ft (xs ++ ys) = ft xs ++ ft ys := by simp [ft]
def spAt (es : List Sp) (i : Nat) : Sp := es.getD i (0, 0, 0, 0, 0)
theorem ft_get : ∀ (es : List Sp) (i : Nat), i < es.length →
    (ft es)[i * 5]? = some (.int .u8 (spAt es i).1) ∧ (ft es)[i * 5 + 1]? = some (.int .u8 (spAt es i).2.1) ∧ (ft es)[i * 5 + 2]? = some (.int .i64 (spAt es i).2.2.1) ∧ (ft es)[i * 5 + 3]? = some (.int .i64 (spAt es i).2.2.2.1) ∧ (ft es)[i * 5 + 4]? = some (.int .i64 (spAt es i).2.2.2.2)
  | [], i, h => by simp at h
  | e :: es, 0, _ => by rw [ft_cons]; simp [spAt]
  | e :: es, i + 1, h => by
    have := ft_get es i (by simpa using h)
    rw [ft_cons]
    simp only [show (i + 1) * 5 = i * 5 + 1 + 1 + 1 + 1 + 1 by omega, List.getElem?_cons_succ]
    simpa [spAt] using this
theorem ft_ones (es : List Sp) : ∀ u ∈ ft es, u.oneCell' = true := by
  intro u hu
  obtain ⟨e, _, he⟩ := List.mem_flatMap.1 hu
  simp [stc] at he
  rcases he with rfl | rfl | rfl | rfl | rfl <;> rfl
/-- A slice of five cells each that reads as steps. -/
def RdS (w : World) (v : Value) (es : List Sp) : Prop :=
  ∃ a c, v = .slice a es.length c ∧ es.length ≤ c ∧ c ≤ maxLen ∧ (0 < es.length → ∃ g off, a = some ⟨g, off, none⟩ ∧ g < w.heap.size ∧ ∀ i, i < es.length →
    w.cell? ⟨g, off + i * 5, none⟩ = some (.int .u8 (spAt es i).1) ∧ w.cell? ⟨g, off + i * 5 + 1, none⟩ = some (.int .u8 (spAt es i).2.1) ∧ w.cell? ⟨g, off + i * 5 + 2, none⟩ = some (.int .i64 (spAt es i).2.2.1) ∧ w.cell? ⟨g, off + i * 5 + 3, none⟩ = some (.int .i64 (spAt es i).2.2.2.1) ∧ w.cell? ⟨g, off + i * 5 + 4, none⟩ = some (.int .i64 (spAt es i).2.2.2.2))
theorem RdS.below {w w' : World} {v : Value} {es : List Sp} (h : RdS w v es) (hb : Below w.heap.size w w') : RdS w' v es := by
  obtain ⟨a, c, h1, h2, h3, h4⟩ := h
  refine ⟨a, c, h1, h2, h3, fun h0 => ?_⟩
  obtain ⟨g, off, e, hg, hc⟩ := h4 h0
  have hs := hb.size
  refine ⟨g, off, e, by omega, fun i hi => ?_⟩
  obtain ⟨q0, q1, q2, q3, q4⟩ := hc i hi
  exact ⟨(hb.cell (p := ⟨g, _, none⟩) hg).trans q0, (hb.cell (p := ⟨g, _, none⟩) hg).trans q1, (hb.cell (p := ⟨g, _, none⟩) hg).trans q2, (hb.cell (p := ⟨g, _, none⟩) hg).trans q3, (hb.cell (p := ⟨g, _, none⟩) hg).trans q4⟩
theorem own_rdS {w : World} {base : Nat} {t : TypeId} {v : Value} {es : List Sp} (h : w.ownsRow base t 5 v es.length (ft es)) : RdS w v es := by
  obtain ⟨h0, ⟨h1, h2⟩ | ⟨q, cap, cur, h1, h2, h3, h4, h5, h6, h7⟩⟩ := id h
  · exact ⟨none, 0, by rw [h1, h2], by omega, by simp, fun h => by omega⟩
  · refine ⟨_, cap, h1, h4, h5, fun hn => ⟨q, 0, rfl, by obtain ⟨hl, _⟩ := Array.getElem?_eq_some_iff.1 h3; exact hl, fun i hi => ?_⟩⟩
    subst h1
    obtain ⟨k0, k1, k2, k3, k4⟩ := ft_get es i hi
    have k := fun j => h.cellAt (g := q) (cap := cap) j
    have hl := ft_len es
    simp only [Nat.zero_add]
    exact ⟨(k _ (by omega)).trans k0, (k _ (by omega)).trans k1, (k _ (by omega)).trans k2, (k _ (by omega)).trans k3, (k _ (by omega)).trans k4⟩
theorem own_sliceS {w : World} {base sz n : Nat} {t : TypeId} {v : Value} {xs : List Value} (h : w.ownsRow base t sz v n xs) : ∃ a c, v = .slice a n c := by
  obtain ⟨h0, ⟨h1, h2⟩ | ⟨g, cap, cur, h1, _⟩⟩ := h
  · exact ⟨none, 0, by rw [h1, h2]⟩
  · exact ⟨_, _, h1⟩
theorem news_st (w : World) (x : Sp) (t : TypeId) : ∀ j u, (ft [x])[j]? = some u → (w.alloc (.cells #[.int .u8 x.1, .int .u8 x.2.1, .int .i64 x.2.2.1, .int .i64 x.2.2.2.1, .int .i64 x.2.2.2.2] t)).cell? ((⟨w.heap.size, 0, none⟩ : Addr).add j) = some u := by
  intro j u hj
  have hn := heap_alloc_new w (.cells #[.int .u8 x.1, .int .u8 x.2.1, .int .i64 x.2.2.1, .int .i64 x.2.2.2.1, .int .i64 x.2.2.2.2] t)
  rw [Addr.add_lit, Nat.zero_add]
  simp only [World.cell?, hn]
  match j, hj with
  | 0, hj => simp [ft, stc] at hj; subst hj; rfl
  | 1, hj => simp [ft, stc] at hj; subst hj; rfl
  | 2, hj => simp [ft, stc] at hj; subst hj; rfl
  | 3, hj => simp [ft, stc] at hj; subst hj; rfl
  | 4, hj => simp [ft, stc] at hj; subst hj; rfl
  | n + 5, hj => simp [ft, stc] at hj
/-- A script's rounds: its boxes, and the steps so far. -/
structure Pz (w0 : World) (p g off cb base : Nat) (s : ByteArray) (P M G : Int) (i : Nat) (L : List Sp) (v : Value) (w : World) : Prop where
  lf : Lf w p g off s i
  cf : w.heap[cb]? = some (.cells #[.int .i64 P, .int .i64 M, .int .i64 G] 25 (0, 0))
  rb : w.heap[w0.heap.size]? = some (.cells #[.int .i64 0, .int .i64 0, .int .i64 0] 25 (0, 0))
  ow : w.ownsRow base 34 5 v L.length (ft L)
  bl : Below w0.heap.size w0 w
  hp : p = w0.heap.size + 1
  hc : p < cb
  hb : cb < base
  bs : base ≤ w.heap.size
  gl : 0 < s.size → g < w0.heap.size
section
variable {w0 w w' : World} {p g off cb base : Nat} {s : ByteArray} {P M G : Int} {i : Nat} {L : List Sp} {v : Value}
theorem Pz.size (h : Pz w0 p g off cb base s P M G i L v w) : w0.heap.size ≤ w.heap.size := by have := h.hp; have := h.hc; have := h.hb; have := h.bs; omega
theorem Pz.next (h : Pz w0 p g off cb base s P M G i L v w) {j : Nat} (hl : Lf w' p g off s j) (ho : O1 p w w') : Pz w0 p g off cb base s P M G j L v w' := by
  have h1 := h.hp
  have h2 := h.hc
  have h3 := h.hb
  have h4 := h.bs
  have h5 := ho.size
  exact ⟨hl, (ho.block _ (by omega) (by omega)).trans h.cf, (ho.block _ (by omega) (by omega)).trans h.rb,
    h.ow.kept (row := some p) ⟨ho.os, ho.tape, ho.output, ho.size, fun k hk hn => ho.block k hk (fun e => hn (by rw [e]))⟩ (by
      rcases hv : v.ownBlock with _ | q
      · exact .inl rfl
      · have := (World.ownsRow.lt h.ow q hv).1
        exact .inr (by simp; omega)),
    h.bl.trans (ho.below (by omega) (by omega)), h1, h2, h3, by omega, h.gl⟩
theorem Pz.below (h : Pz w0 p g off cb base s P M G i L v w) (hb : Below w.heap.size w w') : Pz w0 p g off cb base s P M G i L v w' := h.next (h.lf.below hb) (O1.of_below hb)
theorem Pz.grow (h : Pz w0 p g off cb base s P M G i L v w) {L' : List Sp} {v' : Value} (ho : w'.ownsRow base 34 5 v' L'.length (ft L')) (hg : w.grownBy w' v.ownBlock) : Pz w0 p g off cb base s P M G i L' v' w' := by
  have h1 := h.hp
  have h2 := h.hc
  have h3 := h.hb
  have h4 := h.bs
  have h5 := hg.size
  have hv : ∀ k, v.ownBlock = some k → base ≤ k := fun k hk => (World.ownsRow.lt h.ow k hk).1
  have hB : Below base w w' := (Below.refl base w).grown hg (by omega) hv
  obtain ⟨a, c, e1, e2, e3, e4⟩ := h.lf
  have hgl := h.gl
  refine ⟨⟨a, c, (hB.block _ (by omega)).trans e1, e2, e3, fun hi => ?_⟩, (hB.block _ (by omega)).trans h.cf, (hB.block _ (by omega)).trans h.rb, ho, h.bl.trans (hB.mono (by omega)), h1, h2, h3, by omega, h.gl⟩
  obtain ⟨q1, q2, q3, q4⟩ := e4 hi
  have := hgl (by omega)
  exact ⟨q1, q2, by omega, fun j hj => (hB.cell (p := ⟨g, off + j, none⟩) (by simp; omega)).trans (q4 j hj)⟩
/-- .. with the step that is taken again and again. -/
structure Pj (w0 : World) (p g off cb base : Nat) (s : ByteArray) (P M G : Int) (i : Nat) (L : List Sp) (v : Value) (sb : Nat) (x : Sp) (w : World) : Prop where
  z : Pz w0 p g off cb base s P M G i L v w
  bx : w.heap[sb]? = some (.cells #[.int .u8 x.1, .int .u8 x.2.1, .int .i64 x.2.2.1, .int .i64 x.2.2.2.1, .int .i64 x.2.2.2.2] 34 (0, 0))
  ne : v.ownBlock ≠ some sb
theorem Pz.box (h : Pz w0 p g off cb base s P M G i L v w) (x : Sp) : Pj w0 p g off cb base s P M G i L v w.heap.size x (w.alloc (.cells #[.int .u8 x.1, .int .u8 x.2.1, .int .i64 x.2.2.1, .int .i64 x.2.2.2.1, .int .i64 x.2.2.2.2] 34)) :=
  ⟨h.below ((Below.refl _ _).alloc (Nat.le_refl _) _), heap_alloc_new _ _, fun e => by have := (World.ownsRow.lt h.ow _ e).2; omega⟩
theorem Pj.alloc {sb : Nat} {x : Sp} (h : Pj w0 p g off cb base s P M G i L v sb x w) (o : Obj) : Pj w0 p g off cb base s P M G i L v sb x (w.alloc o) := by
  have hb : Below w.heap.size w (w.alloc o) := (Below.refl _ _).alloc (Nat.le_refl _) o
  exact ⟨h.z.below hb, (hb.block _ (Array.getElem?_eq_some_iff.1 h.bx).1).trans h.bx, h.ne⟩
theorem Pj.grow {sb : Nat} {x : Sp} (h : Pj w0 p g off cb base s P M G i L v sb x w) {L' : List Sp} {v' : Value} (ho : w'.ownsRow base 34 5 v' L'.length (ft L')) (hg : w.grownBy w' v.ownBlock) (hx : v'.ownBlock = v.ownBlock ∨ v'.ownBlock = some w.heap.size) : Pj w0 p g off cb base s P M G i L' v' sb x w' := by
  have hl := (Array.getElem?_eq_some_iff.1 h.bx).1
  refine ⟨h.z.grow ho hg, (hg.block _ hl (fun e => h.ne e.symm)).trans h.bx, ?_⟩
  rcases hx with e | e
  · rw [e]; exact h.ne
  · rw [e]; simp; omega
end
/-- How much is left to read. -/
def leftN (p : Nat) (w : World) : Nat := match w.cell? ⟨p, 0, none⟩ with
  | some (.slice _ n _) => n
  | _ => 0
theorem Lf.left {w : World} {p g off i : Nat} {s : ByteArray} (h : Lf w p g off s i) : leftN p w = s.size - i ∧ ∃ a c, w.cell? ⟨p, 0, none⟩ = some (.slice a (s.size - i) c) ∧ w.frozen? ⟨p, 0, none⟩ = false := by
  obtain ⟨a, c, h1, _⟩ := h
  have hc : w.cell? ⟨p, 0, none⟩ = some (.slice a (s.size - i) c) := by simp [World.cell?, h1]
  exact ⟨by unfold leftN; rw [hc], a, c, hc, by simp [World.frozen?, h1]⟩
theorem infoSt : (Tryz.prog.info? 34).map (fun i => (i.zero, i.size, i.bytes)) = some (some (.agg #[.int .u8 0, .int .u8 0, .int .i64 0, .int .i64 0, .int .i64 0]), 5, 32) := by kernel_rfl
end Go.Proofs.YtpgamdnkdoebgaaGreatDoor
