/- script.step (written by wip/tools/genst7.py). -/
import Derived.Test.YtpgamdnkdoebgaaGreatDoorScC
import Derived.Deep.CutBlock
namespace Go.Proofs.YtpgamdnkdoebgaaGreatDoor
open Go.RowKit
set_option linter.unusedVariables false
set_option linter.unusedSimpArgs false
set_option maxRecDepth 20000
theorem cells5 {w : World} {B : Nat} {a b c d e : Value} {t : TypeId} (h : w.heap[B]? = some (.cells #[a, b, c, d, e] t (0, 0))) :
    (w.cell? ⟨B, 0, none⟩ = some a ∧ w.cell? ⟨B, 1, none⟩ = some b ∧ w.cell? ⟨B, 2, none⟩ = some c ∧ w.cell? ⟨B, 3, none⟩ = some d ∧ w.cell? ⟨B, 4, none⟩ = some e) ∧
    w.frozen? ⟨B, 0, none⟩ = false ∧ w.frozen? ⟨B, 1, none⟩ = false ∧ w.frozen? ⟨B, 2, none⟩ = false ∧ w.frozen? ⟨B, 3, none⟩ = false ∧ w.frozen? ⟨B, 4, none⟩ = false := by simp [World.cell?, World.frozen?, h]
def spV (x : Sp) : Array Value := #[.int .u8 x.1, .int .u8 x.2.1, .int .i64 x.2.2.1, .int .i64 x.2.2.2.1, .int .i64 x.2.2.2.2]
/-- The boxes of step: the config, the answer, what is picked. -/
structure Sbx (w0 : World) (p g off : Nat) (s : ByteArray) (i : Nat) (P M G : Int) (E : Nat) (pk : Array Value) (w : World) : Prop where
  lf : Lf w p g off s i
  bc : w.heap[w0.heap.size]? = some (.cells #[.int .i64 P, .int .i64 M, .int .i64 G] 25 (0, 0))
  ba : w.heap[w0.heap.size + 1]? = some (.cells #[.int .u8 0, .int .u8 0, .int .i64 0, .int .i64 0, .int .i64 0] 34 (0, 0))
  be : E ≠ 0 → w.heap[E]? = some (.cells pk 34 (0, 0))
  o : O1 p w0 w
  pl : p < w0.heap.size
  gl : 0 < s.size → g < w0.heap.size
  El : E ≠ 0 → w0.heap.size + 2 ≤ E
theorem Sbx.next {w0 w w' : World} {p g off i E : Nat} {s : ByteArray} {P M G : Int} {pk : Array Value} (h : Sbx w0 p g off s i P M G E pk w) (hl : Lf w' p g off s (i + 1)) (ho : O1 p w w') : Sbx w0 p g off s (i + 1) P M G E pk w' := by
  have hp := h.pl
  exact ⟨hl, (ho.block _ (Array.getElem?_eq_some_iff.1 h.bc).1 (by omega)).trans h.bc, (ho.block _ (Array.getElem?_eq_some_iff.1 h.ba).1 (by omega)).trans h.ba, fun hE => (ho.block _ (Array.getElem?_eq_some_iff.1 (h.be hE)).1 (by have := h.El hE; omega)).trans (h.be hE), h.o.trans ho, h.pl, h.gl, h.El⟩
theorem Sbx.drew {w0 w : World} {p g off i E : Nat} {s : ByteArray} {P M G : Int} {pk : Array Value} (h : Sbx w0 p g off s i P M G E pk w) : Sbx w0 p g off s i P M G E pk w.drew :=
  ⟨h.lf.below (Quiet.below ⟨1, rfl⟩ _), h.bc, h.ba, h.be, h.o.trans (O1.of_below (Quiet.below ⟨1, rfl⟩ _)), h.pl, h.gl, h.El⟩
theorem Sbx.new {w : World} {p g off i : Nat} {s : ByteArray} (h : Lf w p g off s i) (hg : 0 < s.size → g < w.heap.size) (P M G : Int) : Sbx w p g off s i P M G 0 #[] ((w.alloc (.cells #[.int .i64 P, .int .i64 M, .int .i64 G] 25)).alloc (.cells #[.int .u8 0, .int .u8 0, .int .i64 0, .int .i64 0, .int .i64 0] 34)) := by
  have hb : Below w.heap.size w ((w.alloc (.cells #[.int .i64 P, .int .i64 M, .int .i64 G] 25)).alloc (.cells #[.int .u8 0, .int .u8 0, .int .i64 0, .int .i64 0, .int .i64 0] 34)) := ((Below.refl _ _).alloc (Nat.le_refl _) _).alloc (by simp) _
  refine ⟨h.below hb, ?_, ?_, fun h => absurd rfl h, O1.of_below hb, h.lt, hg, fun h => absurd rfl h⟩
  · rw [Below.heap_alloc _ _ _ (by simp)]; exact heap_alloc_new _ _
  · have := heap_alloc_new (w.alloc (.cells #[.int .i64 P, .int .i64 M, .int .i64 G] 25)) (.cells #[.int .u8 0, .int .u8 0, .int .i64 0, .int .i64 0, .int .i64 0] 34)
    rw [World.size_alloc] at this
    exact this
theorem Sbx.pick {w0 w : World} {p g off i : Nat} {s : ByteArray} {P M G : Int} {pk0 : Array Value} (h : Sbx w0 p g off s i P M G 0 pk0 w) (pk : Array Value) : Sbx w0 p g off s i P M G w.heap.size pk (w.alloc (.cells pk 34)) := by
  have hb : Below w.heap.size w (w.alloc (.cells pk 34)) := (Below.refl _ _).alloc (Nat.le_refl _) _
  have h1 := (Array.getElem?_eq_some_iff.1 h.ba).1
  exact ⟨h.lf.below hb, (hb.block _ (by omega)).trans h.bc, (hb.block _ h1).trans h.ba, fun _ => heap_alloc_new _ _, h.o.trans (O1.of_below hb), h.pl, h.gl, fun _ => by omega⟩
theorem Sbx.set {w0 w : World} {p g off i E : Nat} {s : ByteArray} {P M G : Int} {pk : Array Value} (h : Sbx w0 p g off s i P M G E pk w) (hE : E ≠ 0) (j : Nat) (x : Value) (pk' : Array Value) (hx : pk.setIfInBounds j x = pk') : Sbx w0 p g off s i P M G E pk' (w.setCell ⟨E, j, none⟩ x) := by
  have hp := h.pl
  have hEl := h.El hE
  refine ⟨lf_other h.lf _ _ _ (by omega) (fun hi => by have := h.gl (by omega); omega), (heap_setCell_other w _ _ _ (by simp; omega)).trans h.bc, (heap_setCell_other w _ _ _ (by simp; omega)).trans h.ba, fun _ => ?_, ⟨h.o.os, h.o.tape, h.o.output, by simp [World.setCell]; exact h.o.size, fun k hk hn => (heap_setCell_other w _ _ _ (by simp; omega)).trans (h.o.block k hk hn)⟩, h.pl, h.gl, h.El⟩
  rw [heap_setCell_same w _ j _ _ _ (h.be hE), hx]
theorem o1_set {p : Nat} {w0 w : World} (h : O1 p w0 w) (B j : Nat) (v : Value) (hB : w0.heap.size ≤ B) : O1 p w0 (w.setCell ⟨B, j, none⟩ v) :=
  ⟨h.os, h.tape, h.output, by simp [World.setCell]; exact h.size, fun k hk hn => (heap_setCell_other w _ _ _ (by simp; omega)).trans (h.block k hk hn)⟩
/-- The answer is stored. -/
def ansW (w : World) (B : Nat) (x : Sp) : World := ((((w.setCell ⟨B, 0, none⟩ (.int .u8 x.1)).setCell ⟨B, 1, none⟩ (.int .u8 x.2.1)).setCell ⟨B, 2, none⟩ (.int .i64 x.2.2.1)).setCell ⟨B, 3, none⟩ (.int .i64 x.2.2.2.1)).setCell ⟨B, 4, none⟩ (.int .i64 x.2.2.2.2)
theorem Sbx.fin {w0 w : World} {p g off i E : Nat} {s : ByteArray} {P M G : Int} {pk : Array Value} (h : Sbx w0 p g off s i P M G E pk w) (x : Sp) :
    (ansW w (w0.heap.size + 1) x).heap[w0.heap.size + 1]? = some (.cells (spV x) 34 (0, 0)) ∧ Lf (ansW w (w0.heap.size + 1) x) p g off s i ∧ O1 p w0 (ansW w (w0.heap.size + 1) x) := by
  have hp := h.pl
  have hg := h.gl
  have e0 := heap_setCell_same w _ 0 _ _ (.int .u8 x.1) h.ba
  have e1 := heap_setCell_same _ _ 1 _ _ (.int .u8 x.2.1) e0
  have e2 := heap_setCell_same _ _ 2 _ _ (.int .i64 x.2.2.1) e1
  have e3 := heap_setCell_same _ _ 3 _ _ (.int .i64 x.2.2.2.1) e2
  have e4 := heap_setCell_same _ _ 4 _ _ (.int .i64 x.2.2.2.2) e3
  have lo := fun (w : World) (hl : Lf w p g off s i) (j : Nat) (v : Value) => lf_other hl (w0.heap.size + 1) j v (by omega) (fun hi => by have := hg (by omega); omega)
  have oo := fun (w : World) (ho : O1 p w0 w) (j : Nat) (v : Value) => o1_set ho (w0.heap.size + 1) j v (by omega)
  unfold ansW spV
  simp only [List.setIfInBounds_toArray, List.set_cons_succ, List.set_cons_zero] at e4
  exact ⟨e4, lo _ (lo _ (lo _ (lo _ (lo _ h.lf _ _) _ _) _ _) _ _) _ _, oo _ (oo _ (oo _ (oo _ (oo _ h.o _ _) _ _) _ _) _ _) _ _⟩
theorem Sbx.finE {w0 w : World} {p g off i E : Nat} {s : ByteArray} {P M G : Int} {pk : Array Value} (h : Sbx w0 p g off s i P M G E pk w) (hE : E ≠ 0) (x : Sp) :
    (ansW w (w0.heap.size + 1) x).heap[E]? = some (.cells pk 34 (0, 0)) := by
  have hEl := h.El hE
  unfold ansW
  rw [heap_setCell_other _ _ _ _ (by simp; omega), heap_setCell_other _ _ _ _ (by simp; omega), heap_setCell_other _ _ _ _ (by simp; omega), heap_setCell_other _ _ _ _ (by simp; omega), heap_setCell_other _ _ _ _ (by simp; omega)]
  exact h.be hE
/-- What step answers. -/
def StP (p g off : Nat) (s : ByteArray) (M G : Int) (i : Nat) (w : World) (e : Ending) (w' : World) : Prop :=
  e = .returned (.tuple #[.agg (spV (stepS s M G i).1), .int .i64 (stepS s M G i).2.1]) ∧ Lf w' p g off s (stepS s M G i).2.2 ∧ O1 p w w'
theorem StP.mk {w w1 : World} {p g off i j : Nat} {s : ByteArray} {M G P : Int} {E : Nat} {pk : Array Value} (x : Sp) (n : Int) (h : stepS s M G i = (x, n, j)) (hS : Sbx w p g off s j P M G E pk w1) :
    StP p g off s M G i w (.returned (.tuple #[.agg #[.int .u8 x.1, .int .u8 x.2.1, .int .i64 x.2.2.1, .int .i64 x.2.2.2.1, .int .i64 x.2.2.2.2], .int .i64 n])) (ansW w1 (w.heap.size + 1) x) := by
  unfold StP
  rw [h]
  exact ⟨rfl, (hS.fin x).2⟩
set_option maxHeartbeats 16000000 in
theorem sstep (w : World) (p g off : Nat) (s : ByteArray) (i : Nat) (P M G : Int) (h : Lf w p g off s i) (hg : 0 < s.size → g < w.heap.size) (hs : s.size ≤ 100000) (hM : 1 ≤ M) (hG : 1 ≤ G) : Calls Tryz.prog 22 #[.pointer (some ⟨p, 0, none⟩), .agg #[.int .i64 P, .int .i64 M, .int .i64 G]] w (StP p g off s M G i w) := by
  have K0 := hid (Sbx.new h hg P M G)
  have NX := hid (fun w i (h : Lf w p g off s i) => snext w p g off s i h hs)
  have A0 := atB_rng s i
  have A1 := atB_rng s (i + 1)
  have A2 := atB_rng s (i + 2)
  obtain ⟨SS, hSS⟩ : ∃ SS, SS = stepS s M G i := ⟨_, rfl⟩
  have HSS := hid hSS.symm
  unfold stepS at hSS
  simp only at hSS
  have NX0 := hid (fun w h => NX.out w i h)
  have NX1 := hid (fun w h => NX.out w (i + 1) h)
  have NX2 := hid (fun w h => NX.out w (i + 2) h)
  unfold NxP at NX0 NX1 NX2
  generalize atB s i = k at *
  generalize atB s (i + 1) = a at *
  generalize atB s (i + 2) = x at *
  have hk16 : 0 ≤ k / 16 := by omega
  have hkm0 : 0 ≤ k / 16 % M := Int.emod_nonneg _ (by omega)
  have hM0 : ¬ M = 0 := by omega
  have hG0 : ¬ G = 0 := by omega
  clear h hg NX
  rcases (show (k % 16 = 10 ∨ k % 16 = 11) ∨ k % 16 = 12 ∨ k % 16 = 13 ∨ k % 16 = 14 ∨ k % 16 = 15 ∨ (k % 16 ≠ 10 ∧ k % 16 ≠ 11 ∧ k % 16 ≠ 12 ∧ k % 16 ≠ 13 ∧ k % 16 ≠ 14 ∧ k % 16 ≠ 15) by omega) with r | r | r | r | r | ⟨r1, r2, r3, r4, r5, r6⟩
  · rw [if_pos r] at hSS
    have a8 : 0 ≤ a % 8 ∧ a % 8 ≤ 7 := by omega
    have aw : IntKind.u8.wrap (a % 8) = a % 8 := by
      have hb : IntKind.u8.bits = 8 := rfl
      have hs : IntKind.u8.signed = false := rfl
      simp [IntKind.wrap, hb, hs]; omega
    have TR : Hid (((k % 16 == 10) = true ∨ ((k % 16 == 10) = false ∧ (k % 16 == 11) = true))) := hid (by rcases r with e | e <;> simp [e])
    clear r
    by_cases a7 : a % 8 = 7
    · rw [if_pos a7] at hSS
      have a7b : (a % 8 == 7) = true := by simpa using a7
      clear a7
      rcases TR.out with t1 | ⟨t1, t2⟩
      all_goals
        have HX : Hid (stepS s M G i = (((0, a % 8, k / 16 % M, x, 0) : Sp), 1, i + 3)) := hid (HSS.out.trans hSS)
        clear hSS HSS
        go_enter Tryz.func22, Tryz.ntmps22
        go_upto_region 1 with (fail)
        generalize ((w.alloc (.cells #[.int .i64 P, .int .i64 M, .int .i64 G] 25)).alloc (.cells #[.int .u8 0, .int .u8 0, .int .i64 0, .int .i64 0, .int .i64 0] 34)) = W0 at *
        have C0 := hid (NX0.out W0 K0.out.lf)
        go_wp2_with fail
        refine C0.out.mono ?_
        rintro e w1 ⟨rfl, hl, ho⟩
        have K1 := hid (K0.out.next hl ho)
        clear hl ho C0 K0 NX0
        obtain ⟨⟨c0, c1, c2⟩, _⟩ := cells3 K1.out.bc
        have K2 := hid (K1.out.pick #[.int .u8 0, .int .u8 0, .int .i64 (k / 16 % M), .int .i64 0, .int .i64 0])
        have hE := hid (show w1.heap.size ≠ 0 from by have := (Array.getElem?_eq_some_iff.1 K1.out.bc).1; omega)
        go_upto_region 3 with (fail)
        clear c0 c1 c2 K1
        generalize hEE : w1.heap.size = E at *
        generalize w1.alloc (.cells #[.int .u8 0, .int .u8 0, .int .i64 (k / 16 % M), .int .i64 0, .int .i64 0] 34) = w2 at *
        clear hEE
        have C1 := hid (NX1.out w2 K2.out.lf)
        go_wp2_with fail
        refine C1.out.mono ?_
        rintro e w3 ⟨rfl, hl, ho⟩
        have K3 := hid (K2.out.next hl ho)
        clear hl ho C1 NX1
        have C1 := hid (NX2.out w3 K3.out.lf)
        go_wp2_with fail
        refine C1.out.mono ?_
        rintro e w4 ⟨rfl, hl, ho⟩
        have K4 := hid (K3.out.next hl ho)
        clear hl ho C1 NX2
        obtain ⟨⟨b0, b1, b2, b3, b4⟩, g0, g1, g2, g3, g4⟩ := cells5 (K4.out.be hE.out)
        have K5 := hid ((K4.out.set hE.out 1 (.int .u8 (a % 8)) _ rfl).set hE.out 3 (.int .i64 x) _ rfl)
        simp only [List.setIfInBounds_toArray, List.set_cons_succ, List.set_cons_zero] at K5
        go_upto_region 7 with (fail)
        clear b0 b1 b2 b3 b4 g0 g1 g2 g3 g4 K2 K3 K4
        generalize (w4.setCell ⟨E, 1, none⟩ (.int .u8 (a % 8))).setCell ⟨E, 3, none⟩ (.int .i64 x) = w5 at *
        have FN := hid (K5.out.fin ((0, a % 8, k / 16 % M, x, 0) : Sp))
        have SP := hid (StP.mk ((0, a % 8, k / 16 % M, x, 0) : Sp) 1 HX.out K5.out)
        unfold ansW at FN SP
        simp only at FN SP
        obtain ⟨⟨a0, a1, a2, a3, a4⟩, f0, f1, f2, f3, f4⟩ := cells5 K5.out.ba
        obtain ⟨⟨b0, b1, b2, b3, b4⟩, _⟩ := cells5 (K5.out.be hE.out)
        go_wp2
        obtain ⟨⟨e0, e1, e2, e3, e4⟩, _⟩ := cells5 FN.out.1
        exact bodyPost_ret (by simp [results, Tryz.results22, go_sem, e0, e1, e2, e3, e4]) rfl SP.out
    · rw [if_neg a7] at hSS
      have a7b : (a % 8 == 7) = false := by simpa using a7
      clear a7
      rcases TR.out with t1 | ⟨t1, t2⟩
      all_goals
        have HX : Hid (stepS s M G i = (((0, a % 8, k / 16 % M, x % G, 0) : Sp), 1, i + 3)) := hid (HSS.out.trans hSS)
        clear hSS HSS
        go_enter Tryz.func22, Tryz.ntmps22
        go_upto_region 1 with (fail)
        generalize ((w.alloc (.cells #[.int .i64 P, .int .i64 M, .int .i64 G] 25)).alloc (.cells #[.int .u8 0, .int .u8 0, .int .i64 0, .int .i64 0, .int .i64 0] 34)) = W0 at *
        have C0 := hid (NX0.out W0 K0.out.lf)
        go_wp2_with fail
        refine C0.out.mono ?_
        rintro e w1 ⟨rfl, hl, ho⟩
        have K1 := hid (K0.out.next hl ho)
        clear hl ho C0 K0 NX0
        obtain ⟨⟨c0, c1, c2⟩, _⟩ := cells3 K1.out.bc
        have K2 := hid (K1.out.pick #[.int .u8 0, .int .u8 0, .int .i64 (k / 16 % M), .int .i64 0, .int .i64 0])
        have hE := hid (show w1.heap.size ≠ 0 from by have := (Array.getElem?_eq_some_iff.1 K1.out.bc).1; omega)
        go_upto_region 3 with (fail)
        clear c0 c1 c2 K1
        generalize hEE : w1.heap.size = E at *
        generalize w1.alloc (.cells #[.int .u8 0, .int .u8 0, .int .i64 (k / 16 % M), .int .i64 0, .int .i64 0] 34) = w2 at *
        clear hEE
        have C1 := hid (NX1.out w2 K2.out.lf)
        go_wp2_with fail
        refine C1.out.mono ?_
        rintro e w3 ⟨rfl, hl, ho⟩
        have K3 := hid (K2.out.next hl ho)
        clear hl ho C1 NX1
        have C1 := hid (NX2.out w3 K3.out.lf)
        go_wp2_with fail
        refine C1.out.mono ?_
        rintro e w4 ⟨rfl, hl, ho⟩
        have K4 := hid (K3.out.next hl ho)
        clear hl ho C1 NX2
        obtain ⟨⟨b0, b1, b2, b3, b4⟩, g0, g1, g2, g3, g4⟩ := cells5 (K4.out.be hE.out)
        have K5 := hid ((K4.out.set hE.out 1 (.int .u8 (a % 8)) _ rfl).set hE.out 3 (.int .i64 x) _ rfl)
        simp only [List.setIfInBounds_toArray, List.set_cons_succ, List.set_cons_zero] at K5
        go_upto_region 7 with (fail)
        clear b0 b1 b2 b3 b4 g0 g1 g2 g3 g4 K2 K3 K4
        generalize (w4.setCell ⟨E, 1, none⟩ (.int .u8 (a % 8))).setCell ⟨E, 3, none⟩ (.int .i64 x) = w5 at *
        obtain ⟨⟨b0, b1, b2, b3, b4⟩, g0, g1, g2, g3, g4⟩ := cells5 (K5.out.be hE.out)
        obtain ⟨⟨c0, c1, c2⟩, _⟩ := cells3 K5.out.bc
        have hx0 : 0 ≤ x := by omega
        have K6 := hid (K5.out.set hE.out 3 (.int .i64 (x % G)) _ rfl)
        simp only [List.setIfInBounds_toArray, List.set_cons_succ, List.set_cons_zero] at K6
        go_upto_region 17 with (fail)
        clear b0 b1 b2 b3 b4 g0 g1 g2 g3 g4 c0 c1 c2 K5
        generalize w5.setCell ⟨E, 3, none⟩ (.int .i64 (x % G)) = w6 at *
        have FN := hid (K6.out.fin ((0, a % 8, k / 16 % M, x % G, 0) : Sp))
        have SP := hid (StP.mk ((0, a % 8, k / 16 % M, x % G, 0) : Sp) 1 HX.out K6.out)
        unfold ansW at FN SP
        simp only at FN SP
        obtain ⟨⟨a0, a1, a2, a3, a4⟩, f0, f1, f2, f3, f4⟩ := cells5 K6.out.ba
        obtain ⟨⟨b0, b1, b2, b3, b4⟩, _⟩ := cells5 (K6.out.be hE.out)
        go_wp2
        obtain ⟨⟨e0, e1, e2, e3, e4⟩, _⟩ := cells5 FN.out.1
        exact bodyPost_ret (by simp [results, Tryz.results22, go_sem, e0, e1, e2, e3, e4]) rfl SP.out
  · rw [if_neg (by omega), if_pos r] at hSS
    have n10 : (k % 16 == 10) = false := by simpa using (show ¬ k % 16 = 10 by omega)
    have n11 : (k % 16 == 11) = false := by simpa using (show ¬ k % 16 = 11 by omega)
    have n12 : (k % 16 == 12) = true := by simpa using (show k % 16 = 12 by omega)
    clear r
    have HX : Hid (stepS s M G i = (((0, 6, k / 16 % M, 0, a - 4) : Sp), 1, i + 2)) := hid (HSS.out.trans hSS)
    clear hSS HSS
    go_enter Tryz.func22, Tryz.ntmps22
    go_upto_region 1 with (fail)
    generalize ((w.alloc (.cells #[.int .i64 P, .int .i64 M, .int .i64 G] 25)).alloc (.cells #[.int .u8 0, .int .u8 0, .int .i64 0, .int .i64 0, .int .i64 0] 34)) = W0 at *
    have C0 := hid (NX0.out W0 K0.out.lf)
    go_wp2_with fail
    refine C0.out.mono ?_
    rintro e w1 ⟨rfl, hl, ho⟩
    have K1 := hid (K0.out.next hl ho)
    clear hl ho C0 K0 NX0
    obtain ⟨⟨c0, c1, c2⟩, _⟩ := cells3 K1.out.bc
    have K2 := hid (K1.out.pick #[.int .u8 0, .int .u8 0, .int .i64 (k / 16 % M), .int .i64 0, .int .i64 0])
    have hE := hid (show w1.heap.size ≠ 0 from by have := (Array.getElem?_eq_some_iff.1 K1.out.bc).1; omega)
    go_upto_region 3 with (fail)
    clear c0 c1 c2 K1
    generalize hEE : w1.heap.size = E at *
    generalize w1.alloc (.cells #[.int .u8 0, .int .u8 0, .int .i64 (k / 16 % M), .int .i64 0, .int .i64 0] 34) = w2 at *
    clear hEE
    have C1 := hid (NX1.out w2 K2.out.lf)
    go_wp2_with fail
    refine C1.out.mono ?_
    rintro e w3 ⟨rfl, hl, ho⟩
    have K3 := hid (K2.out.next hl ho)
    clear hl ho C1 NX1
    obtain ⟨⟨b0, b1, b2, b3, b4⟩, g0, g1, g2, g3, g4⟩ := cells5 (K3.out.be hE.out)
    have K5 := hid ((K3.out.set hE.out 1 (.int .u8 6) _ rfl).set hE.out 4 (.int .i64 (a - 4)) _ rfl)
    simp only [List.setIfInBounds_toArray, List.set_cons_succ, List.set_cons_zero] at K5
    go_upto_region 17 with (fail)
    clear b0 b1 b2 b3 b4 g0 g1 g2 g3 g4 K2 K3
    generalize (w3.setCell ⟨E, 1, none⟩ (.int .u8 6)).setCell ⟨E, 4, none⟩ (.int .i64 (a - 4)) = w5 at *
    have FN := hid (K5.out.fin ((0, 6, k / 16 % M, 0, a - 4) : Sp))
    have SP := hid (StP.mk ((0, 6, k / 16 % M, 0, a - 4) : Sp) 1 HX.out K5.out)
    unfold ansW at FN SP
    simp only at FN SP
    obtain ⟨⟨a0, a1, a2, a3, a4⟩, f0, f1, f2, f3, f4⟩ := cells5 K5.out.ba
    obtain ⟨⟨b0, b1, b2, b3, b4⟩, _⟩ := cells5 (K5.out.be hE.out)
    go_wp2
    obtain ⟨⟨e0, e1, e2, e3, e4⟩, _⟩ := cells5 FN.out.1
    exact bodyPost_ret (by simp [results, Tryz.results22, go_sem, e0, e1, e2, e3, e4]) rfl SP.out
  · rw [if_neg (by omega), if_neg (by omega), if_pos r] at hSS
    have n10 : (k % 16 == 10) = false := by simpa using (show ¬ k % 16 = 10 by omega)
    have n11 : (k % 16 == 11) = false := by simpa using (show ¬ k % 16 = 11 by omega)
    have n12 : (k % 16 == 12) = false := by simpa using (show ¬ k % 16 = 12 by omega)
    have n13 : (k % 16 == 13) = true := by simpa using (show k % 16 = 13 by omega)
    clear r
    have HX : Hid (stepS s M G i = (((1, 0, 0, 0, a) : Sp), 1, i + 2)) := hid (HSS.out.trans hSS)
    clear hSS HSS
    go_enter Tryz.func22, Tryz.ntmps22
    go_upto_region 1 with (fail)
    generalize ((w.alloc (.cells #[.int .i64 P, .int .i64 M, .int .i64 G] 25)).alloc (.cells #[.int .u8 0, .int .u8 0, .int .i64 0, .int .i64 0, .int .i64 0] 34)) = W0 at *
    have C0 := hid (NX0.out W0 K0.out.lf)
    go_wp2_with fail
    refine C0.out.mono ?_
    rintro e w1 ⟨rfl, hl, ho⟩
    have K1 := hid (K0.out.next hl ho)
    clear hl ho C0 K0 NX0
    obtain ⟨⟨c0, c1, c2⟩, _⟩ := cells3 K1.out.bc
    have K2 := hid (K1.out.pick #[.int .u8 0, .int .u8 0, .int .i64 (k / 16 % M), .int .i64 0, .int .i64 0])
    have hE := hid (show w1.heap.size ≠ 0 from by have := (Array.getElem?_eq_some_iff.1 K1.out.bc).1; omega)
    go_upto_region 3 with (fail)
    clear c0 c1 c2 K1
    generalize hEE : w1.heap.size = E at *
    generalize w1.alloc (.cells #[.int .u8 0, .int .u8 0, .int .i64 (k / 16 % M), .int .i64 0, .int .i64 0] 34) = w2 at *
    clear hEE
    have C1 := hid (NX1.out w2 K2.out.lf)
    go_wp2_with fail
    refine C1.out.mono ?_
    rintro e w3 ⟨rfl, hl, ho⟩
    have K3 := hid (K2.out.next hl ho)
    clear hl ho C1 NX1
    have FN := hid (K3.out.fin ((1, 0, 0, 0, a) : Sp))
    have SP := hid (StP.mk ((1, 0, 0, 0, a) : Sp) 1 HX.out K3.out)
    unfold ansW at FN SP
    simp only at FN SP
    obtain ⟨⟨a0, a1, a2, a3, a4⟩, f0, f1, f2, f3, f4⟩ := cells5 K3.out.ba
    go_wp2
    obtain ⟨⟨e0, e1, e2, e3, e4⟩, _⟩ := cells5 FN.out.1
    exact bodyPost_ret (by simp [results, Tryz.results22, go_sem, e0, e1, e2, e3, e4]) rfl SP.out
  · rw [if_neg (by omega), if_neg (by omega), if_neg (by omega), if_pos r] at hSS
    have n10 : (k % 16 == 10) = false := by simpa using (show ¬ k % 16 = 10 by omega)
    have n11 : (k % 16 == 11) = false := by simpa using (show ¬ k % 16 = 11 by omega)
    have n12 : (k % 16 == 12) = false := by simpa using (show ¬ k % 16 = 12 by omega)
    have n13 : (k % 16 == 13) = false := by simpa using (show ¬ k % 16 = 13 by omega)
    have n14 : (k % 16 == 14) = true := by simpa using (show k % 16 = 14 by omega)
    clear r
    have HX : Hid (stepS s M G i = (((2, 0, k / 16, 0, 0) : Sp), 1, i + 1)) := hid (HSS.out.trans hSS)
    clear hSS HSS
    go_enter Tryz.func22, Tryz.ntmps22
    go_upto_region 1 with (fail)
    generalize ((w.alloc (.cells #[.int .i64 P, .int .i64 M, .int .i64 G] 25)).alloc (.cells #[.int .u8 0, .int .u8 0, .int .i64 0, .int .i64 0, .int .i64 0] 34)) = W0 at *
    have C0 := hid (NX0.out W0 K0.out.lf)
    go_wp2_with fail
    refine C0.out.mono ?_
    rintro e w1 ⟨rfl, hl, ho⟩
    have K1 := hid (K0.out.next hl ho)
    clear hl ho C0 K0 NX0
    obtain ⟨⟨c0, c1, c2⟩, _⟩ := cells3 K1.out.bc
    have K2 := hid (K1.out.pick #[.int .u8 0, .int .u8 0, .int .i64 (k / 16 % M), .int .i64 0, .int .i64 0])
    have hE := hid (show w1.heap.size ≠ 0 from by have := (Array.getElem?_eq_some_iff.1 K1.out.bc).1; omega)
    go_upto_region 3 with (fail)
    clear c0 c1 c2 K1
    generalize hEE : w1.heap.size = E at *
    generalize w1.alloc (.cells #[.int .u8 0, .int .u8 0, .int .i64 (k / 16 % M), .int .i64 0, .int .i64 0] 34) = w2 at *
    clear hEE
    have FN := hid (K2.out.fin ((2, 0, k / 16, 0, 0) : Sp))
    have SP := hid (StP.mk ((2, 0, k / 16, 0, 0) : Sp) 1 HX.out K2.out)
    unfold ansW at FN SP
    simp only at FN SP
    obtain ⟨⟨a0, a1, a2, a3, a4⟩, f0, f1, f2, f3, f4⟩ := cells5 K2.out.ba
    go_wp2
    obtain ⟨⟨e0, e1, e2, e3, e4⟩, _⟩ := cells5 FN.out.1
    exact bodyPost_ret (by simp [results, Tryz.results22, go_sem, e0, e1, e2, e3, e4]) rfl SP.out
  · rw [if_neg (by omega), if_neg (by omega), if_neg (by omega), if_neg (by omega), if_pos r] at hSS
    have n10 : (k % 16 == 10) = false := by simpa using (show ¬ k % 16 = 10 by omega)
    have n11 : (k % 16 == 11) = false := by simpa using (show ¬ k % 16 = 11 by omega)
    have n12 : (k % 16 == 12) = false := by simpa using (show ¬ k % 16 = 12 by omega)
    have n13 : (k % 16 == 13) = false := by simpa using (show ¬ k % 16 = 13 by omega)
    have n14 : (k % 16 == 14) = false := by simpa using (show ¬ k % 16 = 14 by omega)
    have n15 : (k % 16 == 15) = true := by simpa using (show k % 16 = 15 by omega)
    clear r
    have HX : Hid (stepS s M G i = (((0, 0, k / 16 % M, 0, 0) : Sp), a % 64, i + 2)) := hid (HSS.out.trans hSS)
    clear hSS HSS
    go_enter Tryz.func22, Tryz.ntmps22
    go_upto_region 1 with (fail)
    generalize ((w.alloc (.cells #[.int .i64 P, .int .i64 M, .int .i64 G] 25)).alloc (.cells #[.int .u8 0, .int .u8 0, .int .i64 0, .int .i64 0, .int .i64 0] 34)) = W0 at *
    have C0 := hid (NX0.out W0 K0.out.lf)
    go_wp2_with fail
    refine C0.out.mono ?_
    rintro e w1 ⟨rfl, hl, ho⟩
    have K1 := hid (K0.out.next hl ho)
    clear hl ho C0 K0 NX0
    obtain ⟨⟨c0, c1, c2⟩, _⟩ := cells3 K1.out.bc
    have K2 := hid (K1.out.pick #[.int .u8 0, .int .u8 0, .int .i64 (k / 16 % M), .int .i64 0, .int .i64 0])
    have hE := hid (show w1.heap.size ≠ 0 from by have := (Array.getElem?_eq_some_iff.1 K1.out.bc).1; omega)
    go_upto_region 3 with (fail)
    clear c0 c1 c2 K1
    generalize hEE : w1.heap.size = E at *
    generalize w1.alloc (.cells #[.int .u8 0, .int .u8 0, .int .i64 (k / 16 % M), .int .i64 0, .int .i64 0] 34) = w2 at *
    clear hEE
    go_upto_region 16 with (fail)
    have K3 := hid K2.out.drew
    have C1 := hid (NX1.out w2.drew K3.out.lf)
    have S3 := hid (cells5 (K3.out.be hE.out)).1
    have ht : a.tmod 64 = a % 64 := Int.tmod_eq_emod_of_nonneg (by omega)
    have a64 : 0 ≤ a % 64 ∧ a % 64 ≤ 63 := by omega
    clear K2
    go_region_held3 (fun y => y.cell? ⟨E, 0, none⟩ = some (.int .u8 0) ∧ y.cell? ⟨E, 1, none⟩ = some (.int .u8 0) ∧ y.cell? ⟨E, 2, none⟩ = some (.int .i64 (k / 16 % M)) ∧ y.cell? ⟨E, 3, none⟩ = some (.int .i64 0) ∧ y.cell? ⟨E, 4, none⟩ = some (.int .i64 0))
      (first
        | ((try dsimp only); with_reducible exact S3.out)
        | ((try dsimp only); with_reducible exact S4.out)
        | ((try dsimp only); with_reducible exact S5.out))
      (first
        | (go_at_call 42; (with_reducible refine C1.out.mono ?_); rintro e y ⟨rfl, hl, ho⟩; have K4 := hid (K3.out.next hl ho); obtain ⟨⟨b0, b1, b2, b3, b4⟩, g0, g1, g2, g3, g4⟩ := cells5 (K4.out.be hE.out); obtain ⟨⟨a0, a1, a2, a3, a4⟩, f0, f1, f2, f3, f4⟩ := cells5 K4.out.ba; have S4 := hid (cells5 (K4.out.be hE.out)).1; have FE := K4.out.finE hE.out ((0, 0, k / 16 % M, 0, 0) : Sp); unfold ansW at FE; simp only at FE; have S5 := hid (cells5 FE).1; clear FE hl ho))
    clear S3 S4 S5 b0 b1 b2 b3 b4 g0 g1 g2 g3 g4
    have FN := hid (K4.out.fin ((0, 0, k / 16 % M, 0, 0) : Sp))
    have SP := hid (StP.mk ((0, 0, k / 16 % M, 0, 0) : Sp) (a % 64) HX.out K4.out)
    unfold ansW at FN SP
    simp only at FN SP
    go_wp2
    obtain ⟨⟨e0, e1, e2, e3, e4⟩, _⟩ := cells5 FN.out.1
    exact bodyPost_ret (by simp [results, Tryz.results22, go_sem, e0, e1, e2, e3, e4]) rfl SP.out
  · rw [if_neg (by omega), if_neg (by omega), if_neg (by omega), if_neg (by omega), if_neg (by omega)] at hSS
    have n10 : (k % 16 == 10) = false := by simpa using (show ¬ k % 16 = 10 by omega)
    have n11 : (k % 16 == 11) = false := by simpa using (show ¬ k % 16 = 11 by omega)
    have n12 : (k % 16 == 12) = false := by simpa using (show ¬ k % 16 = 12 by omega)
    have n13 : (k % 16 == 13) = false := by simpa using (show ¬ k % 16 = 13 by omega)
    have n14 : (k % 16 == 14) = false := by simpa using (show ¬ k % 16 = 14 by omega)
    have n15 : (k % 16 == 15) = false := by simpa using (show ¬ k % 16 = 15 by omega)
    clear r1 r2 r3 r4 r5 r6
    have HX : Hid (stepS s M G i = (((0, 0, k / 16 % M, 0, 0) : Sp), 1, i + 1)) := hid (HSS.out.trans hSS)
    clear hSS HSS
    go_enter Tryz.func22, Tryz.ntmps22
    go_upto_region 1 with (fail)
    generalize ((w.alloc (.cells #[.int .i64 P, .int .i64 M, .int .i64 G] 25)).alloc (.cells #[.int .u8 0, .int .u8 0, .int .i64 0, .int .i64 0, .int .i64 0] 34)) = W0 at *
    have C0 := hid (NX0.out W0 K0.out.lf)
    go_wp2_with fail
    refine C0.out.mono ?_
    rintro e w1 ⟨rfl, hl, ho⟩
    have K1 := hid (K0.out.next hl ho)
    clear hl ho C0 K0 NX0
    obtain ⟨⟨c0, c1, c2⟩, _⟩ := cells3 K1.out.bc
    have K2 := hid (K1.out.pick #[.int .u8 0, .int .u8 0, .int .i64 (k / 16 % M), .int .i64 0, .int .i64 0])
    have hE := hid (show w1.heap.size ≠ 0 from by have := (Array.getElem?_eq_some_iff.1 K1.out.bc).1; omega)
    go_upto_region 3 with (fail)
    clear c0 c1 c2 K1
    generalize hEE : w1.heap.size = E at *
    generalize w1.alloc (.cells #[.int .u8 0, .int .u8 0, .int .i64 (k / 16 % M), .int .i64 0, .int .i64 0] 34) = w2 at *
    clear hEE
    have FN := hid (K2.out.fin ((0, 0, k / 16 % M, 0, 0) : Sp))
    have SP := hid (StP.mk ((0, 0, k / 16 % M, 0, 0) : Sp) 1 HX.out K2.out)
    unfold ansW at FN SP
    simp only at FN SP
    obtain ⟨⟨a0, a1, a2, a3, a4⟩, f0, f1, f2, f3, f4⟩ := cells5 K2.out.ba
    obtain ⟨⟨b0, b1, b2, b3, b4⟩, _⟩ := cells5 (K2.out.be hE.out)
    go_wp2
    obtain ⟨⟨e0, e1, e2, e3, e4⟩, _⟩ := cells5 FN.out.1
    exact bodyPost_ret (by simp [results, Tryz.results22, go_sem, e0, e1, e2, e3, e4]) rfl SP.out
end Go.Proofs.YtpgamdnkdoebgaaGreatDoor
