/- script.config, script.step. -/
import Derived.Test.YtpgamdnkdoebgaaGreatDoorScP
import Derived.Deep.RegionHeld3
import Derived.Deep.CutRange
namespace Go.Proofs.YtpgamdnkdoebgaaGreatDoor
open Go.RowKit
set_option linter.unusedVariables false
set_option linter.unusedSimpArgs false
set_option maxRecDepth 20000
/-- The config that bytes say. -/
def cfP (s : ByteArray) : Int := 1 + atB s 0 % 4
def cfM (s : ByteArray) : Int := cfP s + atB s 1 % 4
def cfG (s : ByteArray) : Int := 1 + atB s 2 % 32
theorem cf_rng (s : ByteArray) : (1 ≤ cfP s ∧ cfP s ≤ 4) ∧ (1 ≤ cfM s ∧ cfM s ≤ 7) ∧ (1 ≤ cfG s ∧ cfG s ≤ 32) := by
  have h0 := atB_rng s 0
  have h1 := atB_rng s 1
  have h2 := atB_rng s 2
  unfold cfM cfP cfG
  omega
theorem cells3 {w : World} {B : Nat} {a b c : Value} {t : TypeId} (h : w.heap[B]? = some (.cells #[a, b, c] t (0, 0))) :
    (w.cell? ⟨B, 0, none⟩ = some a ∧ w.cell? ⟨B, 1, none⟩ = some b ∧ w.cell? ⟨B, 2, none⟩ = some c) ∧ w.frozen? ⟨B, 0, none⟩ = false ∧ w.frozen? ⟨B, 1, none⟩ = false ∧ w.frozen? ⟨B, 2, none⟩ = false := by simp [World.cell?, World.frozen?, h]
/-- The boxes of config: the answer, the config so far. -/
structure Cf (w0 : World) (p g off : Nat) (s : ByteArray) (i : Nat) (a b c : Int) (w : World) : Prop where
  lf : Lf w p g off s i
  b0 : w.heap[w0.heap.size]? = some (.cells #[.int .i64 0, .int .i64 0, .int .i64 0] 25 (0, 0))
  b1 : w.heap[w0.heap.size + 1]? = some (.cells #[.int .i64 a, .int .i64 b, .int .i64 c] 25 (0, 0))
  o : O1 p w0 w
  pl : p < w0.heap.size
  gl : 0 < s.size → g < w0.heap.size
theorem Cf.next {w0 w w' : World} {p g off i : Nat} {s : ByteArray} {a b c : Int} (h : Cf w0 p g off s i a b c w) (hl : Lf w' p g off s (i + 1)) (ho : O1 p w w') : Cf w0 p g off s (i + 1) a b c w' :=
  ⟨hl, (ho.block _ (Array.getElem?_eq_some_iff.1 h.b0).1 (by have := h.pl; omega)).trans h.b0, (ho.block _ (Array.getElem?_eq_some_iff.1 h.b1).1 (by have := h.pl; omega)).trans h.b1, h.o.trans ho, h.pl, h.gl⟩
theorem lf_other {w : World} {p g off i : Nat} {s : ByteArray} (h : Lf w p g off s i) (b j : Nat) (v : Value) (hp : b ≠ p) (hg : i < s.size → b ≠ g) : Lf (w.setCell ⟨b, j, none⟩ v) p g off s i := by
  obtain ⟨a, c, h1, h2, h3, h4⟩ := h
  refine ⟨a, c, (heap_setCell_other w _ _ _ (by simpa using Ne.symm hp)).trans h1, h2, h3, fun hi => ?_⟩
  obtain ⟨e, ne, hgl, hc⟩ := h4 hi
  refine ⟨e, ne, by simpa [World.setCell] using hgl, fun k hk => ?_⟩
  have hh : (w.setCell ⟨b, j, none⟩ v).heap[g]? = w.heap[g]? := heap_setCell_other w _ _ _ (by simpa using Ne.symm (hg hi))
  rw [World.cell?_of_block hh]
  exact hc k hk
theorem Cf.set {w0 w : World} {p g off i : Nat} {s : ByteArray} {a b c : Int} (h : Cf w0 p g off s i a b c w) (j : Nat) (x a' b' c' : Int) (hx : (#[Value.int .i64 a, .int .i64 b, .int .i64 c].setIfInBounds j (.int .i64 x)) = #[Value.int .i64 a', .int .i64 b', .int .i64 c']) : Cf w0 p g off s i a' b' c' (w.setCell ⟨w0.heap.size + 1, j, none⟩ (.int .i64 x)) := by
  have hpl := h.pl
  refine ⟨lf_other h.lf _ _ _ (by omega) (fun hi => by have := h.gl (by omega); omega), (heap_setCell_other w _ _ _ (by simp)).trans h.b0, ?_, ⟨h.o.os, h.o.tape, h.o.output, by simp [World.setCell]; exact h.o.size, fun k hk hn => (heap_setCell_other w _ _ _ (by simp; omega)).trans (h.o.block k hk hn)⟩, h.pl, h.gl⟩
  rw [heap_setCell_same w _ j _ _ _ h.b1, hx]
theorem Cf.new {w : World} {p g off : Nat} {s : ByteArray} (h : Lf w p g off s 0) (a b c : Int) : Cf w p g off s 0 a b c ((w.alloc (.cells #[.int .i64 0, .int .i64 0, .int .i64 0] 25)).alloc (.cells #[.int .i64 a, .int .i64 b, .int .i64 c] 25)) := by
  have hb : Below w.heap.size w ((w.alloc (.cells #[.int .i64 0, .int .i64 0, .int .i64 0] 25)).alloc (.cells #[.int .i64 a, .int .i64 b, .int .i64 c] 25)) := ((Below.refl _ _).alloc (Nat.le_refl _) _).alloc (by simp) _
  refine ⟨h.below hb, ?_, ?_, O1.of_below hb, h.lt, fun h0 => by obtain ⟨_, _, _, _, _, h4⟩ := h; exact (h4 h0).2.2.1⟩
  · rw [Below.heap_alloc _ _ _ (by simp)]; exact heap_alloc_new _ _
  · have := heap_alloc_new (w.alloc (.cells #[.int .i64 0, .int .i64 0, .int .i64 0] 25)) (.cells #[.int .i64 a, .int .i64 b, .int .i64 c] 25)
    rw [World.size_alloc] at this
    exact this
set_option maxHeartbeats 8000000 in
theorem sconfig (w : World) (p g off : Nat) (s : ByteArray) (h : Lf w p g off s 0) (hs : s.size ≤ 100000) : Calls Tryz.prog 21 #[.pointer (some ⟨p, 0, none⟩)] w fun e w' => e = .returned (.agg #[.int .i64 (cfP s), .int .i64 (cfM s), .int .i64 (cfG s)]) ∧ Lf w' p g off s 3 ∧ O1 p w w' := by
  have K0 := hid (Cf.new h 0 0 0)
  have NX := hid (fun w i (h : Lf w p g off s i) => snext w p g off s i h hs)
  have A0 := atB_rng s 0
  have A1 := atB_rng s 1
  have A2 := atB_rng s 2
  obtain ⟨P, hP⟩ : ∃ P, P = cfP s := ⟨_, rfl⟩
  obtain ⟨M, hM⟩ : ∃ M, M = cfM s := ⟨_, rfl⟩
  obtain ⟨G, hG⟩ : ∃ G, G = cfG s := ⟨_, rfl⟩
  have eP : 1 + atB s 0 % 4 = P := hP.symm
  have eM : P + atB s 1 % 4 = M := by rw [hP, hM]; rfl
  have eG : 1 + atB s 2 % 32 = G := hG.symm
  have HE := hid (And.intro eP (And.intro eM eG))
  rw [← hP, ← hM, ← hG]
  have rP : 1 ≤ P ∧ P ≤ 4 := by omega
  have NX0 := hid (fun w h => NX.out w 0 h)
  have NX1 := hid (fun w h => NX.out w 1 h)
  have NX2 := hid (fun w h => NX.out w 2 h)
  unfold NxP at NX0 NX1 NX2
  generalize atB s 0 = x0 at *
  generalize atB s 1 = x1 at *
  generalize atB s 2 = x2 at *
  clear h hP hM hG NX eP eM eG
  go_enter Tryz.func21, Tryz.ntmps21
  go_upto_region 2 with (fail)
  generalize ((w.alloc (.cells #[.int .i64 0, .int .i64 0, .int .i64 0] 25)).alloc (.cells #[.int .i64 0, .int .i64 0, .int .i64 0] 25)) = W0 at *
  have C0 := hid (NX0.out W0 K0.out.lf)
  go_wp2_with fail
  refine C0.out.mono ?_
  rintro e w1 ⟨rfl, hl, ho⟩
  have K1 := hid (K0.out.next hl ho)
  clear hl ho C0 K0 NX0
  have K2 := hid (K1.out.set 0 (1 + x0 % 4) (1 + x0 % 4) 0 0 rfl)
  obtain ⟨⟨c0, c1, c2⟩, f0, f1, f2⟩ := cells3 K1.out.b1
  go_upto_region 3 with (fail)
  clear c0 c1 c2 f0 f1 f2 K1
  generalize w1.setCell ⟨w.heap.size + 1, 0, none⟩ (.int .i64 (1 + x0 % 4)) = w2 at *
  have K3 := hid (show Cf w p g off s 1 (1 + x0 % 4) 0 0 w2.drew from ⟨K2.out.lf.below (Quiet.below ⟨1, rfl⟩ _), K2.out.b0, K2.out.b1, K2.out.o.trans (O1.of_below (Quiet.below ⟨1, rfl⟩ _)), K2.out.pl, K2.out.gl⟩)
  have C1 := hid (NX1.out w2.drew K3.out.lf)
  have S3 := hid (cells3 K3.out.b1).1.1
  have ht : x1.tmod 4 = x1 % 4 := Int.tmod_eq_emod_of_nonneg (by omega)
  have hw : IntKind.i64.wrap (1 + x0 % 4 + x1 % 4) = 1 + x0 % 4 + x1 % 4 := by
    have hb : IntKind.i64.bits = 64 := rfl
    have hs : IntKind.i64.signed = true := rfl
    simp [IntKind.wrap, hb, hs]; split <;> omega
  clear K2
  go_region_held3 (fun y => y.cell? ⟨w.heap.size + 1, 0, none⟩ = some (.int .i64 (1 + x0 % 4)))
    (first
      | exact S3.out
      | exact (cells3 K4.out.b1).1.1
      | exact (cells3 (K4.out.set 1 _ _ _ _ rfl).b1).1.1)
    (first
      | (go_at_call 42; (with_reducible refine C1.out.mono ?_); rintro e y ⟨rfl, hl, ho⟩; have K4 := hid (K3.out.next hl ho); obtain ⟨⟨c0, c1, c2⟩, f0, f1, f2⟩ := cells3 K4.out.b1; clear hl ho))
  have K5 := hid (K4.out.set 1 (1 + x0 % 4 + x1 % 4) (1 + x0 % 4) (1 + x0 % 4 + x1 % 4) 0 rfl)
  clear c0 c1 c2 f0 f1 f2 K4 S3 C1 K3 NX1
  generalize y.setCell ⟨w.heap.size + 1, 1, none⟩ (.int .i64 (1 + x0 % 4 + x1 % 4)) = w3 at *
  have C2 := hid (NX2.out w3 K5.out.lf)
  go_wp2_with fail
  refine C2.out.mono ?_
  rintro e w4 ⟨rfl, hl, ho⟩
  have K6 := hid (K5.out.next hl ho)
  clear hl ho C2 K5 NX2
  have K7 := hid (K6.out.set 2 (1 + x2 % 32) (1 + x0 % 4) (1 + x0 % 4 + x1 % 4) (1 + x2 % 32) rfl)
  obtain ⟨⟨c0, c1, c2⟩, f0, f1, f2⟩ := cells3 K6.out.b1
  go_upto_region 5 with (fail)
  clear c0 c1 c2 f0 f1 f2 K6
  generalize w4.setCell ⟨w.heap.size + 1, 2, none⟩ (.int .i64 (1 + x2 % 32)) = w5 at *
  obtain ⟨⟨c0, c1, c2⟩, f0, f1, f2⟩ := cells3 K7.out.b1
  obtain ⟨⟨d0, d1, d2⟩, h0, h1, h2⟩ := cells3 K7.out.b0
  have FIN : Hid (((((w5.setCell ⟨w.heap.size, 0, none⟩ (.int .i64 (1 + x0 % 4))).setCell ⟨w.heap.size, 1, none⟩ (.int .i64 (1 + x0 % 4 + x1 % 4))).setCell ⟨w.heap.size, 2, none⟩ (.int .i64 (1 + x2 % 32))).heap[w.heap.size]? = some (.cells #[.int .i64 (1 + x0 % 4), .int .i64 (1 + x0 % 4 + x1 % 4), .int .i64 (1 + x2 % 32)] 25 (0, 0))) ∧
      Lf (((w5.setCell ⟨w.heap.size, 0, none⟩ (.int .i64 (1 + x0 % 4))).setCell ⟨w.heap.size, 1, none⟩ (.int .i64 (1 + x0 % 4 + x1 % 4))).setCell ⟨w.heap.size, 2, none⟩ (.int .i64 (1 + x2 % 32))) p g off s 3 ∧ O1 p w (((w5.setCell ⟨w.heap.size, 0, none⟩ (.int .i64 (1 + x0 % 4))).setCell ⟨w.heap.size, 1, none⟩ (.int .i64 (1 + x0 % 4 + x1 % 4))).setCell ⟨w.heap.size, 2, none⟩ (.int .i64 (1 + x2 % 32)))) := hid (by
    have hp := K7.out.pl
    have hg := K7.out.gl
    have e0 := heap_setCell_same w5 _ 0 _ _ (.int .i64 (1 + x0 % 4)) K7.out.b0
    have e1 := heap_setCell_same _ _ 1 _ _ (.int .i64 (1 + x0 % 4 + x1 % 4)) e0
    have e2 := heap_setCell_same _ _ 2 _ _ (.int .i64 (1 + x2 % 32)) e1
    refine ⟨e2, lf_other (lf_other (lf_other K7.out.lf _ _ _ (by omega) (fun hi => by have := hg (by omega); omega)) _ _ _ (by omega) (fun hi => by have := hg (by omega); omega)) _ _ _ (by omega) (fun hi => by have := hg (by omega); omega), K7.out.o.os, K7.out.o.tape, K7.out.o.output, by simp [World.setCell]; exact K7.out.o.size, fun k hk hn => ?_⟩
    rw [heap_setCell_other _ _ _ _ (by simp; omega), heap_setCell_other _ _ _ _ (by simp; omega), heap_setCell_other _ _ _ _ (by simp; omega)]
    exact K7.out.o.block k hk hn)
  obtain ⟨q1, q2, q3⟩ := HE.out
  have HR := hid (show (1 + x0 % 4, 1 + x0 % 4 + x1 % 4, 1 + x2 % 32) = (P, M, G) by rw [← q3, ← q2, ← q1])
  clear q1 q2 q3 K7
  go_wp2
  obtain ⟨⟨e0, e1, e2⟩, _⟩ := cells3 FIN.out.1
  refine bodyPost_ret (v := .agg #[.int .i64 (1 + x0 % 4), .int .i64 (1 + x0 % 4 + x1 % 4), .int .i64 (1 + x2 % 32)]) (by simp [results, Tryz.results21, go_sem, e0, e1, e2]) rfl ⟨?_, FIN.out.2.1, FIN.out.2.2⟩
  have h := HR.out
  simp only [Prod.mk.injEq] at h
  obtain ⟨h1, h2, h3⟩ := h
  rw [h2, h1, h3]
end Go.Proofs.YtpgamdnkdoebgaaGreatDoor
