/- Heap.First and Heap.Take as contracts. -/
import Derived.Test.YtlppnkemoomllaaHeap6
namespace Go.Proofs.Ytlppnkemoomllaa
set_option linter.unusedVariables false
set_option linter.unusedSimpArgs false
open Go.RowKit

theorem cell_new3 (w : World) (a b c : Value) (t : TypeId) : (w.alloc (.cells #[a, b, c] t)).cell? ⟨w.heap.size, 0, none⟩ = some a ∧ (w.alloc (.cells #[a, b, c] t)).cell? ⟨w.heap.size, 1, none⟩ = some b ∧ (w.alloc (.cells #[a, b, c] t)).cell? ⟨w.heap.size, 2, none⟩ = some c := by
  simp

def FirstPost (x1 x2 x3 : Int) (w : World) (e : Ending) (w' : World) : Prop := e = .returned (.tuple #[.agg #[.int .i64 x1, .int .u64 x2, .int .i64 x3], .bool true]) ∧ Below w.heap.size w w'
set_option maxHeartbeats 8000000 in
theorem first_some (w : World) (base p g n c : Nat) (es : List (Int × Int × Int)) (h : Hs w base p g n c es w) (hn : 0 < n) (x1 x2 x3 : Int) (hx : enAt es 0 = (x1, x2, x3)) :
    Calls Try.prog 26 #[.pointer (some ⟨p, 0, none⟩)] w (FirstPost x1 x2 x3 w) := by
  have hn0 : ((n : Int) == 0) = false := beq_eq_false_iff_ne.2 (by omega)
  have hp := h.hp.lt
  have hnl := h.le
  have hc := h.hc
  obtain ⟨hg1, hg2, hg3⟩ := h.ge
  obtain ⟨i1, i2, i3⟩ := h.cells 0 hn
  rw [hx] at i1 i2 i3
  simp only [Nat.zero_mul, Nat.zero_add] at i1 i2 i3
  have c0 := h.hp.c0
  have H1 := hid (h.below ((Below.refl _ _).alloc (Nat.le_refl _) (.cells #[.int .i64 0, .int .u64 0, .int .i64 0] 37)))
  have HB := hid ((Below.refl w.heap.size w).alloc (Nat.le_refl _) (.cells #[.int .i64 x1, .int .u64 x2, .int .i64 x3] 37))
  clear h hx
  go_enter Try.func26, Try.ntmps26
  go_wp2_with fail
  have L := hid (H1.out.len)
  refine (L.out).mono ?_
  rintro e w' ⟨rfl, rfl⟩
  go_wp2
  obtain ⟨d0, d1, d2⟩ := cell_new3 w (.int .i64 x1) (.int .u64 x2) (.int .i64 x3) 37
  refine bodyPost_ret (v := .tuple #[.agg #[.int .i64 x1, .int .u64 x2, .int .i64 x3], .bool true]) (by simp [results, Try.results26, go_sem, d0, d1, d2]) rfl ⟨rfl, HB.out⟩

theorem fl_take : ∀ (es : List (Int × Int × Int)) (m : Nat), fl (es.take m) = (fl es).take (m * 3)
  | es, 0 => by simp [fl]
  | [], m + 1 => by simp [fl]
  | e :: es, m + 1 => by
    rw [List.take_succ_cons, fl_cons, fl_cons, fl_take es m, show (m + 1) * 3 = m * 3 + 1 + 1 + 1 by omega]
    simp only [List.take_succ_cons]
/-- The row is shortened. -/
theorem Hs.cut {w0 w : World} {base p g n c : Nat} {es : List (Int × Int × Int)} (h : Hs w0 base p g n c es w) (m : Nat) (hm : m ≤ n) :
    Hs (w.setCell ⟨p, 0, none⟩ (.slice (some ⟨g, 0, none⟩) m c)) base p g m c (es.take m) (w.setCell ⟨p, 0, none⟩ (.slice (some ⟨g, 0, none⟩) m c)) := by
  obtain ⟨hg1, hg2, hg3⟩ := h.ge
  have hn := h.hn
  have hlen := h.hp.len
  have hst := h.hp.st
  obtain ⟨h0, ⟨h1, h2⟩ | ⟨q, cap, cur, h1, h2, h3, h4, h5, h6, h7⟩⟩ := h.hp.own
  · cases h1
  · simp only [Value.slice.injEq, Option.some.injEq, Addr.mk.injEq] at h1
    obtain ⟨⟨rfl, _⟩, h8, rfl⟩ := h1
    have hml : (es.take m).length = m := by rw [List.length_take]; omega
    refine ⟨⟨by simp [World.setCell, Array.getElem?_modify, hst], ?_, by simp [Value.ownBlock]; exact hg3, by omega⟩, hml, OnlyH.refl _, by have := h.hc; omega, h.hm⟩
    rw [hml]
    refine ⟨by rw [fl_len, hml], .inr ⟨g, c, cur, rfl, h2, (Below.heap_setCell _ _ _ _ hg3).trans h3, by have := h.hc; omega, h5, h6, ?_⟩⟩
    rw [fl_take, ← h7, List.take_take]
    congr 1
    omega
theorem Hs.root {w0 w : World} {base p g n c : Nat} {es : List (Int × Int × Int)} (h : Hs w0 base p g n c es w) : Hs w base p g n c es w := ⟨h.hp, h.hn, OnlyH.refl _, h.hc, h.hm⟩
theorem OnlyH.blk {p g k : Nat} {w w' : World} {o : Obj} (h : OnlyH p g w w') (hk : w.heap[k]? = some o) (h1 : k ≠ g) (h2 : k ≠ p) : w'.heap[k]? = some o := by
  obtain ⟨hl, _⟩ := Array.getElem?_eq_some_iff.1 hk
  exact (h.block k hl h1 h2).trans hk

def TakePost (base p g n c : Nat) (x1 x2 x3 : Int) (T : List (Int × Int × Int)) (w : World) (e : Ending) (w' : World) : Prop :=
  e = .returned (.tuple #[.agg #[.int .i64 x1, .int .u64 x2, .int .i64 x3], .bool true]) ∧ Hs w base p g n c T w'
theorem res3 (w6 : World) (s : Nat) {y1 y2 y3 : Value} {t : TypeId} (h : w6.heap[s]? = some (.cells #[y1, y2, y3] t (0, 0))) (x1 x2 x3 : Int) :
    (((w6.setCell ⟨s, 0, none⟩ (.int .i64 x1)).setCell ⟨s, 1, none⟩ (.int .u64 x2)).setCell ⟨s, 2, none⟩ (.int .i64 x3)).cell? ⟨s, 0, none⟩ = some (.int .i64 x1) ∧
    (((w6.setCell ⟨s, 0, none⟩ (.int .i64 x1)).setCell ⟨s, 1, none⟩ (.int .u64 x2)).setCell ⟨s, 2, none⟩ (.int .i64 x3)).cell? ⟨s, 1, none⟩ = some (.int .u64 x2) ∧
    (((w6.setCell ⟨s, 0, none⟩ (.int .i64 x1)).setCell ⟨s, 1, none⟩ (.int .u64 x2)).setCell ⟨s, 2, none⟩ (.int .i64 x3)).cell? ⟨s, 2, none⟩ = some (.int .i64 x3) := by
  simp [World.cell?, World.setCell, Array.getElem?_modify, h]
theorem swap_i {w : World} {base p g n c : Nat} {es : List (Int × Int × Int)} (h : Hs w base p g n c es w) (i j : Int) (a b : Nat) (hi : a < n) (hj : b < n) (ha : i = a) (hb : j = b) :
    Calls Try.prog 29 #[.pointer (some ⟨p, 0, none⟩), .int .i64 i, .int .i64 j] w fun e w' => e = .returned (.tuple #[]) ∧ Hs w base p g n c (sw es a b) w' := by
  subst ha hb; exact h.swap a b hi hj
theorem take_fin {w w5 w6 : World} {base p g n c : Nat} {es : List (Int × Int × Int)} (h : Hs w5 base p g n c es w6) (ho : OnlyH p g w w6) {o : Obj} (hs : w6.heap[w.heap.size]? = some o) (x1 x2 x3 : Int) (hgp : g ≠ p) (hsp : w.heap.size ≠ p) (hsg : w.heap.size ≠ g) :
    Hs w base p g n c es (((w6.setCell ⟨w.heap.size, 0, none⟩ (.int .i64 x1)).setCell ⟨w.heap.size, 1, none⟩ (.int .u64 x2)).setCell ⟨w.heap.size, 2, none⟩ (.int .i64 x3)) := by
  have k : ∀ (y : World) (i : Nat) (u : Value) (q : Nat), q ≠ w.heap.size → (y.setCell ⟨w.heap.size, i, none⟩ u).heap[q]? = y.heap[q]? := fun y i u q hq => Below.heap_setCell _ _ _ _ hq
  refine ⟨h.hp.kept ?_ (fun q hq => ?_), h.hn, ?_, h.hc, h.hm⟩
  · rw [k _ _ _ _ (Ne.symm hsp), k _ _ _ _ (Ne.symm hsp), k _ _ _ _ (Ne.symm hsp)]
  · simp only [Value.ownBlock, Option.some.injEq] at hq
    subst hq
    rw [k _ _ _ _ (Ne.symm hsg), k _ _ _ _ (Ne.symm hsg), k _ _ _ _ (Ne.symm hsg)]
  · refine ⟨ho.os, ho.tape, ho.output, by simpa [World.setCell] using ho.size, fun q h1 h2 h3 => ?_⟩
    have hq : q ≠ w.heap.size := by omega
    rw [k _ _ _ _ hq, k _ _ _ _ hq, k _ _ _ _ hq]
    exact ho.block q h1 h2 h3
set_option maxRecDepth 100000 in
set_option maxHeartbeats 8000000 in
theorem take_some (w : World) (base p g m c : Nat) (es : List (Int × Int × Int)) (h : Hs w base p g (m + 1) c es w) (x1 x2 x3 : Int) (hx : enAt es 0 = (x1, x2, x3)) :
    Calls Try.prog 21 #[.pointer (some ⟨p, 0, none⟩)] w (TakePost base p g m c x1 x2 x3 (sinkF (m + 1) ((sw es 0 m).take m) m 0) w) := by
  have hp := h.hp.lt
  have hnl := h.le
  have hc := h.hc
  have hm := h.hm
  unfold maxLen at hm
  obtain ⟨hg1, hg2, hg3⟩ := h.ge
  have H1 := hid (h.below ((Below.refl _ _).alloc (Nat.le_refl _) (.cells #[.int .i64 0, .int .u64 0, .int .i64 0] 37))).root
  have N1 := hid (Deep.blk_alloc_new w (.cells #[.int .i64 0, .int .u64 0, .int .i64 0] 37))
  have O1 := hid (OnlyH.of_below (p := p) (base := g) ((Below.refl w.heap.size w).alloc (Nat.le_refl _) (.cells #[.int .i64 0, .int .u64 0, .int .i64 0] 37)))
  have HX := hid hx
  clear h hx
  go_enter Try.func21, Try.ntmps21
  go_wp2_with fail
  refine (first_some _ base p g (m + 1) c es H1.out (by omega) x1 x2 x3 HX.out).mono ?_
  rintro e w2 ⟨rfl, hb2⟩
  have hs2 := hb2.size
  simp only [World.size_alloc] at hs2
  have H2 := hid (H1.out.below hb2).root
  have N2 := hid ((hb2.block w.heap.size (by simp)).trans N1.out)
  have O2 := hid (O1.out.trans (.of_below hb2))
  have H3 := hid (H2.out.below ((Below.refl _ _).alloc (Nat.le_refl _) (.cells #[.int .i64 x1, .int .u64 x2, .int .i64 x3] 37))).root
  have N3 := hid ((Below.heap_alloc w2 (.cells #[.int .i64 x1, .int .u64 x2, .int .i64 x3] 37) w.heap.size (by omega)).trans N2.out)
  have M3 := hid (Deep.blk_alloc_new w2 (.cells #[.int .i64 x1, .int .u64 x2, .int .i64 x3] 37))
  have O3 := hid (O2.out.trans (.of_below ((Below.refl w2.heap.size w2).alloc (Nat.le_refl _) (.cells #[.int .i64 x1, .int .u64 x2, .int .i64 x3] 37))))
  clear hb2 H1 N1 O1 H2 N2 O2
  go_wp2_with fail
  refine (H3.out.len).mono ?_
  rintro e w' ⟨rfl, rfl⟩
  go_wp2_with fail
  refine (swap_i H3.out _ _ 0 m (by omega) (by omega) rfl (by omega)).mono ?_
  rintro e w4 ⟨rfl, h4⟩
  have N4 := hid (h4.ho.blk N3.out (by omega) (by omega))
  have M4 := hid (h4.ho.blk M3.out (by omega) (by omega))
  have O4 := hid (O3.out.trans h4.ho)
  have c4 := h4.hp.c0
  have f4 := h4.hp.f0
  have H5 := hid (h4.cut m (by omega))
  have N5 := hid ((Below.heap_setCell w4 ⟨p, 0, none⟩ (.slice (some ⟨g, 0, none⟩) m c) w.heap.size (show w.heap.size ≠ p by omega)).trans N4.out)
  have M5 := hid ((Below.heap_setCell w4 ⟨p, 0, none⟩ (.slice (some ⟨g, 0, none⟩) m c) w2.heap.size (show w2.heap.size ≠ p by omega)).trans M4.out)
  have O5 := hid (O4.out.trans (OnlyH.set (p := p) (base := g) (g := p) w4 0 (.slice (some ⟨g, 0, none⟩) m c) (.inr rfl)))
  have hm0 : (0 : Int) ≤ m := by omega
  have hmc : (m : Int) ≤ c := by omega
  clear h4 H3 N3 M3 O3 N4 M4 O4
  go_wp2_with fail
  generalize w4.setCell ⟨p, 0, none⟩ (.slice (some ⟨g, 0, none⟩) m c) = w5 at *
  refine (sink_any w5 base p g m c 0 _ H5.out (by omega)).mono ?_
  rintro e w6 ⟨rfl, h6⟩
  have n6 := h6.ho.blk N5.out (by omega) (by omega)
  have m6 := h6.ho.blk M5.out (by omega) (by omega)
  have O6 := hid (O5.out.trans h6.ho)
  have a0 : w6.cell? ⟨w2.heap.size, 0, none⟩ = some (.int .i64 x1) := cell_ent m6 rfl
  have a1 : w6.cell? ⟨w2.heap.size, 1, none⟩ = some (.int .u64 x2) := cell_ent m6 rfl
  have a2 : w6.cell? ⟨w2.heap.size, 2, none⟩ = some (.int .i64 x3) := cell_ent m6 rfl
  have b0 : w6.cell? ⟨w.heap.size, 0, none⟩ = some (.int .i64 0) := cell_ent n6 rfl
  have b1 : w6.cell? ⟨w.heap.size, 1, none⟩ = some (.int .u64 0) := cell_ent n6 rfl
  have b2 : w6.cell? ⟨w.heap.size, 2, none⟩ = some (.int .i64 0) := cell_ent n6 rfl
  have g0 : w6.frozen? ⟨w.heap.size, 0, none⟩ = false := by simp [World.frozen?, n6]
  have g1 : w6.frozen? ⟨w.heap.size, 1, none⟩ = false := by simp [World.frozen?, n6]
  have g2 : w6.frozen? ⟨w.heap.size, 2, none⟩ = false := by simp [World.frozen?, n6]
  have FIN := hid (take_fin h6 O6.out n6 x1 x2 x3 hg3 (by omega) (by omega))
  obtain ⟨r0, r1, r2⟩ := res3 w6 w.heap.size n6 x1 x2 x3
  have R0 := hid r0
  have R1 := hid r1
  have R2 := hid r2
  clear r0 r1 r2
  clear h6 H5 N5 M5 O5 n6 m6
  go_wp2
  have r0 := R0.out
  have r1 := R1.out
  have r2 := R2.out
  exact bodyPost_ret (v := .tuple #[.agg #[.int .i64 x1, .int .u64 x2, .int .i64 x3], .bool true]) (by simp [results, Try.results21, go_sem, r0, r1, r2]) rfl ⟨rfl, FIN.out⟩
end Go.Proofs.Ytlppnkemoomllaa
