/- hostlerlaw12.do: Tick, a copy that goes on; all. Written by wip/tools/gendo12.py. -/
import Derived.Test.YtaogpodncphpjaaDo12a
import Derived.Deep.RegionHeld3
namespace Go.Proofs.Ytaogpodncphpjaa
set_option linter.unusedVariables false
set_option linter.unusedSimpArgs false
open Go.RowKit
set_option maxRecDepth 100000 in
set_option maxHeartbeats 1000000 in
theorem do12_tick {Z : Nat → Prop} {s t p b1 b2 b3 n k : Nat} {now : Int} {o : Nat} {D : List Tr} {V : List (Int × Int)} {S : List Int} {vL vW vS : Value} {w : World} (h : St12 Z s t p b1 b2 b3 n now o D V S vL vW vS k w) (hk : k < 400) (K q g d fd : Int) (hK0 : 0 ≤ K) (hK1 : K ≤ 255) (hd : inI d) (hf : 0 ≤ fd ∧ fd ≤ 65535) (hK : K % 8 = 3) :
    Calls Try.prog 7 #[.pointer (some ⟨s, 0, none⟩), .agg (sx now n vL o vW vS), .agg #[.int .u8 K, .int .i64 q, .int .i64 g, .int .i64 d, .int .u16 fd]] w (Do12 Z s t p b1 b2 b3 n k vL vW vS w) := by
  have hln := h.ln
  obtain ⟨aL, nL, cL, aW, nW, cW, aS, nS, cS, rfl, rfl, rfl, _, _, _, _, _, _⟩ := h.di.sl
  obtain ⟨w0, hw0⟩ : ∃ w0, w0 = ((w.alloc (.cells (sx now n (.slice aL nL cL) o (.slice aW nW cW) (.slice aS nS cS)) 35)).alloc (.cells #[.int .u8 K, .int .i64 q, .int .i64 g, .int .i64 d, .int .u16 fd] 39)).alloc (.cells sz 35) := ⟨_, rfl⟩
  have hb0 : Below w.heap.size w w0 := by rw [hw0]; exact (((bl_al w _).alloc (by simp) _).alloc (by simp; omega) _)
  have hs0 : w0.heap.size = w.heap.size + 3 := by rw [hw0]; simp
  have K4 := hid (show w0.heap[w.heap.size]? = some (.cells (sx now n (.slice aL nL cL) o (.slice aW nW cW) (.slice aS nS cS)) 35 (0, 0)) by rw [hw0]; exact (Below.heap_alloc _ _ _ (by simp; omega)).trans (heap_alloc2_old w _ _))
  have K5 := hid (show w0.heap[w.heap.size + 1]? = some (.cells #[.int .u8 K, .int .i64 q, .int .i64 g, .int .i64 d, .int .u16 fd] 39 (0, 0)) by rw [hw0]; exact (Below.heap_alloc _ _ _ (by simp)).trans (heap_alloc2_new w _ _))
  have K6 := hid (show w0.heap[w.heap.size + 1 + 1]? = some (.cells sz 35 (0, 0)) by
    have := heap_alloc_new ((w.alloc (.cells (sx now n (.slice aL nL cL) o (.slice aW nW cW) (.slice aS nS cS)) 35)).alloc (.cells #[.int .u8 K, .int .i64 q, .int .i64 g, .int .i64 d, .int .u16 fd] 39)) (.cells sz 35)
    rw [hw0]; simpa using this)
  have D0 := h.di.below hb0
  have H := hid h
  have HB0 := hid hb0
  have t2 : (K % 8 == 2) = false := by simp [hK]
  have t3 : (K % 8 == 3) = true := by simp [hK]
  have t4 : (K % 8 == 4) = false := by simp [hK]
  have t5 : (K % 8 == 5) = false := by simp [hK]
  have t6 : (K % 8 == 6) = false := by simp [hK]
  have t7 : (K % 8 == 7) = false := by simp [hK]
  have TK := hid (rtick12 (n := n) (o := o) D0 d H.out.ps.inow hd)
  have A2 := hid (show ∀ (Z' : Nat → Prop) (y : World), PS Z' y s t p b1 b2 b3 n now o D V S → _ from fun Z' y hy => ps_tick hy d hd)
  generalize hm : sat now (max d 0) = m at *
  obtain ⟨r, hr⟩ : ∃ r, r = due12 m D V S := ⟨_, rfl⟩
  rw [← hr] at A2
  have HR := hid hr.symm
  have rr : (r == r) = true := by simp
  have LN5 := hid (show D.length ≤ k + 1 ∧ V.length ≤ k + 1 ∧ S.length ≤ k + 1 ∧ o ≤ k + 1 by omega)
  clear hK D0 hb0 h hln hr hm
  go_enter Try.func7, Try.ntmps7
  go_wp2_with (refine wpList_load_known (by rfl) 35 (.tmp 4) rfl w.heap.size rfl 35 (sx now n (.slice aL nL cL) o (.slice aW nW cW) (.slice aS nS cS)) (0, 0) _ (by rw [← hw0]; exact K4.out) Try.underlying35 rfl (by kernel_rfl) ?_)
  rw [← hw0]
  clear hw0
  refine TK.out.mono ?_
  rintro e w5 ⟨rfl, d5, hb5⟩
  have s5 := hb5.size
  obtain ⟨w6, hw6⟩ : ∃ w6, w6 = (w5.alloc (.cells (sx m n (.slice aL nL cL) o (.slice aW nW cW) (.slice aS nS cS)) 35)).drew := ⟨_, rfl⟩
  have b6 : Below w5.heap.size w5 w6 := by rw [hw6]; exact (bl_al w5 _).trans (bl_drw _ _)
  have s6 : w6.heap.size = w5.heap.size + 1 := by rw [hw6]; show (w5.alloc _).heap.size = _; simp
  have N6 := hid (show w6.heap[w5.heap.size]? = some (.cells (sx m n (.slice aL nL cL) o (.slice aW nW cW) (.slice aS nS cS)) 35 (0, 0)) by rw [hw6]; exact heap_alloc_new w5 _)
  have E6 := hid ((b6.block (w.heap.size + 1) (by omega)).trans ((hb5.block (w.heap.size + 1) (by omega)).trans K5.out))
  have R6 := hid ((b6.block (w.heap.size + 1 + 1) (by omega)).trans ((hb5.block (w.heap.size + 1 + 1) (by omega)).trans K6.out))
  have BB := HB0.out.trans ((hb5.mono HB0.out.size).trans (b6.mono (by omega)))
  have PC := hid (A2.out _ _ (H.out.ps.grow BB))
  have D5_ := hid (And.intro d5 (And.intro hb5 b6))
  have HS := hid hs0
  have HX := hid (show ∀ y, FrZ (fun q => Z q ∨ (w.heap.size ≤ q ∧ q < w6.heap.size)) w6 y → y.cell? ⟨w5.heap.size, 0, none⟩ = some (.int .i64 m) ∧ y.cell? ⟨w5.heap.size, 1, none⟩ = some (.int .i64 n) ∧ y.cell? ⟨w5.heap.size, 2, none⟩ = some (.slice aL nL cL) ∧ y.cell? ⟨w5.heap.size, 3, none⟩ = some (.int .u64 o) ∧ y.cell? ⟨w5.heap.size, 4, none⟩ = some (.slice aW nW cW) ∧ y.cell? ⟨w5.heap.size, 5, none⟩ = some (.slice aS nS cS) ∧ y.cell? ⟨w.heap.size + 1, 3, none⟩ = some (.int .i64 d) from fun y fr => by
    have n7 := (fr.block w5.heap.size (by omega) (.inr ⟨by omega, by omega⟩)).trans N6.out
    have e7 := (fr.block (w.heap.size + 1) (by omega) (.inr ⟨by omega, by omega⟩)).trans E6.out
    exact ⟨blk_cell n7 rfl, blk_cell n7 rfl, blk_cell n7 rfl, blk_cell n7 rfl, blk_cell n7 rfl, blk_cell n7 rfl, blk_cell e7 rfl⟩)
  have DU := hid (show ∀ y, FrZ (fun q => Z q ∨ (w.heap.size ≤ q ∧ q < w6.heap.size)) w6 y → Calls Try.prog 10 #[.agg (sx m n (.slice aL nL cL) o (.slice aW nW cW) (.slice aS nS cS))] y fun e y' => e = .returned (.bool r) ∧ Below y.heap.size y y' from fun y fr => rdue12 ((d5.below b6).keep fr.size (fun q hq => fr.block q (by have := d5.oL q hq; omega) (by
      rcases Nat.lt_or_ge q w.heap.size with e | e
      · exact .inl (H.out.o1 q hq)
      · exact .inr ⟨e, by have := d5.oL q hq; omega⟩)) (fun q hq => fr.block q (by have := d5.oW q hq; omega) (by
      rcases Nat.lt_or_ge q w.heap.size with e | e
      · exact .inl (H.out.o2 q hq)
      · exact .inr ⟨e, by have := d5.oW q hq; omega⟩)) (fun q hq => fr.block q (by have := d5.oS q hq; omega) (by
      rcases Nat.lt_or_ge q w.heap.size with e | e
      · exact .inl (H.out.o3 q hq)
      · exact .inr ⟨e, by have := d5.oS q hq; omega⟩))) r HR.out)
  have FX := hid (show ∀ y, FrZ (fun q => Z q ∨ (w.heap.size ≤ q ∧ q < w6.heap.size)) w6 y → PS (fun q => Z q ∨ (w.heap.size ≤ q ∧ q < w6.heap.size)) y s t p b1 b2 b3 n m o D V S → Do12 Z s t p b1 b2 b3 n k (.slice aL nL cL) (.slice aW nW cW) (.slice aS nS cS) w (.returned (.tuple #[.agg (sx m n (.slice aL nL cL) o (.slice aW nW cW) (.slice aS nS cS)), .bool true])) (ch6 y (w.heap.size + 1 + 1) m n (.slice aL nL cL) o (.slice aW nW cW) (.slice aS nS cS)) from fun y fr ps =>
    do_fin12 H.out HB0.out (by have := HS.out; omega) D5_.out.1 D5_.out.2.1 (fun q hq => .inl hq) (fun q hq => .inl hq) (fun q hq => .inl hq) D5_.out.2.2 ps fr (only6s y (w.heap.size + 1 + 1) m n _ o _ _) LN5.out)
  have HC := hid (show ∀ y', FrZ (fun q => Z q ∨ (w.heap.size ≤ q ∧ q < w6.heap.size)) w6 y' → (ch6 y' (w.heap.size + 1 + 1) m n (.slice aL nL cL) o (.slice aW nW cW) (.slice aS nS cS)).cell? ⟨w5.heap.size, 0, none⟩ = some (.int .i64 m) ∧ (ch6 y' (w.heap.size + 1 + 1) m n (.slice aL nL cL) o (.slice aW nW cW) (.slice aS nS cS)).cell? ⟨w5.heap.size, 1, none⟩ = some (.int .i64 n) ∧ (ch6 y' (w.heap.size + 1 + 1) m n (.slice aL nL cL) o (.slice aW nW cW) (.slice aS nS cS)).cell? ⟨w5.heap.size, 2, none⟩ = some (.slice aL nL cL) ∧ (ch6 y' (w.heap.size + 1 + 1) m n (.slice aL nL cL) o (.slice aW nW cW) (.slice aS nS cS)).cell? ⟨w5.heap.size, 3, none⟩ = some (.int .u64 o) ∧ (ch6 y' (w.heap.size + 1 + 1) m n (.slice aL nL cL) o (.slice aW nW cW) (.slice aS nS cS)).cell? ⟨w5.heap.size, 4, none⟩ = some (.slice aW nW cW) ∧ (ch6 y' (w.heap.size + 1 + 1) m n (.slice aL nL cL) o (.slice aW nW cW) (.slice aS nS cS)).cell? ⟨w5.heap.size, 5, none⟩ = some (.slice aS nS cS) ∧ (ch6 y' (w.heap.size + 1 + 1) m n (.slice aL nL cL) o (.slice aW nW cW) (.slice aS nS cS)).cell? ⟨w.heap.size + 1, 3, none⟩ = some (.int .i64 d) from fun y' fr => by
    obtain ⟨q0, q1, q2, q3, q4, q5, q6⟩ := HX.out y' fr
    have n1 : w5.heap.size ≠ w.heap.size + 1 + 1 := by omega
    have n2 : w.heap.size + 1 ≠ w.heap.size + 1 + 1 := by omega
    exact ⟨(ch6_cell _ _ _ _ _ _ _ _ _ _ n1).trans q0, (ch6_cell _ _ _ _ _ _ _ _ _ _ n1).trans q1, (ch6_cell _ _ _ _ _ _ _ _ _ _ n1).trans q2, (ch6_cell _ _ _ _ _ _ _ _ _ _ n1).trans q3, (ch6_cell _ _ _ _ _ _ _ _ _ _ n1).trans q4, (ch6_cell _ _ _ _ _ _ _ _ _ _ n1).trans q5, (ch6_cell _ _ _ _ _ _ _ _ _ _ n2).trans q6⟩)
  have Z1 := HX.out w6 (FrZ.refl _)
  have Z1' := hid Z1
  rw [hw6] at Z1'
  have PX := hid (show Calls Try.prog 17 #[.pointer (some ⟨s, 0, none⟩), .int .i64 d] (w5.alloc (.cells (sx m n (.slice aL nL cL) o (.slice aW nW cW) (.slice aS nS cS)) 35)).drew (PO (fun q => Z q ∨ (w.heap.size ≤ q ∧ q < w6.heap.size)) w6 s t p b1 b2 b3 n m o D V S (.bool r)) from by rw [← hw6]; exact PC.out)
  have RX := hid (show ∀ y, FrZ (fun q => Z q ∨ (w.heap.size ≤ q ∧ q < w6.heap.size)) w6 y → y.heap[w.heap.size + 1 + 1]? = some (.cells sz 35 (0, 0)) from fun y fr => (fr.block (w.heap.size + 1 + 1) (by omega) (.inr ⟨by omega, by omega⟩)).trans R6.out)
  clear TK A2 hb5 b6 d5 BB K4 K5 K6 H HB0 D5_ LN5 HS E6 hs0 s5 s6 hw6 PC Z1
  go_upto_region 8 with (fail)
  go_region_held3 (fun y => y.cell? ⟨w5.heap.size, 0, none⟩ = some (.int .i64 m) ∧ y.cell? ⟨w5.heap.size, 1, none⟩ = some (.int .i64 n) ∧ y.cell? ⟨w5.heap.size, 2, none⟩ = some (.slice aL nL cL) ∧ y.cell? ⟨w5.heap.size, 3, none⟩ = some (.int .u64 o) ∧ y.cell? ⟨w5.heap.size, 4, none⟩ = some (.slice aW nW cW) ∧ y.cell? ⟨w5.heap.size, 5, none⟩ = some (.slice aS nS cS) ∧ y.cell? ⟨w.heap.size + 1, 3, none⟩ = some (.int .i64 d))
    (first
      | with_reducible exact Z1'.out
      | with_reducible exact HX.out _ G7.out.1
      | with_reducible exact HX.out _ G8.out.1
      | with_reducible exact HC.out _ G8.out.1)
    (first
      | (go_at_call 17; (with_reducible refine PX.out.mono ?_); rintro e w7 ⟨rfl, fr7, p7⟩; have G7 := hid (And.intro fr7 p7); clear fr7 p7)
      | (go_at_call 10; refine (DU.out _ G7.out.1).mono ?_; rintro e w8 ⟨rfl, hb8⟩; have G8 := hid (And.intro (G7.out.1.trans (FrZ.of_below hb8)) (G7.out.2.below hb8)); clear hb8; have R8 := hid (RX.out _ G8.out.1); have x0 := blk_cell R8.out (i := 0) rfl; have x1 := blk_cell R8.out (i := 1) rfl; have x2 := blk_cell R8.out (i := 2) rfl; have x3 := blk_cell R8.out (i := 3) rfl; have x4 := blk_cell R8.out (i := 4) rfl; have x5 := blk_cell R8.out (i := 5) rfl; have y0 := blk_free R8.out (i := 0); have y1 := blk_free R8.out (i := 1); have y2 := blk_free R8.out (i := 2); have y3 := blk_free R8.out (i := 3); have y4 := blk_free R8.out (i := 4); have y5 := blk_free R8.out (i := 5)))
  all_goals
    have FIN := hid (FX.out w8 G8.out.1 G8.out.2)
    have S6 := hid (set6s R8.out (.int .i64 m) (.int .i64 n) (.slice aL nL cL) (.int .u64 o) (.slice aW nW cW) (.slice aS nS cS))
    clear FX G8 G7 HX HC RX R8 R6 N6 DU PX Z1'
    go_wp2
    exact bodyPost_ret (v := .tuple #[.agg (sx m n (.slice aL nL cL) o (.slice aW nW cW) (.slice aS nS cS)), .bool true]) (results_row_tmp rfl _ _ (w.heap.size + 1 + 1) 35 (sx m n (.slice aL nL cL) o (.slice aW nW cW) (.slice aS nS cS)) (0, 0) _ (by rfl) S6.out Try.underlying35 rfl (by kernel_rfl) _ (by rfl)) rfl FIN.out
set_option maxRecDepth 100000 in
set_option maxHeartbeats 8000000 in
theorem do12_copy {Z : Nat → Prop} {s t p b1 b2 b3 n k : Nat} {now : Int} {o : Nat} {D : List Tr} {V : List (Int × Int)} {S : List Int} {vL vW vS : Value} {w : World} (h : St12 Z s t p b1 b2 b3 n now o D V S vL vW vS k w) (hk : k < 400) (hn : 0 < n) (hn2 : n ≤ 64) (K q g d fd : Int) (hK0 : 0 ≤ K) (hK1 : K ≤ 255) (hd : inI d) (hf : 0 ≤ fd ∧ fd ≤ 65535) (hK : K % 8 = 7) :
    Calls Try.prog 7 #[.pointer (some ⟨s, 0, none⟩), .agg (sx now n vL o vW vS), .agg #[.int .u8 K, .int .i64 q, .int .i64 g, .int .i64 d, .int .u16 fd]] w (Do12 Z s t p b1 b2 b3 n k vL vW vS w) := by
  have hln := h.ln
  obtain ⟨aL, nL, cL, aW, nW, cW, aS, nS, cS, rfl, rfl, rfl, _, _, _, _, _, _⟩ := h.di.sl
  obtain ⟨w0, hw0⟩ : ∃ w0, w0 = ((w.alloc (.cells (sx now n (.slice aL nL cL) o (.slice aW nW cW) (.slice aS nS cS)) 35)).alloc (.cells #[.int .u8 K, .int .i64 q, .int .i64 g, .int .i64 d, .int .u16 fd] 39)).alloc (.cells sz 35) := ⟨_, rfl⟩
  have hb0 : Below w.heap.size w w0 := by rw [hw0]; exact (((bl_al w _).alloc (by simp) _).alloc (by simp; omega) _)
  have hs0 : w0.heap.size = w.heap.size + 3 := by rw [hw0]; simp
  have K4 := hid (show w0.heap[w.heap.size]? = some (.cells (sx now n (.slice aL nL cL) o (.slice aW nW cW) (.slice aS nS cS)) 35 (0, 0)) by rw [hw0]; exact (Below.heap_alloc _ _ _ (by simp; omega)).trans (heap_alloc2_old w _ _))
  have K5 := hid (show w0.heap[w.heap.size + 1]? = some (.cells #[.int .u8 K, .int .i64 q, .int .i64 g, .int .i64 d, .int .u16 fd] 39 (0, 0)) by rw [hw0]; exact (Below.heap_alloc _ _ _ (by simp)).trans (heap_alloc2_new w _ _))
  have K6 := hid (show w0.heap[w.heap.size + 1 + 1]? = some (.cells sz 35 (0, 0)) by
    have := heap_alloc_new ((w.alloc (.cells (sx now n (.slice aL nL cL) o (.slice aW nW cW) (.slice aS nS cS)) 35)).alloc (.cells #[.int .u8 K, .int .i64 q, .int .i64 g, .int .i64 d, .int .u16 fd] 39)) (.cells sz 35)
    rw [hw0]; simpa using this)
  have D0 := h.di.below hb0
  have H := hid h
  have HB0 := hid hb0
  have t2 : (K % 8 == 2) = false := by simp [hK]
  have t3 : (K % 8 == 3) = false := by simp [hK]
  have t4 : (K % 8 == 4) = false := by simp [hK]
  have t5 : (K % 8 == 5) = false := by simp [hK]
  have t6 : (K % 8 == 6) = false := by simp [hK]
  have t7 : (K % 8 == 7) = true := by simp [hK]
  have CC := hid (show Calls Try.prog 28 #[.pointer (some ⟨s, 0, none⟩)] w0 fun e w' => ∃ t' p' c1 c2 c3, e = .returned (.pointer (some ⟨w0.heap.size, 0, none⟩)) ∧ PS (fun q => q < w0.heap.size) w' w0.heap.size t' p' c1 c2 c3 n now o D V S ∧ Below w0.heap.size w0 w' from by
    obtain ⟨es, q⟩ := (H.out.ps.below hb0).sq
    refine (scopy q hn hn2).mono ?_
    rintro e w' ⟨t', p', c1, c2, c3, rfl, q', hb⟩
    exact ⟨t', p', c1, c2, c3, rfl, ⟨⟨es, q'⟩, H.out.ps.gd, H.out.ps.gv⟩, hb⟩)
  clear hK h D0 hb0
  go_enter Try.func7, Try.ntmps7
  go_wp2_with fail
  rw [← hw0]
  clear hw0
  refine CC.out.mono ?_
  rintro e w1 ⟨t', p', c1, c2, c3, rfl, q1, b1'⟩
  obtain ⟨c, hc⟩ : ∃ c, c = w0.heap.size := ⟨_, rfl⟩
  rw [← hc] at q1 ⊢
  have HC := hid hc
  have B1 := hid b1'
  have s1 := b1'.size
  have y4 : w1.cell? ⟨w.heap.size + 1, 4, none⟩ = some (.int .u16 fd) := blk_cell ((b1'.block _ (by omega)).trans K5.out) rfl
  have TK := hid (ps_tick q1 1099511627776 (by unfold inI; omega))
  generalize sat now (max 1099511627776 0) = m at *
  generalize due12 m D V S = r0 at *
  clear hc CC b1' q1
  go_wp2_with fail
  refine TK.out.mono ?_
  rintro e w2 ⟨rfl, fr2, q2⟩
  have B2 := hid (B1.out.trans (fr2.below (fun _ h => by rw [HC.out]; exact h) s1))
  obtain ⟨g2, r2, D2, V2, S2, _, A2, l1, l2, l3, l4⟩ := act_take (n := n) (now := m) (o := o) (D := D) (V := V) (S := S) (by omega)
  have PC := hid (show Calls Try.prog 18 #[.pointer (some ⟨c, 0, none⟩)] w2 (PO _ w2 c t' p' c1 c2 c3 n m o D2 V2 S2 (.tuple #[.int .i64 g2, .bool r2])) from A2 _ w2 c t' p' c1 c2 c3 q2)
  have s2 := fr2.size
  clear A2 q2 fr2 TK B1 y4
  go_wp2_with fail
  refine PC.out.mono ?_
  rintro e w3 ⟨rfl, fr3, q3⟩
  have B3 := hid (B2.out.trans (fr3.below (fun _ h => by rw [HC.out]; exact h) (by omega)))
  have y4 : w3.cell? ⟨w.heap.size + 1, 4, none⟩ = some (.int .u16 fd) := blk_cell ((B3.out.block _ (by omega)).trans K5.out) rfl
  have RD := hid (ps_ready q3 (by omega) fd)
  have s3 := fr3.size
  generalize markS S2 fd = S3 at *
  generalize due12 m D2 V2 S3 = r3 at *
  clear fr3 q3 PC B2
  go_wp2_with fail
  refine RD.out.mono ?_
  rintro e w7 ⟨rfl, fr4, q4⟩
  have B7 := hid (B3.out.trans (fr4.below (fun _ h => by rw [HC.out]; exact h) (by omega)))
  have N7 := hid ((B7.out.block w.heap.size (by omega)).trans K4.out)
  have R7 := hid ((B7.out.block (w.heap.size + 1 + 1) (by omega)).trans K6.out)
  have BW := HB0.out.trans (B7.out.mono HB0.out.size)
  have hs7 := B7.out.size
  have p7 := H.out.ps.grow BW
  have FIN := hid (do_fin12 H.out HB0.out (by omega) (H.out.di.below HB0.out) (Below.refl _ _) (fun q hq => .inl hq) (fun q hq => .inl hq) (fun q hq => .inl hq) B7.out p7 (FrZ.refl w7) (only_row12 w7 (w.heap.size + 1 + 1) (sx now n (.slice aL nL cL) o (.slice aW nW cW) (.slice aS nS cS))) (show D.length ≤ k + 1 ∧ V.length ≤ k + 1 ∧ S.length ≤ k + 1 ∧ o ≤ k + 1 by omega))
  clear RD B3 B7 fr4 q4 BW p7 K4 K5 K6 H HB0 y4
  go_wp2_with (first
    | (refine wpList_load_known (by rfl) 35 (.tmp 4) rfl w.heap.size rfl 35 (sx now n (.slice aL nL cL) o (.slice aW nW cW) (.slice aS nS cS)) (0, 0) _ N7.out Try.underlying35 rfl (by kernel_rfl) ?_)
    | (refine wpList_store_row rfl 35 (.tmp 6) (.tmp 140) rfl (w.heap.size + 1 + 1) (sx now n (.slice aL nL cL) o (.slice aW nW cW) (.slice aS nS cS)) rfl rfl 35 _ R7.out (by kernel_rfl) (by rfl) (by simp [Value.oneCell']) ?_))
  exact bodyPost_ret (v := .tuple #[.agg (sx now n (.slice aL nL cL) o (.slice aW nW cW) (.slice aS nS cS)), .bool true]) (results_row_tmp rfl _ _ (w.heap.size + 1 + 1) 35 (sx now n (.slice aL nL cL) o (.slice aW nW cW) (.slice aS nS cS)) (0, 0) _ (by rfl) (setRow_heap _ _ _ _ _ _ R7.out) Try.underlying35 rfl (by kernel_rfl) _ (by rfl)) rfl FIN.out
theorem do12 {Z : Nat → Prop} {s t p b1 b2 b3 n k : Nat} {now : Int} {o : Nat} {D : List Tr} {V : List (Int × Int)} {S : List Int} {vL vW vS : Value} {w : World} (h : St12 Z s t p b1 b2 b3 n now o D V S vL vW vS k w) (hk : k < 400) (hn : 0 < n) (hn2 : n ≤ 64) (K q g d fd : Int) (hK0 : 0 ≤ K) (hK1 : K ≤ 255) (hd : inI d) (hf : 0 ≤ fd ∧ fd ≤ 65535) :
    Calls Try.prog 7 #[.pointer (some ⟨s, 0, none⟩), .agg (sx now n vL o vW vS), .agg #[.int .u8 K, .int .i64 q, .int .i64 g, .int .i64 d, .int .u16 fd]] w (Do12 Z s t p b1 b2 b3 n k vL vW vS w) := by
  have hc : K % 8 = 2 ∨ K % 8 = 3 ∨ K % 8 = 4 ∨ K % 8 = 5 ∨ K % 8 = 6 ∨ K % 8 = 7 ∨ (K % 8 = 0 ∨ K % 8 = 1) := by omega
  rcases hc with e | e | e | e | e | e | e
  · exact do12_wait h hk K q g d fd hK0 hK1 hd hf e
  · exact do12_tick h hk K q g d fd hK0 hK1 hd hf e
  · exact do12_ready h hk K q g d fd hK0 hK1 hd hf e
  · exact do12_take5 h hk K q g d fd hK0 hK1 hd hf e
  · exact do12_take6 h hk K q g d fd hK0 hK1 hd hf e
  · exact do12_copy h hk hn hn2 K q g d fd hK0 hK1 hd hf e
  · exact do12_sleep h hk K q g d fd hK0 hK1 hd hf e
end Go.Proofs.Ytaogpodncphpjaa
