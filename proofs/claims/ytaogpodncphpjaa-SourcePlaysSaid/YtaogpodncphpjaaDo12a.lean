/- hostlerlaw12.do: Wait, Ready, Take, Sleep. Written by wip/tools/gendo12.py. -/
import Derived.Test.YtaogpodncphpjaaDo12
import Derived.Deep.RegionHeld3
namespace Go.Proofs.Ytaogpodncphpjaa
set_option linter.unusedVariables false
set_option linter.unusedSimpArgs false
open Go.RowKit
set_option maxRecDepth 100000 in
set_option maxHeartbeats 8000000 in
theorem do12_wait {Z : Nat → Prop} {s t p b1 b2 b3 n k : Nat} {now : Int} {o : Nat} {D : List Tr} {V : List (Int × Int)} {S : List Int} {vL vW vS : Value} {w : World} (h : St12 Z s t p b1 b2 b3 n now o D V S vL vW vS k w) (hk : k < 400) (K q g d fd : Int) (hK0 : 0 ≤ K) (hK1 : K ≤ 255) (hd : inI d) (hf : 0 ≤ fd ∧ fd ≤ 65535) (hK : K % 8 = 2) :
    Calls Try.prog 7 #[.pointer (some ⟨s, 0, none⟩), .agg (sx now n vL o vW vS), .agg #[.int .u8 K, .int .i64 q, .int .i64 g, .int .i64 d, .int .u16 fd]] w (Do12 Z s t p b1 b2 b3 n k vL vW vS w) := by
  have hln := h.ln
  obtain ⟨aL, nL, cL, aW, nW, cW, aS, nS, cS, rfl, rfl, rfl, _, _, _, _, _, _⟩ := h.di.sl
  obtain ⟨w0, hw0⟩ : ∃ w0, w0 = ((w.alloc (.cells (sx now n (.slice aL nL cL) o (.slice aW nW cW) (.slice aS nS cS)) 35)).alloc (.cells #[.int .u8 K, .int .i64 q, .int .i64 g, .int .i64 d, .int .u16 fd] 39)).alloc (.cells sz 35) := ⟨_, rfl⟩
  have hb0 : Below w.heap.size w w0 := by rw [hw0]; exact (((bl_al w _).alloc (by simp) _).alloc (by simp; omega) _)
  have hs0 : w0.heap.size = w.heap.size + 3 := by rw [hw0]; simp
  have K4 := hid (show w0.heap[w.heap.size]? = some (.cells (sx now n (.slice aL nL cL) o (.slice aW nW cW) (.slice aS nS cS)) 35 (0, 0)) by rw [hw0]; exact (Below.heap_alloc _ _ _ (by simp; omega)).trans (heap_alloc2_old w _ _))
  have K5 := hid (show w0.heap[w.heap.size + 1]? = some (.cells #[.int .u8 K, .int .i64 q, .int .i64 g, .int .i64 d, .int .u16 fd] 39 (0, 0)) by rw [hw0]; exact (Below.heap_alloc _ _ _ (by simp)).trans (heap_alloc2_new w _ _))
  have K6 := hid (show w0.heap[w.heap.size + 1 + 1]? = some (.cells sz 35 (0, 0)) by
    have := heap_alloc_new ((w.alloc (.cells (sx now n (.slice aL nL cL) o (.slice aW nW cW) (.slice aS nS cS)) 35)).alloc (.cells #[.int .u8 K, .int .i64 q, .int .i64 g, .int .i64 d, .int .u16 fd] 39)) (.cells sz 35)
    rw [hw0]; simpa using this)
  have D0 := h.di.below hb0
  have H := hid h
  have HB0 := hid hb0
  have t2 : (K % 8 == 2) = true := by simp [hK]
  have t3 : (K % 8 == 3) = false := by simp [hK]
  have t4 : (K % 8 == 4) = false := by simp [hK]
  have t5 : (K % 8 == 5) = false := by simp [hK]
  have t6 : (K % 8 == 6) = false := by simp [hK]
  have t7 : (K % 8 == 7) = false := by simp [hK]
  have hcv : IntKind.i64.wrap fd = fd := by
    have hb : IntKind.i64.bits = 64 := rfl
    have hs : IntKind.i64.signed = true := rfl
    simp [IntKind.wrap, hb, hs]; split <;> omega
  obtain ⟨b0, c0, V5, A1, A2, l1, l2, l3, l4⟩ := act_wait (n := n) (now := now) (o := o) (D := D) (V := V) (S := S) (by omega) fd g hf
  have DC := hid (show Calls Try.prog 22 #[.agg (sx now n (.slice aL nL cL) o (.slice aW nW cW) (.slice aS nS cS)), .int .i64 fd, .int .i64 g] w0 (P12 w0 (.slice aL nL cL) (.slice aW nW cW) (.slice aS nS cS) now n o D V5 S [.bool b0, .int .i64 c0]) from A1 w0 _ _ _ D0)
  have PC := hid (show ∀ (Z' : Nat → Prop) (y : World), PS Z' y s t p b1 b2 b3 n now o D V S → Calls Try.prog 23 #[.pointer (some ⟨s, 0, none⟩), .int .u16 fd, .int .i64 g] y (PO Z' y s t p b1 b2 b3 n now o D V5 S (.tuple #[.bool b0, .int .i64 c0])) from fun Z' y hy => A2 Z' y s t p b1 b2 b3 hy)
  have LN5 := hid (show D.length ≤ k + 1 ∧ V5.length ≤ k + 1 ∧ S.length ≤ k + 1 ∧ o ≤ k + 1 by omega)
  have bb0 : (b0 == b0) = true := by simp
  have nn0 : (c0 == c0) = true := by simp
  clear A1 A2 l1 l2 l3 l4 hK D0 hb0 h hln
  go_enter Try.func7, Try.ntmps7
  go_wp2_with (refine wpList_load_known (by rfl) 35 (.tmp 4) rfl w.heap.size rfl 35 (sx now n (.slice aL nL cL) o (.slice aW nW cW) (.slice aS nS cS)) (0, 0) _ (by rw [← hw0]; exact K4.out) Try.underlying35 rfl (by kernel_rfl) ?_)
  rw [← hw0]
  clear hw0
  refine DC.out.mono ?_
  rintro e w5 ⟨v1, v2, v3, rfl, d5, hb5, k1, k2, k3⟩
  obtain ⟨bL, mL, dL, bW, mW, dW, bS, mS, dS, rfl, rfl, rfl, _, _, _, _, _, _⟩ := d5.sl
  have s5 := hb5.size
  have e5 := (hb5.block (w.heap.size + 1) (by omega)).trans K5.out
  have e6 := (Below.heap_alloc w5 (.cells (sx now n (.slice bL mL dL) o (.slice bW mW dW) (.slice bS mS dS)) 35) _ (by omega)).trans e5
  have y1 : (w5.alloc (.cells (sx now n (.slice bL mL dL) o (.slice bW mW dW) (.slice bS mS dS)) 35)).cell? ⟨w.heap.size + 1, 1, none⟩ = some (.int .i64 q) := blk_cell e6 rfl
  have y2 : (w5.alloc (.cells (sx now n (.slice bL mL dL) o (.slice bW mW dW) (.slice bS mS dS)) 35)).cell? ⟨w.heap.size + 1, 2, none⟩ = some (.int .i64 g) := blk_cell e6 rfl
  have y3 : (w5.alloc (.cells (sx now n (.slice bL mL dL) o (.slice bW mW dW) (.slice bS mS dS)) 35)).cell? ⟨w.heap.size + 1, 3, none⟩ = some (.int .i64 d) := blk_cell e6 rfl
  have y4 : (w5.alloc (.cells (sx now n (.slice bL mL dL) o (.slice bW mW dW) (.slice bS mS dS)) 35)).cell? ⟨w.heap.size + 1, 4, none⟩ = some (.int .u16 fd) := blk_cell e6 rfl
  have R6 := hid ((Below.heap_alloc w5 (.cells (sx now n (.slice bL mL dL) o (.slice bW mW dW) (.slice bS mS dS)) 35) (w.heap.size + 1 + 1) (by omega)).trans ((hb5.block (w.heap.size + 1 + 1) (by omega)).trans K6.out))
  have N6 := hid (heap_alloc_new w5 (.cells (sx now n (.slice bL mL dL) o (.slice bW mW dW) (.slice bS mS dS)) 35))
  have B6 := hid (HB0.out.trans ((hb5.mono HB0.out.size).trans ((bl_al w5 (.cells (sx now n (.slice bL mL dL) o (.slice bW mW dW) (.slice bS mS dS)) 35)).mono (by omega))))
  have I6 := H.out.ps.grow B6.out
  have s6 : (w5.alloc (.cells (sx now n (.slice bL mL dL) o (.slice bW mW dW) (.slice bS mS dS)) 35)).heap.size = w5.heap.size + 1 := by simp
  have D5_ := hid (And.intro d5 (And.intro hb5 (And.intro k1 (And.intro k2 k3))))
  have HS := hid hs0
  clear DC d5 hb5 k1 k2 k3 K4 K5 K6 e5 e6
  have PC6 := hid (PC.out _ _ I6)
  clear PC I6
  go_wp2_with fail
  refine PC6.out.mono ?_
  rintro e w7 ⟨rfl, fr7, p7⟩
  have N7 := hid ((fr7.block w5.heap.size (by omega) (.inr ⟨by omega, by omega⟩)).trans N6.out)
  have R7 := hid ((fr7.block (w.heap.size + 1 + 1) (by omega) (.inr ⟨by omega, by omega⟩)).trans R6.out)
  have FIN := hid (do_fin12 H.out HB0.out (by have := HS.out; omega) D5_.out.1 D5_.out.2.1 D5_.out.2.2.1 D5_.out.2.2.2.1 D5_.out.2.2.2.2 (bl_al w5 _) p7 fr7 (only_row12 w7 (w.heap.size + 1 + 1) (sx now n (.slice bL mL dL) o (.slice bW mW dW) (.slice bS mS dS))) LN5.out)
  clear p7 fr7 PC6 N6 R6 B6 H HB0 D5_ LN5 HS y1 y2 y3 y4
  go_wp2_with (first
    | (refine wpList_load_known (by rfl) 35 (.tmp 8) rfl w5.heap.size rfl 35 (sx now n (.slice bL mL dL) o (.slice bW mW dW) (.slice bS mS dS)) (0, 0) _ N7.out Try.underlying35 rfl (by kernel_rfl) ?_)
    | (refine wpList_store_row rfl 35 (.tmp 6) (.tmp 55) rfl (w.heap.size + 1 + 1) (sx now n (.slice bL mL dL) o (.slice bW mW dW) (.slice bS mS dS)) rfl rfl 35 _ R7.out (by kernel_rfl) (by rfl) (by simp [Value.oneCell']) ?_))
  exact bodyPost_ret (v := .tuple #[.agg (sx now n (.slice bL mL dL) o (.slice bW mW dW) (.slice bS mS dS)), .bool true]) (results_row_tmp rfl _ _ (w.heap.size + 1 + 1) 35 (sx now n (.slice bL mL dL) o (.slice bW mW dW) (.slice bS mS dS)) (0, 0) _ (by rfl) (setRow_heap _ _ _ _ _ _ R7.out) Try.underlying35 rfl (by kernel_rfl) _ (by rfl)) rfl FIN.out
set_option maxRecDepth 100000 in
set_option maxHeartbeats 8000000 in
theorem do12_ready {Z : Nat → Prop} {s t p b1 b2 b3 n k : Nat} {now : Int} {o : Nat} {D : List Tr} {V : List (Int × Int)} {S : List Int} {vL vW vS : Value} {w : World} (h : St12 Z s t p b1 b2 b3 n now o D V S vL vW vS k w) (hk : k < 400) (K q g d fd : Int) (hK0 : 0 ≤ K) (hK1 : K ≤ 255) (hd : inI d) (hf : 0 ≤ fd ∧ fd ≤ 65535) (hK : K % 8 = 4) :
    Calls Try.prog 7 #[.pointer (some ⟨s, 0, none⟩), .agg (sx now n vL o vW vS), .agg #[.int .u8 K, .int .i64 q, .int .i64 g, .int .i64 d, .int .u16 fd]] w (Do12 Z s t p b1 b2 b3 n k vL vW vS w) := by
  have hln := h.ln
  obtain ⟨aL, nL, cL, aW, nW, cW, aS, nS, cS, rfl, rfl, rfl, _, _, _, _, _, _⟩ := h.di.sl
  obtain ⟨w0, hw0⟩ : ∃ w0, w0 = ((w.alloc (.cells (sx now n (.slice aL nL cL) o (.slice aW nW cW) (.slice aS nS cS)) 35)).alloc (.cells #[.int .u8 K, .int .i64 q, .int .i64 g, .int .i64 d, .int .u16 fd] 39)).alloc (.cells sz 35) := ⟨_, rfl⟩
  have hb0 : Below w.heap.size w w0 := by rw [hw0]; exact (((bl_al w _).alloc (by simp) _).alloc (by simp; omega) _)
  have hs0 : w0.heap.size = w.heap.size + 3 := by rw [hw0]; simp
  have K4 := hid (show w0.heap[w.heap.size]? = some (.cells (sx now n (.slice aL nL cL) o (.slice aW nW cW) (.slice aS nS cS)) 35 (0, 0)) by rw [hw0]; exact (Below.heap_alloc _ _ _ (by simp; omega)).trans (heap_alloc2_old w _ _))
  have K5 := hid (show w0.heap[w.heap.size + 1]? = some (.cells #[.int .u8 K, .int .i64 q, .int .i64 g, .int .i64 d, .int .u16 fd] 39 (0, 0)) by rw [hw0]; exact (Below.heap_alloc _ _ _ (by simp)).trans (heap_alloc2_new w _ _))
  have K6 := hid (show w0.heap[w.heap.size + 1 + 1]? = some (.cells sz 35 (0, 0)) by
    have := heap_alloc_new ((w.alloc (.cells (sx now n (.slice aL nL cL) o (.slice aW nW cW) (.slice aS nS cS)) 35)).alloc (.cells #[.int .u8 K, .int .i64 q, .int .i64 g, .int .i64 d, .int .u16 fd] 39)) (.cells sz 35)
    rw [hw0]; simpa using this)
  have D0 := h.di.below hb0
  have H := hid h
  have HB0 := hid hb0
  have t2 : (K % 8 == 2) = false := by simp [hK]
  have t3 : (K % 8 == 3) = false := by simp [hK]
  have t4 : (K % 8 == 4) = true := by simp [hK]
  have t5 : (K % 8 == 5) = false := by simp [hK]
  have t6 : (K % 8 == 6) = false := by simp [hK]
  have t7 : (K % 8 == 7) = false := by simp [hK]
  have hcv : IntKind.i64.wrap fd = fd := by
    have hb : IntKind.i64.bits = 64 := rfl
    have hs : IntKind.i64.signed = true := rfl
    simp [IntKind.wrap, hb, hs]; split <;> omega
  obtain ⟨b0, c0, S5, A1, A2, l1, l2, l3, l4⟩ := act_ready (n := n) (now := now) (o := o) (D := D) (V := V) (S := S) (by omega) fd
  have DC := hid (show Calls Try.prog 25 #[.agg (sx now n (.slice aL nL cL) o (.slice aW nW cW) (.slice aS nS cS)), .int .i64 fd] w0 (P12 w0 (.slice aL nL cL) (.slice aW nW cW) (.slice aS nS cS) now n o D V S5 [.bool b0, .int .i64 c0]) from A1 w0 _ _ _ D0)
  have PC := hid (show ∀ (Z' : Nat → Prop) (y : World), PS Z' y s t p b1 b2 b3 n now o D V S → Calls Try.prog 26 #[.pointer (some ⟨s, 0, none⟩), .int .u16 fd] y (PO Z' y s t p b1 b2 b3 n now o D V S5 (.tuple #[.bool b0, .int .i64 c0])) from fun Z' y hy => A2 Z' y s t p b1 b2 b3 hy)
  have LN5 := hid (show D.length ≤ k + 1 ∧ V.length ≤ k + 1 ∧ S5.length ≤ k + 1 ∧ o ≤ k + 1 by omega)
  have bb0 : (b0 == b0) = true := by simp
  have nn0 : (c0 == c0) = true := by simp
  clear A1 A2 l1 l2 l3 l4 hK D0 hb0 h hln
  go_enter Try.func7, Try.ntmps7
  go_wp2_with (refine wpList_load_known (by rfl) 35 (.tmp 4) rfl w.heap.size rfl 35 (sx now n (.slice aL nL cL) o (.slice aW nW cW) (.slice aS nS cS)) (0, 0) _ (by rw [← hw0]; exact K4.out) Try.underlying35 rfl (by kernel_rfl) ?_)
  rw [← hw0]
  clear hw0
  refine DC.out.mono ?_
  rintro e w5 ⟨v1, v2, v3, rfl, d5, hb5, k1, k2, k3⟩
  obtain ⟨bL, mL, dL, bW, mW, dW, bS, mS, dS, rfl, rfl, rfl, _, _, _, _, _, _⟩ := d5.sl
  have s5 := hb5.size
  have e5 := (hb5.block (w.heap.size + 1) (by omega)).trans K5.out
  have e6 := (Below.heap_alloc w5 (.cells (sx now n (.slice bL mL dL) o (.slice bW mW dW) (.slice bS mS dS)) 35) _ (by omega)).trans e5
  have y1 : (w5.alloc (.cells (sx now n (.slice bL mL dL) o (.slice bW mW dW) (.slice bS mS dS)) 35)).cell? ⟨w.heap.size + 1, 1, none⟩ = some (.int .i64 q) := blk_cell e6 rfl
  have y2 : (w5.alloc (.cells (sx now n (.slice bL mL dL) o (.slice bW mW dW) (.slice bS mS dS)) 35)).cell? ⟨w.heap.size + 1, 2, none⟩ = some (.int .i64 g) := blk_cell e6 rfl
  have y3 : (w5.alloc (.cells (sx now n (.slice bL mL dL) o (.slice bW mW dW) (.slice bS mS dS)) 35)).cell? ⟨w.heap.size + 1, 3, none⟩ = some (.int .i64 d) := blk_cell e6 rfl
  have y4 : (w5.alloc (.cells (sx now n (.slice bL mL dL) o (.slice bW mW dW) (.slice bS mS dS)) 35)).cell? ⟨w.heap.size + 1, 4, none⟩ = some (.int .u16 fd) := blk_cell e6 rfl
  have R6 := hid ((Below.heap_alloc w5 (.cells (sx now n (.slice bL mL dL) o (.slice bW mW dW) (.slice bS mS dS)) 35) (w.heap.size + 1 + 1) (by omega)).trans ((hb5.block (w.heap.size + 1 + 1) (by omega)).trans K6.out))
  have N6 := hid (heap_alloc_new w5 (.cells (sx now n (.slice bL mL dL) o (.slice bW mW dW) (.slice bS mS dS)) 35))
  have B6 := hid (HB0.out.trans ((hb5.mono HB0.out.size).trans ((bl_al w5 (.cells (sx now n (.slice bL mL dL) o (.slice bW mW dW) (.slice bS mS dS)) 35)).mono (by omega))))
  have I6 := H.out.ps.grow B6.out
  have s6 : (w5.alloc (.cells (sx now n (.slice bL mL dL) o (.slice bW mW dW) (.slice bS mS dS)) 35)).heap.size = w5.heap.size + 1 := by simp
  have D5_ := hid (And.intro d5 (And.intro hb5 (And.intro k1 (And.intro k2 k3))))
  have HS := hid hs0
  clear DC d5 hb5 k1 k2 k3 K4 K5 K6 e5 e6
  have PC6 := hid (PC.out _ _ I6)
  clear PC I6
  go_wp2_with fail
  refine PC6.out.mono ?_
  rintro e w7 ⟨rfl, fr7, p7⟩
  have N7 := hid ((fr7.block w5.heap.size (by omega) (.inr ⟨by omega, by omega⟩)).trans N6.out)
  have R7 := hid ((fr7.block (w.heap.size + 1 + 1) (by omega) (.inr ⟨by omega, by omega⟩)).trans R6.out)
  have FIN := hid (do_fin12 H.out HB0.out (by have := HS.out; omega) D5_.out.1 D5_.out.2.1 D5_.out.2.2.1 D5_.out.2.2.2.1 D5_.out.2.2.2.2 (bl_al w5 _) p7 fr7 (only_row12 w7 (w.heap.size + 1 + 1) (sx now n (.slice bL mL dL) o (.slice bW mW dW) (.slice bS mS dS))) LN5.out)
  clear p7 fr7 PC6 N6 R6 B6 H HB0 D5_ LN5 HS y1 y2 y3 y4
  go_wp2_with (first
    | (refine wpList_load_known (by rfl) 35 (.tmp 14) rfl w5.heap.size rfl 35 (sx now n (.slice bL mL dL) o (.slice bW mW dW) (.slice bS mS dS)) (0, 0) _ N7.out Try.underlying35 rfl (by kernel_rfl) ?_)
    | (refine wpList_store_row rfl 35 (.tmp 6) (.tmp 96) rfl (w.heap.size + 1 + 1) (sx now n (.slice bL mL dL) o (.slice bW mW dW) (.slice bS mS dS)) rfl rfl 35 _ R7.out (by kernel_rfl) (by rfl) (by simp [Value.oneCell']) ?_))
  exact bodyPost_ret (v := .tuple #[.agg (sx now n (.slice bL mL dL) o (.slice bW mW dW) (.slice bS mS dS)), .bool true]) (results_row_tmp rfl _ _ (w.heap.size + 1 + 1) 35 (sx now n (.slice bL mL dL) o (.slice bW mW dW) (.slice bS mS dS)) (0, 0) _ (by rfl) (setRow_heap _ _ _ _ _ _ R7.out) Try.underlying35 rfl (by kernel_rfl) _ (by rfl)) rfl FIN.out
set_option maxRecDepth 100000 in
set_option maxHeartbeats 8000000 in
theorem do12_take5 {Z : Nat → Prop} {s t p b1 b2 b3 n k : Nat} {now : Int} {o : Nat} {D : List Tr} {V : List (Int × Int)} {S : List Int} {vL vW vS : Value} {w : World} (h : St12 Z s t p b1 b2 b3 n now o D V S vL vW vS k w) (hk : k < 400) (K q g d fd : Int) (hK0 : 0 ≤ K) (hK1 : K ≤ 255) (hd : inI d) (hf : 0 ≤ fd ∧ fd ≤ 65535) (hK : K % 8 = 5) :
    Calls Try.prog 7 #[.pointer (some ⟨s, 0, none⟩), .agg (sx now n vL o vW vS), .agg #[.int .u8 K, .int .i64 q, .int .i64 g, .int .i64 d, .int .u16 fd]] w (Do12 Z s t p b1 b2 b3 n k vL vW vS w) := by
  have hln := h.ln
  obtain ⟨aL, nL, cL, aW, nW, cW, aS, nS, cS, rfl, rfl, rfl, _, _, _, _, _, _⟩ := h.di.sl
  obtain ⟨w0, hw0⟩ : ∃ w0, w0 = ((w.alloc (.cells (sx now n (.slice aL nL cL) o (.slice aW nW cW) (.slice aS nS cS)) 35)).alloc (.cells #[.int .u8 K, .int .i64 q, .int .i64 g, .int .i64 d, .int .u16 fd] 39)).alloc (.cells sz 35) := ⟨_, rfl⟩
  have hb0 : Below w.heap.size w w0 := by rw [hw0]; exact (((bl_al w _).alloc (by simp) _).alloc (by simp; omega) _)
  have hs0 : w0.heap.size = w.heap.size + 3 := by rw [hw0]; simp
  have K4 := hid (show w0.heap[w.heap.size]? = some (.cells (sx now n (.slice aL nL cL) o (.slice aW nW cW) (.slice aS nS cS)) 35 (0, 0)) by rw [hw0]; exact (Below.heap_alloc _ _ _ (by simp; omega)).trans (heap_alloc2_old w _ _))
  have K5 := hid (show w0.heap[w.heap.size + 1]? = some (.cells #[.int .u8 K, .int .i64 q, .int .i64 g, .int .i64 d, .int .u16 fd] 39 (0, 0)) by rw [hw0]; exact (Below.heap_alloc _ _ _ (by simp)).trans (heap_alloc2_new w _ _))
  have K6 := hid (show w0.heap[w.heap.size + 1 + 1]? = some (.cells sz 35 (0, 0)) by
    have := heap_alloc_new ((w.alloc (.cells (sx now n (.slice aL nL cL) o (.slice aW nW cW) (.slice aS nS cS)) 35)).alloc (.cells #[.int .u8 K, .int .i64 q, .int .i64 g, .int .i64 d, .int .u16 fd] 39)) (.cells sz 35)
    rw [hw0]; simpa using this)
  have D0 := h.di.below hb0
  have H := hid h
  have HB0 := hid hb0
  have t2 : (K % 8 == 2) = false := by simp [hK]
  have t3 : (K % 8 == 3) = false := by simp [hK]
  have t4 : (K % 8 == 4) = false := by simp [hK]
  have t5 : (K % 8 == 5) = true := by simp [hK]
  have t6 : (K % 8 == 6) = false := by simp [hK]
  have t7 : (K % 8 == 7) = false := by simp [hK]
  have hcv : IntKind.i64.wrap fd = fd := by
    have hb : IntKind.i64.bits = 64 := rfl
    have hs : IntKind.i64.signed = true := rfl
    simp [IntKind.wrap, hb, hs]; split <;> omega
  obtain ⟨c0, b0, D5, V5, S5, A1, A2, l1, l2, l3, l4⟩ := act_take (n := n) (now := now) (o := o) (D := D) (V := V) (S := S) (by omega)
  have DC := hid (show Calls Try.prog 27 #[.agg (sx now n (.slice aL nL cL) o (.slice aW nW cW) (.slice aS nS cS))] w0 (P12 w0 (.slice aL nL cL) (.slice aW nW cW) (.slice aS nS cS) now n o D5 V5 S5 [.int .i64 c0, .bool b0]) from A1 w0 _ _ _ D0)
  have PC := hid (show ∀ (Z' : Nat → Prop) (y : World), PS Z' y s t p b1 b2 b3 n now o D V S → Calls Try.prog 18 #[.pointer (some ⟨s, 0, none⟩)] y (PO Z' y s t p b1 b2 b3 n now o D5 V5 S5 (.tuple #[.int .i64 c0, .bool b0])) from fun Z' y hy => A2 Z' y s t p b1 b2 b3 hy)
  have LN5 := hid (show D5.length ≤ k + 1 ∧ V5.length ≤ k + 1 ∧ S5.length ≤ k + 1 ∧ o ≤ k + 1 by omega)
  have bb0 : (b0 == b0) = true := by simp
  have nn0 : (c0 == c0) = true := by simp
  clear A1 A2 l1 l2 l3 l4 hK D0 hb0 h hln
  go_enter Try.func7, Try.ntmps7
  go_wp2_with (refine wpList_load_known (by rfl) 35 (.tmp 4) rfl w.heap.size rfl 35 (sx now n (.slice aL nL cL) o (.slice aW nW cW) (.slice aS nS cS)) (0, 0) _ (by rw [← hw0]; exact K4.out) Try.underlying35 rfl (by kernel_rfl) ?_)
  rw [← hw0]
  clear hw0
  refine DC.out.mono ?_
  rintro e w5 ⟨v1, v2, v3, rfl, d5, hb5, k1, k2, k3⟩
  obtain ⟨bL, mL, dL, bW, mW, dW, bS, mS, dS, rfl, rfl, rfl, _, _, _, _, _, _⟩ := d5.sl
  have s5 := hb5.size
  have e5 := (hb5.block (w.heap.size + 1) (by omega)).trans K5.out
  have e6 := (Below.heap_alloc w5 (.cells (sx now n (.slice bL mL dL) o (.slice bW mW dW) (.slice bS mS dS)) 35) _ (by omega)).trans e5
  have y1 : (w5.alloc (.cells (sx now n (.slice bL mL dL) o (.slice bW mW dW) (.slice bS mS dS)) 35)).cell? ⟨w.heap.size + 1, 1, none⟩ = some (.int .i64 q) := blk_cell e6 rfl
  have y2 : (w5.alloc (.cells (sx now n (.slice bL mL dL) o (.slice bW mW dW) (.slice bS mS dS)) 35)).cell? ⟨w.heap.size + 1, 2, none⟩ = some (.int .i64 g) := blk_cell e6 rfl
  have y3 : (w5.alloc (.cells (sx now n (.slice bL mL dL) o (.slice bW mW dW) (.slice bS mS dS)) 35)).cell? ⟨w.heap.size + 1, 3, none⟩ = some (.int .i64 d) := blk_cell e6 rfl
  have y4 : (w5.alloc (.cells (sx now n (.slice bL mL dL) o (.slice bW mW dW) (.slice bS mS dS)) 35)).cell? ⟨w.heap.size + 1, 4, none⟩ = some (.int .u16 fd) := blk_cell e6 rfl
  have R6 := hid ((Below.heap_alloc w5 (.cells (sx now n (.slice bL mL dL) o (.slice bW mW dW) (.slice bS mS dS)) 35) (w.heap.size + 1 + 1) (by omega)).trans ((hb5.block (w.heap.size + 1 + 1) (by omega)).trans K6.out))
  have N6 := hid (heap_alloc_new w5 (.cells (sx now n (.slice bL mL dL) o (.slice bW mW dW) (.slice bS mS dS)) 35))
  have B6 := hid (HB0.out.trans ((hb5.mono HB0.out.size).trans ((bl_al w5 (.cells (sx now n (.slice bL mL dL) o (.slice bW mW dW) (.slice bS mS dS)) 35)).mono (by omega))))
  have I6 := H.out.ps.grow B6.out
  have s6 : (w5.alloc (.cells (sx now n (.slice bL mL dL) o (.slice bW mW dW) (.slice bS mS dS)) 35)).heap.size = w5.heap.size + 1 := by simp
  have D5_ := hid (And.intro d5 (And.intro hb5 (And.intro k1 (And.intro k2 k3))))
  have HS := hid hs0
  clear DC d5 hb5 k1 k2 k3 K4 K5 K6 e5 e6
  have PC6 := hid (PC.out _ _ I6)
  clear PC I6
  go_wp2_with fail
  refine PC6.out.mono ?_
  rintro e w7 ⟨rfl, fr7, p7⟩
  have N7 := hid ((fr7.block w5.heap.size (by omega) (.inr ⟨by omega, by omega⟩)).trans N6.out)
  have R7 := hid ((fr7.block (w.heap.size + 1 + 1) (by omega) (.inr ⟨by omega, by omega⟩)).trans R6.out)
  have FIN := hid (do_fin12 H.out HB0.out (by have := HS.out; omega) D5_.out.1 D5_.out.2.1 D5_.out.2.2.1 D5_.out.2.2.2.1 D5_.out.2.2.2.2 (bl_al w5 _) p7 fr7 (only_row12 w7 (w.heap.size + 1 + 1) (sx now n (.slice bL mL dL) o (.slice bW mW dW) (.slice bS mS dS))) LN5.out)
  clear p7 fr7 PC6 N6 R6 B6 H HB0 D5_ LN5 HS y1 y2 y3 y4
  go_wp2_with (first
    | (refine wpList_load_known (by rfl) 35 (.tmp 19) rfl w5.heap.size rfl 35 (sx now n (.slice bL mL dL) o (.slice bW mW dW) (.slice bS mS dS)) (0, 0) _ N7.out Try.underlying35 rfl (by kernel_rfl) ?_)
    | (refine wpList_store_row rfl 35 (.tmp 6) (.tmp 119) rfl (w.heap.size + 1 + 1) (sx now n (.slice bL mL dL) o (.slice bW mW dW) (.slice bS mS dS)) rfl rfl 35 _ R7.out (by kernel_rfl) (by rfl) (by simp [Value.oneCell']) ?_))
  exact bodyPost_ret (v := .tuple #[.agg (sx now n (.slice bL mL dL) o (.slice bW mW dW) (.slice bS mS dS)), .bool true]) (results_row_tmp rfl _ _ (w.heap.size + 1 + 1) 35 (sx now n (.slice bL mL dL) o (.slice bW mW dW) (.slice bS mS dS)) (0, 0) _ (by rfl) (setRow_heap _ _ _ _ _ _ R7.out) Try.underlying35 rfl (by kernel_rfl) _ (by rfl)) rfl FIN.out
set_option maxRecDepth 100000 in
set_option maxHeartbeats 8000000 in
theorem do12_take6 {Z : Nat → Prop} {s t p b1 b2 b3 n k : Nat} {now : Int} {o : Nat} {D : List Tr} {V : List (Int × Int)} {S : List Int} {vL vW vS : Value} {w : World} (h : St12 Z s t p b1 b2 b3 n now o D V S vL vW vS k w) (hk : k < 400) (K q g d fd : Int) (hK0 : 0 ≤ K) (hK1 : K ≤ 255) (hd : inI d) (hf : 0 ≤ fd ∧ fd ≤ 65535) (hK : K % 8 = 6) :
    Calls Try.prog 7 #[.pointer (some ⟨s, 0, none⟩), .agg (sx now n vL o vW vS), .agg #[.int .u8 K, .int .i64 q, .int .i64 g, .int .i64 d, .int .u16 fd]] w (Do12 Z s t p b1 b2 b3 n k vL vW vS w) := by
  have hln := h.ln
  obtain ⟨aL, nL, cL, aW, nW, cW, aS, nS, cS, rfl, rfl, rfl, _, _, _, _, _, _⟩ := h.di.sl
  obtain ⟨w0, hw0⟩ : ∃ w0, w0 = ((w.alloc (.cells (sx now n (.slice aL nL cL) o (.slice aW nW cW) (.slice aS nS cS)) 35)).alloc (.cells #[.int .u8 K, .int .i64 q, .int .i64 g, .int .i64 d, .int .u16 fd] 39)).alloc (.cells sz 35) := ⟨_, rfl⟩
  have hb0 : Below w.heap.size w w0 := by rw [hw0]; exact (((bl_al w _).alloc (by simp) _).alloc (by simp; omega) _)
  have hs0 : w0.heap.size = w.heap.size + 3 := by rw [hw0]; simp
  have K4 := hid (show w0.heap[w.heap.size]? = some (.cells (sx now n (.slice aL nL cL) o (.slice aW nW cW) (.slice aS nS cS)) 35 (0, 0)) by rw [hw0]; exact (Below.heap_alloc _ _ _ (by simp; omega)).trans (heap_alloc2_old w _ _))
  have K5 := hid (show w0.heap[w.heap.size + 1]? = some (.cells #[.int .u8 K, .int .i64 q, .int .i64 g, .int .i64 d, .int .u16 fd] 39 (0, 0)) by rw [hw0]; exact (Below.heap_alloc _ _ _ (by simp)).trans (heap_alloc2_new w _ _))
  have K6 := hid (show w0.heap[w.heap.size + 1 + 1]? = some (.cells sz 35 (0, 0)) by
    have := heap_alloc_new ((w.alloc (.cells (sx now n (.slice aL nL cL) o (.slice aW nW cW) (.slice aS nS cS)) 35)).alloc (.cells #[.int .u8 K, .int .i64 q, .int .i64 g, .int .i64 d, .int .u16 fd] 39)) (.cells sz 35)
    rw [hw0]; simpa using this)
  have D0 := h.di.below hb0
  have H := hid h
  have HB0 := hid hb0
  have t2 : (K % 8 == 2) = false := by simp [hK]
  have t3 : (K % 8 == 3) = false := by simp [hK]
  have t4 : (K % 8 == 4) = false := by simp [hK]
  have t5 : (K % 8 == 5) = false := by simp [hK]
  have t6 : (K % 8 == 6) = true := by simp [hK]
  have t7 : (K % 8 == 7) = false := by simp [hK]
  have hcv : IntKind.i64.wrap fd = fd := by
    have hb : IntKind.i64.bits = 64 := rfl
    have hs : IntKind.i64.signed = true := rfl
    simp [IntKind.wrap, hb, hs]; split <;> omega
  obtain ⟨c0, b0, D5, V5, S5, A1, A2, l1, l2, l3, l4⟩ := act_take (n := n) (now := now) (o := o) (D := D) (V := V) (S := S) (by omega)
  have DC := hid (show Calls Try.prog 27 #[.agg (sx now n (.slice aL nL cL) o (.slice aW nW cW) (.slice aS nS cS))] w0 (P12 w0 (.slice aL nL cL) (.slice aW nW cW) (.slice aS nS cS) now n o D5 V5 S5 [.int .i64 c0, .bool b0]) from A1 w0 _ _ _ D0)
  have PC := hid (show ∀ (Z' : Nat → Prop) (y : World), PS Z' y s t p b1 b2 b3 n now o D V S → Calls Try.prog 18 #[.pointer (some ⟨s, 0, none⟩)] y (PO Z' y s t p b1 b2 b3 n now o D5 V5 S5 (.tuple #[.int .i64 c0, .bool b0])) from fun Z' y hy => A2 Z' y s t p b1 b2 b3 hy)
  have LN5 := hid (show D5.length ≤ k + 1 ∧ V5.length ≤ k + 1 ∧ S5.length ≤ k + 1 ∧ o ≤ k + 1 by omega)
  have bb0 : (b0 == b0) = true := by simp
  have nn0 : (c0 == c0) = true := by simp
  clear A1 A2 l1 l2 l3 l4 hK D0 hb0 h hln
  go_enter Try.func7, Try.ntmps7
  go_wp2_with (refine wpList_load_known (by rfl) 35 (.tmp 4) rfl w.heap.size rfl 35 (sx now n (.slice aL nL cL) o (.slice aW nW cW) (.slice aS nS cS)) (0, 0) _ (by rw [← hw0]; exact K4.out) Try.underlying35 rfl (by kernel_rfl) ?_)
  rw [← hw0]
  clear hw0
  refine DC.out.mono ?_
  rintro e w5 ⟨v1, v2, v3, rfl, d5, hb5, k1, k2, k3⟩
  obtain ⟨bL, mL, dL, bW, mW, dW, bS, mS, dS, rfl, rfl, rfl, _, _, _, _, _, _⟩ := d5.sl
  have s5 := hb5.size
  have e5 := (hb5.block (w.heap.size + 1) (by omega)).trans K5.out
  have e6 := (Below.heap_alloc w5 (.cells (sx now n (.slice bL mL dL) o (.slice bW mW dW) (.slice bS mS dS)) 35) _ (by omega)).trans e5
  have y1 : (w5.alloc (.cells (sx now n (.slice bL mL dL) o (.slice bW mW dW) (.slice bS mS dS)) 35)).cell? ⟨w.heap.size + 1, 1, none⟩ = some (.int .i64 q) := blk_cell e6 rfl
  have y2 : (w5.alloc (.cells (sx now n (.slice bL mL dL) o (.slice bW mW dW) (.slice bS mS dS)) 35)).cell? ⟨w.heap.size + 1, 2, none⟩ = some (.int .i64 g) := blk_cell e6 rfl
  have y3 : (w5.alloc (.cells (sx now n (.slice bL mL dL) o (.slice bW mW dW) (.slice bS mS dS)) 35)).cell? ⟨w.heap.size + 1, 3, none⟩ = some (.int .i64 d) := blk_cell e6 rfl
  have y4 : (w5.alloc (.cells (sx now n (.slice bL mL dL) o (.slice bW mW dW) (.slice bS mS dS)) 35)).cell? ⟨w.heap.size + 1, 4, none⟩ = some (.int .u16 fd) := blk_cell e6 rfl
  have R6 := hid ((Below.heap_alloc w5 (.cells (sx now n (.slice bL mL dL) o (.slice bW mW dW) (.slice bS mS dS)) 35) (w.heap.size + 1 + 1) (by omega)).trans ((hb5.block (w.heap.size + 1 + 1) (by omega)).trans K6.out))
  have N6 := hid (heap_alloc_new w5 (.cells (sx now n (.slice bL mL dL) o (.slice bW mW dW) (.slice bS mS dS)) 35))
  have B6 := hid (HB0.out.trans ((hb5.mono HB0.out.size).trans ((bl_al w5 (.cells (sx now n (.slice bL mL dL) o (.slice bW mW dW) (.slice bS mS dS)) 35)).mono (by omega))))
  have I6 := H.out.ps.grow B6.out
  have s6 : (w5.alloc (.cells (sx now n (.slice bL mL dL) o (.slice bW mW dW) (.slice bS mS dS)) 35)).heap.size = w5.heap.size + 1 := by simp
  have D5_ := hid (And.intro d5 (And.intro hb5 (And.intro k1 (And.intro k2 k3))))
  have HS := hid hs0
  clear DC d5 hb5 k1 k2 k3 K4 K5 K6 e5 e6
  have PC6 := hid (PC.out _ _ I6)
  clear PC I6
  go_wp2_with fail
  refine PC6.out.mono ?_
  rintro e w7 ⟨rfl, fr7, p7⟩
  have N7 := hid ((fr7.block w5.heap.size (by omega) (.inr ⟨by omega, by omega⟩)).trans N6.out)
  have R7 := hid ((fr7.block (w.heap.size + 1 + 1) (by omega) (.inr ⟨by omega, by omega⟩)).trans R6.out)
  have FIN := hid (do_fin12 H.out HB0.out (by have := HS.out; omega) D5_.out.1 D5_.out.2.1 D5_.out.2.2.1 D5_.out.2.2.2.1 D5_.out.2.2.2.2 (bl_al w5 _) p7 fr7 (only_row12 w7 (w.heap.size + 1 + 1) (sx now n (.slice bL mL dL) o (.slice bW mW dW) (.slice bS mS dS))) LN5.out)
  clear p7 fr7 PC6 N6 R6 B6 H HB0 D5_ LN5 HS y1 y2 y3 y4
  go_wp2_with (first
    | (refine wpList_load_known (by rfl) 35 (.tmp 19) rfl w5.heap.size rfl 35 (sx now n (.slice bL mL dL) o (.slice bW mW dW) (.slice bS mS dS)) (0, 0) _ N7.out Try.underlying35 rfl (by kernel_rfl) ?_)
    | (refine wpList_store_row rfl 35 (.tmp 6) (.tmp 119) rfl (w.heap.size + 1 + 1) (sx now n (.slice bL mL dL) o (.slice bW mW dW) (.slice bS mS dS)) rfl rfl 35 _ R7.out (by kernel_rfl) (by rfl) (by simp [Value.oneCell']) ?_))
  exact bodyPost_ret (v := .tuple #[.agg (sx now n (.slice bL mL dL) o (.slice bW mW dW) (.slice bS mS dS)), .bool true]) (results_row_tmp rfl _ _ (w.heap.size + 1 + 1) 35 (sx now n (.slice bL mL dL) o (.slice bW mW dW) (.slice bS mS dS)) (0, 0) _ (by rfl) (setRow_heap _ _ _ _ _ _ R7.out) Try.underlying35 rfl (by kernel_rfl) _ (by rfl)) rfl FIN.out
set_option maxRecDepth 100000 in
set_option maxHeartbeats 8000000 in
theorem do12_sleep {Z : Nat → Prop} {s t p b1 b2 b3 n k : Nat} {now : Int} {o : Nat} {D : List Tr} {V : List (Int × Int)} {S : List Int} {vL vW vS : Value} {w : World} (h : St12 Z s t p b1 b2 b3 n now o D V S vL vW vS k w) (hk : k < 400) (K q g d fd : Int) (hK0 : 0 ≤ K) (hK1 : K ≤ 255) (hd : inI d) (hf : 0 ≤ fd ∧ fd ≤ 65535) (hK : K % 8 = 0 ∨ K % 8 = 1) :
    Calls Try.prog 7 #[.pointer (some ⟨s, 0, none⟩), .agg (sx now n vL o vW vS), .agg #[.int .u8 K, .int .i64 q, .int .i64 g, .int .i64 d, .int .u16 fd]] w (Do12 Z s t p b1 b2 b3 n k vL vW vS w) := by
  have hln := h.ln
  obtain ⟨aL, nL, cL, aW, nW, cW, aS, nS, cS, rfl, rfl, rfl, _, _, _, _, _, _⟩ := h.di.sl
  obtain ⟨w0, hw0⟩ : ∃ w0, w0 = ((w.alloc (.cells (sx now n (.slice aL nL cL) o (.slice aW nW cW) (.slice aS nS cS)) 35)).alloc (.cells #[.int .u8 K, .int .i64 q, .int .i64 g, .int .i64 d, .int .u16 fd] 39)).alloc (.cells sz 35) := ⟨_, rfl⟩
  have hb0 : Below w.heap.size w w0 := by rw [hw0]; exact (((bl_al w _).alloc (by simp) _).alloc (by simp; omega) _)
  have hs0 : w0.heap.size = w.heap.size + 3 := by rw [hw0]; simp
  have K4 := hid (show w0.heap[w.heap.size]? = some (.cells (sx now n (.slice aL nL cL) o (.slice aW nW cW) (.slice aS nS cS)) 35 (0, 0)) by rw [hw0]; exact (Below.heap_alloc _ _ _ (by simp; omega)).trans (heap_alloc2_old w _ _))
  have K5 := hid (show w0.heap[w.heap.size + 1]? = some (.cells #[.int .u8 K, .int .i64 q, .int .i64 g, .int .i64 d, .int .u16 fd] 39 (0, 0)) by rw [hw0]; exact (Below.heap_alloc _ _ _ (by simp)).trans (heap_alloc2_new w _ _))
  have K6 := hid (show w0.heap[w.heap.size + 1 + 1]? = some (.cells sz 35 (0, 0)) by
    have := heap_alloc_new ((w.alloc (.cells (sx now n (.slice aL nL cL) o (.slice aW nW cW) (.slice aS nS cS)) 35)).alloc (.cells #[.int .u8 K, .int .i64 q, .int .i64 g, .int .i64 d, .int .u16 fd] 39)) (.cells sz 35)
    rw [hw0]; simpa using this)
  have D0 := h.di.below hb0
  have H := hid h
  have HB0 := hid hb0
  have t2 : (K % 8 == 2) = false := by simp; omega
  have t3 : (K % 8 == 3) = false := by simp; omega
  have t4 : (K % 8 == 4) = false := by simp; omega
  have t5 : (K % 8 == 5) = false := by simp; omega
  have t6 : (K % 8 == 6) = false := by simp; omega
  have t7 : (K % 8 == 7) = false := by simp; omega
  have hcv : IntKind.i64.wrap fd = fd := by
    have hb : IntKind.i64.bits = 64 := rfl
    have hs : IntKind.i64.signed = true := rfl
    simp [IntKind.wrap, hb, hs]; split <;> omega
  obtain ⟨b0, c0, o5, D5, A1, A2, l1, l2, l3, l4⟩ := act_sleep (n := n) (o := o) (D := D) (V := V) (S := S) (by omega) (by omega) H.out.ps.inow q g d hd
  have DC := hid (show Calls Try.prog 29 #[.agg (sx now n (.slice aL nL cL) o (.slice aW nW cW) (.slice aS nS cS)), .int .i64 q, .int .i64 g, .int .i64 d] w0 (P12 w0 (.slice aL nL cL) (.slice aW nW cW) (.slice aS nS cS) now n o5 D5 V S [.bool b0, .int .i64 c0]) from A1 w0 _ _ _ D0)
  have PC := hid (show ∀ (Z' : Nat → Prop) (y : World), PS Z' y s t p b1 b2 b3 n now o D V S → Calls Try.prog 16 #[.pointer (some ⟨s, 0, none⟩), .int .i64 q, .int .i64 g, .int .i64 d] y (PO Z' y s t p b1 b2 b3 n now o5 D5 V S (.tuple #[.bool b0, .int .i64 c0])) from fun Z' y hy => A2 Z' y s t p b1 b2 b3 hy)
  have LN5 := hid (show D5.length ≤ k + 1 ∧ V.length ≤ k + 1 ∧ S.length ≤ k + 1 ∧ o5 ≤ k + 1 by omega)
  have bb0 : (b0 == b0) = true := by simp
  have nn0 : (c0 == c0) = true := by simp
  clear A1 A2 l1 l2 l3 l4 hK D0 hb0 h hln
  go_enter Try.func7, Try.ntmps7
  go_wp2_with (refine wpList_load_known (by rfl) 35 (.tmp 4) rfl w.heap.size rfl 35 (sx now n (.slice aL nL cL) o (.slice aW nW cW) (.slice aS nS cS)) (0, 0) _ (by rw [← hw0]; exact K4.out) Try.underlying35 rfl (by kernel_rfl) ?_)
  rw [← hw0]
  clear hw0
  refine DC.out.mono ?_
  rintro e w5 ⟨v1, v2, v3, rfl, d5, hb5, k1, k2, k3⟩
  obtain ⟨bL, mL, dL, bW, mW, dW, bS, mS, dS, rfl, rfl, rfl, _, _, _, _, _, _⟩ := d5.sl
  have s5 := hb5.size
  have e5 := (hb5.block (w.heap.size + 1) (by omega)).trans K5.out
  have e6 := (Below.heap_alloc w5 (.cells (sx now n (.slice bL mL dL) o5 (.slice bW mW dW) (.slice bS mS dS)) 35) _ (by omega)).trans e5
  have y1 : (w5.alloc (.cells (sx now n (.slice bL mL dL) o5 (.slice bW mW dW) (.slice bS mS dS)) 35)).cell? ⟨w.heap.size + 1, 1, none⟩ = some (.int .i64 q) := blk_cell e6 rfl
  have y2 : (w5.alloc (.cells (sx now n (.slice bL mL dL) o5 (.slice bW mW dW) (.slice bS mS dS)) 35)).cell? ⟨w.heap.size + 1, 2, none⟩ = some (.int .i64 g) := blk_cell e6 rfl
  have y3 : (w5.alloc (.cells (sx now n (.slice bL mL dL) o5 (.slice bW mW dW) (.slice bS mS dS)) 35)).cell? ⟨w.heap.size + 1, 3, none⟩ = some (.int .i64 d) := blk_cell e6 rfl
  have y4 : (w5.alloc (.cells (sx now n (.slice bL mL dL) o5 (.slice bW mW dW) (.slice bS mS dS)) 35)).cell? ⟨w.heap.size + 1, 4, none⟩ = some (.int .u16 fd) := blk_cell e6 rfl
  have R6 := hid ((Below.heap_alloc w5 (.cells (sx now n (.slice bL mL dL) o5 (.slice bW mW dW) (.slice bS mS dS)) 35) (w.heap.size + 1 + 1) (by omega)).trans ((hb5.block (w.heap.size + 1 + 1) (by omega)).trans K6.out))
  have N6 := hid (heap_alloc_new w5 (.cells (sx now n (.slice bL mL dL) o5 (.slice bW mW dW) (.slice bS mS dS)) 35))
  have B6 := hid (HB0.out.trans ((hb5.mono HB0.out.size).trans ((bl_al w5 (.cells (sx now n (.slice bL mL dL) o5 (.slice bW mW dW) (.slice bS mS dS)) 35)).mono (by omega))))
  have I6 := H.out.ps.grow B6.out
  have s6 : (w5.alloc (.cells (sx now n (.slice bL mL dL) o5 (.slice bW mW dW) (.slice bS mS dS)) 35)).heap.size = w5.heap.size + 1 := by simp
  have D5_ := hid (And.intro d5 (And.intro hb5 (And.intro k1 (And.intro k2 k3))))
  have HS := hid hs0
  clear DC d5 hb5 k1 k2 k3 K4 K5 K6 e5 e6
  have PC6 := hid (PC.out _ _ I6)
  clear PC I6
  go_wp2_with fail
  refine PC6.out.mono ?_
  rintro e w7 ⟨rfl, fr7, p7⟩
  have N7 := hid ((fr7.block w5.heap.size (by omega) (.inr ⟨by omega, by omega⟩)).trans N6.out)
  have R7 := hid ((fr7.block (w.heap.size + 1 + 1) (by omega) (.inr ⟨by omega, by omega⟩)).trans R6.out)
  have FIN := hid (do_fin12 H.out HB0.out (by have := HS.out; omega) D5_.out.1 D5_.out.2.1 D5_.out.2.2.1 D5_.out.2.2.2.1 D5_.out.2.2.2.2 (bl_al w5 _) p7 fr7 (only_row12 w7 (w.heap.size + 1 + 1) (sx now n (.slice bL mL dL) o5 (.slice bW mW dW) (.slice bS mS dS))) LN5.out)
  clear p7 fr7 PC6 N6 R6 B6 H HB0 D5_ LN5 HS y1 y2 y3 y4
  go_wp2_with (first
    | (refine wpList_load_known (by rfl) 35 (.tmp 25) rfl w5.heap.size rfl 35 (sx now n (.slice bL mL dL) o5 (.slice bW mW dW) (.slice bS mS dS)) (0, 0) _ N7.out Try.underlying35 rfl (by kernel_rfl) ?_)
    | (refine wpList_store_row rfl 35 (.tmp 6) (.tmp 164) rfl (w.heap.size + 1 + 1) (sx now n (.slice bL mL dL) o5 (.slice bW mW dW) (.slice bS mS dS)) rfl rfl 35 _ R7.out (by kernel_rfl) (by rfl) (by simp [Value.oneCell']) ?_))
  exact bodyPost_ret (v := .tuple #[.agg (sx now n (.slice bL mL dL) o5 (.slice bW mW dW) (.slice bS mS dS)), .bool true]) (results_row_tmp rfl _ _ (w.heap.size + 1 + 1) 35 (sx now n (.slice bL mL dL) o5 (.slice bW mW dW) (.slice bS mS dS)) (0, 0) _ (by rfl) (setRow_heap _ _ _ _ _ _ R7.out) Try.underlying35 rfl (by kernel_rfl) _ (by rfl)) rfl FIN.out
end Go.Proofs.Ytaogpodncphpjaa
