/- The document's source by value: Take. Written by wip/tools/gen12.py. -/
import Derived.Test.YtaogpodncphpjaaRef12E
import Derived.Deep.RegionWith
namespace Go.Proofs.Ytaogpodncphpjaa
set_option linter.unusedVariables false
set_option linter.unusedSimpArgs false
open Go.RowKit
theorem drew_blk {w : World} {q : Nat} {o : Option Obj} (h : w.heap[q]? = o) : w.drew.heap[q]? = o := h
theorem P12.below {w w' w2 : World} {now : Int} {n o : Nat} {vL vW vS : Value} {D : List Tr} {V : List (Int × Int)} {S : List Int} {rs : List Value} {e : Ending} (h : P12 w vL vW vS now n o D V S rs e w') (hb : Below w'.heap.size w' w2) : P12 w vL vW vS now n o D V S rs e w2 := by
  obtain ⟨v1, v2, v3, e1, h1, h2, h3, h4, h5⟩ := h
  have hs := hb.size
  exact ⟨v1, v2, v3, e1, h1.below hb, h2.trans (hb.mono h2.size), fun q hq => (h3 q hq).imp id fun h => by omega, fun q hq => (h4 q hq).imp id fun h => by omega, fun q hq => (h5 q hq).imp id fun h => by omega⟩
set_option maxRecDepth 100000 in
set_option maxHeartbeats 8000000 in
theorem rtake12_t {w : World} {now : Int} {n o : Nat} {vL vW vS : Value} {D : List Tr} {V : List (Int × Int)} {S : List Int} (h : D12 w vL vW vS D V S) (hd : dueT D now = true) :
    Calls Try.prog 27 #[.agg (sx now n vL o vW vS)] w (P12 w vL vW vS now n o (tkD D now) V S [.int .i64 (tkE D now).2.2, .bool true]) := by
  obtain ⟨aL, nL, cL, aW, nW, cW, aS, nS, cS, rfl, rfl, rfl, HL, HW, HS, _, _, _⟩ := h.sl
  obtain ⟨w0, hw0⟩ : ∃ w0, w0 = (w.alloc (.cells (sx now n (.slice aL nL cL) o (.slice aW nW cW) (.slice aS nS cS)) 35)).alloc (.cells sz 35) := ⟨_, rfl⟩
  have K := hid (show K12 w w0 (sx now n (.slice aL nL cL) o (.slice aW nW cW) (.slice aS nS cS)) by rw [hw0]; exact K12.start w _)
  have hs0 : w0.heap.size = w.heap.size + 2 := by rw [hw0]; simp
  have H := hid h
  have Q0 := hid (Q12.start h K.out)
  have A := hid (rttake_all w0 n o _ D Q0.out.d.dt now)
  rw [hd] at A
  obtain ⟨D1, hD1⟩ : ∃ D1, D1 = tkD D now := ⟨_, rfl⟩
  rw [← hD1] at A
  obtain ⟨⟨y1, y2, y3⟩, hy⟩ : ∃ y, y = tkE D now := ⟨_, rfl⟩
  rw [← hy] at A
  rw [← hD1, ← hy]
  clear hD1 hy
  clear h hd
  go_enter Try.func27, Try.ntmps27
  go_wp2_with (refine wpList_load_midw (by rfl) 29 (.tmp 13) rfl w.heap.size 1 rfl [.int .i64 n, .slice aL nL cL, .int .u64 o] _ (by rw [← hw0]; exact range3 K.out.box rfl rfl rfl) Try.underlying29 rfl (by kernel_rfl) ?_)
  rw [← hw0]
  refine A.out.mono ?_
  rintro e w2 ⟨v1, rfl, hd1, hb2, k1⟩
  have hs2 := hb2.size
  have Q2 := hid (Q0.out.mkT hd1 hb2 k1)
  obtain ⟨a1, n1, c1, rfl, _, _⟩ := hd1.sl
  obtain ⟨w4, hw4⟩ : ∃ w4, w4 = (((w2.alloc (.cells #[.int .i64 0, .slice none 0 0, .int .u64 0] 29)).alloc (.cells #[.int .i64 0, .int .u64 0, .int .i64 0] 51)).setRow w2.heap.size #[.int .i64 n, .slice a1 n1 c1, .int .u64 o]).setRow (w2.heap.size + 1) #[.int .i64 y1, .int .u64 y2, .int .i64 y3] := ⟨_, rfl⟩
  have hb4 : Below w2.heap.size w2 w4 := by rw [hw4]; exact row_below (row_below (((Below.refl w2.heap.size w2).alloc (Nat.le_refl _) _).alloc (by simp) _) (Nat.le_refl _) _) (by omega) _
  have Q4 := hid (Q2.out.mono hb4)
  have hs4 : w4.heap.size = w2.heap.size + 2 := by rw [hw4, row_size, row_size]; simp
  have X4 := hid (show w4.heap[w2.heap.size]? = some (.cells #[.int .i64 n, .slice a1 n1 c1, .int .u64 o] 29 (0, 0)) by rw [hw4]; exact (row_other _ _ _ _ (by omega)).trans (setRow_heap _ _ _ _ _ _ (heap_alloc2_old w2 _ _)))
  have E4 := hid (show w4.heap[w2.heap.size + 1]? = some (.cells #[.int .i64 y1, .int .u64 y2, .int .i64 y3] 51 (0, 0)) by rw [hw4]; exact setRow_heap _ _ _ _ _ _ ((row_other _ _ _ _ (by omega)).trans (heap_alloc2_new w2 _ _)))
  clear hd1 hb2 k1 hb4 hw0 K Q0 Q2 A
  go_upto_region 2 with (first
    | (refine wpList_store_row rfl 29 (.tmp 5) (.tmp 18) rfl w2.heap.size #[.int .i64 n, .slice a1 n1 c1, .int .u64 o] rfl rfl 29 _ (heap_alloc2_old w2 _ _) (by kernel_rfl) (by rfl) (by simp [Value.oneCell']) ?_)
    | (refine wpList_store_row rfl 51 (.tmp 6) (.tmp 19) rfl (w2.heap.size + 1) #[.int .i64 y1, .int .u64 y2, .int .i64 y3] rfl rfl 51 _ ((row_other _ _ _ _ (by omega)).trans (heap_alloc2_new w2 _ _)) (by kernel_rfl) (by rfl) (by simp [Value.oneCell']) ?_))
  rw [← hw4]
  clear hw4
  have Q6 := hid (Q4.out.fst3 (o' := o))
  have E6 := hid ((sc3_other w4 w.heap.size 1 (w2.heap.size + 1) (.int .i64 n) (.slice a1 n1 c1) (.int .u64 o) (by omega)).trans E4.out)
  go_upto_region 4 with (first
    | (refine wpList_load_known (by rfl) 29 (.tmp 5) rfl w2.heap.size rfl 29 #[.int .i64 n, .slice a1 n1 c1, .int .u64 o] (0, 0) _ X4.out Try.underlying29 rfl (by kernel_rfl) ?_)
    | (refine wpList_store_mid rfl 29 (.tmp 23) (.tmp 22) rfl w.heap.size 1 #[.int .i64 n, .slice a1 n1 c1, .int .u64 o] rfl rfl (there_of Q4.out.k.box (by simp)) (by kernel_rfl) (by simp [Value.oneCell']) ?_))
  have e2 := blk_cell E6.out (i := 2) rfl
  have z0 := blk_cell Q6.out.k.box (i := 0) rfl
  have x0 := blk_cell Q6.out.k.res (i := 0) rfl
  have y'0 := blk_free Q6.out.k.res (i := 0)
  have z1 := blk_cell Q6.out.k.box (i := 1) rfl
  have x1 := blk_cell Q6.out.k.res (i := 1) rfl
  have y'1 := blk_free Q6.out.k.res (i := 1)
  have z2 := blk_cell Q6.out.k.box (i := 2) rfl
  have x2 := blk_cell Q6.out.k.res (i := 2) rfl
  have y'2 := blk_free Q6.out.k.res (i := 2)
  have z3 := blk_cell Q6.out.k.box (i := 3) rfl
  have x3 := blk_cell Q6.out.k.res (i := 3) rfl
  have y'3 := blk_free Q6.out.k.res (i := 3)
  have z4 := blk_cell Q6.out.k.box (i := 4) rfl
  have x4 := blk_cell Q6.out.k.res (i := 4) rfl
  have y'4 := blk_free Q6.out.k.res (i := 4)
  have z5 := blk_cell Q6.out.k.box (i := 5) rfl
  have x5 := blk_cell Q6.out.k.res (i := 5) rfl
  have y'5 := blk_free Q6.out.k.res (i := 5)
  have FIN := hid ((Q6.out.fin6 [.int .i64 y3, .bool true]).below (bl_dr _))
  have S6 := hid (drew_blk (set6s Q6.out.k.res (.int .i64 now) (.int .i64 n) (.slice a1 n1 c1) (.int .u64 o) (.slice aW nW cW) (.slice aS nS cS)))
  clear Q4 X4 E4 E6 Q6 H
  go_wp2_with fail
  go_region
  all_goals
    clear e2 z0 z1 z2 z3 z4 z5 x0 x1 x2 x3 x4 x5 y'0 y'1 y'2 y'3 y'4 y'5
    go_wp2
    exact bodyPost_ret (v := .tuple #[.agg (sx now n (.slice a1 n1 c1) o (.slice aW nW cW) (.slice aS nS cS)), .int .i64 y3, .bool true]) (results_c2 rfl _ _ (w.heap.size + 1) 35 (sx now n (.slice a1 n1 c1) o (.slice aW nW cW) (.slice aS nS cS)) (0, 0) _ (by rfl) S6.out Try.underlying35 rfl (by kernel_rfl) _ _ (by rfl) (by rfl)) rfl FIN.out
set_option maxRecDepth 100000 in
set_option maxHeartbeats 8000000 in
theorem rtake12_p {w : World} {now : Int} {n o : Nat} {vL vW vS : Value} {D : List Tr} {V : List (Int × Int)} {S : List Int} (h : D12 w vL vW vS D V S) (hd : dueT D now = false) :
    Calls Try.prog 27 #[.agg (sx now n vL o vW vS)] w (P12 w vL vW vS now n o D (tkV V S) (tkS V S) [.int .i64 (tkP V S).2, .bool (dueB V S)]) := by
  obtain ⟨aL, nL, cL, aW, nW, cW, aS, nS, cS, rfl, rfl, rfl, HL, HW, HS, _, _, _⟩ := h.sl
  obtain ⟨w0, hw0⟩ : ∃ w0, w0 = (w.alloc (.cells (sx now n (.slice aL nL cL) o (.slice aW nW cW) (.slice aS nS cS)) 35)).alloc (.cells sz 35) := ⟨_, rfl⟩
  have K := hid (show K12 w w0 (sx now n (.slice aL nL cL) o (.slice aW nW cW) (.slice aS nS cS)) by rw [hw0]; exact K12.start w _)
  have hs0 : w0.heap.size = w.heap.size + 2 := by rw [hw0]; simp
  have H := hid h
  have Q0 := hid (Q12.start h K.out)
  have A := hid (rttake_all w0 n o _ D Q0.out.d.dt now)
  rw [hd] at A
  obtain ⟨D1, hD1⟩ : ∃ D1, D1 = tkD D now := ⟨_, rfl⟩
  rw [← hD1] at A
  obtain ⟨⟨y1, y2, y3⟩, hy⟩ : ∃ y, y = tkE D now := ⟨_, rfl⟩
  rw [← hy] at A
  have hD2 : D1 = D := by rw [hD1]; unfold tkD; rw [hd]; rfl
  rw [hD2] at A
  have GV := hid h.gv
  have ND := hid h.nd
  clear hD1 hD2 hy
  obtain ⟨⟨z1, z2⟩, hz⟩ : ∃ z, z = tkP V S := ⟨_, rfl⟩
  obtain ⟨b, hb⟩ : ∃ b, b = dueB V S := ⟨_, rfl⟩
  rw [← hz, ← hb]
  have HZ := hid (And.intro hz hb)
  clear hz hb
  clear h hd
  go_enter Try.func27, Try.ntmps27
  go_wp2_with (refine wpList_load_midw (by rfl) 29 (.tmp 13) rfl w.heap.size 1 rfl [.int .i64 n, .slice aL nL cL, .int .u64 o] _ (by rw [← hw0]; exact range3 K.out.box rfl rfl rfl) Try.underlying29 rfl (by kernel_rfl) ?_)
  rw [← hw0]
  refine A.out.mono ?_
  rintro e w2 ⟨v1, rfl, hd1, hb2, k1⟩
  have hs2 := hb2.size
  have Q2 := hid (Q0.out.mono hb2)
  obtain ⟨a1, n1, c1, rfl, _, _⟩ := hd1.sl
  obtain ⟨w4, hw4⟩ : ∃ w4, w4 = (((w2.alloc (.cells #[.int .i64 0, .slice none 0 0, .int .u64 0] 29)).alloc (.cells #[.int .i64 0, .int .u64 0, .int .i64 0] 51)).setRow w2.heap.size #[.int .i64 n, .slice a1 n1 c1, .int .u64 o]).setRow (w2.heap.size + 1) #[.int .i64 y1, .int .u64 y2, .int .i64 y3] := ⟨_, rfl⟩
  have hb4 : Below w2.heap.size w2 w4 := by rw [hw4]; exact row_below (row_below (((Below.refl w2.heap.size w2).alloc (Nat.le_refl _) _).alloc (by simp) _) (Nat.le_refl _) _) (by omega) _
  have Q4 := hid (Q2.out.mono hb4)
  have hs4 : w4.heap.size = w2.heap.size + 2 := by rw [hw4, row_size, row_size]; simp
  have X4 := hid (show w4.heap[w2.heap.size]? = some (.cells #[.int .i64 n, .slice a1 n1 c1, .int .u64 o] 29 (0, 0)) by rw [hw4]; exact (row_other _ _ _ _ (by omega)).trans (setRow_heap _ _ _ _ _ _ (heap_alloc2_old w2 _ _)))
  have E4 := hid (show w4.heap[w2.heap.size + 1]? = some (.cells #[.int .i64 y1, .int .u64 y2, .int .i64 y3] 51 (0, 0)) by rw [hw4]; exact setRow_heap _ _ _ _ _ _ ((row_other _ _ _ _ (by omega)).trans (heap_alloc2_new w2 _ _)))
  clear hd1 hb2 k1 hb4 hw0 K Q0 Q2 A
  go_upto_region 2 with (first
    | (refine wpList_store_row rfl 29 (.tmp 5) (.tmp 18) rfl w2.heap.size #[.int .i64 n, .slice a1 n1 c1, .int .u64 o] rfl rfl 29 _ (heap_alloc2_old w2 _ _) (by kernel_rfl) (by rfl) (by simp [Value.oneCell']) ?_)
    | (refine wpList_store_row rfl 51 (.tmp 6) (.tmp 19) rfl (w2.heap.size + 1) #[.int .i64 y1, .int .u64 y2, .int .i64 y3] rfl rfl 51 _ ((row_other _ _ _ _ (by omega)).trans (heap_alloc2_new w2 _ _)) (by kernel_rfl) (by rfl) (by simp [Value.oneCell']) ?_))
  rw [← hw4]
  clear hw4
  have A2 := hid (rtake_all w4 _ _ V S Q4.out.d.dp (fun e he => (GV.out e he).1) ND.out)
  rw [← HZ.out.1, ← HZ.out.2] at A2
  go_wp2_with (refine wpList_load_midw (by rfl) 33 (.tmp 28) rfl w.heap.size 4 rfl [.slice aW nW cW, .slice aS nS cS] _ (range2 Q4.out.k.box rfl rfl) Try.underlying33 rfl (by kernel_rfl) ?_)
  refine A2.out.mono ?_
  rintro e w5 ⟨v2, v3, rfl, hd, hb5, k1, k2⟩
  have Q5 := hid (Q4.out.mkP hd hb5 k1 k2 (tkV_gv GV.out) (nd_tkV ND.out S))
  obtain ⟨a2, n2, c2, a3, n3, c3, rfl, rfl, _, _, _, _⟩ := hd.sl
  obtain ⟨w6, hw6⟩ : ∃ w6, w6 = (w5.alloc (.cells #[.slice none 0 0, .slice none 0 0] 33)).setRow w5.heap.size #[.slice a2 n2 c2, .slice a3 n3 c3] := ⟨_, rfl⟩
  have hb6 : Below w5.heap.size w5 w6 := by rw [hw6]; exact row_below ((Below.refl w5.heap.size w5).alloc (Nat.le_refl _) _) (Nat.le_refl _) _
  have Q6 := hid (Q5.out.mono hb6)
  have X6 := hid (show w6.heap[w5.heap.size]? = some (.cells #[.slice a2 n2 c2, .slice a3 n3 c3] 33 (0, 0)) by rw [hw6]; exact setRow_heap _ _ _ _ _ _ (heap_alloc_new w5 _))
  have Q7 := hid Q6.out.fst2
  clear hd hb5 k1 k2 hb6 Q4 Q5 A2 X4 E4
  go_upto_region 6 with (refine wpList_store_row rfl 33 (.tmp 8) (.tmp 31) rfl w5.heap.size #[.slice a2 n2 c2, .slice a3 n3 c3] rfl rfl 33 _ (heap_alloc_new w5 _) (by kernel_rfl) (by rfl) (by simp [Value.oneCell']) ?_)
  rw [← hw6]
  clear hw6
  go_wp2_with (first
    | (refine wpList_load_known (by rfl) 33 (.tmp 8) rfl w5.heap.size rfl 33 #[.slice a2 n2 c2, .slice a3 n3 c3] (0, 0) _ X6.out Try.underlying33 rfl (by kernel_rfl) ?_)
    | (refine wpList_store_mid rfl 33 (.tmp 36) (.tmp 35) rfl w.heap.size 4 #[.slice a2 n2 c2, .slice a3 n3 c3] rfl rfl (there_of Q6.out.k.box (by simp)) (by kernel_rfl) (by simp [Value.oneCell']) ?_)
    | (refine wpList_load_known (by rfl) 35 (.tmp 1) rfl w.heap.size rfl 35 (sx now n (.slice aL nL cL) o (.slice a2 n2 c2) (.slice a3 n3 c3)) (0, 0) _ Q7.out.k.box Try.underlying35 rfl (by kernel_rfl) ?_)
    | (refine wpList_store_row rfl 35 (.tmp 2) (.tmp 37) rfl (w.heap.size + 1) (sx now n (.slice aL nL cL) o (.slice a2 n2 c2) (.slice a3 n3 c3)) rfl rfl 35 _ Q7.out.k.res (by kernel_rfl) (by rfl) (by simp [Value.oneCell']) ?_))
  have FIN := hid (Q7.out.fin [.int .i64 z2, .bool b])
  exact bodyPost_ret (v := .tuple #[.agg (sx now n (.slice aL nL cL) o (.slice a2 n2 c2) (.slice a3 n3 c3)), .int .i64 z2, .bool b]) (results_c2 rfl _ _ (w.heap.size + 1) 35 (sx now n (.slice aL nL cL) o (.slice a2 n2 c2) (.slice a3 n3 c3)) (0, 0) _ (by rfl) (setRow_heap _ _ _ _ _ _ Q7.out.k.res) Try.underlying35 rfl (by kernel_rfl) _ _ (by rfl) (by rfl)) rfl FIN.out
end Go.Proofs.Ytaogpodncphpjaa
