/- The document's source by value: Wait. Written by wip/tools/gen12.py. -/
import Derived.Test.YtaogpodncphpjaaRef12D
import Derived.Deep.RegionWith
namespace Go.Proofs.Ytaogpodncphpjaa
set_option linter.unusedVariables false
set_option linter.unusedSimpArgs false
open Go.RowKit
/-- What Wait comes to. -/
def weE (D : List Tr) (V : List (Int × Int)) (fd g : Int) : Int := if g < 0 ∨ 4095 < g then 1 else if (thasb D g || rhasb V g) = true then 8 else putE V fd g
def weV (D : List Tr) (V : List (Int × Int)) (fd g : Int) : List (Int × Int) := if weE D V fd g = 0 then putV V fd g else V
def weB (now : Int) (D : List Tr) (V : List (Int × Int)) (S : List Int) (fd g : Int) : Bool := if weE D V fd g = 0 then due12 now D (weV D V fd g) S else false
theorem putV_err {V : List (Int × Int)} {fd g : Int} (h : putE V fd g ≠ 0) : putV V fd g = V := by
  unfold putE at h
  unfold putV
  split at h
  · rename_i q; rw [if_pos (.inl q)]
  · split at h
    · rename_i q; rw [if_pos (.inr q)]
    · exact absurd rfl h
set_option maxRecDepth 100000 in
set_option maxHeartbeats 8000000 in
theorem rwait12_a1 {w : World} {now : Int} {n o : Nat} {vL vW vS : Value} {D : List Tr} {V : List (Int × Int)} {S : List Int} (h : D12 w vL vW vS D V S) (fd g : Int) (h1 : g < 0) :
    Calls Try.prog 22 #[.agg (sx now n vL o vW vS), .int .i64 fd, .int .i64 g] w (P12 w vL vW vS now n o D V S [.bool false, .int .i64 1]) := by
  obtain ⟨aL, nL, cL, aW, nW, cW, aS, nS, cS, rfl, rfl, rfl, HL, HW, HS, _, _, _⟩ := h.sl
  obtain ⟨w0, hw0⟩ : ∃ w0, w0 = (w.alloc (.cells (sx now n (.slice aL nL cL) o (.slice aW nW cW) (.slice aS nS cS)) 35)).alloc (.cells sz 35) := ⟨_, rfl⟩
  have K := hid (show K12 w w0 (sx now n (.slice aL nL cL) o (.slice aW nW cW) (.slice aS nS cS)) by rw [hw0]; exact K12.start w _)
  have hs0 : w0.heap.size = w.heap.size + 2 := by rw [hw0]; simp
  have H := hid h
  have Q0 := hid (Q12.start h K.out)
  have d1 : decide (g < 0) = true := decide_eq_true h1
  have FIN := hid (Q0.out.fin [.bool false, .int .i64 1])
  clear h
  go_enter Try.func22, Try.ntmps22
  go_wp2_with (first
    | (refine wpList_load_known (by rfl) 35 (.tmp 3) rfl w.heap.size rfl 35 (sx now n (.slice aL nL cL) o (.slice aW nW cW) (.slice aS nS cS)) (0, 0) _ (by rw [← hw0]; exact K.out.box) Try.underlying35 rfl (by kernel_rfl) ?_)
    | (refine wpList_store_row rfl 35 (.tmp 6) (.tmp 17) rfl (w.heap.size + 1) (sx now n (.slice aL nL cL) o (.slice aW nW cW) (.slice aS nS cS)) rfl rfl 35 _ (by rw [← hw0]; exact K.out.res) (by kernel_rfl) (by rfl) (by simp [Value.oneCell']) ?_))
  rw [← hw0]
  exact bodyPost_ret (v := .tuple #[.agg (sx now n (.slice aL nL cL) o (.slice aW nW cW) (.slice aS nS cS)), .bool false, .int .i64 1]) (results_c2 rfl _ _ (w.heap.size + 1) 35 (sx now n (.slice aL nL cL) o (.slice aW nW cW) (.slice aS nS cS)) (0, 0) _ (by rfl) (setRow_heap _ _ _ _ _ _ K.out.res) Try.underlying35 rfl (by kernel_rfl) _ _ (by rfl) (by rfl)) rfl FIN.out
set_option maxRecDepth 100000 in
set_option maxHeartbeats 8000000 in
theorem rwait12_a2 {w : World} {now : Int} {n o : Nat} {vL vW vS : Value} {D : List Tr} {V : List (Int × Int)} {S : List Int} (h : D12 w vL vW vS D V S) (fd g : Int) (h0 : 0 ≤ g) (h1 : 4095 < g) :
    Calls Try.prog 22 #[.agg (sx now n vL o vW vS), .int .i64 fd, .int .i64 g] w (P12 w vL vW vS now n o D V S [.bool false, .int .i64 1]) := by
  obtain ⟨aL, nL, cL, aW, nW, cW, aS, nS, cS, rfl, rfl, rfl, HL, HW, HS, _, _, _⟩ := h.sl
  obtain ⟨w0, hw0⟩ : ∃ w0, w0 = (w.alloc (.cells (sx now n (.slice aL nL cL) o (.slice aW nW cW) (.slice aS nS cS)) 35)).alloc (.cells sz 35) := ⟨_, rfl⟩
  have K := hid (show K12 w w0 (sx now n (.slice aL nL cL) o (.slice aW nW cW) (.slice aS nS cS)) by rw [hw0]; exact K12.start w _)
  have hs0 : w0.heap.size = w.heap.size + 2 := by rw [hw0]; simp
  have H := hid h
  have Q0 := hid (Q12.start h K.out)
  have d1 : decide (g < 0) = false := decide_eq_false (by omega)
  have d2 : decide ((4095 : Int) < g) = true := decide_eq_true h1
  have FIN := hid (Q0.out.fin [.bool false, .int .i64 1])
  clear h
  go_enter Try.func22, Try.ntmps22
  go_wp2_with (first
    | (refine wpList_load_known (by rfl) 35 (.tmp 3) rfl w.heap.size rfl 35 (sx now n (.slice aL nL cL) o (.slice aW nW cW) (.slice aS nS cS)) (0, 0) _ (by rw [← hw0]; exact K.out.box) Try.underlying35 rfl (by kernel_rfl) ?_)
    | (refine wpList_store_row rfl 35 (.tmp 6) (.tmp 17) rfl (w.heap.size + 1) (sx now n (.slice aL nL cL) o (.slice aW nW cW) (.slice aS nS cS)) rfl rfl 35 _ (by rw [← hw0]; exact K.out.res) (by kernel_rfl) (by rfl) (by simp [Value.oneCell']) ?_))
  rw [← hw0]
  exact bodyPost_ret (v := .tuple #[.agg (sx now n (.slice aL nL cL) o (.slice aW nW cW) (.slice aS nS cS)), .bool false, .int .i64 1]) (results_c2 rfl _ _ (w.heap.size + 1) 35 (sx now n (.slice aL nL cL) o (.slice aW nW cW) (.slice aS nS cS)) (0, 0) _ (by rfl) (setRow_heap _ _ _ _ _ _ K.out.res) Try.underlying35 rfl (by kernel_rfl) _ _ (by rfl) (by rfl)) rfl FIN.out
set_option maxRecDepth 100000 in
set_option maxHeartbeats 8000000 in
theorem rwait12_out {w : World} {now : Int} {n o : Nat} {vL vW vS : Value} {D : List Tr} {V : List (Int × Int)} {S : List Int} (h : D12 w vL vW vS D V S) (fd g : Int) (h0 : 0 ≤ g) (h1 : g ≤ 4095) (ho : (thasb D g || rhasb V g) = true) :
    Calls Try.prog 22 #[.agg (sx now n vL o vW vS), .int .i64 fd, .int .i64 g] w (P12 w vL vW vS now n o D V S [.bool false, .int .i64 8]) := by
  obtain ⟨aL, nL, cL, aW, nW, cW, aS, nS, cS, rfl, rfl, rfl, HL, HW, HS, _, _, _⟩ := h.sl
  obtain ⟨w0, hw0⟩ : ∃ w0, w0 = (w.alloc (.cells (sx now n (.slice aL nL cL) o (.slice aW nW cW) (.slice aS nS cS)) 35)).alloc (.cells sz 35) := ⟨_, rfl⟩
  have K := hid (show K12 w w0 (sx now n (.slice aL nL cL) o (.slice aW nW cW) (.slice aS nS cS)) by rw [hw0]; exact K12.start w _)
  have hs0 : w0.heap.size = w.heap.size + 2 := by rw [hw0]; simp
  have H := hid h
  have Q0 := hid (Q12.start h K.out)
  have d1 : decide (g < 0) = false := decide_eq_false (by omega)
  have d2 : decide ((4095 : Int) < g) = false := decide_eq_false (by omega)
  have RO := hid (rout12 (now := now) (n := n) (o := o) Q0.out.d g true ho)
  clear h
  go_enter Try.func22, Try.ntmps22
  go_wp2_with (refine wpList_load_known (by rfl) 35 (.tmp 3) rfl w.heap.size rfl 35 (sx now n (.slice aL nL cL) o (.slice aW nW cW) (.slice aS nS cS)) (0, 0) _ (by rw [← hw0]; exact K.out.box) Try.underlying35 rfl (by kernel_rfl) ?_)
  rw [← hw0]
  refine RO.out.mono ?_
  rintro e w2 ⟨rfl, hb2⟩
  have Q2 := hid (Q0.out.mono hb2)
  have FIN := hid (Q2.out.fin [.bool false, .int .i64 8])
  clear hb2 Q0 K hw0 RO H hs0
  go_wp2_with (first
    | (refine wpList_load_known (by rfl) 35 (.tmp 3) rfl w.heap.size rfl 35 (sx now n (.slice aL nL cL) o (.slice aW nW cW) (.slice aS nS cS)) (0, 0) _ Q2.out.k.box Try.underlying35 rfl (by kernel_rfl) ?_)
    | (refine wpList_store_row rfl 35 (.tmp 6) (.tmp 21) rfl (w.heap.size + 1) (sx now n (.slice aL nL cL) o (.slice aW nW cW) (.slice aS nS cS)) rfl rfl 35 _ Q2.out.k.res (by kernel_rfl) (by rfl) (by simp [Value.oneCell']) ?_))
  exact bodyPost_ret (v := .tuple #[.agg (sx now n (.slice aL nL cL) o (.slice aW nW cW) (.slice aS nS cS)), .bool false, .int .i64 8]) (results_c2 rfl _ _ (w.heap.size + 1) 35 (sx now n (.slice aL nL cL) o (.slice aW nW cW) (.slice aS nS cS)) (0, 0) _ (by rfl) (setRow_heap _ _ _ _ _ _ Q2.out.k.res) Try.underlying35 rfl (by kernel_rfl) _ _ (by rfl) (by rfl)) rfl FIN.out
set_option maxRecDepth 100000 in
set_option maxHeartbeats 8000000 in
theorem rwait12_err {w : World} {now : Int} {n o : Nat} {vL vW vS : Value} {D : List Tr} {V : List (Int × Int)} {S : List Int} (h : D12 w vL vW vS D V S) (hl : V.length + S.length < 1000) (fd g : Int) (hf : 0 ≤ fd ∧ fd ≤ 65535) (h0 : 0 ≤ g) (h1 : g ≤ 4095) (ho : (thasb D g || rhasb V g) = false) (e0 : Int) (he : putE V fd g = e0) (hn : e0 ≠ 0) :
    Calls Try.prog 22 #[.agg (sx now n vL o vW vS), .int .i64 fd, .int .i64 g] w (P12 w vL vW vS now n o D V S [.bool false, .int .i64 e0]) := by
  obtain ⟨aL, nL, cL, aW, nW, cW, aS, nS, cS, rfl, rfl, rfl, HL, HW, HS, _, _, _⟩ := h.sl
  obtain ⟨w0, hw0⟩ : ∃ w0, w0 = (w.alloc (.cells (sx now n (.slice aL nL cL) o (.slice aW nW cW) (.slice aS nS cS)) 35)).alloc (.cells sz 35) := ⟨_, rfl⟩
  have K := hid (show K12 w w0 (sx now n (.slice aL nL cL) o (.slice aW nW cW) (.slice aS nS cS)) by rw [hw0]; exact K12.start w _)
  have hs0 : w0.heap.size = w.heap.size + 2 := by rw [hw0]; simp
  have H := hid h
  have Q0 := hid (Q12.start h K.out)
  have d1 : decide (g < 0) = false := decide_eq_false (by omega)
  have d2 : decide ((4095 : Int) < g) = false := decide_eq_false (by omega)
  have e1 : (e0 == 0) = false := by simp [hn]
  have e2 : (e0 != 0) = true := by simp [hn]
  have RO := hid (rout12 (now := now) (n := n) (o := o) Q0.out.d g false ho)
  clear h
  go_enter Try.func22, Try.ntmps22
  go_wp2_with (refine wpList_load_known (by rfl) 35 (.tmp 3) rfl w.heap.size rfl 35 (sx now n (.slice aL nL cL) o (.slice aW nW cW) (.slice aS nS cS)) (0, 0) _ (by rw [← hw0]; exact K.out.box) Try.underlying35 rfl (by kernel_rfl) ?_)
  rw [← hw0]
  refine RO.out.mono ?_
  rintro e w2 ⟨rfl, hb2⟩
  have Q2 := hid (Q0.out.mono hb2)
  have A := hid (rput_all w2 _ _ V S Q2.out.d.dp hl fd g)
  rw [he] at A
  clear hb2 Q0 K hw0 RO H hs0
  go_wp2_with (refine wpList_load_midw (by rfl) 33 (.tmp 23) rfl w.heap.size 4 rfl [.slice aW nW cW, .slice aS nS cS] _ (range2 Q2.out.k.box rfl rfl) Try.underlying33 rfl (by kernel_rfl) ?_)
  refine A.out.mono ?_
  rintro e w4 ⟨v2, v3, rfl, hd, hb4, k1, k2⟩
  have Q4 := hid (Q2.out.mono hb4)
  obtain ⟨a2, n2, c2, a3, n3, c3, rfl, rfl, _, _, _, _⟩ := hd.sl
  obtain ⟨w5, hw5⟩ : ∃ w5, w5 = (w4.alloc (.cells #[.slice none 0 0, .slice none 0 0] 33)).setRow w4.heap.size #[.slice a2 n2 c2, .slice a3 n3 c3] := ⟨_, rfl⟩
  have hb5 : Below w4.heap.size w4 w5 := by rw [hw5]; exact row_below ((Below.refl w4.heap.size w4).alloc (Nat.le_refl _) _) (Nat.le_refl _) _
  have Q5 := hid (Q4.out.mono hb5)
  have FIN := hid (Q5.out.fin [.bool false, .int .i64 e0])
  clear hb5 hd hb4 k1 k2 A Q2 Q4
  go_upto_region 6 with (first
    | (refine wpList_store_row rfl 33 (.tmp 9) (.tmp 28) rfl w4.heap.size #[.slice a2 n2 c2, .slice a3 n3 c3] rfl rfl 33 _ (heap_alloc_new w4 _) (by kernel_rfl) (by rfl) (by simp [Value.oneCell']) ?_))
  rw [← hw5]
  clear hw5
  go_wp2_with (first
    | (refine wpList_load_known (by rfl) 35 (.tmp 3) rfl w.heap.size rfl 35 (sx now n (.slice aL nL cL) o (.slice aW nW cW) (.slice aS nS cS)) (0, 0) _ Q5.out.k.box Try.underlying35 rfl (by kernel_rfl) ?_)
    | (refine wpList_store_row rfl 35 (.tmp 6) (.tmp 32) rfl (w.heap.size + 1) (sx now n (.slice aL nL cL) o (.slice aW nW cW) (.slice aS nS cS)) rfl rfl 35 _ Q5.out.k.res (by kernel_rfl) (by rfl) (by simp [Value.oneCell']) ?_))
  exact bodyPost_ret (v := .tuple #[.agg (sx now n (.slice aL nL cL) o (.slice aW nW cW) (.slice aS nS cS)), .bool false, .int .i64 e0]) (results_c2 rfl _ _ (w.heap.size + 1) 35 (sx now n (.slice aL nL cL) o (.slice aW nW cW) (.slice aS nS cS)) (0, 0) _ (by rfl) (setRow_heap _ _ _ _ _ _ Q5.out.k.res) Try.underlying35 rfl (by kernel_rfl) _ _ (by rfl) (by rfl)) rfl FIN.out
set_option maxRecDepth 100000 in
set_option maxHeartbeats 8000000 in
theorem rwait12_ok {w : World} {now : Int} {n o : Nat} {vL vW vS : Value} {D : List Tr} {V : List (Int × Int)} {S : List Int} (h : D12 w vL vW vS D V S) (hl : V.length + S.length < 1000) (fd g : Int) (hf : 0 ≤ fd ∧ fd ≤ 65535) (h0 : 0 ≤ g) (h1 : g ≤ 4095) (ho : (thasb D g || rhasb V g) = false) (he : putE V fd g = 0) :
    Calls Try.prog 22 #[.agg (sx now n vL o vW vS), .int .i64 fd, .int .i64 g] w (P12 w vL vW vS now n o D (putV V fd g) S [.bool (due12 now D (putV V fd g) S), .int .i64 0]) := by
  obtain ⟨aL, nL, cL, aW, nW, cW, aS, nS, cS, rfl, rfl, rfl, HL, HW, HS, _, _, _⟩ := h.sl
  obtain ⟨w0, hw0⟩ : ∃ w0, w0 = (w.alloc (.cells (sx now n (.slice aL nL cL) o (.slice aW nW cW) (.slice aS nS cS)) 35)).alloc (.cells sz 35) := ⟨_, rfl⟩
  have K := hid (show K12 w w0 (sx now n (.slice aL nL cL) o (.slice aW nW cW) (.slice aS nS cS)) by rw [hw0]; exact K12.start w _)
  have hs0 : w0.heap.size = w.heap.size + 2 := by rw [hw0]; simp
  have H := hid h
  have Q0 := hid (Q12.start h K.out)
  have d1 : decide (g < 0) = false := decide_eq_false (by omega)
  have d2 : decide ((4095 : Int) < g) = false := decide_eq_false (by omega)
  obtain ⟨r, hr⟩ : ∃ r, r = due12 now D (putV V fd g) S := ⟨_, rfl⟩
  rw [← hr]
  have HRR := hid hr.symm
  clear hr
  have RO := hid (rout12 (now := now) (n := n) (o := o) Q0.out.d g false ho)
  clear h
  go_enter Try.func22, Try.ntmps22
  go_wp2_with (refine wpList_load_known (by rfl) 35 (.tmp 3) rfl w.heap.size rfl 35 (sx now n (.slice aL nL cL) o (.slice aW nW cW) (.slice aS nS cS)) (0, 0) _ (by rw [← hw0]; exact K.out.box) Try.underlying35 rfl (by kernel_rfl) ?_)
  rw [← hw0]
  refine RO.out.mono ?_
  rintro e w2 ⟨rfl, hb2⟩
  have Q2 := hid (Q0.out.mono hb2)
  have A := hid (rput_all w2 _ _ V S Q2.out.d.dp hl fd g)
  rw [he] at A
  clear hb2 Q0 K hw0 RO H hs0
  go_wp2_with (refine wpList_load_midw (by rfl) 33 (.tmp 23) rfl w.heap.size 4 rfl [.slice aW nW cW, .slice aS nS cS] _ (range2 Q2.out.k.box rfl rfl) Try.underlying33 rfl (by kernel_rfl) ?_)
  refine A.out.mono ?_
  rintro e w4 ⟨v2, v3, rfl, hd, hb4, k1, k2⟩
  have Q4 := hid (Q2.out.mkP hd hb4 k1 k2 (putV_gv Q2.out.d.gv hf.1 hf.2) (nd_putV Q2.out.d.nd Q2.out.d.gv fd g))
  obtain ⟨a2, n2, c2, a3, n3, c3, rfl, rfl, _, _, _, _⟩ := hd.sl
  obtain ⟨w5, hw5⟩ : ∃ w5, w5 = (w4.alloc (.cells #[.slice none 0 0, .slice none 0 0] 33)).setRow w4.heap.size #[.slice a2 n2 c2, .slice a3 n3 c3] := ⟨_, rfl⟩
  have hb5 : Below w4.heap.size w4 w5 := by rw [hw5]; exact row_below ((Below.refl w4.heap.size w4).alloc (Nat.le_refl _) _) (Nat.le_refl _) _
  have Q5 := hid (Q4.out.mono hb5)
  have X5 := hid (show w5.heap[w4.heap.size]? = some (.cells #[.slice a2 n2 c2, .slice a3 n3 c3] 33 (0, 0)) by rw [hw5]; exact setRow_heap _ _ _ _ _ _ (heap_alloc_new w4 _))
  have Q6 := hid Q5.out.fst2
  clear hb5 hd hb4 k1 k2 A Q2 Q4
  go_upto_region 6 with (first
    | (refine wpList_store_row rfl 33 (.tmp 9) (.tmp 28) rfl w4.heap.size #[.slice a2 n2 c2, .slice a3 n3 c3] rfl rfl 33 _ (heap_alloc_new w4 _) (by kernel_rfl) (by rfl) (by simp [Value.oneCell']) ?_))
  rw [← hw5]
  clear hw5
  go_upto_region 9 with (first
    | (refine wpList_load_known (by rfl) 33 (.tmp 9) rfl w4.heap.size rfl 33 #[.slice a2 n2 c2, .slice a3 n3 c3] (0, 0) _ X5.out Try.underlying33 rfl (by kernel_rfl) ?_)
    | (refine wpList_store_mid rfl 33 (.tmp 35) (.tmp 34) rfl w.heap.size 4 #[.slice a2 n2 c2, .slice a3 n3 c3] rfl rfl (there_of Q5.out.k.box (by simp)) (by kernel_rfl) (by simp [Value.oneCell']) ?_))
  have DU := hid (rdue12 (now := now) (n := n) (o := o) (Q6.out.mono (bl_dr _)).d r HRR.out)
  have Q7 := hid (fun (w7 : World) (hb : Below (w5.setCells w.heap.size 4 [.slice a2 n2 c2, .slice a3 n3 c3]).drew.heap.size (w5.setCells w.heap.size 4 [.slice a2 n2 c2, .slice a3 n3 c3]).drew w7) => (Q6.out.mono (bl_dr _)).mono hb)
  have z0 := blk_cell (Q6.out.mono (bl_dr _)).k.box (i := 0) rfl
  have z1 := blk_cell (Q6.out.mono (bl_dr _)).k.box (i := 1) rfl
  have z2 := blk_cell (Q6.out.mono (bl_dr _)).k.box (i := 2) rfl
  have z3 := blk_cell (Q6.out.mono (bl_dr _)).k.box (i := 3) rfl
  have z4 := blk_cell (Q6.out.mono (bl_dr _)).k.box (i := 4) rfl
  have z5 := blk_cell (Q6.out.mono (bl_dr _)).k.box (i := 5) rfl
  go_wp2_with fail
  go_region_with (go_at_call 10; (with_reducible refine DU.out.mono ?_); rintro e w7 ⟨rfl, hb7⟩; have Q8 := hid (Q7.out w7 hb7); clear hb7; have u0 := blk_cell Q8.out.k.box (i := 0) rfl; have u1 := blk_cell Q8.out.k.box (i := 1) rfl; have u2 := blk_cell Q8.out.k.box (i := 2) rfl; have u3 := blk_cell Q8.out.k.box (i := 3) rfl; have u4 := blk_cell Q8.out.k.box (i := 4) rfl; have u5 := blk_cell Q8.out.k.box (i := 5) rfl; have x0 := blk_cell Q8.out.k.res (i := 0) rfl; have x1 := blk_cell Q8.out.k.res (i := 1) rfl; have x2 := blk_cell Q8.out.k.res (i := 2) rfl; have x3 := blk_cell Q8.out.k.res (i := 3) rfl; have x4 := blk_cell Q8.out.k.res (i := 4) rfl; have x5 := blk_cell Q8.out.k.res (i := 5) rfl; have y0 := blk_free Q8.out.k.res (i := 0); have y1 := blk_free Q8.out.k.res (i := 1); have y2 := blk_free Q8.out.k.res (i := 2); have y3 := blk_free Q8.out.k.res (i := 3); have y4 := blk_free Q8.out.k.res (i := 4); have y5 := blk_free Q8.out.k.res (i := 5))
  all_goals
    have FIN := hid (Q8.out.fin6 [.bool r, .int .i64 0])
    have S6 := hid (set6s Q8.out.k.res (.int .i64 now) (.int .i64 n) (.slice aL nL cL) (.int .u64 o) (.slice a2 n2 c2) (.slice a3 n3 c3))
    clear DU Q7 Q6 Q5 X5
    go_wp2
    exact bodyPost_ret (v := .tuple #[.agg (sx now n (.slice aL nL cL) o (.slice a2 n2 c2) (.slice a3 n3 c3)), .bool r, .int .i64 0]) (results_c2 rfl _ _ (w.heap.size + 1) 35 (sx now n (.slice aL nL cL) o (.slice a2 n2 c2) (.slice a3 n3 c3)) (0, 0) _ (by rfl) S6.out Try.underlying35 rfl (by kernel_rfl) _ _ (by rfl) (by rfl)) rfl FIN.out
theorem rwait12 {w : World} {now : Int} {n o : Nat} {vL vW vS : Value} {D : List Tr} {V : List (Int × Int)} {S : List Int} (h : D12 w vL vW vS D V S) (hl : V.length + S.length < 1000) (fd g : Int) (hf : 0 ≤ fd ∧ fd ≤ 65535) :
    Calls Try.prog 22 #[.agg (sx now n vL o vW vS), .int .i64 fd, .int .i64 g] w (P12 w vL vW vS now n o D (weV D V fd g) S [.bool (weB now D V S fd g), .int .i64 (weE D V fd g)]) := by
  by_cases h1 : g < 0 ∨ 4095 < g
  · have e1 : weE D V fd g = 1 := if_pos h1
    have e2 : weV D V fd g = V := by unfold weV; rw [e1]; rfl
    have e3 : weB now D V S fd g = false := by unfold weB; rw [e1]; rfl
    rw [e1, e2, e3]
    by_cases h2 : g < 0
    · exact rwait12_a1 h fd g h2
    · exact rwait12_a2 h fd g (by omega) (by omega)
  · rcases ho : (thasb D g || rhasb V g) with _ | _
    · have e1 : weE D V fd g = putE V fd g := by unfold weE; rw [if_neg h1, if_neg (by rw [ho]; simp)]
      by_cases he : putE V fd g = 0
      · have e2 : weV D V fd g = putV V fd g := by unfold weV; rw [e1, if_pos he]
        have e3 : weB now D V S fd g = due12 now D (putV V fd g) S := by unfold weB; rw [e1, if_pos he, e2]
        rw [e1, e2, e3, he]
        exact rwait12_ok h hl fd g hf (by omega) (by omega) ho he
      · have e2 : weV D V fd g = V := by unfold weV; rw [e1, if_neg he]
        have e3 : weB now D V S fd g = false := by unfold weB; rw [e1, if_neg he]
        rw [e1, e2, e3]
        exact rwait12_err h hl fd g hf (by omega) (by omega) ho _ rfl he
    · have e1 : weE D V fd g = 8 := by unfold weE; rw [if_neg h1, if_pos ho]
      have e2 : weV D V fd g = V := by unfold weV; rw [e1]; rfl
      have e3 : weB now D V S fd g = false := by unfold weB; rw [e1]; rfl
      rw [e1, e2, e3]
      exact rwait12_out h fd g (by omega) (by omega) ho
end Go.Proofs.Ytaogpodncphpjaa
