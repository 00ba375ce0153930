/- The document's source by value: Sleep that sleeps. Written by wip/tools/gen12.py. -/
import Derived.Test.YtaogpodncphpjaaRef12G
import Derived.Deep.RegionWith
import Derived.Deep.RegionHeld3
namespace Go.Proofs.Ytaogpodncphpjaa
set_option linter.unusedVariables false
set_option linter.unusedSimpArgs false
open Go.RowKit
set_option maxRecDepth 100000 in
set_option maxHeartbeats 8000000 in
theorem rsleep12_ok {w : World} {now : Int} {n o : Nat} {vL vW vS : Value} {D : List Tr} {V : List (Int × Int)} {S : List Int} (h : D12 w vL vW vS D V S) (p g d m : Int) (hp0 : 0 ≤ p) (hp1 : p < (n : Int)) (hg0 : 0 ≤ g) (hg1 : g ≤ 4095) (ho : (thasb D g || rhasb V g) = false) (hl : D.length < 1000) (hO : o < 1000000) (hn : inI now) (hd : inI d) (hm : m = sat now (max d 0)) :
    Calls Try.prog 29 #[.agg (sx now n vL o vW vS), .int .i64 p, .int .i64 g, .int .i64 d] w (P12 w vL vW vS now n (o + 1) (D ++ [(p, m, (o : Int), g)]) V S [.bool (due12 now (D ++ [(p, m, (o : Int), g)]) V S), .int .i64 0]) := by
  obtain ⟨aL, nL, cL, aW, nW, cW, aS, nS, cS, rfl, rfl, rfl, HL, HW, HS, _, _, _⟩ := h.sl
  obtain ⟨w0, hw0⟩ : ∃ w0, w0 = (w.alloc (.cells (sx now n (.slice aL nL cL) o (.slice aW nW cW) (.slice aS nS cS)) 35)).alloc (.cells sz 35) := ⟨_, rfl⟩
  have K := hid (show K12 w w0 (sx now n (.slice aL nL cL) o (.slice aW nW cW) (.slice aS nS cS)) by rw [hw0]; exact K12.start w _)
  have hs0 : w0.heap.size = w.heap.size + 2 := by rw [hw0]; simp
  have H := hid h
  have Q0 := hid (Q12.start h K.out)
  have d1 : decide (p < 0) = false := decide_eq_false (by omega)
  have d2 : decide ((n : Int) ≤ p) = false := decide_eq_false (by omega)
  have d3 : decide (g < 0) = false := decide_eq_false (by omega)
  have d4 : decide ((4095 : Int) < g) = false := decide_eq_false (by omega)
  obtain ⟨o1, ho1⟩ : ∃ o1, o1 = o + 1 := ⟨_, rfl⟩
  obtain ⟨D1, hD1⟩ : ∃ D1, D1 = D ++ [(p, m, (o : Int), g)] := ⟨_, rfl⟩
  obtain ⟨r, hr⟩ : ∃ r, r = due12 now D1 V S := ⟨_, rfl⟩
  rw [← ho1, ← hD1, ← hr]
  have HRR := hid hr.symm
  have hs : thasb D g = false := by
    rcases h9 : thasb D g with _ | _
    · rfl
    · rw [h9] at ho; cases ho
  have a1 : addE n D p g = 0 := by unfold addE; rw [if_neg (by omega), if_neg (by rw [hs]; simp)]
  have SU := hid (show ∀ x, x = max d 0 → ∀ y, Calls Try.prog 48 #[.int .i64 now, .int .i64 x] y fun e w' => e = .returned (.int .i64 m) ∧ w' = y from fun x hx y => by rw [hx, hm]; exact rsum12 now (max d 0) y hn (by unfold inI at *; omega))
  have AD := hid (show ∀ y, Below w0.heap.size w0 y → ∀ w2, Below y.heap.size y w2 → Calls Try.prog 53 #[.agg #[.int .i64 n, .slice aL nL cL, .int .u64 o], .int .i64 p, .int .i64 g, .int .i64 m] w2 (DtPost w2 (.slice aL nL cL) D1 n o1 0) from fun y hy w2 hw2 => (rtadd_all w2 n o _ D ((Q0.out.mono hy).mono hw2).d.dt hl hO p g m).mono fun e w' hh => hh.re (by unfold addD; rw [hD1, if_pos a1]) (by unfold addO; rw [ho1, if_pos a1]) a1.symm)
  clear hr ho1 hD1 hs a1 hm hn hd
  have RO := hid (rout12 (now := now) (n := n) (o := o) Q0.out.d g false ho)
  clear h
  go_enter Try.func29, Try.ntmps29
  go_wp2_with (refine wpList_load_known (by rfl) 35 (.tmp 4) rfl w.heap.size rfl 35 (sx now n (.slice aL nL cL) o (.slice aW nW cW) (.slice aS nS cS)) (0, 0) _ (by rw [← hw0]; exact K.out.box) Try.underlying35 rfl (by kernel_rfl) ?_)
  rw [← hw0]
  refine RO.out.mono ?_
  rintro e w2 ⟨rfl, hb2⟩
  have Q2 := hid (Q0.out.mono hb2)
  have AD1 := hid (AD.out w2 hb2 w2.drew (bl_dr _))
  have AD2 := hid (AD.out w2 hb2 (w2.alloc (.cells #[.int .i64 0, .slice none 0 0, .int .u64 0] 29)).drew ((bl_al w2 _).trans (bl_drw _ _)))
  have QX := hid (Q2.out.mono (bl_dr _))
  have QY := hid (Q2.out.mono ((bl_al w2 (.cells #[.int .i64 0, .slice none 0 0, .int .u64 0] 29)).trans (bl_drw _ _)))
  have hs2 : w.heap.size + 2 ≤ w2.heap.size := Q2.out.k.size
  have c0 := blk_cell Q2.out.k.box (i := 0) rfl
  have c1 := blk_cell Q2.out.k.box (i := 1) rfl
  have c2 := blk_cell Q2.out.k.box (i := 2) rfl
  have c3 := blk_cell Q2.out.k.box (i := 3) rfl
  clear hb2 Q0 K hw0 RO H hs0 AD
  have HS := hid (show ∀ y, K12 w y (sx now n (.slice aL nL cL) o (.slice aW nW cW) (.slice aS nS cS)) → y.cell? ⟨w.heap.size, 0, none⟩ = some (.int .i64 now) ∧ y.cell? ⟨w.heap.size, 1, none⟩ = some (.int .i64 n) ∧ y.cell? ⟨w.heap.size, 2, none⟩ = some (.slice aL nL cL) ∧ y.cell? ⟨w.heap.size, 3, none⟩ = some (.int .u64 o) from fun y hy => ⟨blk_cell hy.box rfl, blk_cell hy.box rfl, blk_cell hy.box rfl, blk_cell hy.box rfl⟩)
  go_upto_region 5 with (fail)
  by_cases hd0 : 0 < d
  all_goals
    first
      | have hd1 : decide (0 < d) = true := decide_eq_true hd0
      | have hd1 : decide (0 < d) = false := decide_eq_false hd0
    go_region_held3 (fun y => y.cell? ⟨w.heap.size, 0, none⟩ = some (.int .i64 now) ∧ y.cell? ⟨w.heap.size, 1, none⟩ = some (.int .i64 n) ∧ y.cell? ⟨w.heap.size, 2, none⟩ = some (.slice aL nL cL) ∧ y.cell? ⟨w.heap.size, 3, none⟩ = some (.int .u64 o))
      (first
        | exact HS.out _ (Q2.out.mono (bl_dr _)).k
        | exact HS.out _ QX.out.k
        | exact HS.out _ QY.out.k
        | exact HS.out _ Q4.out.k
        | exact HS.out _ (Q4.out.mono (bl_al _ _)).k
        | exact HS.out _ (((Q4.out.k.oth hs2).oth hs2).oth hs2))
      (first
        | (go_at_call 48; refine (SU.out _ (by omega) _).mono ?_; rintro e w3 ⟨rfl, rfl⟩)
        | (go_at_call 53; (with_reducible refine (AD1.out).mono ?_); rintro e w4 ⟨v1, rfl, hd1, hb4, k1⟩; have Q4 := hid (QX.out.mkT hd1 hb4 k1); obtain ⟨a1, n1, c1, rfl, _, _⟩ := hd1.sl; clear hd1 hb4 k1)
        | (go_at_call 53; (with_reducible refine (AD2.out).mono ?_); rintro e w4 ⟨v1, rfl, hd1, hb4, k1⟩; have Q4 := hid (QY.out.mkT hd1 hb4 k1); have ZB := hid ((hb4.block w2.heap.size (by show _ < (w2.alloc _).heap.size; simp)).trans (show (w2.alloc _).drew.heap[w2.heap.size]? = _ from heap_alloc_new w2 _)); have NE := hid (show ∀ q, v1.ownBlock = some q → q ≠ w2.heap.size from NEL Q2.out.d.oL k1); obtain ⟨a1, n1, c1, rfl, _, _⟩ := hd1.sl; have z0 : w4.cell? ⟨w2.heap.size, 0, none⟩ = some (.int .i64 0) := blk_cell ZB.out (i := 0) rfl; have z1 : w4.cell? ⟨w2.heap.size, 1, none⟩ = some (.slice none 0 0) := blk_cell ZB.out (i := 1) rfl; have z2 : w4.cell? ⟨w2.heap.size, 2, none⟩ = some (.int .u64 0) := blk_cell ZB.out (i := 2) rfl; have f0 : w4.frozen? ⟨w2.heap.size, 0, none⟩ = false := blk_free ZB.out; have f1 : w4.frozen? ⟨w2.heap.size, 1, none⟩ = false := blk_free ZB.out; have f2 : w4.frozen? ⟨w2.heap.size, 2, none⟩ = false := blk_free ZB.out; clear hd1 hb4 k1))
  all_goals
    first
      | (obtain ⟨w5, hw5⟩ : ∃ w5, w5 = w4.alloc (.cells #[.int .i64 n, .slice a1 n1 c1, .int .u64 o1] 29) := ⟨_, rfl⟩
         rw [← hw5]
         have Q5 := hid (Q4.out.mono (bl_al w4 (.cells #[.int .i64 n, .slice a1 n1 c1, .int .u64 o1] 29)))
         have X5 := hid (show w5.heap[w4.heap.size]? = some (.cells #[.int .i64 n, .slice a1 n1 c1, .int .u64 o1] 29 (0, 0)) by rw [hw5]; exact heap_alloc_new w4 _)
         rw [← hw5] at Q5
         clear hw5
         obtain ⟨q5, hq5⟩ : ∃ q5, q5 = w4.heap.size := ⟨_, rfl⟩
         rw [← hq5] at X5 ⊢
         clear hq5)
      | (obtain ⟨w5, hw5⟩ : ∃ w5, w5 = ((w4.setCell ⟨w2.heap.size, 0, none⟩ (.int .i64 n)).setCell ⟨w2.heap.size, 1, none⟩ (.slice a1 n1 c1)).setCell ⟨w2.heap.size, 2, none⟩ (.int .u64 o1) := ⟨_, rfl⟩
         rw [← hw5]
         have NW := fun q hq => Nat.ne_of_lt (Q2.out.d.oW q hq)
         have NS := fun q hq => Nat.ne_of_lt (Q2.out.d.oS q hq)
         have Q5 := hid (((Q4.out.oth (i := 0) (v := .int .i64 n) hs2 NE.out NW NS).oth (i := 1) (v := .slice a1 n1 c1) hs2 NE.out NW NS).oth (i := 2) (v := .int .u64 o1) hs2 NE.out NW NS)
         have X5 := hid (show w5.heap[w2.heap.size]? = some (.cells #[.int .i64 n, .slice a1 n1 c1, .int .u64 o1] 29 (0, 0)) by rw [hw5]; exact ch3_of ZB.out _ _ _)
         rw [← hw5] at Q5
         clear hw5 NW NS z0 z1 z2 f0 f1 f2 NE ZB
         obtain ⟨q5, hq5⟩ : ∃ q5, q5 = w2.heap.size := ⟨_, rfl⟩
         rw [← hq5] at X5 ⊢
         clear hq5)
    have Q6 := hid (Q5.out.fst3 (o' := o1))
    clear Q4 QX QY Q2 AD1 AD2 SU HS
    go_upto_region 7 with (first
      | (refine wpList_load_known (by rfl) 29 (.tmp 11) rfl q5 rfl 29 #[.int .i64 n, .slice a1 n1 c1, .int .u64 o1] (0, 0) _ X5.out Try.underlying29 rfl (by kernel_rfl) ?_)
      | (refine wpList_store_mid rfl 29 (.tmp 49) (.tmp 48) rfl w.heap.size 1 #[.int .i64 n, .slice a1 n1 c1, .int .u64 o1] rfl rfl (there_of Q5.out.k.box (by simp)) (by kernel_rfl) (by simp [Value.oneCell']) ?_))
    have DU := hid (rdue12 (now := now) (n := n) (o := o1) (Q6.out.mono (bl_dr _)).d r HRR.out)
    have Q7 := hid (fun (w7 : World) (hb : Below (w5.setCells w.heap.size 1 [.int .i64 n, .slice a1 n1 c1, .int .u64 o1]).drew.heap.size (w5.setCells w.heap.size 1 [.int .i64 n, .slice a1 n1 c1, .int .u64 o1]).drew w7) => (Q6.out.mono (bl_dr _)).mono hb)
    have z0 := blk_cell (Q6.out.mono (bl_dr _)).k.box (i := 0) rfl
    have z1 := blk_cell (Q6.out.mono (bl_dr _)).k.box (i := 1) rfl
    have z2 := blk_cell (Q6.out.mono (bl_dr _)).k.box (i := 2) rfl
    have z3 := blk_cell (Q6.out.mono (bl_dr _)).k.box (i := 3) rfl
    have z4 := blk_cell (Q6.out.mono (bl_dr _)).k.box (i := 4) rfl
    have z5 := blk_cell (Q6.out.mono (bl_dr _)).k.box (i := 5) rfl
    go_wp2_with fail
    go_region_with (go_at_call 10; (with_reducible refine DU.out.mono ?_); rintro e w7 ⟨rfl, hb7⟩; have Q8 := hid (Q7.out w7 hb7); clear hb7; have u0 := blk_cell Q8.out.k.box (i := 0) rfl; have u1 := blk_cell Q8.out.k.box (i := 1) rfl; have u2 := blk_cell Q8.out.k.box (i := 2) rfl; have u3 := blk_cell Q8.out.k.box (i := 3) rfl; have u4 := blk_cell Q8.out.k.box (i := 4) rfl; have u5 := blk_cell Q8.out.k.box (i := 5) rfl; have x0 := blk_cell Q8.out.k.res (i := 0) rfl; have x1 := blk_cell Q8.out.k.res (i := 1) rfl; have x2 := blk_cell Q8.out.k.res (i := 2) rfl; have x3 := blk_cell Q8.out.k.res (i := 3) rfl; have x4 := blk_cell Q8.out.k.res (i := 4) rfl; have x5 := blk_cell Q8.out.k.res (i := 5) rfl; have y0 := blk_free Q8.out.k.res (i := 0); have y1 := blk_free Q8.out.k.res (i := 1); have y2 := blk_free Q8.out.k.res (i := 2); have y3 := blk_free Q8.out.k.res (i := 3); have y4 := blk_free Q8.out.k.res (i := 4); have y5 := blk_free Q8.out.k.res (i := 5))
    all_goals
      have FIN := hid (Q8.out.fin6 [.bool r, .int .i64 0])
      have S6 := hid (set6s Q8.out.k.res (.int .i64 now) (.int .i64 n) (.slice a1 n1 c1) (.int .u64 o1) (.slice aW nW cW) (.slice aS nS cS))
      clear DU Q7 Q6 Q5 X5
      go_wp2
      exact bodyPost_ret (v := .tuple #[.agg (sx now n (.slice a1 n1 c1) o1 (.slice aW nW cW) (.slice aS nS cS)), .bool r, .int .i64 0]) (results_c2 rfl _ _ (w.heap.size + 1) 35 (sx now n (.slice a1 n1 c1) o1 (.slice aW nW cW) (.slice aS nS cS)) (0, 0) _ (by rfl) S6.out Try.underlying35 rfl (by kernel_rfl) _ _ (by rfl) (by rfl)) rfl FIN.out
theorem rsleep12 {w : World} {now : Int} {n o : Nat} {vL vW vS : Value} {D : List Tr} {V : List (Int × Int)} {S : List Int} (h : D12 w vL vW vS D V S) (p g d : Int) (hl : D.length < 1000) (hO : o < 1000000) (hn : inI now) (hd : inI d) :
    Calls Try.prog 29 #[.agg (sx now n vL o vW vS), .int .i64 p, .int .i64 g, .int .i64 d] w (P12 w vL vW vS now n (slO n D V p g o) (slD n D V p g (sat now (max d 0)) o) V S [.bool (slB n now D V S p g (sat now (max d 0)) o), .int .i64 (slE n D V p g)]) := by
  by_cases h1 : p < 0 ∨ (n : Int) ≤ p ∨ g < 0 ∨ 4095 < g
  · have e1 : slE n D V p g = 1 := if_pos h1
    have e2 : slD n D V p g (sat now (max d 0)) o = D := by unfold slD; rw [e1]; rfl
    have e3 : slB n now D V S p g (sat now (max d 0)) o = false := by unfold slB; rw [e1]; rfl
    have e4 : slO n D V p g o = o := by unfold slO; rw [e1]; rfl
    rw [e1, e2, e3, e4]
    by_cases h2 : p < 0
    · exact rsleep12_a1 h p g d h2
    · by_cases h3 : (n : Int) ≤ p
      · exact rsleep12_a2 h p g d (by omega) h3
      · by_cases h4 : g < 0
        · exact rsleep12_a3 h p g d (by omega) (by omega) h4
        · exact rsleep12_a4 h p g d (by omega) (by omega) (by omega)
  · rcases ho : (thasb D g || rhasb V g) with _ | _
    · have e1 : slE n D V p g = 0 := by unfold slE; rw [if_neg h1, if_neg (by rw [ho]; simp)]
      have e2 : slD n D V p g (sat now (max d 0)) o = D ++ [(p, sat now (max d 0), (o : Int), g)] := by unfold slD; rw [if_pos e1]
      have e3 : slB n now D V S p g (sat now (max d 0)) o = due12 now (D ++ [(p, sat now (max d 0), (o : Int), g)]) V S := by unfold slB; rw [if_pos e1, e2]
      have e4 : slO n D V p g o = o + 1 := by unfold slO; rw [if_pos e1]
      rw [e1, e2, e3, e4]
      exact rsleep12_ok h p g d _ (by omega) (by omega) (by omega) (by omega) ho hl hO hn hd rfl
    · have e1 : slE n D V p g = 8 := by unfold slE; rw [if_neg h1, if_pos ho]
      have e2 : slD n D V p g (sat now (max d 0)) o = D := by unfold slD; rw [e1]; rfl
      have e3 : slB n now D V S p g (sat now (max d 0)) o = false := by unfold slB; rw [e1]; rfl
      have e4 : slO n D V p g o = o := by unfold slO; rw [e1]; rfl
      rw [e1, e2, e3, e4]
      exact rsleep12_out h p g d (by omega) (by omega) (by omega) (by omega) ho
end Go.Proofs.Ytaogpodncphpjaa
