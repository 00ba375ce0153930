/- The document's Idle by value: TakeP, TakeM, New. Written by wip/tools/gen13b.py. -/
import Derived.Test.YtnabikoieolfcaaDoorRef13D
import Derived.Deep.CutRange
namespace Go.Proofs.YtnabikoieolfcaaDoor
set_option linter.unusedVariables false
set_option linter.unusedSimpArgs false
open Go.RowKit
set_option maxHeartbeats 4000000 in
theorem rtakep_none (w : World) (NP NM pl : Int) (vP vQ vM : Value) (Q M : List Int) (h : Di w vP vQ vM [] Q M) :
    Calls Tryd.prog 20 #[.agg (ix NP NM vP vQ vM pl)] w (DiPost w vP vQ vM NP NM [] Q M pl [.int .i64 0, .bool false]) := by
  obtain ⟨aP, nP, cP, aQ, nQ, cQ, aM, nM, cM, rfl, rfl, rfl, HP, HQ, HM, lp, lq, lm⟩ := h.sl
  have hb0 := ((Below.refl w.heap.size w).alloc (Nat.le_refl _) (.cells (ix NP NM (.slice aP nP cP) (.slice aQ nQ cQ) (.slice aM nM cM) pl) 28)).alloc (by simp) (.cells iz 28)
  have K := hid (show K13 w ((w.alloc (.cells (ix NP NM (.slice aP nP cP) (.slice aQ nQ cQ) (.slice aM nM cM) pl) 28)).alloc (.cells iz 28)) (ix NP NM (.slice aP nP cP) (.slice aQ nQ cQ) (.slice aM nM cM) pl) from ⟨hb0, heap_alloc2_old w _ _, heap_alloc2_new w _ _, by simp⟩)
  have HD := hid (h.below hb0)
  have H0 := hid h
  clear h hb0
  obtain rfl : nP = 0 := HP.out.symm
  have FIN := hid (K.out.keep H0.out [.int .i64 0, .bool false])
  have y0 := blk_cell K.out.box (i := 0) rfl
  have y1 := blk_cell K.out.box (i := 1) rfl
  have y2 := blk_cell K.out.box (i := 2) rfl
  have y3 := blk_cell K.out.box (i := 3) rfl
  have y4 := blk_cell K.out.box (i := 4) rfl
  have y5 := blk_cell K.out.box (i := 5) rfl
  clear HD H0
  go_enter Tryd.func20, Tryd.ntmps20
  go_wp2_with (first
    | (refine wpList_load_known (by rfl) 28 (.tmp 1) rfl w.heap.size rfl 28 (ix NP NM (.slice aP 0 cP) (.slice aQ nQ cQ) (.slice aM nM cM) pl) (0, 0) _ K.out.box Tryd.underlying28 rfl (by kernel_rfl) ?_)
    | (refine wpList_store_row rfl 28 (.tmp 2) (.tmp 12) rfl (w.heap.size + 1) (ix NP NM (.slice aP 0 cP) (.slice aQ nQ cQ) (.slice aM nM cM) pl) rfl rfl 28 _ K.out.res (by kernel_rfl) (by rfl) (by simp [ix, Value.oneCell']) ?_))
  exact bodyPost_ret (v := .tuple #[.agg (ix NP NM (.slice aP 0 cP) (.slice aQ nQ cQ) (.slice aM nM cM) pl), .int .i64 0, .bool false]) (results_row_2t13 rfl _ _ (w.heap.size + 1) 28 (ix NP NM (.slice aP 0 cP) (.slice aQ nQ cQ) (.slice aM nM cM) pl) (0, 0) _ (by rfl) (setRow_heap _ _ _ _ _ _ K.out.res) Tryd.underlying28 rfl (by kernel_rfl) _ _ (by rfl) (by rfl)) rfl FIN.out
set_option maxHeartbeats 4000000 in
theorem rtakep_least (w : World) (NP NM pl : Int) (vP vQ vM : Value) (Pl Q M : List Int) (h : Di w vP vQ vM Pl Q M) (b : Int) (hb : b ∈ Pl) (hl : ∀ x ∈ Pl, b ≤ x) :
    Calls Tryd.prog 20 #[.agg (ix NP NM vP vQ vM pl)] w (DiPost w vP vQ vM NP NM (butI b Pl) Q M pl [.int .i64 b, .bool true]) := by
  obtain ⟨aP, nP, cP, aQ, nQ, cQ, aM, nM, cM, rfl, rfl, rfl, HP, HQ, HM, lp, lq, lm⟩ := h.sl
  have hb0 := ((Below.refl w.heap.size w).alloc (Nat.le_refl _) (.cells (ix NP NM (.slice aP nP cP) (.slice aQ nQ cQ) (.slice aM nM cM) pl) 28)).alloc (by simp) (.cells iz 28)
  have K := hid (show K13 w ((w.alloc (.cells (ix NP NM (.slice aP nP cP) (.slice aQ nQ cQ) (.slice aM nM cM) pl) 28)).alloc (.cells iz 28)) (ix NP NM (.slice aP nP cP) (.slice aQ nQ cQ) (.slice aM nM cM) pl) from ⟨hb0, heap_alloc2_old w _ _, heap_alloc2_new w _ _, by simp⟩)
  have HD := hid (h.below hb0)
  have H0 := hid h
  clear h hb0
  have LS := hid (rless _ _ _ HD.out.hp HD.out.lp b)
  have hpos : 0 < Pl.length := List.length_pos_of_mem hb
  have HPos := hid hpos
  obtain ⟨a', c', e, _, hh⟩ := HD.out.hp
  simp only [Value.slice.injEq] at e
  obtain ⟨rfl, e9, rfl⟩ := e
  clear e9
  obtain ⟨g, off, rfl, _, hc⟩ := hh hpos
  have HC := hid hc
  have q0 := hc 0 hpos
  simp only [Nat.add_zero] at q0
  have X0 : ∃ x0, Pl.getD 0 0 = x0 ∧ x0 ∈ Pl := ⟨_, rfl, by rw [List.getD_eq_getElem?_getD, List.getElem?_eq_getElem hpos]; exact List.getElem_mem _⟩
  obtain ⟨x0, hx0, hx1⟩ := X0
  rw [hx0] at q0
  have X1 := hid hx1
  have HBm := hid hb
  have HL := hid hl
  have nn : ((nP : Int) == 0) = false := by have := HP.out; simp; omega
  have np0 : 0 < nP := by have := HP.out; omega
  have y2 := blk_cell K.out.box (i := 2) rfl
  clear HD hh hc hb hl hx0 hx1 hpos
  go_enter Tryd.func20, Tryd.ntmps20
  go_wp2_with fail
  obtain ⟨w2, hw2⟩ : ∃ w2, w2 = (w.alloc (.cells (ix NP NM (.slice (some ⟨g, off, none⟩) nP cP) (.slice aQ nQ cQ) (.slice aM nM cM) pl) 28)).alloc (.cells iz 28) := ⟨_, rfl⟩
  rw [← hw2] at K LS HC y2 ⊢
  clear hw2 q0 nn
  go_loopw [5, 7, 20] (fun v5 v7 i wr => ∃ (k : Nat) (c : Int), k ≤ nP ∧ .int .i64 c = v5 ∧ i = .int .i64 k ∧ Hid (c ∈ Pl) ∧ Hid (∀ j, j < k → c ≤ Pl.getD j 0) ∧ wr = w2) (fun _ _ i _ => nP - (intOf i).toNat)
  case atStart => exact ⟨0, x0, by omega, rfl, rfl, X1, hid (fun j hj => by omega), rfl⟩
  case round =>
    obtain ⟨k, c, hk, rfl, rfl, C1, C2, rfl⟩ := hrel
    by_cases hlt : k < nP
    · have h0 := HC.out k (by have := HP.out; omega)
      obtain ⟨x, hx⟩ : ∃ x, x = Pl.getD k 0 := ⟨_, rfl⟩
      have XM := hid (show x ∈ Pl by rw [hx, List.getD_eq_getElem?_getD, List.getElem?_eq_getElem (show k < Pl.length by have := HP.out; omega)]; exact List.getElem_mem _)
      rw [← hx] at h0
      have HX := hid hx
      clear hx
      by_cases hxc : x < c
      · have C4 := hid (show ∀ j, j < k + 1 → x ≤ Pl.getD j 0 from fun j hj => by
          by_cases hjk : j = k
          · rw [hjk, ← HX.out]; exact Int.le_refl _
          · have := C2.out j (by omega); omega)
        clear C2 HX
        go_wp2_with fail
        go_roundw
        case rel => exact ⟨k + 1, x, by omega, by go_num, by go_num, XM, C4, trivial⟩
        case measure => simp [intOf]; omega
      · have C4 := hid (show ∀ j, j < k + 1 → c ≤ Pl.getD j 0 from fun j hj => by
          by_cases hjk : j = k
          · rw [hjk, ← HX.out]; omega
          · exact C2.out j (by omega))
        clear C2 HX
        go_wp2_with fail
        go_roundw
        case rel => exact ⟨k + 1, c, by omega, by go_num, by go_num, C1, C4, trivial⟩
        case measure => simp [intOf]; omega
    · obtain rfl : k = nP := by omega
      have hcb : c = b := by
        have h1 := HL.out c C1.out
        obtain ⟨j, hj, hjb⟩ := List.getElem_of_mem HBm.out
        have h2 := C2.out j (by have := HP.out; omega)
        rw [List.getD_eq_getElem?_getD, List.getElem?_eq_getElem hj, Option.getD_some, hjb] at h2
        omega
      subst hcb
      clear C1 C2 HC HL HBm X1 np0 HPos
      go_wp2_with fail
      refine LS.out.mono ?_
      rintro e w6 ⟨v6, rfl, r6, hb6, ol6⟩
      have hsK := K.out.size
      have OL := hid (show ∀ q, v6.ownBlock = some q → w.heap.size + 2 ≤ q ∧ q < w6.heap.size from fun q hq => by have := ol6 q hq; omega)
      have K6 := hid (K.out.mono hb6)
      have R6 := r6
      obtain ⟨a6, c6, rfl, _, _⟩ := r6
      obtain ⟨n6, hn6⟩ : ∃ n6, n6 = (butI c Pl).length := ⟨_, rfl⟩
      rw [← hn6] at R6 OL ⊢
      clear hn6
      have K7 := hid (K6.out.set (cs' := (ix NP NM (.slice a6 n6 c6) (.slice aQ nQ cQ) (.slice aM nM cM) pl)) 2 (.slice a6 n6 c6) rfl)
      have R7 : Reads (w6.setCell ⟨w.heap.size, 2, none⟩ (.slice a6 n6 c6)) (.slice a6 n6 c6) (butI c Pl) := R6.cellset (fun q hq => by have := (OL.out q hq).1; omega)
      have D7 := H0.out.below K7.out.below
      have FIN := hid (K7.out.fin (vP0 := .slice (some ⟨g, off, none⟩) k cP) (vQ0 := .slice aQ nQ cQ) (vM0 := .slice aM nM cM) (Pl := (butI c Pl)) (Q := Q) (M := M) ⟨R7, D7.hq, D7.hm, (Nat.le_trans (List.length_filter_le ..) D7.lp), D7.lq, D7.lm⟩ [.int .i64 c, .bool true] (fun q hq => .inr (by have := OL.out q hq; simp; omega)) (fun q hq => .inl hq) (fun q hq => .inl hq) (fun _ q hq => by have := OL.out q hq; omega) (fun h0 q hq => by have := H0.out.hq.own_lt h0 q hq; omega) (fun h0 q hq => by have := H0.out.hm.own_lt h0 q hq; omega))
      have x6 := blk_cell K6.out.box (i := 2) rfl
      have f6 := blk_free K6.out.box (i := 2)
      clear H0 OL R6 R7 D7 LS hb6 ol6
      go_wp2_with (first
        | (refine wpList_load_known (by rfl) 28 (.tmp 1) rfl w.heap.size rfl 28 (ix NP NM (.slice a6 n6 c6) (.slice aQ nQ cQ) (.slice aM nM cM) pl) (0, 0) _ K7.out.box Tryd.underlying28 rfl (by kernel_rfl) ?_)
        | (refine wpList_store_row rfl 28 (.tmp 2) (.tmp 33) rfl (w.heap.size + 1) (ix NP NM (.slice a6 n6 c6) (.slice aQ nQ cQ) (.slice aM nM cM) pl) rfl rfl 28 _ K7.out.res (by kernel_rfl) (by rfl) (by simp [ix, Value.oneCell']) ?_))
      exact bodyPost_ret (v := .tuple #[.agg (ix NP NM (.slice a6 n6 c6) (.slice aQ nQ cQ) (.slice aM nM cM) pl), .int .i64 c, .bool true]) (results_row_2t13 rfl _ _ (w.heap.size + 1) 28 (ix NP NM (.slice a6 n6 c6) (.slice aQ nQ cQ) (.slice aM nM cM) pl) (0, 0) _ (by rfl) (setRow_heap _ _ _ _ _ _ K7.out.res) Tryd.underlying28 rfl (by kernel_rfl) _ _ (by rfl) (by rfl)) rfl FIN.out
set_option maxHeartbeats 4000000 in
theorem rtakem_none (w : World) (NP NM pl : Int) (vP vQ vM : Value) (Pl Q : List Int) (h : Di w vP vQ vM Pl Q []) (hpl : pl < 0) :
    Calls Tryd.prog 26 #[.agg (ix NP NM vP vQ vM pl)] w (DiPost w vP vQ vM NP NM Pl Q [] pl [.int .i64 0, .bool false]) := by
  obtain ⟨aP, nP, cP, aQ, nQ, cQ, aM, nM, cM, rfl, rfl, rfl, HP, HQ, HM, lp, lq, lm⟩ := h.sl
  have hb0 := ((Below.refl w.heap.size w).alloc (Nat.le_refl _) (.cells (ix NP NM (.slice aP nP cP) (.slice aQ nQ cQ) (.slice aM nM cM) pl) 28)).alloc (by simp) (.cells iz 28)
  have K := hid (show K13 w ((w.alloc (.cells (ix NP NM (.slice aP nP cP) (.slice aQ nQ cQ) (.slice aM nM cM) pl) 28)).alloc (.cells iz 28)) (ix NP NM (.slice aP nP cP) (.slice aQ nQ cQ) (.slice aM nM cM) pl) from ⟨hb0, heap_alloc2_old w _ _, heap_alloc2_new w _ _, by simp⟩)
  have HD := hid (h.below hb0)
  have H0 := hid h
  clear h hb0
  obtain rfl : nM = 0 := HM.out.symm
  have d4 : decide (pl < 0) = true := decide_eq_true hpl
  have FIN := hid (K.out.keep H0.out [.int .i64 0, .bool false])
  have y0 := blk_cell K.out.box (i := 0) rfl
  have y1 := blk_cell K.out.box (i := 1) rfl
  have y2 := blk_cell K.out.box (i := 2) rfl
  have y3 := blk_cell K.out.box (i := 3) rfl
  have y4 := blk_cell K.out.box (i := 4) rfl
  have y5 := blk_cell K.out.box (i := 5) rfl
  clear HD H0
  go_enter Tryd.func26, Tryd.ntmps26
  go_wp2_with (first
    | (refine wpList_load_known (by rfl) 28 (.tmp 1) rfl w.heap.size rfl 28 (ix NP NM (.slice aP nP cP) (.slice aQ nQ cQ) (.slice aM 0 cM) pl) (0, 0) _ K.out.box Tryd.underlying28 rfl (by kernel_rfl) ?_)
    | (refine wpList_store_row rfl 28 (.tmp 2) (.tmp 29) rfl (w.heap.size + 1) (ix NP NM (.slice aP nP cP) (.slice aQ nQ cQ) (.slice aM 0 cM) pl) rfl rfl 28 _ K.out.res (by kernel_rfl) (by rfl) (by simp [ix, Value.oneCell']) ?_))
  exact bodyPost_ret (v := .tuple #[.agg (ix NP NM (.slice aP nP cP) (.slice aQ nQ cQ) (.slice aM 0 cM) pl), .int .i64 0, .bool false]) (results_row_2t13 rfl _ _ (w.heap.size + 1) 28 (ix NP NM (.slice aP nP cP) (.slice aQ nQ cQ) (.slice aM 0 cM) pl) (0, 0) _ (by rfl) (setRow_heap _ _ _ _ _ _ K.out.res) Tryd.underlying28 rfl (by kernel_rfl) _ _ (by rfl) (by rfl)) rfl FIN.out
set_option maxHeartbeats 4000000 in
theorem rtakem_poller (w : World) (NP NM pl : Int) (vP vQ vM : Value) (Pl Q : List Int) (h : Di w vP vQ vM Pl Q []) (hpl : 0 ≤ pl) :
    Calls Tryd.prog 26 #[.agg (ix NP NM vP vQ vM pl)] w (DiPost w vP vQ vM NP NM Pl Q [] (-1) [.int .i64 pl, .bool true]) := by
  obtain ⟨aP, nP, cP, aQ, nQ, cQ, aM, nM, cM, rfl, rfl, rfl, HP, HQ, HM, lp, lq, lm⟩ := h.sl
  have hb0 := ((Below.refl w.heap.size w).alloc (Nat.le_refl _) (.cells (ix NP NM (.slice aP nP cP) (.slice aQ nQ cQ) (.slice aM nM cM) pl) 28)).alloc (by simp) (.cells iz 28)
  have K := hid (show K13 w ((w.alloc (.cells (ix NP NM (.slice aP nP cP) (.slice aQ nQ cQ) (.slice aM nM cM) pl) 28)).alloc (.cells iz 28)) (ix NP NM (.slice aP nP cP) (.slice aQ nQ cQ) (.slice aM nM cM) pl) from ⟨hb0, heap_alloc2_old w _ _, heap_alloc2_new w _ _, by simp⟩)
  have HD := hid (h.below hb0)
  have H0 := hid h
  clear h hb0
  obtain rfl : nM = 0 := HM.out.symm
  have d4 : decide (pl < 0) = false := decide_eq_false (by omega)
  have y4 := blk_cell K.out.box (i := 4) rfl
  have y5 := blk_cell K.out.box (i := 5) rfl
  have f5 := blk_free K.out.box (i := 5)
  clear HD
  obtain ⟨w2, hw2⟩ : ∃ w2, w2 = (w.alloc (.cells (ix NP NM (.slice aP nP cP) (.slice aQ nQ cQ) (.slice aM 0 cM) pl) 28)).alloc (.cells iz 28) := ⟨_, rfl⟩
  have HW2 := hid hw2
  rw [← hw2] at K y4 y5 f5
  have K7 := hid (K.out.set (cs' := (ix NP NM (.slice aP nP cP) (.slice aQ nQ cQ) (.slice aM 0 cM) (-1))) 5 (.int .i64 (-1)) rfl)
  have FIN := hid (K7.out.keep (pl := (-1)) H0.out [.int .i64 pl, .bool true])
  clear H0
  go_enter Tryd.func26, Tryd.ntmps26
  go_upto_region 1 with (fail)
  rw [← hw2]
  clear hw2
  go_wp2_with (first
    | (refine wpList_load_known (by rfl) 28 (.tmp 1) rfl w.heap.size rfl 28 (ix NP NM (.slice aP nP cP) (.slice aQ nQ cQ) (.slice aM 0 cM) (-1)) (0, 0) _ K7.out.box Tryd.underlying28 rfl (by kernel_rfl) ?_)
    | (refine wpList_store_row rfl 28 (.tmp 2) (.tmp 33) rfl (w.heap.size + 1) (ix NP NM (.slice aP nP cP) (.slice aQ nQ cQ) (.slice aM 0 cM) (-1)) rfl rfl 28 _ K7.out.res (by kernel_rfl) (by rfl) (by simp [ix, Value.oneCell']) ?_))
  exact bodyPost_ret (v := .tuple #[.agg (ix NP NM (.slice aP nP cP) (.slice aQ nQ cQ) (.slice aM 0 cM) (-1)), .int .i64 pl, .bool true]) (results_row_2t13 rfl _ _ (w.heap.size + 1) 28 (ix NP NM (.slice aP nP cP) (.slice aQ nQ cQ) (.slice aM 0 cM) (-1)) (0, 0) _ (by rfl) (setRow_heap _ _ _ _ _ _ K7.out.res) Tryd.underlying28 rfl (by kernel_rfl) _ _ (by rfl) (by rfl)) rfl FIN.out
set_option maxHeartbeats 4000000 in
theorem rtakem_last (w : World) (NP NM pl : Int) (vP vQ vM : Value) (Pl Q M : List Int) (h : Di w vP vQ vM Pl Q M) (m : Int) (ss : List Int) (hM : M = ss ++ [m]) :
    Calls Tryd.prog 26 #[.agg (ix NP NM vP vQ vM pl)] w (DiPost w vP vQ vM NP NM Pl Q (butI m M) pl [.int .i64 m, .bool true]) := by
  obtain ⟨aP, nP, cP, aQ, nQ, cQ, aM, nM, cM, rfl, rfl, rfl, HP, HQ, HM, lp, lq, lm⟩ := h.sl
  have hb0 := ((Below.refl w.heap.size w).alloc (Nat.le_refl _) (.cells (ix NP NM (.slice aP nP cP) (.slice aQ nQ cQ) (.slice aM nM cM) pl) 28)).alloc (by simp) (.cells iz 28)
  have K := hid (show K13 w ((w.alloc (.cells (ix NP NM (.slice aP nP cP) (.slice aQ nQ cQ) (.slice aM nM cM) pl) 28)).alloc (.cells iz 28)) (ix NP NM (.slice aP nP cP) (.slice aQ nQ cQ) (.slice aM nM cM) pl) from ⟨hb0, heap_alloc2_old w _ _, heap_alloc2_new w _ _, by simp⟩)
  have HD := hid (h.below hb0)
  have H0 := hid h
  clear h hb0
  have LS := hid (rless _ _ _ HD.out.hm HD.out.lm m)
  obtain ⟨n1, hn1⟩ : ∃ n1, n1 = ss.length := ⟨_, rfl⟩
  have hML : M.length = n1 + 1 := by rw [hM, hn1]; simp
  obtain rfl : nM = n1 + 1 := by rw [← HM.out, hML]
  obtain ⟨a', c', e, _, hh⟩ := HD.out.hm
  simp only [Value.slice.injEq] at e
  obtain ⟨rfl, e9, rfl⟩ := e
  clear e9
  obtain ⟨g, off, rfl, _, hc⟩ := hh (by omega)
  have q0 := hc n1 (by omega)
  rw [show M.getD n1 0 = m by rw [hM, hn1]; simp] at q0
  have y4 := blk_cell K.out.box (i := 4) rfl
  have nn : decide (0 < (n1 : Int) + 1) = true := decide_eq_true (by omega)
  have sb : IntKind.i64.wrap ((n1 : Int) + 1 - 1) = (n1 : Int) := by
    have hb : IntKind.i64.bits = 64 := rfl
    have hs : IntKind.i64.signed = true := rfl
    simp [IntKind.wrap, hb, hs]; omega
  clear HD hh hc hM hn1 hML
  go_enter Tryd.func26, Tryd.ntmps26
  go_wp2_with fail
  refine LS.out.mono ?_
  rintro e w6 ⟨v6, rfl, r6, hb6, ol6⟩
  have hsK := K.out.size
  have OL := hid (show ∀ q, v6.ownBlock = some q → w.heap.size + 2 ≤ q ∧ q < w6.heap.size from fun q hq => by have := ol6 q hq; omega)
  have K6 := hid (K.out.mono hb6)
  have R6 := r6
  obtain ⟨a6, c6, rfl, _, _⟩ := r6
  obtain ⟨n6, hn6⟩ : ∃ n6, n6 = (butI m M).length := ⟨_, rfl⟩
  rw [← hn6] at R6 OL ⊢
  clear hn6
  have K7 := hid (K6.out.set (cs' := (ix NP NM (.slice aP nP cP) (.slice aQ nQ cQ) (.slice a6 n6 c6) pl)) 4 (.slice a6 n6 c6) rfl)
  have R7 : Reads (w6.setCell ⟨w.heap.size, 4, none⟩ (.slice a6 n6 c6)) (.slice a6 n6 c6) (butI m M) := R6.cellset (fun q hq => by have := (OL.out q hq).1; omega)
  have D7 := H0.out.below K7.out.below
  have FIN := hid (K7.out.fin (vP0 := .slice aP nP cP) (vQ0 := .slice aQ nQ cQ) (vM0 := .slice (some ⟨g, off, none⟩) (n1 + 1) cM) (Pl := Pl) (Q := Q) (M := (butI m M)) ⟨D7.hp, D7.hq, R7, D7.lp, D7.lq, (Nat.le_trans (List.length_filter_le ..) D7.lm)⟩ [.int .i64 m, .bool true] (fun q hq => .inl hq) (fun q hq => .inl hq) (fun q hq => .inr (by have := OL.out q hq; simp; omega)) (fun h0 q hq => by have := H0.out.hp.own_lt h0 q hq; omega) (fun h0 q hq => by have := H0.out.hq.own_lt h0 q hq; omega) (fun _ q hq => by have := OL.out q hq; omega))
  have x6 := blk_cell K6.out.box (i := 4) rfl
  have f6 := blk_free K6.out.box (i := 4)
  clear H0 OL R6 R7 D7 LS hb6 ol6
  go_wp2_with (first
    | (refine wpList_load_known (by rfl) 28 (.tmp 1) rfl w.heap.size rfl 28 (ix NP NM (.slice aP nP cP) (.slice aQ nQ cQ) (.slice a6 n6 c6) pl) (0, 0) _ K7.out.box Tryd.underlying28 rfl (by kernel_rfl) ?_)
    | (refine wpList_store_row rfl 28 (.tmp 2) (.tmp 24) rfl (w.heap.size + 1) (ix NP NM (.slice aP nP cP) (.slice aQ nQ cQ) (.slice a6 n6 c6) pl) rfl rfl 28 _ K7.out.res (by kernel_rfl) (by rfl) (by simp [ix, Value.oneCell']) ?_))
  exact bodyPost_ret (v := .tuple #[.agg (ix NP NM (.slice aP nP cP) (.slice aQ nQ cQ) (.slice a6 n6 c6) pl), .int .i64 m, .bool true]) (results_row_2t13 rfl _ _ (w.heap.size + 1) 28 (ix NP NM (.slice aP nP cP) (.slice aQ nQ cQ) (.slice a6 n6 c6) pl) (0, 0) _ (by rfl) (setRow_heap _ _ _ _ _ _ K7.out.res) Tryd.underlying28 rfl (by kernel_rfl) _ _ (by rfl) (by rfl)) rfl FIN.out
/-- From 1 to so many. -/
def wthn (n most : Int) : Int := if n < 1 then 1 else if most < n then most else n
set_option maxHeartbeats 4000000 in
theorem rwithin (n most : Int) (w : World) : Calls Tryd.prog 17 #[.int .i64 n, .int .i64 most] w fun e w' => e = .returned (.int .i64 (wthn n most)) ∧ w' = w := by
  by_cases h1 : n < 1
  · have E := hid (show wthn n most = 1 from if_pos h1)
    go_enter Tryd.func17, Tryd.ntmps17
    go_wp2
    go_ret
    exact ⟨(show Ending.returned (.int .i64 1) = _ by rw [E.out]), rfl⟩
  · by_cases h2 : most < n
    · have E := hid (show wthn n most = most by unfold wthn; rw [if_neg h1, if_pos h2])
      go_enter Tryd.func17, Tryd.ntmps17
      go_wp2
      go_ret
      exact ⟨(show Ending.returned (.int .i64 most) = _ by rw [E.out]), rfl⟩
    · have E := hid (show wthn n most = n by unfold wthn; rw [if_neg h1, if_neg h2])
      go_enter Tryd.func17, Tryd.ntmps17
      go_wp2
      go_ret
      exact ⟨(show Ending.returned (.int .i64 n) = _ by rw [E.out]), rfl⟩
set_option maxHeartbeats 4000000 in
theorem rnew13 (a b : Int) (w : World) : Calls Tryd.prog 6 #[.int .i64 a, .int .i64 b] w fun e w' => e = .returned (.agg (ix (wthn a 64) (wthn b 128) (.slice none 0 0) (.slice none 0 0) (.slice none 0 0) (-1))) ∧ Below w.heap.size w w' := by
  obtain ⟨x, hx⟩ : ∃ x, x = wthn a 64 := ⟨_, rfl⟩
  obtain ⟨y, hy⟩ : ∃ y, y = wthn b 128 := ⟨_, rfl⟩
  have W1 := hid (fun w => rwithin a 64 w)
  have W2 := hid (fun w => rwithin b 128 w)
  rw [← hx] at W1 ⊢
  rw [← hy] at W2 ⊢
  clear hx hy
  have B := hid (show Below w.heap.size w (w.alloc (.cells (ix x y (.slice none 0 0) (.slice none 0 0) (.slice none 0 0) (-1)) 28)) from bl_al13 _ _)
  go_enter Tryd.func6, Tryd.ntmps6
  go_wp2_with fail
  refine (W1.out _).mono ?_
  rintro e w2 ⟨rfl, rfl⟩
  go_wp2_with fail
  refine (W2.out _).mono ?_
  rintro e w2 ⟨rfl, rfl⟩
  go_wp2_with fail
  exact bodyPost_ret (results_cell_row rfl _ _ w.heap.size 28 (ix x y (.slice none 0 0) (.slice none 0 0) (.slice none 0 0) (-1)) (0, 0) _ (by rfl) (heap_alloc_new _ _) Tryd.underlying28 rfl (by kernel_rfl)) rfl ⟨rfl, B.out⟩
end Go.Proofs.YtnabikoieolfcaaDoor
