/- The document's Idle by value: Stop, TakeP, TakePending, TakeM, New. Written by wip/tools/gen13b.py. -/
import Derived.Test.YtnabikoieolfcaaDoorRef13C
namespace Go.Proofs.YtnabikoieolfcaaDoor
set_option linter.unusedVariables false
set_option linter.unusedSimpArgs false
open Go.RowKit
set_option maxHeartbeats 4000000 in
theorem rstop_no (w : World) (NP NM pl : Int) (vP vQ vM : Value) (Pl Q M : List Int) (h : Di w vP vQ vM Pl Q M) (m : Int) (hx : m < 0 ∨ NM ≤ m ∨ m = pl ∨ hasB m M = true) :
    Calls Tryd.prog 29 #[.agg (ix NP NM vP vQ vM pl), .int .i64 m] w (DiPost w vP vQ vM NP NM Pl Q M pl [.bool false, .bool false]) := by
  obtain ⟨aP, nP, cP, aQ, nQ, cQ, aM, nM, cM, rfl, rfl, rfl, HP, HQ, HM, lp, lq, lm⟩ := h.sl
  have hb0 := ((Below.refl w.heap.size w).alloc (Nat.le_refl _) (.cells (ix NP NM (.slice aP nP cP) (.slice aQ nQ cQ) (.slice aM nM cM) pl) 28)).alloc (by simp) (.cells iz 28)
  have K := hid (show K13 w ((w.alloc (.cells (ix NP NM (.slice aP nP cP) (.slice aQ nQ cQ) (.slice aM nM cM) pl) 28)).alloc (.cells iz 28)) (ix NP NM (.slice aP nP cP) (.slice aQ nQ cQ) (.slice aM nM cM) pl) from ⟨hb0, heap_alloc2_old w _ _, heap_alloc2_new w _ _, by simp⟩)
  have HD := hid (h.below hb0)
  have H0 := hid h
  clear h hb0
  have FIN := hid (K.out.keep H0.out [.bool false, .bool false])
  have y0 := blk_cell K.out.box (i := 0) rfl
  have y1 := blk_cell K.out.box (i := 1) rfl
  have y2 := blk_cell K.out.box (i := 2) rfl
  have y3 := blk_cell K.out.box (i := 3) rfl
  have y4 := blk_cell K.out.box (i := 4) rfl
  have y5 := blk_cell K.out.box (i := 5) rfl
  clear H0
  by_cases h1 : m < 0
  · have d1 : decide (m < 0) = true := decide_eq_true h1
    clear HD hx
    go_enter Tryd.func29, Tryd.ntmps29
    go_wp2_with (first
      | (refine wpList_load_known (by rfl) 28 (.tmp 2) rfl w.heap.size rfl 28 (ix NP NM (.slice aP nP cP) (.slice aQ nQ cQ) (.slice aM nM cM) pl) (0, 0) _ K.out.box Tryd.underlying28 rfl (by kernel_rfl) ?_)
      | (refine wpList_store_row rfl 28 (.tmp 4) (.tmp 27) rfl (w.heap.size + 1) (ix NP NM (.slice aP nP cP) (.slice aQ nQ cQ) (.slice aM nM cM) pl) rfl rfl 28 _ K.out.res (by kernel_rfl) (by rfl) (by simp [ix, Value.oneCell']) ?_))
    exact bodyPost_ret (v := .tuple #[.agg (ix NP NM (.slice aP nP cP) (.slice aQ nQ cQ) (.slice aM nM cM) pl), .bool false, .bool false]) (results_row_2t13 rfl _ _ (w.heap.size + 1) 28 (ix NP NM (.slice aP nP cP) (.slice aQ nQ cQ) (.slice aM nM cM) pl) (0, 0) _ (by rfl) (setRow_heap _ _ _ _ _ _ K.out.res) Tryd.underlying28 rfl (by kernel_rfl) _ _ (by rfl) (by rfl)) rfl FIN.out
  have d1 : decide (m < 0) = false := decide_eq_false h1
  by_cases h2 : NM ≤ m
  · have d2 : decide (NM ≤ m) = true := decide_eq_true h2
    clear HD hx
    go_enter Tryd.func29, Tryd.ntmps29
    go_wp2_with (first
      | (refine wpList_load_known (by rfl) 28 (.tmp 2) rfl w.heap.size rfl 28 (ix NP NM (.slice aP nP cP) (.slice aQ nQ cQ) (.slice aM nM cM) pl) (0, 0) _ K.out.box Tryd.underlying28 rfl (by kernel_rfl) ?_)
      | (refine wpList_store_row rfl 28 (.tmp 4) (.tmp 27) rfl (w.heap.size + 1) (ix NP NM (.slice aP nP cP) (.slice aQ nQ cQ) (.slice aM nM cM) pl) rfl rfl 28 _ K.out.res (by kernel_rfl) (by rfl) (by simp [ix, Value.oneCell']) ?_))
    exact bodyPost_ret (v := .tuple #[.agg (ix NP NM (.slice aP nP cP) (.slice aQ nQ cQ) (.slice aM nM cM) pl), .bool false, .bool false]) (results_row_2t13 rfl _ _ (w.heap.size + 1) 28 (ix NP NM (.slice aP nP cP) (.slice aQ nQ cQ) (.slice aM nM cM) pl) (0, 0) _ (by rfl) (setRow_heap _ _ _ _ _ _ K.out.res) Tryd.underlying28 rfl (by kernel_rfl) _ _ (by rfl) (by rfl)) rfl FIN.out
  have d2 : decide (NM ≤ m) = false := decide_eq_false h2
  by_cases h3 : m = pl
  · have d3 : (m == pl) = true := by simp [h3]
    clear HD hx h3
    go_enter Tryd.func29, Tryd.ntmps29
    go_wp2_with (first
      | (refine wpList_load_known (by rfl) 28 (.tmp 2) rfl w.heap.size rfl 28 (ix NP NM (.slice aP nP cP) (.slice aQ nQ cQ) (.slice aM nM cM) pl) (0, 0) _ K.out.box Tryd.underlying28 rfl (by kernel_rfl) ?_)
      | (refine wpList_store_row rfl 28 (.tmp 4) (.tmp 27) rfl (w.heap.size + 1) (ix NP NM (.slice aP nP cP) (.slice aQ nQ cQ) (.slice aM nM cM) pl) rfl rfl 28 _ K.out.res (by kernel_rfl) (by rfl) (by simp [ix, Value.oneCell']) ?_))
    exact bodyPost_ret (v := .tuple #[.agg (ix NP NM (.slice aP nP cP) (.slice aQ nQ cQ) (.slice aM nM cM) pl), .bool false, .bool false]) (results_row_2t13 rfl _ _ (w.heap.size + 1) 28 (ix NP NM (.slice aP nP cP) (.slice aQ nQ cQ) (.slice aM nM cM) pl) (0, 0) _ (by rfl) (setRow_heap _ _ _ _ _ _ K.out.res) Tryd.underlying28 rfl (by kernel_rfl) _ _ (by rfl) (by rfl)) rfl FIN.out
  have d3 : (m == pl) = false := by simpa using h3
  have h4 : hasB m M = true := by
    rcases hx with h | h | h | h
    · omega
    · omega
    · exact absurd h h3
    · exact h
  have I1 := hid (rin _ _ _ HD.out.hm HD.out.lm m _ h4)
  clear HD hx h4 h3
  go_enter Tryd.func29, Tryd.ntmps29
  go_wp2_with fail
  refine I1.out.mono ?_
  rintro e w2 ⟨rfl, rfl⟩
  go_wp2_with (first
    | (refine wpList_load_known (by rfl) 28 (.tmp 2) rfl w.heap.size rfl 28 (ix NP NM (.slice aP nP cP) (.slice aQ nQ cQ) (.slice aM nM cM) pl) (0, 0) _ K.out.box Tryd.underlying28 rfl (by kernel_rfl) ?_)
    | (refine wpList_store_row rfl 28 (.tmp 4) (.tmp 27) rfl (w.heap.size + 1) (ix NP NM (.slice aP nP cP) (.slice aQ nQ cQ) (.slice aM nM cM) pl) rfl rfl 28 _ K.out.res (by kernel_rfl) (by rfl) (by simp [ix, Value.oneCell']) ?_))
  exact bodyPost_ret (v := .tuple #[.agg (ix NP NM (.slice aP nP cP) (.slice aQ nQ cQ) (.slice aM nM cM) pl), .bool false, .bool false]) (results_row_2t13 rfl _ _ (w.heap.size + 1) 28 (ix NP NM (.slice aP nP cP) (.slice aQ nQ cQ) (.slice aM nM cM) pl) (0, 0) _ (by rfl) (setRow_heap _ _ _ _ _ _ K.out.res) Tryd.underlying28 rfl (by kernel_rfl) _ _ (by rfl) (by rfl)) rfl FIN.out
set_option maxHeartbeats 4000000 in
theorem rstop_first (w : World) (NP NM pl : Int) (vP vQ vM : Value) (Pl Q M : List Int) (h : Di w vP vQ vM Pl Q M) (m : Int) (h0 : 0 ≤ m) (h1 : m < NM) (hmp : m ≠ pl) (hs : hasB m M = false) (hpl : pl < 0) :
    Calls Tryd.prog 29 #[.agg (ix NP NM vP vQ vM pl), .int .i64 m] w (DiPost w vP vQ vM NP NM Pl Q M m [.bool true, .bool true]) := by
  obtain ⟨aP, nP, cP, aQ, nQ, cQ, aM, nM, cM, rfl, rfl, rfl, HP, HQ, HM, lp, lq, lm⟩ := h.sl
  have hb0 := ((Below.refl w.heap.size w).alloc (Nat.le_refl _) (.cells (ix NP NM (.slice aP nP cP) (.slice aQ nQ cQ) (.slice aM nM cM) pl) 28)).alloc (by simp) (.cells iz 28)
  have K := hid (show K13 w ((w.alloc (.cells (ix NP NM (.slice aP nP cP) (.slice aQ nQ cQ) (.slice aM nM cM) pl) 28)).alloc (.cells iz 28)) (ix NP NM (.slice aP nP cP) (.slice aQ nQ cQ) (.slice aM nM cM) pl) from ⟨hb0, heap_alloc2_old w _ _, heap_alloc2_new w _ _, by simp⟩)
  have HD := hid (h.below hb0)
  have H0 := hid h
  clear h hb0
  have d1 : decide (m < 0) = false := decide_eq_false (by omega)
  have d2 : decide (NM ≤ m) = false := decide_eq_false (by omega)
  have d3 : (m == pl) = false := by simpa using hmp
  have I1 := hid (rin _ _ _ HD.out.hm HD.out.lm m _ hs)
  have d4 : decide (pl < 0) = true := decide_eq_true hpl
  clear HD hs hmp
  have y0 := blk_cell K.out.box (i := 0) rfl
  have y1 := blk_cell K.out.box (i := 1) rfl
  have y4 := blk_cell K.out.box (i := 4) rfl
  have y5 := blk_cell K.out.box (i := 5) rfl
  go_enter Tryd.func29, Tryd.ntmps29
  go_wp2_with fail
  refine I1.out.mono ?_
  rintro e w2 ⟨rfl, rfl⟩
  clear I1
  generalize (w.alloc (.cells (ix NP NM (.slice aP nP cP) (.slice aQ nQ cQ) (.slice aM nM cM) pl) 28)).alloc (.cells iz 28) = w2 at *
  have K7 := hid (K.out.set (cs' := (ix NP NM (.slice aP nP cP) (.slice aQ nQ cQ) (.slice aM nM cM) m)) 5 (.int .i64 m) rfl)
  have FIN := hid (K7.out.keep (pl := m) H0.out [.bool true, .bool true])
  have f5 := blk_free K.out.box (i := 5)
  clear H0
  go_wp2_with (first
    | (refine wpList_load_known (by rfl) 28 (.tmp 2) rfl w.heap.size rfl 28 (ix NP NM (.slice aP nP cP) (.slice aQ nQ cQ) (.slice aM nM cM) m) (0, 0) _ K7.out.box Tryd.underlying28 rfl (by kernel_rfl) ?_)
    | (refine wpList_store_row rfl 28 (.tmp 4) (.tmp 33) rfl (w.heap.size + 1) (ix NP NM (.slice aP nP cP) (.slice aQ nQ cQ) (.slice aM nM cM) m) rfl rfl 28 _ K7.out.res (by kernel_rfl) (by rfl) (by simp [ix, Value.oneCell']) ?_))
  exact bodyPost_ret (v := .tuple #[.agg (ix NP NM (.slice aP nP cP) (.slice aQ nQ cQ) (.slice aM nM cM) m), .bool true, .bool true]) (results_row_2t13 rfl _ _ (w.heap.size + 1) 28 (ix NP NM (.slice aP nP cP) (.slice aQ nQ cQ) (.slice aM nM cM) m) (0, 0) _ (by rfl) (setRow_heap _ _ _ _ _ _ K7.out.res) Tryd.underlying28 rfl (by kernel_rfl) _ _ (by rfl) (by rfl)) rfl FIN.out
set_option maxHeartbeats 4000000 in
theorem rstop_more (w : World) (NP NM pl : Int) (vP vQ vM : Value) (Pl Q M : List Int) (h : Di w vP vQ vM Pl Q M) (p : Int) (h0 : 0 ≤ p) (h1 : p < NM) (hmp : p ≠ pl) (hs : hasB p M = false) (hpl : 0 ≤ pl) (hl : M.length < 1000) :
    Calls Tryd.prog 29 #[.agg (ix NP NM vP vQ vM pl), .int .i64 p] w (DiPost w vP vQ vM NP NM Pl Q (M ++ [p]) pl [.bool false, .bool true]) := by
  obtain ⟨aP, nP, cP, aQ, nQ, cQ, aM, nM, cM, rfl, rfl, rfl, HP, HQ, HM, lp, lq, lm⟩ := h.sl
  have hb0 := ((Below.refl w.heap.size w).alloc (Nat.le_refl _) (.cells (ix NP NM (.slice aP nP cP) (.slice aQ nQ cQ) (.slice aM nM cM) pl) 28)).alloc (by simp) (.cells iz 28)
  have K := hid (show K13 w ((w.alloc (.cells (ix NP NM (.slice aP nP cP) (.slice aQ nQ cQ) (.slice aM nM cM) pl) 28)).alloc (.cells iz 28)) (ix NP NM (.slice aP nP cP) (.slice aQ nQ cQ) (.slice aM nM cM) pl) from ⟨hb0, heap_alloc2_old w _ _, heap_alloc2_new w _ _, by simp⟩)
  have HD := hid (h.below hb0)
  have H0 := hid h
  clear h hb0
  have d1 : decide (p < 0) = false := decide_eq_false (by omega)
  have d2 : decide (NM ≤ p) = false := decide_eq_false (by omega)
  have d3 : (p == pl) = false := by simpa using hmp
  have I1 := hid (rin _ _ _ HD.out.hm HD.out.lm p _ hs)
  have d4 : decide (pl < 0) = false := decide_eq_false (by omega)
  have hl1 : nM < 1000 := by have := HM.out; omega
  clear HD hs hmp hl
  obtain ⟨i0, hi, hz0, hz1, hz2⟩ := info_parts infoI13
  have HI := hid (And.intro hi (And.intro hz0 (And.intro hz1 hz2)))
  clear hi hz0 hz1 hz2
  have y0 := blk_cell K.out.box (i := 0) rfl
  have y1 := blk_cell K.out.box (i := 1) rfl
  have y4 := blk_cell K.out.box (i := 4) rfl
  have y5 := blk_cell K.out.box (i := 5) rfl
  go_enter Tryd.func29, Tryd.ntmps29
  go_wp2_with fail
  refine I1.out.mono ?_
  rintro e w2 ⟨rfl, rfl⟩
  have K2 := K
  clear I1
  generalize (w.alloc (.cells (ix NP NM (.slice aP nP cP) (.slice aQ nQ cQ) (.slice aM nM cM) pl) 28)).alloc (.cells iz 28) = w2 at *
  have s2 := K2.out.size
  have O0 := hid (show (w2.alloc (.cells #[] 3)).ownsRow (w.heap.size + 2) 3 1 (.slice (some ⟨w2.heap.size, 0, none⟩) 0 0) 0 [] from World.ownsRow_made w2 #[] 0 s2 (by omega) rfl)
  have HA : Handed (w2.alloc (.cells #[] 3)) (.slice aM nM cM) M.length (M.map (Value.int .i64)) := (H0.out.hm.handed (K2.out.below.trans ((bl_al13 w2 _).mono K2.out.below.size)))
  rw [HM.out] at HA
  have HA := hid HA
  have ll : (M.map (Value.int .i64)).length = nM * 1 := by rw [List.length_map, HM.out, Nat.mul_one]
  have KA := hid (K2.out.mono (bl_al13 w2 (.cells #[] 3)))
  have x2 := blk_cell KA.out.box (i := 4) rfl
  go_wp2_with (at_builtin; refine wpList_app rfl _ _ 26 rfl (w.heap.size + 2) 3 i0 (.int .i64 0) 1 8 Tryd.underlying26 HI.out.1 HI.out.2.1 HI.out.2.2.1 HI.out.2.2.2 rfl (by decide) _ _ _ rfl O0.out nM (M.map (Value.int .i64)) _ rfl HA.out ll (ones_of M) ?d3 ?d4 ?d5 ?_)
  case d3 => unfold maxLen; omega
  case d4 => omega
  case d5 => simp; omega
  intro v5 w5 own5 grown5
  have hlt5 := fun q hq => (World.ownsRow.lt O0.out q hq).1
  have K5 := hid (KA.out.grown grown5 (fun q hq => hlt5 q hq))
  have hO5 := own5.alloc (.cells #[.int .i64 p] 3)
  have hn5 := hid (heap_alloc_new w5 (.cells #[.int .i64 p] 3))
  have K5a := hid (K5.out.mono (bl_al13 w5 (.cells #[.int .i64 p] 3)))
  have s5 := K5.out.size
  obtain ⟨a5, c5, rfl⟩ : ∃ a c, v5 = .slice a nM c := by
    obtain ⟨q0, ⟨q1, q2⟩ | ⟨q, cap, cur, q1, _⟩⟩ := own5
    · exact ⟨none, 0, by rw [q1, q2]⟩
    · exact ⟨_, _, q1⟩
  clear grown5 hlt5 KA HA O0 x2
  go_wp2_with (at_builtin; refine wpList_app rfl _ _ 26 rfl (w.heap.size + 2) 3 i0 (.int .i64 0) 1 8 Tryd.underlying26 HI.out.1 HI.out.2.1 HI.out.2.2.1 HI.out.2.2.2 rfl (by decide) _ _ _ rfl hO5 1 [.int .i64 p] _ rfl ⟨_, _, rfl, .inr ⟨⟨w5.heap.size, 0, none⟩, rfl, ?d0⟩⟩ ?d1 ?d2 ?d3 ?d4 ?d5 ?_)
  case d0 =>
    intro j u hj
    rw [Addr.add_lit]
    match j, hj with
    | 0, hj => simp at hj; subst hj; exact blk_cell hn5.out rfl
    | j + 1, hj => simp at hj
  case d1 => rfl
  case d2 => intro u hu; simp at hu; subst hu; rfl
  case d3 => unfold maxLen; omega
  case d4 => omega
  case d5 => simp; omega
  intro v6 w6 own6 grown6
  have hlt6 := fun q hq => (World.ownsRow.lt hO5 q hq).1
  have K6 := hid (K5a.out.grown grown6 (fun q hq => hlt6 q hq))
  obtain ⟨a6, c6, rfl⟩ : ∃ a c, v6 = .slice a (nM + 1) c := by
    obtain ⟨q0, ⟨q1, q2⟩ | ⟨q, cap, cur, q1, _⟩⟩ := own6
    · omega
    · exact ⟨_, _, q1⟩
  have K7 := hid (K6.out.set (cs' := (ix NP NM (.slice aP nP cP) (.slice aQ nQ cQ) (.slice a6 (nM + 1) c6) pl)) 4 (.slice a6 (nM + 1) c6) rfl)
  have OL := hid (fun q hq => World.ownsRow.lt own6 q hq)
  have O7 : (w6.setCell ⟨w.heap.size, 4, none⟩ (.slice a6 (nM + 1) c6)).ownsRow (w.heap.size + 2) 3 1 (.slice a6 (nM + 1) c6) (nM + 1) ((M ++ [p]).map (Value.int .i64)) := by
    rw [List.map_append]
    exact ownP_kept own6 (fun q hq => heap_setCell_other _ _ _ _ (by have := (OL.out q hq).1; simp; omega))
  have R7 := readsP O7 (by simp [HM.out])
  have D7 := H0.out.below K7.out.below
  have FIN := hid (K7.out.fin (vP0 := .slice aP nP cP) (vQ0 := .slice aQ nQ cQ) (vM0 := .slice aM nM cM) (Pl := Pl) (Q := Q) (M := (M ++ [p])) ⟨D7.hp, D7.hq, R7, D7.lp, D7.lq, (by simp; have := HM.out; omega)⟩ [.bool false, .bool true] (fun q hq => .inl hq) (fun q hq => .inl hq) (fun q hq => .inr (by have := OL.out q hq; simp; omega)) (fun h0 q hq => by have := H0.out.hp.own_lt h0 q hq; omega) (fun h0 q hq => by have := H0.out.hq.own_lt h0 q hq; omega) (fun _ q hq => by have := OL.out q hq; omega))
  have x6 := blk_cell K6.out.box (i := 4) rfl
  have f6 := blk_free K6.out.box (i := 4)
  clear own5 own6 grown6 hO5 hn5 K5 K5a hlt6 H0 K2 OL O7 R7 D7 HI ll
  go_wp2_with (first
    | (refine wpList_load_known (by rfl) 28 (.tmp 2) rfl w.heap.size rfl 28 (ix NP NM (.slice aP nP cP) (.slice aQ nQ cQ) (.slice a6 (nM + 1) c6) pl) (0, 0) _ K7.out.box Tryd.underlying28 rfl (by kernel_rfl) ?_)
    | (refine wpList_store_row rfl 28 (.tmp 4) (.tmp 42) rfl (w.heap.size + 1) (ix NP NM (.slice aP nP cP) (.slice aQ nQ cQ) (.slice a6 (nM + 1) c6) pl) rfl rfl 28 _ K7.out.res (by kernel_rfl) (by rfl) (by simp [ix, Value.oneCell']) ?_))
  exact bodyPost_ret (v := .tuple #[.agg (ix NP NM (.slice aP nP cP) (.slice aQ nQ cQ) (.slice a6 (nM + 1) c6) pl), .bool false, .bool true]) (results_row_2t13 rfl _ _ (w.heap.size + 1) 28 (ix NP NM (.slice aP nP cP) (.slice aQ nQ cQ) (.slice a6 (nM + 1) c6) pl) (0, 0) _ (by rfl) (setRow_heap _ _ _ _ _ _ K7.out.res) Tryd.underlying28 rfl (by kernel_rfl) _ _ (by rfl) (by rfl)) rfl FIN.out
theorem Reads.cellset {w : World} {v : Value} {S : List Int} (h : Reads w v S) {p : Nat} {i : Nat} {u : Value} (hk : ∀ q, v.ownBlock = some q → q ≠ p) : Reads (w.setCell ⟨p, i, none⟩ u) v S := by
  obtain ⟨a, c, rfl, x1, x2⟩ := h
  refine ⟨a, c, rfl, x1, fun h0 => ?_⟩
  obtain ⟨q, off, rfl, hg, hc⟩ := x2 h0
  have hk2 : (w.setCell ⟨p, i, none⟩ u).heap[q]? = w.heap[q]? := heap_setCell_other _ _ _ _ (by have := hk q rfl; simpa using this)
  exact ⟨q, off, rfl, by simpa using hg, fun i hi => (World.cell?_of_block hk2).trans (hc i hi)⟩
set_option maxHeartbeats 4000000 in
theorem rtakepend_none (w : World) (NP NM pl : Int) (vP vQ vM : Value) (Pl M : List Int) (h : Di w vP vQ vM Pl [] M) :
    Calls Tryd.prog 24 #[.agg (ix NP NM vP vQ vM pl)] w (DiPost w vP vQ vM NP NM Pl [] M pl [.int .i64 0, .bool false]) := by
  obtain ⟨aP, nP, cP, aQ, nQ, cQ, aM, nM, cM, rfl, rfl, rfl, HP, HQ, HM, lp, lq, lm⟩ := h.sl
  have hb0 := ((Below.refl w.heap.size w).alloc (Nat.le_refl _) (.cells (ix NP NM (.slice aP nP cP) (.slice aQ nQ cQ) (.slice aM nM cM) pl) 28)).alloc (by simp) (.cells iz 28)
  have K := hid (show K13 w ((w.alloc (.cells (ix NP NM (.slice aP nP cP) (.slice aQ nQ cQ) (.slice aM nM cM) pl) 28)).alloc (.cells iz 28)) (ix NP NM (.slice aP nP cP) (.slice aQ nQ cQ) (.slice aM nM cM) pl) from ⟨hb0, heap_alloc2_old w _ _, heap_alloc2_new w _ _, by simp⟩)
  have HD := hid (h.below hb0)
  have H0 := hid h
  clear h hb0
  obtain rfl : nQ = 0 := HQ.out.symm
  have FIN := hid (K.out.keep H0.out [.int .i64 0, .bool false])
  have y0 := blk_cell K.out.box (i := 0) rfl
  have y1 := blk_cell K.out.box (i := 1) rfl
  have y2 := blk_cell K.out.box (i := 2) rfl
  have y3 := blk_cell K.out.box (i := 3) rfl
  have y4 := blk_cell K.out.box (i := 4) rfl
  have y5 := blk_cell K.out.box (i := 5) rfl
  clear HD H0
  go_enter Tryd.func24, Tryd.ntmps24
  go_wp2_with (first
    | (refine wpList_load_known (by rfl) 28 (.tmp 1) rfl w.heap.size rfl 28 (ix NP NM (.slice aP nP cP) (.slice aQ 0 cQ) (.slice aM nM cM) pl) (0, 0) _ K.out.box Tryd.underlying28 rfl (by kernel_rfl) ?_)
    | (refine wpList_store_row rfl 28 (.tmp 2) (.tmp 10) rfl (w.heap.size + 1) (ix NP NM (.slice aP nP cP) (.slice aQ 0 cQ) (.slice aM nM cM) pl) rfl rfl 28 _ K.out.res (by kernel_rfl) (by rfl) (by simp [ix, Value.oneCell']) ?_))
  exact bodyPost_ret (v := .tuple #[.agg (ix NP NM (.slice aP nP cP) (.slice aQ 0 cQ) (.slice aM nM cM) pl), .int .i64 0, .bool false]) (results_row_2t13 rfl _ _ (w.heap.size + 1) 28 (ix NP NM (.slice aP nP cP) (.slice aQ 0 cQ) (.slice aM nM cM) pl) (0, 0) _ (by rfl) (setRow_heap _ _ _ _ _ _ K.out.res) Tryd.underlying28 rfl (by kernel_rfl) _ _ (by rfl) (by rfl)) rfl FIN.out
set_option maxHeartbeats 4000000 in
theorem rtakepend_first (w : World) (NP NM pl : Int) (vP vQ vM : Value) (Pl Q M : List Int) (h : Di w vP vQ vM Pl Q M) (m : Int) (pd : List Int) (hQ : Q = m :: pd) :
    Calls Tryd.prog 24 #[.agg (ix NP NM vP vQ vM pl)] w (DiPost w vP vQ vM NP NM Pl (butI m Q) M pl [.int .i64 m, .bool true]) := by
  obtain ⟨aP, nP, cP, aQ, nQ, cQ, aM, nM, cM, rfl, rfl, rfl, HP, HQ, HM, lp, lq, lm⟩ := h.sl
  have hb0 := ((Below.refl w.heap.size w).alloc (Nat.le_refl _) (.cells (ix NP NM (.slice aP nP cP) (.slice aQ nQ cQ) (.slice aM nM cM) pl) 28)).alloc (by simp) (.cells iz 28)
  have K := hid (show K13 w ((w.alloc (.cells (ix NP NM (.slice aP nP cP) (.slice aQ nQ cQ) (.slice aM nM cM) pl) 28)).alloc (.cells iz 28)) (ix NP NM (.slice aP nP cP) (.slice aQ nQ cQ) (.slice aM nM cM) pl) from ⟨hb0, heap_alloc2_old w _ _, heap_alloc2_new w _ _, by simp⟩)
  have HD := hid (h.below hb0)
  have H0 := hid h
  clear h hb0
  have LS := hid (rless _ _ _ HD.out.hq HD.out.lq m)
  obtain ⟨n1, rfl⟩ : ∃ n1, nQ = n1 + 1 := ⟨pd.length, by rw [← HQ.out, hQ]; rfl⟩
  obtain ⟨a', c', e, _, hh⟩ := HD.out.hq
  simp only [Value.slice.injEq] at e
  obtain ⟨rfl, e9, rfl⟩ := e
  clear e9
  obtain ⟨g, off, rfl, _, hc⟩ := hh (by rw [hQ]; simp)
  have q0 := hc 0 (by rw [hQ]; simp)
  rw [hQ] at q0
  simp only [List.getD_cons_zero, Nat.add_zero] at q0
  have y3 := blk_cell K.out.box (i := 3) rfl
  have nn : ((n1 : Int) + 1 == 0) = false := by simp; omega
  clear HD hh hc hQ
  go_enter Tryd.func24, Tryd.ntmps24
  go_wp2_with fail
  refine LS.out.mono ?_
  rintro e w6 ⟨v6, rfl, r6, hb6, ol6⟩
  have hsK := K.out.size
  have OL := hid (show ∀ q, v6.ownBlock = some q → w.heap.size + 2 ≤ q ∧ q < w6.heap.size from fun q hq => by have := ol6 q hq; omega)
  have K6 := hid (K.out.mono hb6)
  have R6 := r6
  obtain ⟨a6, c6, rfl, _, _⟩ := r6
  obtain ⟨n6, hn6⟩ : ∃ n6, n6 = (butI m Q).length := ⟨_, rfl⟩
  rw [← hn6] at R6 OL ⊢
  clear hn6
  have K7 := hid (K6.out.set (cs' := (ix NP NM (.slice aP nP cP) (.slice a6 n6 c6) (.slice aM nM cM) pl)) 3 (.slice a6 n6 c6) rfl)
  have R7 : Reads (w6.setCell ⟨w.heap.size, 3, none⟩ (.slice a6 n6 c6)) (.slice a6 n6 c6) (butI m Q) := R6.cellset (fun q hq => by have := (OL.out q hq).1; omega)
  have D7 := H0.out.below K7.out.below
  have FIN := hid (K7.out.fin (vP0 := .slice aP nP cP) (vQ0 := .slice (some ⟨g, off, none⟩) (n1 + 1) cQ) (vM0 := .slice aM nM cM) (Pl := Pl) (Q := (butI m Q)) (M := M) ⟨D7.hp, R7, D7.hm, D7.lp, (Nat.le_trans (List.length_filter_le ..) D7.lq), D7.lm⟩ [.int .i64 m, .bool true] (fun q hq => .inl hq) (fun q hq => .inr (by have := OL.out q hq; simp; omega)) (fun q hq => .inl hq) (fun h0 q hq => by have := H0.out.hp.own_lt h0 q hq; omega) (fun _ q hq => by have := OL.out q hq; omega) (fun h0 q hq => by have := H0.out.hm.own_lt h0 q hq; omega))
  have x6 := blk_cell K6.out.box (i := 3) rfl
  have f6 := blk_free K6.out.box (i := 3)
  clear H0 OL R6 R7 D7 LS hb6 ol6
  go_wp2_with (first
    | (refine wpList_load_known (by rfl) 28 (.tmp 1) rfl w.heap.size rfl 28 (ix NP NM (.slice aP nP cP) (.slice a6 n6 c6) (.slice aM nM cM) pl) (0, 0) _ K7.out.box Tryd.underlying28 rfl (by kernel_rfl) ?_)
    | (refine wpList_store_row rfl 28 (.tmp 2) (.tmp 20) rfl (w.heap.size + 1) (ix NP NM (.slice aP nP cP) (.slice a6 n6 c6) (.slice aM nM cM) pl) rfl rfl 28 _ K7.out.res (by kernel_rfl) (by rfl) (by simp [ix, Value.oneCell']) ?_))
  exact bodyPost_ret (v := .tuple #[.agg (ix NP NM (.slice aP nP cP) (.slice a6 n6 c6) (.slice aM nM cM) pl), .int .i64 m, .bool true]) (results_row_2t13 rfl _ _ (w.heap.size + 1) 28 (ix NP NM (.slice aP nP cP) (.slice a6 n6 c6) (.slice aM nM cM) pl) (0, 0) _ (by rfl) (setRow_heap _ _ _ _ _ _ K7.out.res) Tryd.underlying28 rfl (by kernel_rfl) _ _ (by rfl) (by rfl)) rfl FIN.out
end Go.Proofs.YtnabikoieolfcaaDoor
