/- The document's Idle by value: PutP, Pend. Written by wip/tools/gen13b.py. -/
import Derived.Test.YtnabikoieolfcaaDoorRef13B
namespace Go.Proofs.YtnabikoieolfcaaDoor
set_option linter.unusedVariables false
set_option linter.unusedSimpArgs false
open Go.RowKit
set_option maxHeartbeats 4000000 in
theorem rputp_no (w : World) (NP NM pl : Int) (vP vQ vM : Value) (Pl Q M : List Int) (h : Di w vP vQ vM Pl Q M) (p : Int) (hb : frB NP Pl Q p = false) :
    Calls Tryd.prog 18 #[.agg (ix NP NM vP vQ vM pl), .int .i64 p] w (DiPost w vP vQ vM NP NM Pl Q M pl [.bool false]) := by
  obtain ⟨aP, nP, cP, aQ, nQ, cQ, aM, nM, cM, rfl, rfl, rfl, HP, HQ, HM, lp, lq, lm⟩ := h.sl
  have hb0 := ((Below.refl w.heap.size w).alloc (Nat.le_refl _) (.cells (ix NP NM (.slice aP nP cP) (.slice aQ nQ cQ) (.slice aM nM cM) pl) 28)).alloc (by simp) (.cells iz 28)
  have K := hid (show K13 w ((w.alloc (.cells (ix NP NM (.slice aP nP cP) (.slice aQ nQ cQ) (.slice aM nM cM) pl) 28)).alloc (.cells iz 28)) (ix NP NM (.slice aP nP cP) (.slice aQ nQ cQ) (.slice aM nM cM) pl) from ⟨hb0, heap_alloc2_old w _ _, heap_alloc2_new w _ _, by simp⟩)
  have HD := hid (h.below hb0)
  have H0 := hid h
  clear h hb0
  have HB := hid hb
  clear hb
  go_enter Tryd.func18, Tryd.ntmps18
  go_wp2_with (refine wpList_load_known (by rfl) 28 (.tmp 2) rfl w.heap.size rfl 28 (ix NP NM (.slice aP nP cP) (.slice aQ nQ cQ) (.slice aM nM cM) pl) (0, 0) _ K.out.box Tryd.underlying28 rfl (by kernel_rfl) ?_)
  refine (rfree _ NP NM pl _ _ _ Pl Q M HD.out p false HB.out).mono ?_
  rintro e w2 ⟨rfl, hb2⟩
  have K2 := hid (K.out.mono hb2)
  have FIN := hid (K2.out.keep H0.out [.bool false])
  clear hb2 K HD H0 HB
  go_wp2_with (first
    | (refine wpList_load_known (by rfl) 28 (.tmp 2) rfl w.heap.size rfl 28 (ix NP NM (.slice aP nP cP) (.slice aQ nQ cQ) (.slice aM nM cM) pl) (0, 0) _ K2.out.box Tryd.underlying28 rfl (by kernel_rfl) ?_)
    | (refine wpList_store_row rfl 28 (.tmp 4) (.tmp 10) rfl (w.heap.size + 1) (ix NP NM (.slice aP nP cP) (.slice aQ nQ cQ) (.slice aM nM cM) pl) rfl rfl 28 _ K2.out.res (by kernel_rfl) (by rfl) (by simp [ix, Value.oneCell']) ?_))
  exact bodyPost_ret (v := .tuple #[.agg (ix NP NM (.slice aP nP cP) (.slice aQ nQ cQ) (.slice aM nM cM) pl), .bool false]) (results_row_t13 rfl _ _ (w.heap.size + 1) 28 (ix NP NM (.slice aP nP cP) (.slice aQ nQ cQ) (.slice aM nM cM) pl) (0, 0) _ (by rfl) (setRow_heap _ _ _ _ _ _ K2.out.res) Tryd.underlying28 rfl (by kernel_rfl) _ (by rfl)) rfl FIN.out
set_option maxHeartbeats 4000000 in
theorem rputp_yes (w : World) (NP NM pl : Int) (vP vQ vM : Value) (Pl Q M : List Int) (h : Di w vP vQ vM Pl Q M) (p : Int) (hb : frB NP Pl Q p = true) (hl : Pl.length < 1000) :
    Calls Tryd.prog 18 #[.agg (ix NP NM vP vQ vM pl), .int .i64 p] w (DiPost w vP vQ vM NP NM (Pl ++ [p]) Q M pl [.bool true]) := by
  obtain ⟨aP, nP, cP, aQ, nQ, cQ, aM, nM, cM, rfl, rfl, rfl, HP, HQ, HM, lp, lq, lm⟩ := h.sl
  have hb0 := ((Below.refl w.heap.size w).alloc (Nat.le_refl _) (.cells (ix NP NM (.slice aP nP cP) (.slice aQ nQ cQ) (.slice aM nM cM) pl) 28)).alloc (by simp) (.cells iz 28)
  have K := hid (show K13 w ((w.alloc (.cells (ix NP NM (.slice aP nP cP) (.slice aQ nQ cQ) (.slice aM nM cM) pl) 28)).alloc (.cells iz 28)) (ix NP NM (.slice aP nP cP) (.slice aQ nQ cQ) (.slice aM nM cM) pl) from ⟨hb0, heap_alloc2_old w _ _, heap_alloc2_new w _ _, by simp⟩)
  have HD := hid (h.below hb0)
  have H0 := hid h
  clear h hb0
  have HB := hid hb
  have hl1 : nP < 1000 := by have := HP.out; omega
  clear hb hl
  obtain ⟨i0, hi, hz0, hz1, hz2⟩ := info_parts infoI13
  have HI := hid (And.intro hi (And.intro hz0 (And.intro hz1 hz2)))
  clear hi hz0 hz1 hz2
  go_enter Tryd.func18, Tryd.ntmps18
  go_wp2_with (refine wpList_load_known (by rfl) 28 (.tmp 2) rfl w.heap.size rfl 28 (ix NP NM (.slice aP nP cP) (.slice aQ nQ cQ) (.slice aM nM cM) pl) (0, 0) _ K.out.box Tryd.underlying28 rfl (by kernel_rfl) ?_)
  refine (rfree _ NP NM pl _ _ _ Pl Q M HD.out p true HB.out).mono ?_
  rintro e w2 ⟨rfl, hb2⟩
  have K2 := hid (K.out.mono hb2)
  clear hb2 K HD HB
  have s2 := K2.out.size
  have O0 := hid (show (w2.alloc (.cells #[] 3)).ownsRow (w.heap.size + 2) 3 1 (.slice (some ⟨w2.heap.size, 0, none⟩) 0 0) 0 [] from World.ownsRow_made w2 #[] 0 s2 (by omega) rfl)
  have HA : Handed (w2.alloc (.cells #[] 3)) (.slice aP nP cP) Pl.length (Pl.map (Value.int .i64)) := (H0.out.hp.handed (K2.out.below.trans ((bl_al13 w2 _).mono K2.out.below.size)))
  rw [HP.out] at HA
  have HA := hid HA
  have ll : (Pl.map (Value.int .i64)).length = nP * 1 := by rw [List.length_map, HP.out, Nat.mul_one]
  have KA := hid (K2.out.mono (bl_al13 w2 (.cells #[] 3)))
  have x2 := blk_cell KA.out.box (i := 2) rfl
  go_wp2_with (at_builtin; refine wpList_app rfl _ _ 26 rfl (w.heap.size + 2) 3 i0 (.int .i64 0) 1 8 Tryd.underlying26 HI.out.1 HI.out.2.1 HI.out.2.2.1 HI.out.2.2.2 rfl (by decide) _ _ _ rfl O0.out nP (Pl.map (Value.int .i64)) _ rfl HA.out ll (ones_of Pl) ?d3 ?d4 ?d5 ?_)
  case d3 => unfold maxLen; omega
  case d4 => omega
  case d5 => simp; omega
  intro v5 w5 own5 grown5
  have hlt5 := fun q hq => (World.ownsRow.lt O0.out q hq).1
  have K5 := hid (KA.out.grown grown5 (fun q hq => hlt5 q hq))
  have hO5 := own5.alloc (.cells #[.int .i64 p] 3)
  have hn5 := hid (heap_alloc_new w5 (.cells #[.int .i64 p] 3))
  have K5a := hid (K5.out.mono (bl_al13 w5 (.cells #[.int .i64 p] 3)))
  have s5 := K5.out.size
  obtain ⟨a5, c5, rfl⟩ : ∃ a c, v5 = .slice a nP c := by
    obtain ⟨q0, ⟨q1, q2⟩ | ⟨q, cap, cur, q1, _⟩⟩ := own5
    · exact ⟨none, 0, by rw [q1, q2]⟩
    · exact ⟨_, _, q1⟩
  clear grown5 hlt5 KA HA O0 x2
  go_wp2_with (at_builtin; refine wpList_app rfl _ _ 26 rfl (w.heap.size + 2) 3 i0 (.int .i64 0) 1 8 Tryd.underlying26 HI.out.1 HI.out.2.1 HI.out.2.2.1 HI.out.2.2.2 rfl (by decide) _ _ _ rfl hO5 1 [.int .i64 p] _ rfl ⟨_, _, rfl, .inr ⟨⟨w5.heap.size, 0, none⟩, rfl, ?d0⟩⟩ ?d1 ?d2 ?d3 ?d4 ?d5 ?_)
  case d0 =>
    intro j u hj
    rw [Addr.add_lit]
    match j, hj with
    | 0, hj => simp at hj; subst hj; exact blk_cell hn5.out rfl
    | j + 1, hj => simp at hj
  case d1 => rfl
  case d2 => intro u hu; simp at hu; subst hu; rfl
  case d3 => unfold maxLen; omega
  case d4 => omega
  case d5 => simp; omega
  intro v6 w6 own6 grown6
  have hlt6 := fun q hq => (World.ownsRow.lt hO5 q hq).1
  have K6 := hid (K5a.out.grown grown6 (fun q hq => hlt6 q hq))
  obtain ⟨a6, c6, rfl⟩ : ∃ a c, v6 = .slice a (nP + 1) c := by
    obtain ⟨q0, ⟨q1, q2⟩ | ⟨q, cap, cur, q1, _⟩⟩ := own6
    · omega
    · exact ⟨_, _, q1⟩
  have K7 := hid (K6.out.set (cs' := (ix NP NM (.slice a6 (nP + 1) c6) (.slice aQ nQ cQ) (.slice aM nM cM) pl)) 2 (.slice a6 (nP + 1) c6) rfl)
  have OL := hid (fun q hq => World.ownsRow.lt own6 q hq)
  have O7 : (w6.setCell ⟨w.heap.size, 2, none⟩ (.slice a6 (nP + 1) c6)).ownsRow (w.heap.size + 2) 3 1 (.slice a6 (nP + 1) c6) (nP + 1) ((Pl ++ [p]).map (Value.int .i64)) := by
    rw [List.map_append]
    exact ownP_kept own6 (fun q hq => heap_setCell_other _ _ _ _ (by have := (OL.out q hq).1; simp; omega))
  have R7 := readsP O7 (by simp [HP.out])
  have D7 := H0.out.below K7.out.below
  have FIN := hid (K7.out.fin (vP0 := .slice aP nP cP) (vQ0 := .slice aQ nQ cQ) (vM0 := .slice aM nM cM) (Pl := (Pl ++ [p])) (Q := Q) (M := M) ⟨R7, D7.hq, D7.hm, (by simp; have := HP.out; omega), D7.lq, D7.lm⟩ [.bool true] (fun q hq => .inr (by have := OL.out q hq; simp; omega)) (fun q hq => .inl hq) (fun q hq => .inl hq) (fun _ q hq => by have := OL.out q hq; omega) (fun h0 q hq => by have := H0.out.hq.own_lt h0 q hq; omega) (fun h0 q hq => by have := H0.out.hm.own_lt h0 q hq; omega))
  have x6 := blk_cell K6.out.box (i := 2) rfl
  have f6 := blk_free K6.out.box (i := 2)
  clear own5 own6 grown6 hO5 hn5 K5 K5a hlt6 H0 K2 OL O7 R7 D7 HI ll
  go_wp2_with (first
    | (refine wpList_load_known (by rfl) 28 (.tmp 2) rfl w.heap.size rfl 28 (ix NP NM (.slice a6 (nP + 1) c6) (.slice aQ nQ cQ) (.slice aM nM cM) pl) (0, 0) _ K7.out.box Tryd.underlying28 rfl (by kernel_rfl) ?_)
    | (refine wpList_store_row rfl 28 (.tmp 4) (.tmp 19) rfl (w.heap.size + 1) (ix NP NM (.slice a6 (nP + 1) c6) (.slice aQ nQ cQ) (.slice aM nM cM) pl) rfl rfl 28 _ K7.out.res (by kernel_rfl) (by rfl) (by simp [ix, Value.oneCell']) ?_))
  exact bodyPost_ret (v := .tuple #[.agg (ix NP NM (.slice a6 (nP + 1) c6) (.slice aQ nQ cQ) (.slice aM nM cM) pl), .bool true]) (results_row_t13 rfl _ _ (w.heap.size + 1) 28 (ix NP NM (.slice a6 (nP + 1) c6) (.slice aQ nQ cQ) (.slice aM nM cM) pl) (0, 0) _ (by rfl) (setRow_heap _ _ _ _ _ _ K7.out.res) Tryd.underlying28 rfl (by kernel_rfl) _ (by rfl)) rfl FIN.out
set_option maxHeartbeats 4000000 in
theorem rpend_no (w : World) (NP NM pl : Int) (vP vQ vM : Value) (Pl Q M : List Int) (h : Di w vP vQ vM Pl Q M) (p : Int) (hb : frB NP Pl Q p = false) :
    Calls Tryd.prog 22 #[.agg (ix NP NM vP vQ vM pl), .int .i64 p] w (DiPost w vP vQ vM NP NM Pl Q M pl [.bool false]) := by
  obtain ⟨aP, nP, cP, aQ, nQ, cQ, aM, nM, cM, rfl, rfl, rfl, HP, HQ, HM, lp, lq, lm⟩ := h.sl
  have hb0 := ((Below.refl w.heap.size w).alloc (Nat.le_refl _) (.cells (ix NP NM (.slice aP nP cP) (.slice aQ nQ cQ) (.slice aM nM cM) pl) 28)).alloc (by simp) (.cells iz 28)
  have K := hid (show K13 w ((w.alloc (.cells (ix NP NM (.slice aP nP cP) (.slice aQ nQ cQ) (.slice aM nM cM) pl) 28)).alloc (.cells iz 28)) (ix NP NM (.slice aP nP cP) (.slice aQ nQ cQ) (.slice aM nM cM) pl) from ⟨hb0, heap_alloc2_old w _ _, heap_alloc2_new w _ _, by simp⟩)
  have HD := hid (h.below hb0)
  have H0 := hid h
  clear h hb0
  have HB := hid hb
  clear hb
  go_enter Tryd.func22, Tryd.ntmps22
  go_wp2_with (refine wpList_load_known (by rfl) 28 (.tmp 2) rfl w.heap.size rfl 28 (ix NP NM (.slice aP nP cP) (.slice aQ nQ cQ) (.slice aM nM cM) pl) (0, 0) _ K.out.box Tryd.underlying28 rfl (by kernel_rfl) ?_)
  refine (rfree _ NP NM pl _ _ _ Pl Q M HD.out p false HB.out).mono ?_
  rintro e w2 ⟨rfl, hb2⟩
  have K2 := hid (K.out.mono hb2)
  have FIN := hid (K2.out.keep H0.out [.bool false])
  clear hb2 K HD H0 HB
  go_wp2_with (first
    | (refine wpList_load_known (by rfl) 28 (.tmp 2) rfl w.heap.size rfl 28 (ix NP NM (.slice aP nP cP) (.slice aQ nQ cQ) (.slice aM nM cM) pl) (0, 0) _ K2.out.box Tryd.underlying28 rfl (by kernel_rfl) ?_)
    | (refine wpList_store_row rfl 28 (.tmp 4) (.tmp 10) rfl (w.heap.size + 1) (ix NP NM (.slice aP nP cP) (.slice aQ nQ cQ) (.slice aM nM cM) pl) rfl rfl 28 _ K2.out.res (by kernel_rfl) (by rfl) (by simp [ix, Value.oneCell']) ?_))
  exact bodyPost_ret (v := .tuple #[.agg (ix NP NM (.slice aP nP cP) (.slice aQ nQ cQ) (.slice aM nM cM) pl), .bool false]) (results_row_t13 rfl _ _ (w.heap.size + 1) 28 (ix NP NM (.slice aP nP cP) (.slice aQ nQ cQ) (.slice aM nM cM) pl) (0, 0) _ (by rfl) (setRow_heap _ _ _ _ _ _ K2.out.res) Tryd.underlying28 rfl (by kernel_rfl) _ (by rfl)) rfl FIN.out
set_option maxHeartbeats 4000000 in
theorem rpend_yes (w : World) (NP NM pl : Int) (vP vQ vM : Value) (Pl Q M : List Int) (h : Di w vP vQ vM Pl Q M) (p : Int) (hb : frB NP Pl Q p = true) (hl : Q.length < 1000) :
    Calls Tryd.prog 22 #[.agg (ix NP NM vP vQ vM pl), .int .i64 p] w (DiPost w vP vQ vM NP NM Pl (Q ++ [p]) M pl [.bool true]) := by
  obtain ⟨aP, nP, cP, aQ, nQ, cQ, aM, nM, cM, rfl, rfl, rfl, HP, HQ, HM, lp, lq, lm⟩ := h.sl
  have hb0 := ((Below.refl w.heap.size w).alloc (Nat.le_refl _) (.cells (ix NP NM (.slice aP nP cP) (.slice aQ nQ cQ) (.slice aM nM cM) pl) 28)).alloc (by simp) (.cells iz 28)
  have K := hid (show K13 w ((w.alloc (.cells (ix NP NM (.slice aP nP cP) (.slice aQ nQ cQ) (.slice aM nM cM) pl) 28)).alloc (.cells iz 28)) (ix NP NM (.slice aP nP cP) (.slice aQ nQ cQ) (.slice aM nM cM) pl) from ⟨hb0, heap_alloc2_old w _ _, heap_alloc2_new w _ _, by simp⟩)
  have HD := hid (h.below hb0)
  have H0 := hid h
  clear h hb0
  have HB := hid hb
  have hl1 : nQ < 1000 := by have := HQ.out; omega
  clear hb hl
  obtain ⟨i0, hi, hz0, hz1, hz2⟩ := info_parts infoI13
  have HI := hid (And.intro hi (And.intro hz0 (And.intro hz1 hz2)))
  clear hi hz0 hz1 hz2
  go_enter Tryd.func22, Tryd.ntmps22
  go_wp2_with (refine wpList_load_known (by rfl) 28 (.tmp 2) rfl w.heap.size rfl 28 (ix NP NM (.slice aP nP cP) (.slice aQ nQ cQ) (.slice aM nM cM) pl) (0, 0) _ K.out.box Tryd.underlying28 rfl (by kernel_rfl) ?_)
  refine (rfree _ NP NM pl _ _ _ Pl Q M HD.out p true HB.out).mono ?_
  rintro e w2 ⟨rfl, hb2⟩
  have K2 := hid (K.out.mono hb2)
  clear hb2 K HD HB
  have s2 := K2.out.size
  have O0 := hid (show (w2.alloc (.cells #[] 3)).ownsRow (w.heap.size + 2) 3 1 (.slice (some ⟨w2.heap.size, 0, none⟩) 0 0) 0 [] from World.ownsRow_made w2 #[] 0 s2 (by omega) rfl)
  have HA : Handed (w2.alloc (.cells #[] 3)) (.slice aQ nQ cQ) Q.length (Q.map (Value.int .i64)) := (H0.out.hq.handed (K2.out.below.trans ((bl_al13 w2 _).mono K2.out.below.size)))
  rw [HQ.out] at HA
  have HA := hid HA
  have ll : (Q.map (Value.int .i64)).length = nQ * 1 := by rw [List.length_map, HQ.out, Nat.mul_one]
  have KA := hid (K2.out.mono (bl_al13 w2 (.cells #[] 3)))
  have x2 := blk_cell KA.out.box (i := 3) rfl
  go_wp2_with (at_builtin; refine wpList_app rfl _ _ 26 rfl (w.heap.size + 2) 3 i0 (.int .i64 0) 1 8 Tryd.underlying26 HI.out.1 HI.out.2.1 HI.out.2.2.1 HI.out.2.2.2 rfl (by decide) _ _ _ rfl O0.out nQ (Q.map (Value.int .i64)) _ rfl HA.out ll (ones_of Q) ?d3 ?d4 ?d5 ?_)
  case d3 => unfold maxLen; omega
  case d4 => omega
  case d5 => simp; omega
  intro v5 w5 own5 grown5
  have hlt5 := fun q hq => (World.ownsRow.lt O0.out q hq).1
  have K5 := hid (KA.out.grown grown5 (fun q hq => hlt5 q hq))
  have hO5 := own5.alloc (.cells #[.int .i64 p] 3)
  have hn5 := hid (heap_alloc_new w5 (.cells #[.int .i64 p] 3))
  have K5a := hid (K5.out.mono (bl_al13 w5 (.cells #[.int .i64 p] 3)))
  have s5 := K5.out.size
  obtain ⟨a5, c5, rfl⟩ : ∃ a c, v5 = .slice a nQ c := by
    obtain ⟨q0, ⟨q1, q2⟩ | ⟨q, cap, cur, q1, _⟩⟩ := own5
    · exact ⟨none, 0, by rw [q1, q2]⟩
    · exact ⟨_, _, q1⟩
  clear grown5 hlt5 KA HA O0 x2
  go_wp2_with (at_builtin; refine wpList_app rfl _ _ 26 rfl (w.heap.size + 2) 3 i0 (.int .i64 0) 1 8 Tryd.underlying26 HI.out.1 HI.out.2.1 HI.out.2.2.1 HI.out.2.2.2 rfl (by decide) _ _ _ rfl hO5 1 [.int .i64 p] _ rfl ⟨_, _, rfl, .inr ⟨⟨w5.heap.size, 0, none⟩, rfl, ?d0⟩⟩ ?d1 ?d2 ?d3 ?d4 ?d5 ?_)
  case d0 =>
    intro j u hj
    rw [Addr.add_lit]
    match j, hj with
    | 0, hj => simp at hj; subst hj; exact blk_cell hn5.out rfl
    | j + 1, hj => simp at hj
  case d1 => rfl
  case d2 => intro u hu; simp at hu; subst hu; rfl
  case d3 => unfold maxLen; omega
  case d4 => omega
  case d5 => simp; omega
  intro v6 w6 own6 grown6
  have hlt6 := fun q hq => (World.ownsRow.lt hO5 q hq).1
  have K6 := hid (K5a.out.grown grown6 (fun q hq => hlt6 q hq))
  obtain ⟨a6, c6, rfl⟩ : ∃ a c, v6 = .slice a (nQ + 1) c := by
    obtain ⟨q0, ⟨q1, q2⟩ | ⟨q, cap, cur, q1, _⟩⟩ := own6
    · omega
    · exact ⟨_, _, q1⟩
  have K7 := hid (K6.out.set (cs' := (ix NP NM (.slice aP nP cP) (.slice a6 (nQ + 1) c6) (.slice aM nM cM) pl)) 3 (.slice a6 (nQ + 1) c6) rfl)
  have OL := hid (fun q hq => World.ownsRow.lt own6 q hq)
  have O7 : (w6.setCell ⟨w.heap.size, 3, none⟩ (.slice a6 (nQ + 1) c6)).ownsRow (w.heap.size + 2) 3 1 (.slice a6 (nQ + 1) c6) (nQ + 1) ((Q ++ [p]).map (Value.int .i64)) := by
    rw [List.map_append]
    exact ownP_kept own6 (fun q hq => heap_setCell_other _ _ _ _ (by have := (OL.out q hq).1; simp; omega))
  have R7 := readsP O7 (by simp [HQ.out])
  have D7 := H0.out.below K7.out.below
  have FIN := hid (K7.out.fin (vP0 := .slice aP nP cP) (vQ0 := .slice aQ nQ cQ) (vM0 := .slice aM nM cM) (Pl := Pl) (Q := (Q ++ [p])) (M := M) ⟨D7.hp, R7, D7.hm, D7.lp, (by simp; have := HQ.out; omega), D7.lm⟩ [.bool true] (fun q hq => .inl hq) (fun q hq => .inr (by have := OL.out q hq; simp; omega)) (fun q hq => .inl hq) (fun h0 q hq => by have := H0.out.hp.own_lt h0 q hq; omega) (fun _ q hq => by have := OL.out q hq; omega) (fun h0 q hq => by have := H0.out.hm.own_lt h0 q hq; omega))
  have x6 := blk_cell K6.out.box (i := 3) rfl
  have f6 := blk_free K6.out.box (i := 3)
  clear own5 own6 grown6 hO5 hn5 K5 K5a hlt6 H0 K2 OL O7 R7 D7 HI ll
  go_wp2_with (first
    | (refine wpList_load_known (by rfl) 28 (.tmp 2) rfl w.heap.size rfl 28 (ix NP NM (.slice aP nP cP) (.slice a6 (nQ + 1) c6) (.slice aM nM cM) pl) (0, 0) _ K7.out.box Tryd.underlying28 rfl (by kernel_rfl) ?_)
    | (refine wpList_store_row rfl 28 (.tmp 4) (.tmp 19) rfl (w.heap.size + 1) (ix NP NM (.slice aP nP cP) (.slice a6 (nQ + 1) c6) (.slice aM nM cM) pl) rfl rfl 28 _ K7.out.res (by kernel_rfl) (by rfl) (by simp [ix, Value.oneCell']) ?_))
  exact bodyPost_ret (v := .tuple #[.agg (ix NP NM (.slice aP nP cP) (.slice a6 (nQ + 1) c6) (.slice aM nM cM) pl), .bool true]) (results_row_t13 rfl _ _ (w.heap.size + 1) 28 (ix NP NM (.slice aP nP cP) (.slice a6 (nQ + 1) c6) (.slice aM nM cM) pl) (0, 0) _ (by rfl) (setRow_heap _ _ _ _ _ _ K7.out.res) Tryd.underlying28 rfl (by kernel_rfl) _ (by rfl)) rfl FIN.out
end Go.Proofs.YtnabikoieolfcaaDoor
