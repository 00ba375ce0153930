/- The document's poll by value: Mark, Put, each way out. Written by wip/tools/gen11.py. -/
import Derived.Test.YtaogpodncphpjaaRef11C
namespace Go.Proofs.Ytaogpodncphpjaa
set_option linter.unusedVariables false
set_option linter.unusedSimpArgs false
open Go.RowKit
theorem ownP_kept {w w' : World} {base sz n : Nat} {t : TypeId} {v : Value} {xs : List Value} (h : w.ownsRow base t sz v n xs) (hb : ∀ k, v.ownBlock = some k → w'.heap[k]? = w.heap[k]?) : w'.ownsRow base t sz v n xs := by
  obtain ⟨h0, h1 | ⟨g, cap, cur, h1, h2, h3, h4⟩⟩ := h
  · exact ⟨h0, .inl h1⟩
  · exact ⟨h0, .inr ⟨g, cap, cur, h1, h2, by rw [hb g (by rw [h1]; rfl)]; exact h3, h4⟩⟩
theorem readsP {w : World} {base n : Nat} {v : Value} {xs : List Int} (h : w.ownsRow base 3 1 v n (xs.map (Value.int .i64))) (hn : xs.length = n) : Reads w v xs := by
  subst hn
  exact Owns.reads h
theorem readsQ {w : World} {base n : Nat} {t : TypeId} {v : Value} {V : List (Int × Int)} (h : w.ownsRow base t 2 v n (fw V)) (hn : V.length = n) : RdW w v V := by
  subst hn
  exact own_rdW h
set_option maxHeartbeats 4000000 in
theorem mark_in (w : World) (vW vS : Value) (V : List (Int × Int)) (S : List Int) (h : Dp w vW vS V S) (fd : Int) (hf : rfull V S fd = false) (hm : decide (fd ∈ S) = true) :
    Calls Try.prog 49 #[.agg #[vW, vS], .int .i64 fd] w (DpPost w vW vS V S 0) := by
  obtain ⟨aW, nW, cW, aS, nS, cS, rfl, rfl, HNW, HNS, lw, ls⟩ := h.sl
  have hb0 := ((Below.refl w.heap.size w).alloc (Nat.le_refl _) (.cells #[.slice aW nW cW, .slice aS nS cS] 33)).alloc (by simp) (.cells #[.slice none 0 0, .slice none 0 0] 33)
  have H := hid (h.below hb0)
  have B := hid hb0
  have K := hid (heap_alloc2_old w (.cells #[.slice aW nW cW, .slice aS nS cS] 33) (.cells #[.slice none 0 0, .slice none 0 0] 33))
  have R := hid (heap_alloc2_new w (.cells #[.slice aW nW cW, .slice aS nS cS] 33) (.cells #[.slice none 0 0, .slice none 0 0] 33))
  have HD := hid h
  have HF := hid hf
  have HM := hid hm
  clear h hb0 hf hm
  have hsz : ((w.alloc (.cells #[.slice aW nW cW, .slice aS nS cS] 33)).alloc (.cells #[.slice none 0 0, .slice none 0 0] 33)).heap.size = w.heap.size + 2 := by simp
  go_enter Try.func49, Try.ntmps49
  have y0 := blk_cell K.out (i := 0) rfl
  have y1 := blk_cell K.out (i := 1) rfl
  go_wp2_with fail
  refine (rfull_any _ _ _ V S H.out fd false HF.out).mono ?_
  rintro e w2 ⟨rfl, h2⟩
  have K2 := hid ((h2.block _ (by rw [hsz]; omega)).trans K.out)
  have R2 := hid ((h2.block _ (by rw [hsz]; omega)).trans R.out)
  have H2 := hid (H.out.below h2)
  have B2 := hid (B.out.trans (h2.mono B.out.size))
  have s2 : w.heap.size + 2 ≤ w2.heap.size := by have := h2.size; omega
  clear h2 H K R B y0 y1 hsz
  have y0 := blk_cell K2.out (i := 0) rfl
  have y1 := blk_cell K2.out (i := 1) rfl
  go_wp2_with fail
  refine (ris _ _ _ V S H2.out fd true HM.out).mono ?_
  rintro e w3 ⟨rfl, h3⟩
  have K3 := hid ((h3.block _ (by omega)).trans K2.out)
  have R3 := hid ((h3.block _ (by omega)).trans R2.out)
  have H3 := hid (H2.out.below h3)
  have B3 := hid (B2.out.trans (h3.mono B2.out.size))
  have s3 : w.heap.size + 2 ≤ w3.heap.size := by have := h3.size; omega
  clear h3 H2 K2 R2 B2 y0 y1 s2
  have y0 := blk_cell K3.out (i := 0) rfl
  have y1 := blk_cell K3.out (i := 1) rfl
  have FIN := hid (show DpPost w (.slice aW nW cW) (.slice aS nS cS) V S 0 (.returned (.tuple #[.agg #[.slice aW nW cW, .slice aS nS cS], .int .i64 0])) (w3.setRow (w.heap.size + 1) #[.slice aW nW cW, .slice aS nS cS]) from
    have BF := row_below B3.out (show w.heap.size ≤ w.heap.size + 1 by omega) #[.slice aW nW cW, .slice aS nS cS]
    ⟨_, _, rfl, HD.out.below BF, BF, fun q hq => .inl hq, fun q hq => .inl hq⟩)
  clear HD B3 H3 y0 y1
  go_wp2_with (first
    | (refine wpList_load_known (by rfl) 33 (.tmp 2) rfl w.heap.size rfl 33 #[.slice aW nW cW, .slice aS nS cS] (0, 0) _ K3.out Try.underlying33 rfl (by kernel_rfl) ?_)
    | (refine wpList_store_row rfl 33 (.tmp 4) (.tmp 22) rfl (w.heap.size + 1) #[.slice aW nW cW, .slice aS nS cS] rfl rfl 33 _ R3.out (by kernel_rfl) (by rfl) (by simp [Value.oneCell']) ?_))
  refine bodyPost_ret (v := .tuple #[.agg #[.slice aW nW cW, .slice aS nS cS], .int .i64 0]) (results_row_tmp rfl _ _ (w.heap.size + 1) 33 #[.slice aW nW cW, .slice aS nS cS] (0, 0) _ (by rfl) (setRow_heap _ _ _ _ _ _ R3.out) Try.underlying33 rfl (by kernel_rfl) _ (by rfl)) rfl FIN.out
set_option maxHeartbeats 4000000 in
theorem mark_new (w : World) (vW vS : Value) (V : List (Int × Int)) (S : List Int) (h : Dp w vW vS V S) (fd : Int) (hf : rfull V S fd = false) (hm : decide (fd ∈ S) = false) (hlen : V.length < 1000 ∧ S.length < 1000) :
    Calls Try.prog 49 #[.agg #[vW, vS], .int .i64 fd] w (DpPost w vW vS V (S ++ [fd]) 0) := by
  obtain ⟨aW, nW, cW, aS, nS, cS, rfl, rfl, HNW, HNS, lw, ls⟩ := h.sl
  have hb0 := ((Below.refl w.heap.size w).alloc (Nat.le_refl _) (.cells #[.slice aW nW cW, .slice aS nS cS] 33)).alloc (by simp) (.cells #[.slice none 0 0, .slice none 0 0] 33)
  have H := hid (h.below hb0)
  have B := hid hb0
  have K := hid (heap_alloc2_old w (.cells #[.slice aW nW cW, .slice aS nS cS] 33) (.cells #[.slice none 0 0, .slice none 0 0] 33))
  have R := hid (heap_alloc2_new w (.cells #[.slice aW nW cW, .slice aS nS cS] 33) (.cells #[.slice none 0 0, .slice none 0 0] 33))
  have HD := hid h
  have HF := hid hf
  have HM := hid hm
  have hl1 : nS < 1000 := by have := HNS.out; omega
  clear h hb0 hf hm hlen
  have hsz : ((w.alloc (.cells #[.slice aW nW cW, .slice aS nS cS] 33)).alloc (.cells #[.slice none 0 0, .slice none 0 0] 33)).heap.size = w.heap.size + 2 := by simp
  go_enter Try.func49, Try.ntmps49
  have y0 := blk_cell K.out (i := 0) rfl
  have y1 := blk_cell K.out (i := 1) rfl
  go_wp2_with fail
  refine (rfull_any _ _ _ V S H.out fd false HF.out).mono ?_
  rintro e w2 ⟨rfl, h2⟩
  have K2 := hid ((h2.block _ (by rw [hsz]; omega)).trans K.out)
  have R2 := hid ((h2.block _ (by rw [hsz]; omega)).trans R.out)
  have H2 := hid (H.out.below h2)
  have B2 := hid (B.out.trans (h2.mono B.out.size))
  have s2 : w.heap.size + 2 ≤ w2.heap.size := by have := h2.size; omega
  clear h2 H K R B y0 y1 hsz
  have y0 := blk_cell K2.out (i := 0) rfl
  have y1 := blk_cell K2.out (i := 1) rfl
  go_wp2_with fail
  refine (ris _ _ _ V S H2.out fd false HM.out).mono ?_
  rintro e w3 ⟨rfl, h3⟩
  have K3 := hid ((h3.block _ (by omega)).trans K2.out)
  have R3 := hid ((h3.block _ (by omega)).trans R2.out)
  have H3 := hid (H2.out.below h3)
  have B3 := hid (B2.out.trans (h3.mono B2.out.size))
  have s3 : w.heap.size + 2 ≤ w3.heap.size := by have := h3.size; omega
  clear h3 H2 K2 R2 B2 y0 y1 s2
  have y0 := blk_cell K3.out (i := 0) rfl
  have y1 := blk_cell K3.out (i := 1) rfl
  obtain ⟨i0, hi, hz0, hz1, hz2⟩ := info_parts infoIntP
  have HI := hid (And.intro hi (And.intro hz0 (And.intro hz1 hz2)))
  clear hi hz0 hz1 hz2
  have HOW := hid (show (w3.alloc (.cells #[] 3)).ownsRow w3.heap.size 3 1 (.slice (some ⟨w3.heap.size, 0, none⟩) 0 0) 0 [] from World.ownsRow_made w3 #[] 0 (Nat.le_refl _) (by omega) rfl)
  have Bq := B3.out.alloc B3.out.size (.cells #[] 3)
  have HH := hid (HD.out.hs.handed Bq)
  have Bq := hid Bq
  have Kq := hid ((Below.heap_alloc w3 (.cells #[] 3) _ (by omega)).trans K3.out)
  have Rq := hid ((Below.heap_alloc w3 (.cells #[] 3) _ (by omega)).trans R3.out)
  rw [HNS.out] at HH
  have hs4 : (w3.alloc (.cells #[] 3)).heap.size = w3.heap.size + 1 := by simp
  have hbs := B3.out.size
  clear y0 y1 B3 H3
  have y0 := blk_cell Kq.out (i := 0) rfl
  have y1 := blk_cell Kq.out (i := 1) rfl
  go_wp2_with (at_builtin; refine wpList_app rfl _ _ 31 rfl w3.heap.size 3 i0 (.int .i64 0) 1 8 Try.underlying31 HI.out.1 HI.out.2.1 HI.out.2.2.1 HI.out.2.2.2 rfl (by decide) _ _ _ rfl HOW.out nS (S.map (Value.int .i64)) _ rfl HH.out ?c1 ?c2 ?c3 ?c4 ?c5 ?_)
  case c1 => simp [HNS.out]
  case c2 => exact ones_of S
  case c3 => unfold maxLen; omega
  case c4 => omega
  case c5 => omega
  intro v5 w5 own5 grown5
  have hg5 := grown5.size
  have K5 := hid ((grown5.block _ (by omega) (fun e => by simp [Value.ownBlock] at e; omega)).trans Kq.out)
  have R5 := hid ((grown5.block _ (by omega) (fun e => by simp [Value.ownBlock] at e; omega)).trans Rq.out)
  have B5 := hid (Bq.out.grown grown5 (by omega) (fun q hq => by simp [Value.ownBlock] at hq; omega))
  have O5 := hid (own5.alloc (.cells #[.int .i64 fd] 3))
  have OL := hid (fun q hq => (World.ownsRow.lt own5 q hq).1)
  have OL2 := hid (fun q hq => (World.ownsRow.lt own5 q hq).2)
  have K6 := hid ((Below.heap_alloc w5 (.cells #[.int .i64 fd] 3) _ (by omega)).trans K5.out)
  have R6 := hid ((Below.heap_alloc w5 (.cells #[.int .i64 fd] 3) _ (by omega)).trans R5.out)
  have B6 := hid (B5.out.alloc B5.out.size (.cells #[.int .i64 fd] 3))
  have hn6 := hid (heap_alloc_new w5 (.cells #[.int .i64 fd] 3))
  have hs6 : (w5.alloc (.cells #[.int .i64 fd] 3)).heap.size = w5.heap.size + 1 := by simp
  clear own5 grown5 HOW HH Kq Rq Bq K5 R5 B5 y0 y1
  have y0 := blk_cell K6.out (i := 0) rfl
  have y1 := blk_cell K6.out (i := 1) rfl
  go_wp2_with (at_builtin; refine wpList_app rfl _ _ 31 rfl w3.heap.size 3 i0 (.int .i64 0) 1 8 Try.underlying31 HI.out.1 HI.out.2.1 HI.out.2.2.1 HI.out.2.2.2 rfl (by decide) _ _ _ rfl O5.out 1 [.int .i64 fd] _ rfl ⟨_, _, rfl, .inr ⟨⟨w5.heap.size, 0, none⟩, rfl, ?d0⟩⟩ ?d1 ?d2 ?d3 ?d4 ?d5 ?_)
  case d0 =>
    intro j u hj
    rw [Addr.add_lit]
    match j, hj with
    | 0, hj => simp at hj; subst hj; exact blk_cell hn6.out rfl
    | j + 1, hj => simp at hj
  case d1 => rfl
  case d2 => intro u hu; simp at hu; subst hu; rfl
  case d3 => unfold maxLen; omega
  case d4 => omega
  case d5 => omega
  intro v7 w7 own7 grown7
  obtain ⟨va, vc, rfl⟩ : ∃ a c, v7 = .slice a (nS + 1) c := by
    obtain ⟨q0, ⟨q1, q2⟩ | ⟨q, cap, cur, q1, _⟩⟩ := own7
    · omega
    · exact ⟨_, _, q1⟩
  have hg7 := grown7.size
  have K7 := hid ((grown7.block w.heap.size (by omega) (fun e => by have := OL.out _ e.symm; omega)).trans K6.out)
  have R7 := hid ((grown7.block (w.heap.size + 1) (by omega) (fun e => by have := OL.out _ e.symm; omega)).trans R6.out)
  have B7 := hid (B6.out.grown grown7 (by omega) (fun q hq => by have := OL.out q hq; omega))
  have hvge : ∀ q, (Value.slice va (nS + 1) vc).ownBlock = some q → w3.heap.size ≤ q ∧ q < w7.heap.size := fun q hq => World.ownsRow.lt own7 q hq
  have O7 := hid own7
  have HV := hid hvge
  have K8 := hid (blk_set (i := 1) (.slice va (nS + 1) vc) K7.out (show (#[.slice aW nW cW, .slice aS nS cS] : Array Value).setIfInBounds 1 (.slice va (nS + 1) vc) = #[.slice aW nW cW, .slice va (nS + 1) vc] from rfl))
  have R8 := hid ((heap_setCell_other w7 ⟨w.heap.size, 1, none⟩ (w.heap.size + 1) (.slice va (nS + 1) vc) (by simp)).trans R7.out)
  have y0 := blk_cell K7.out (i := 0) rfl
  have y1 := blk_cell K7.out (i := 1) rfl
  have f0 : w7.frozen? ⟨w.heap.size, 1, none⟩ = false := blk_free K7.out
  have FIN := hid (show DpPost w (.slice aW nW cW) (.slice aS nS cS) V (S ++ [fd]) 0 (.returned (.tuple #[.agg #[.slice aW nW cW, .slice va (nS + 1) vc], .int .i64 0])) ((w7.setCell ⟨w.heap.size, 1, none⟩ (.slice va (nS + 1) vc)).setRow (w.heap.size + 1) #[.slice aW nW cW, .slice va (nS + 1) vc]) from by
    have BF := row_below (B7.out.setCell (p := ⟨w.heap.size, 1, none⟩) (Nat.le_refl _) (.slice va (nS + 1) vc)) (show w.heap.size ≤ w.heap.size + 1 by omega) #[.slice aW nW cW, .slice va (nS + 1) vc]
    have OF : ((w7.setCell ⟨w.heap.size, 1, none⟩ (.slice va (nS + 1) vc)).setRow (w.heap.size + 1) #[.slice aW nW cW, .slice va (nS + 1) vc]).ownsRow w3.heap.size 3 1 (.slice va (nS + 1) vc) (nS + 1) (((S ++ [fd]).map (Value.int .i64))) := by
      have e : (S.map (Value.int .i64) ++ [.int .i64 fd]) = ((S ++ [fd]).map (Value.int .i64)) := by simp
      rw [← e]
      refine ownP_kept (by simpa using O7.out) (fun q hq => ?_)
      have := HV.out q hq
      rw [row_other _ _ _ _ (by omega), heap_setCell_other _ _ _ _ (by simp; omega)]
    refine ⟨_, _, rfl, ⟨HD.out.hw.below BF, readsP OF (by simp [HNS.out]), HD.out.lw, by simp; have := HNS.out; omega⟩, BF, fun q hq => .inl hq, fun q hq => .inr ⟨by have := HV.out q hq; omega, by have := HV.out q hq; rw [row_size]; simp [World.setCell]; omega⟩⟩)
  clear HD B6 B7 O5 OL OL2 O7 own7 grown7 hvge K6 R6 hn6 HV
  go_wp2_with (first
    | (refine wpList_load_known (by rfl) 33 (.tmp 2) rfl w.heap.size rfl 33 #[.slice aW nW cW, .slice va (nS + 1) vc] (0, 0) _ K8.out Try.underlying33 rfl (by kernel_rfl) ?_)
    | (refine wpList_store_row rfl 33 (.tmp 4) (.tmp 22) rfl (w.heap.size + 1) #[.slice aW nW cW, .slice va (nS + 1) vc] rfl rfl 33 _ R8.out (by kernel_rfl) (by rfl) (by simp [Value.oneCell']) ?_))
  refine bodyPost_ret (v := .tuple #[.agg #[.slice aW nW cW, .slice va (nS + 1) vc], .int .i64 0]) (results_row_tmp rfl _ _ (w.heap.size + 1) 33 #[.slice aW nW cW, .slice va (nS + 1) vc] (0, 0) _ (by rfl) (setRow_heap _ _ _ _ _ _ R8.out) Try.underlying33 rfl (by kernel_rfl) _ (by rfl)) rfl FIN.out
set_option maxHeartbeats 4000000 in
theorem put_same1 (w : World) (vW vS : Value) (V : List (Int × Int)) (S : List Int) (h : Dp w vW vS V S) (fd g : Int) (h0 : 0 ≤ g) (h1 : g ≤ 4095) (y : Int) (hy : rwho V fd = y) (hy0 : 0 ≤ y) :
    Calls Try.prog 46 #[.agg #[vW, vS], .int .i64 fd, .int .i64 g] w (DpPost w vW vS V S 8) := by
  obtain ⟨aW, nW, cW, aS, nS, cS, rfl, rfl, HNW, HNS, lw, ls⟩ := h.sl
  have hb0 := ((Below.refl w.heap.size w).alloc (Nat.le_refl _) (.cells #[.slice aW nW cW, .slice aS nS cS] 33)).alloc (by simp) (.cells #[.slice none 0 0, .slice none 0 0] 33)
  have H := hid (h.below hb0)
  have B := hid hb0
  have K := hid (heap_alloc2_old w (.cells #[.slice aW nW cW, .slice aS nS cS] 33) (.cells #[.slice none 0 0, .slice none 0 0] 33))
  have R := hid (heap_alloc2_new w (.cells #[.slice aW nW cW, .slice aS nS cS] 33) (.cells #[.slice none 0 0, .slice none 0 0] 33))
  have HD := hid h
  have HY := hid hy
  clear h hb0 hy
  have hsz : ((w.alloc (.cells #[.slice aW nW cW, .slice aS nS cS] 33)).alloc (.cells #[.slice none 0 0, .slice none 0 0] 33)).heap.size = w.heap.size + 2 := by simp
  go_enter Try.func46, Try.ntmps46
  have y0 := blk_cell K.out (i := 0) rfl
  have y1 := blk_cell K.out (i := 1) rfl
  go_wp2_with fail
  refine (rwho_any _ _ _ V S H.out fd y HY.out).mono ?_
  rintro e w2 ⟨rfl, h2⟩
  have K2 := hid ((h2.block _ (by rw [hsz]; omega)).trans K.out)
  have R2 := hid ((h2.block _ (by rw [hsz]; omega)).trans R.out)
  have H2 := hid (H.out.below h2)
  have B2 := hid (B.out.trans (h2.mono B.out.size))
  have s2 : w.heap.size + 2 ≤ w2.heap.size := by have := h2.size; omega
  clear h2 H K R B y0 y1 hsz
  have y0 := blk_cell K2.out (i := 0) rfl
  have y1 := blk_cell K2.out (i := 1) rfl
  have FIN := hid (show DpPost w (.slice aW nW cW) (.slice aS nS cS) V S 8 (.returned (.tuple #[.agg #[.slice aW nW cW, .slice aS nS cS], .int .i64 8])) (w2.setRow (w.heap.size + 1) #[.slice aW nW cW, .slice aS nS cS]) from
    have BF := row_below B2.out (show w.heap.size ≤ w.heap.size + 1 by omega) #[.slice aW nW cW, .slice aS nS cS]
    ⟨_, _, rfl, HD.out.below BF, BF, fun q hq => .inl hq, fun q hq => .inl hq⟩)
  clear HD B2 H2 y0 y1
  go_wp2_with (first
    | (refine wpList_load_known (by rfl) 33 (.tmp 3) rfl w.heap.size rfl 33 #[.slice aW nW cW, .slice aS nS cS] (0, 0) _ K2.out Try.underlying33 rfl (by kernel_rfl) ?_)
    | (refine wpList_store_row rfl 33 (.tmp 6) (.tmp 24) rfl (w.heap.size + 1) #[.slice aW nW cW, .slice aS nS cS] rfl rfl 33 _ R2.out (by kernel_rfl) (by rfl) (by simp [Value.oneCell']) ?_))
  refine bodyPost_ret (v := .tuple #[.agg #[.slice aW nW cW, .slice aS nS cS], .int .i64 8]) (results_row_tmp rfl _ _ (w.heap.size + 1) 33 #[.slice aW nW cW, .slice aS nS cS] (0, 0) _ (by rfl) (setRow_heap _ _ _ _ _ _ R2.out) Try.underlying33 rfl (by kernel_rfl) _ (by rfl)) rfl FIN.out
set_option maxHeartbeats 4000000 in
theorem put_same2 (w : World) (vW vS : Value) (V : List (Int × Int)) (S : List Int) (h : Dp w vW vS V S) (fd g : Int) (h0 : 0 ≤ g) (h1 : g ≤ 4095) (y : Int) (hy : rwho V fd = y) (hy0 : y < 0) (hg : rhasb V g = true) :
    Calls Try.prog 46 #[.agg #[vW, vS], .int .i64 fd, .int .i64 g] w (DpPost w vW vS V S 8) := by
  obtain ⟨aW, nW, cW, aS, nS, cS, rfl, rfl, HNW, HNS, lw, ls⟩ := h.sl
  have hb0 := ((Below.refl w.heap.size w).alloc (Nat.le_refl _) (.cells #[.slice aW nW cW, .slice aS nS cS] 33)).alloc (by simp) (.cells #[.slice none 0 0, .slice none 0 0] 33)
  have H := hid (h.below hb0)
  have B := hid hb0
  have K := hid (heap_alloc2_old w (.cells #[.slice aW nW cW, .slice aS nS cS] 33) (.cells #[.slice none 0 0, .slice none 0 0] 33))
  have R := hid (heap_alloc2_new w (.cells #[.slice aW nW cW, .slice aS nS cS] 33) (.cells #[.slice none 0 0, .slice none 0 0] 33))
  have HD := hid h
  have HY := hid hy
  have HG := hid hg
  clear h hb0 hy hg
  have hsz : ((w.alloc (.cells #[.slice aW nW cW, .slice aS nS cS] 33)).alloc (.cells #[.slice none 0 0, .slice none 0 0] 33)).heap.size = w.heap.size + 2 := by simp
  go_enter Try.func46, Try.ntmps46
  have y0 := blk_cell K.out (i := 0) rfl
  have y1 := blk_cell K.out (i := 1) rfl
  go_wp2_with fail
  refine (rwho_any _ _ _ V S H.out fd y HY.out).mono ?_
  rintro e w2 ⟨rfl, h2⟩
  have K2 := hid ((h2.block _ (by rw [hsz]; omega)).trans K.out)
  have R2 := hid ((h2.block _ (by rw [hsz]; omega)).trans R.out)
  have H2 := hid (H.out.below h2)
  have B2 := hid (B.out.trans (h2.mono B.out.size))
  have s2 : w.heap.size + 2 ≤ w2.heap.size := by have := h2.size; omega
  clear h2 H K R B y0 y1 hsz
  have y0 := blk_cell K2.out (i := 0) rfl
  have y1 := blk_cell K2.out (i := 1) rfl
  go_wp2_with fail
  refine (rhas_any _ _ _ V S H2.out g true HG.out).mono ?_
  rintro e w3 ⟨rfl, h3⟩
  have K3 := hid ((h3.block _ (by omega)).trans K2.out)
  have R3 := hid ((h3.block _ (by omega)).trans R2.out)
  have H3 := hid (H2.out.below h3)
  have B3 := hid (B2.out.trans (h3.mono B2.out.size))
  have s3 : w.heap.size + 2 ≤ w3.heap.size := by have := h3.size; omega
  clear h3 H2 K2 R2 B2 y0 y1 s2
  have y0 := blk_cell K3.out (i := 0) rfl
  have y1 := blk_cell K3.out (i := 1) rfl
  have FIN := hid (show DpPost w (.slice aW nW cW) (.slice aS nS cS) V S 8 (.returned (.tuple #[.agg #[.slice aW nW cW, .slice aS nS cS], .int .i64 8])) (w3.setRow (w.heap.size + 1) #[.slice aW nW cW, .slice aS nS cS]) from
    have BF := row_below B3.out (show w.heap.size ≤ w.heap.size + 1 by omega) #[.slice aW nW cW, .slice aS nS cS]
    ⟨_, _, rfl, HD.out.below BF, BF, fun q hq => .inl hq, fun q hq => .inl hq⟩)
  clear HD B3 H3 y0 y1
  go_wp2_with (first
    | (refine wpList_load_known (by rfl) 33 (.tmp 3) rfl w.heap.size rfl 33 #[.slice aW nW cW, .slice aS nS cS] (0, 0) _ K3.out Try.underlying33 rfl (by kernel_rfl) ?_)
    | (refine wpList_store_row rfl 33 (.tmp 6) (.tmp 24) rfl (w.heap.size + 1) #[.slice aW nW cW, .slice aS nS cS] rfl rfl 33 _ R3.out (by kernel_rfl) (by rfl) (by simp [Value.oneCell']) ?_))
  refine bodyPost_ret (v := .tuple #[.agg #[.slice aW nW cW, .slice aS nS cS], .int .i64 8]) (results_row_tmp rfl _ _ (w.heap.size + 1) 33 #[.slice aW nW cW, .slice aS nS cS] (0, 0) _ (by rfl) (setRow_heap _ _ _ _ _ _ R3.out) Try.underlying33 rfl (by kernel_rfl) _ (by rfl)) rfl FIN.out
set_option maxHeartbeats 4000000 in
theorem put_full (w : World) (vW vS : Value) (V : List (Int × Int)) (S : List Int) (h : Dp w vW vS V S) (fd g : Int) (h0 : 0 ≤ g) (h1 : g ≤ 4095) (y : Int) (hy : rwho V fd = y) (hy0 : y < 0) (hg : rhasb V g = false) (hf : rfull V S fd = true) :
    Calls Try.prog 46 #[.agg #[vW, vS], .int .i64 fd, .int .i64 g] w (DpPost w vW vS V S 2) := by
  obtain ⟨aW, nW, cW, aS, nS, cS, rfl, rfl, HNW, HNS, lw, ls⟩ := h.sl
  have hb0 := ((Below.refl w.heap.size w).alloc (Nat.le_refl _) (.cells #[.slice aW nW cW, .slice aS nS cS] 33)).alloc (by simp) (.cells #[.slice none 0 0, .slice none 0 0] 33)
  have H := hid (h.below hb0)
  have B := hid hb0
  have K := hid (heap_alloc2_old w (.cells #[.slice aW nW cW, .slice aS nS cS] 33) (.cells #[.slice none 0 0, .slice none 0 0] 33))
  have R := hid (heap_alloc2_new w (.cells #[.slice aW nW cW, .slice aS nS cS] 33) (.cells #[.slice none 0 0, .slice none 0 0] 33))
  have HD := hid h
  have HY := hid hy
  have HG := hid hg
  have HF := hid hf
  clear h hb0 hy hg hf
  have hsz : ((w.alloc (.cells #[.slice aW nW cW, .slice aS nS cS] 33)).alloc (.cells #[.slice none 0 0, .slice none 0 0] 33)).heap.size = w.heap.size + 2 := by simp
  go_enter Try.func46, Try.ntmps46
  have y0 := blk_cell K.out (i := 0) rfl
  have y1 := blk_cell K.out (i := 1) rfl
  go_wp2_with fail
  refine (rwho_any _ _ _ V S H.out fd y HY.out).mono ?_
  rintro e w2 ⟨rfl, h2⟩
  have K2 := hid ((h2.block _ (by rw [hsz]; omega)).trans K.out)
  have R2 := hid ((h2.block _ (by rw [hsz]; omega)).trans R.out)
  have H2 := hid (H.out.below h2)
  have B2 := hid (B.out.trans (h2.mono B.out.size))
  have s2 : w.heap.size + 2 ≤ w2.heap.size := by have := h2.size; omega
  clear h2 H K R B y0 y1 hsz
  have y0 := blk_cell K2.out (i := 0) rfl
  have y1 := blk_cell K2.out (i := 1) rfl
  go_wp2_with fail
  refine (rhas_any _ _ _ V S H2.out g false HG.out).mono ?_
  rintro e w3 ⟨rfl, h3⟩
  have K3 := hid ((h3.block _ (by omega)).trans K2.out)
  have R3 := hid ((h3.block _ (by omega)).trans R2.out)
  have H3 := hid (H2.out.below h3)
  have B3 := hid (B2.out.trans (h3.mono B2.out.size))
  have s3 : w.heap.size + 2 ≤ w3.heap.size := by have := h3.size; omega
  clear h3 H2 K2 R2 B2 y0 y1 s2
  have y0 := blk_cell K3.out (i := 0) rfl
  have y1 := blk_cell K3.out (i := 1) rfl
  go_wp2_with fail
  refine (rfull_any _ _ _ V S H3.out fd true HF.out).mono ?_
  rintro e w4 ⟨rfl, h4⟩
  have K4 := hid ((h4.block _ (by omega)).trans K3.out)
  have R4 := hid ((h4.block _ (by omega)).trans R3.out)
  have H4 := hid (H3.out.below h4)
  have B4 := hid (B3.out.trans (h4.mono B3.out.size))
  have s4 : w.heap.size + 2 ≤ w4.heap.size := by have := h4.size; omega
  clear h4 H3 K3 R3 B3 y0 y1 s3
  have y0 := blk_cell K4.out (i := 0) rfl
  have y1 := blk_cell K4.out (i := 1) rfl
  have FIN := hid (show DpPost w (.slice aW nW cW) (.slice aS nS cS) V S 2 (.returned (.tuple #[.agg #[.slice aW nW cW, .slice aS nS cS], .int .i64 2])) (w4.setRow (w.heap.size + 1) #[.slice aW nW cW, .slice aS nS cS]) from
    have BF := row_below B4.out (show w.heap.size ≤ w.heap.size + 1 by omega) #[.slice aW nW cW, .slice aS nS cS]
    ⟨_, _, rfl, HD.out.below BF, BF, fun q hq => .inl hq, fun q hq => .inl hq⟩)
  clear HD B4 H4 y0 y1
  go_wp2_with (first
    | (refine wpList_load_known (by rfl) 33 (.tmp 3) rfl w.heap.size rfl 33 #[.slice aW nW cW, .slice aS nS cS] (0, 0) _ K4.out Try.underlying33 rfl (by kernel_rfl) ?_)
    | (refine wpList_store_row rfl 33 (.tmp 6) (.tmp 28) rfl (w.heap.size + 1) #[.slice aW nW cW, .slice aS nS cS] rfl rfl 33 _ R4.out (by kernel_rfl) (by rfl) (by simp [Value.oneCell']) ?_))
  refine bodyPost_ret (v := .tuple #[.agg #[.slice aW nW cW, .slice aS nS cS], .int .i64 2]) (results_row_tmp rfl _ _ (w.heap.size + 1) 33 #[.slice aW nW cW, .slice aS nS cS] (0, 0) _ (by rfl) (setRow_heap _ _ _ _ _ _ R4.out) Try.underlying33 rfl (by kernel_rfl) _ (by rfl)) rfl FIN.out
set_option maxHeartbeats 4000000 in
theorem put_new (w : World) (vW vS : Value) (V : List (Int × Int)) (S : List Int) (h : Dp w vW vS V S) (fd g : Int) (h0 : 0 ≤ g) (h1 : g ≤ 4095) (y : Int) (hy : rwho V fd = y) (hy0 : y < 0) (hg : rhasb V g = false) (hf : rfull V S fd = false) (hlen : V.length < 1000 ∧ S.length < 1000) :
    Calls Try.prog 46 #[.agg #[vW, vS], .int .i64 fd, .int .i64 g] w (DpPost w vW vS (V ++ [(fd, g)]) S 0) := by
  obtain ⟨aW, nW, cW, aS, nS, cS, rfl, rfl, HNW, HNS, lw, ls⟩ := h.sl
  have hb0 := ((Below.refl w.heap.size w).alloc (Nat.le_refl _) (.cells #[.slice aW nW cW, .slice aS nS cS] 33)).alloc (by simp) (.cells #[.slice none 0 0, .slice none 0 0] 33)
  have H := hid (h.below hb0)
  have B := hid hb0
  have K := hid (heap_alloc2_old w (.cells #[.slice aW nW cW, .slice aS nS cS] 33) (.cells #[.slice none 0 0, .slice none 0 0] 33))
  have R := hid (heap_alloc2_new w (.cells #[.slice aW nW cW, .slice aS nS cS] 33) (.cells #[.slice none 0 0, .slice none 0 0] 33))
  have HD := hid h
  have HY := hid hy
  have HG := hid hg
  have HF := hid hf
  have hl1 : nW < 1000 := by have := HNW.out; omega
  clear h hb0 hy hg hf hlen
  have hsz : ((w.alloc (.cells #[.slice aW nW cW, .slice aS nS cS] 33)).alloc (.cells #[.slice none 0 0, .slice none 0 0] 33)).heap.size = w.heap.size + 2 := by simp
  go_enter Try.func46, Try.ntmps46
  have y0 := blk_cell K.out (i := 0) rfl
  have y1 := blk_cell K.out (i := 1) rfl
  go_wp2_with fail
  refine (rwho_any _ _ _ V S H.out fd y HY.out).mono ?_
  rintro e w2 ⟨rfl, h2⟩
  have K2 := hid ((h2.block _ (by rw [hsz]; omega)).trans K.out)
  have R2 := hid ((h2.block _ (by rw [hsz]; omega)).trans R.out)
  have H2 := hid (H.out.below h2)
  have B2 := hid (B.out.trans (h2.mono B.out.size))
  have s2 : w.heap.size + 2 ≤ w2.heap.size := by have := h2.size; omega
  clear h2 H K R B y0 y1 hsz
  have y0 := blk_cell K2.out (i := 0) rfl
  have y1 := blk_cell K2.out (i := 1) rfl
  go_wp2_with fail
  refine (rhas_any _ _ _ V S H2.out g false HG.out).mono ?_
  rintro e w3 ⟨rfl, h3⟩
  have K3 := hid ((h3.block _ (by omega)).trans K2.out)
  have R3 := hid ((h3.block _ (by omega)).trans R2.out)
  have H3 := hid (H2.out.below h3)
  have B3 := hid (B2.out.trans (h3.mono B2.out.size))
  have s3 : w.heap.size + 2 ≤ w3.heap.size := by have := h3.size; omega
  clear h3 H2 K2 R2 B2 y0 y1 s2
  have y0 := blk_cell K3.out (i := 0) rfl
  have y1 := blk_cell K3.out (i := 1) rfl
  go_wp2_with fail
  refine (rfull_any _ _ _ V S H3.out fd false HF.out).mono ?_
  rintro e w4 ⟨rfl, h4⟩
  have K4 := hid ((h4.block _ (by omega)).trans K3.out)
  have R4 := hid ((h4.block _ (by omega)).trans R3.out)
  have H4 := hid (H3.out.below h4)
  have B4 := hid (B3.out.trans (h4.mono B3.out.size))
  have s4 : w.heap.size + 2 ≤ w4.heap.size := by have := h4.size; omega
  clear h4 H3 K3 R3 B3 y0 y1 s3
  have y0 := blk_cell K4.out (i := 0) rfl
  have y1 := blk_cell K4.out (i := 1) rfl
  obtain ⟨i0, hi, hz0, hz1, hz2⟩ := info_parts infoW
  have HI := hid (And.intro hi (And.intro hz0 (And.intro hz1 hz2)))
  clear hi hz0 hz1 hz2
  have HOW := hid (show (w4.alloc (.cells #[] 121)).ownsRow w4.heap.size 121 2 (.slice (some ⟨w4.heap.size, 0, none⟩) 0 0) 0 [] from World.ownsRow_made w4 #[] 0 (Nat.le_refl _) (by omega) rfl)
  have Bq := B4.out.alloc B4.out.size (.cells #[] 121)
  have HH := hid (HD.out.hw.handed Bq)
  have Bq := hid Bq
  have Kq := hid ((Below.heap_alloc w4 (.cells #[] 121) _ (by omega)).trans K4.out)
  have Rq := hid ((Below.heap_alloc w4 (.cells #[] 121) _ (by omega)).trans R4.out)
  rw [HNW.out] at HH
  have hs4 : (w4.alloc (.cells #[] 121)).heap.size = w4.heap.size + 1 := by simp
  have hbs := B4.out.size
  clear y0 y1 B4 H4
  have y0 := blk_cell Kq.out (i := 0) rfl
  have y1 := blk_cell Kq.out (i := 1) rfl
  go_wp2_with (at_builtin; refine wpList_app rfl _ _ 30 rfl w4.heap.size 121 i0 (.agg #[.int .i64 0, .int .i64 0]) 2 16 Try.underlying30 HI.out.1 HI.out.2.1 HI.out.2.2.1 HI.out.2.2.2 rfl (by decide) _ _ _ rfl HOW.out nW (fw V) _ rfl HH.out ?c1 ?c2 ?c3 ?c4 ?c5 ?_)
  case c1 => rw [fw_len, HNW.out]
  case c2 => exact fw_ones V
  case c3 => unfold maxLen; omega
  case c4 => omega
  case c5 => omega
  intro v5 w5 own5 grown5
  have hg5 := grown5.size
  have K5 := hid ((grown5.block _ (by omega) (fun e => by simp [Value.ownBlock] at e; omega)).trans Kq.out)
  have R5 := hid ((grown5.block _ (by omega) (fun e => by simp [Value.ownBlock] at e; omega)).trans Rq.out)
  have B5 := hid (Bq.out.grown grown5 (by omega) (fun q hq => by simp [Value.ownBlock] at hq; omega))
  have O5 := hid (own5.alloc (.cells #[.int .i64 fd, .int .i64 g] 121))
  have OL := hid (fun q hq => (World.ownsRow.lt own5 q hq).1)
  have OL2 := hid (fun q hq => (World.ownsRow.lt own5 q hq).2)
  have K6 := hid ((Below.heap_alloc w5 (.cells #[.int .i64 fd, .int .i64 g] 121) _ (by omega)).trans K5.out)
  have R6 := hid ((Below.heap_alloc w5 (.cells #[.int .i64 fd, .int .i64 g] 121) _ (by omega)).trans R5.out)
  have B6 := hid (B5.out.alloc B5.out.size (.cells #[.int .i64 fd, .int .i64 g] 121))
  have hn6 := hid (heap_alloc_new w5 (.cells #[.int .i64 fd, .int .i64 g] 121))
  have hs6 : (w5.alloc (.cells #[.int .i64 fd, .int .i64 g] 121)).heap.size = w5.heap.size + 1 := by simp
  clear own5 grown5 HOW HH Kq Rq Bq K5 R5 B5 y0 y1
  have y0 := blk_cell K6.out (i := 0) rfl
  have y1 := blk_cell K6.out (i := 1) rfl
  go_wp2_with (at_builtin; refine wpList_app rfl _ _ 30 rfl w4.heap.size 121 i0 (.agg #[.int .i64 0, .int .i64 0]) 2 16 Try.underlying30 HI.out.1 HI.out.2.1 HI.out.2.2.1 HI.out.2.2.2 rfl (by decide) _ _ _ rfl O5.out 1 [.int .i64 fd, .int .i64 g] _ rfl ⟨_, _, rfl, .inr ⟨⟨w5.heap.size, 0, none⟩, rfl, ?d0⟩⟩ ?d1 ?d2 ?d3 ?d4 ?d5 ?_)
  case d0 =>
    intro j u hj
    rw [Addr.add_lit]
    match j, hj with
    | 0, hj => simp at hj; subst hj; exact blk_cell hn6.out rfl
    | 1, hj => simp at hj; subst hj; exact blk_cell hn6.out rfl
    | j + 2, hj => simp at hj
  case d1 => rfl
  case d2 => intro u hu; simp at hu; rcases hu with rfl | rfl <;> rfl
  case d3 => unfold maxLen; omega
  case d4 => omega
  case d5 => omega
  intro v7 w7 own7 grown7
  obtain ⟨va, vc, rfl⟩ : ∃ a c, v7 = .slice a (nW + 1) c := by
    obtain ⟨q0, ⟨q1, q2⟩ | ⟨q, cap, cur, q1, _⟩⟩ := own7
    · omega
    · exact ⟨_, _, q1⟩
  have hg7 := grown7.size
  have K7 := hid ((grown7.block w.heap.size (by omega) (fun e => by have := OL.out _ e.symm; omega)).trans K6.out)
  have R7 := hid ((grown7.block (w.heap.size + 1) (by omega) (fun e => by have := OL.out _ e.symm; omega)).trans R6.out)
  have B7 := hid (B6.out.grown grown7 (by omega) (fun q hq => by have := OL.out q hq; omega))
  have hvge : ∀ q, (Value.slice va (nW + 1) vc).ownBlock = some q → w4.heap.size ≤ q ∧ q < w7.heap.size := fun q hq => World.ownsRow.lt own7 q hq
  have O7 := hid own7
  have HV := hid hvge
  have K8 := hid (blk_set (i := 0) (.slice va (nW + 1) vc) K7.out (show (#[.slice aW nW cW, .slice aS nS cS] : Array Value).setIfInBounds 0 (.slice va (nW + 1) vc) = #[.slice va (nW + 1) vc, .slice aS nS cS] from rfl))
  have R8 := hid ((heap_setCell_other w7 ⟨w.heap.size, 0, none⟩ (w.heap.size + 1) (.slice va (nW + 1) vc) (by simp)).trans R7.out)
  have y0 := blk_cell K7.out (i := 0) rfl
  have y1 := blk_cell K7.out (i := 1) rfl
  have f0 : w7.frozen? ⟨w.heap.size, 0, none⟩ = false := blk_free K7.out
  have FIN := hid (show DpPost w (.slice aW nW cW) (.slice aS nS cS) (V ++ [(fd, g)]) S 0 (.returned (.tuple #[.agg #[.slice va (nW + 1) vc, .slice aS nS cS], .int .i64 0])) ((w7.setCell ⟨w.heap.size, 0, none⟩ (.slice va (nW + 1) vc)).setRow (w.heap.size + 1) #[.slice va (nW + 1) vc, .slice aS nS cS]) from by
    have BF := row_below (B7.out.setCell (p := ⟨w.heap.size, 0, none⟩) (Nat.le_refl _) (.slice va (nW + 1) vc)) (show w.heap.size ≤ w.heap.size + 1 by omega) #[.slice va (nW + 1) vc, .slice aS nS cS]
    have OF : ((w7.setCell ⟨w.heap.size, 0, none⟩ (.slice va (nW + 1) vc)).setRow (w.heap.size + 1) #[.slice va (nW + 1) vc, .slice aS nS cS]).ownsRow w4.heap.size 121 2 (.slice va (nW + 1) vc) (nW + 1) ((fw (V ++ [(fd, g)]))) := by
      have e : (fw V ++ [.int .i64 fd, .int .i64 g]) = (fw (V ++ [(fd, g)])) := by rw [fw_app]; rfl
      rw [← e]
      refine ownP_kept (by simpa using O7.out) (fun q hq => ?_)
      have := HV.out q hq
      rw [row_other _ _ _ _ (by omega), heap_setCell_other _ _ _ _ (by simp; omega)]
    refine ⟨_, _, rfl, ⟨readsQ OF (by simp [HNW.out]), HD.out.hs.of_below BF, by simp; have := HNW.out; omega, HD.out.ls⟩, BF, fun q hq => .inr ⟨by have := HV.out q hq; omega, by have := HV.out q hq; rw [row_size]; simp [World.setCell]; omega⟩, fun q hq => .inl hq⟩)
  clear HD B6 B7 O5 OL OL2 O7 own7 grown7 hvge K6 R6 hn6 HV
  go_wp2_with (first
    | (refine wpList_load_known (by rfl) 33 (.tmp 3) rfl w.heap.size rfl 33 #[.slice va (nW + 1) vc, .slice aS nS cS] (0, 0) _ K8.out Try.underlying33 rfl (by kernel_rfl) ?_)
    | (refine wpList_store_row rfl 33 (.tmp 6) (.tmp 39) rfl (w.heap.size + 1) #[.slice va (nW + 1) vc, .slice aS nS cS] rfl rfl 33 _ R8.out (by kernel_rfl) (by rfl) (by simp [Value.oneCell']) ?_))
  refine bodyPost_ret (v := .tuple #[.agg #[.slice va (nW + 1) vc, .slice aS nS cS], .int .i64 0]) (results_row_tmp rfl _ _ (w.heap.size + 1) 33 #[.slice va (nW + 1) vc, .slice aS nS cS] (0, 0) _ (by rfl) (setRow_heap _ _ _ _ _ _ R8.out) Try.underlying33 rfl (by kernel_rfl) _ (by rfl)) rfl FIN.out
set_option maxHeartbeats 4000000 in
theorem put_arg1 (w : World) (vW vS : Value) (V : List (Int × Int)) (S : List Int) (h : Dp w vW vS V S) (fd g : Int) (hg0 : g < 0) :
    Calls Try.prog 46 #[.agg #[vW, vS], .int .i64 fd, .int .i64 g] w (DpPost w vW vS V S 1) := by
  obtain ⟨aW, nW, cW, aS, nS, cS, rfl, rfl, HNW, HNS, lw, ls⟩ := h.sl
  have hb0 := ((Below.refl w.heap.size w).alloc (Nat.le_refl _) (.cells #[.slice aW nW cW, .slice aS nS cS] 33)).alloc (by simp) (.cells #[.slice none 0 0, .slice none 0 0] 33)
  have H := hid (h.below hb0)
  have B := hid hb0
  have K := hid (heap_alloc2_old w (.cells #[.slice aW nW cW, .slice aS nS cS] 33) (.cells #[.slice none 0 0, .slice none 0 0] 33))
  have R := hid (heap_alloc2_new w (.cells #[.slice aW nW cW, .slice aS nS cS] 33) (.cells #[.slice none 0 0, .slice none 0 0] 33))
  have HD := hid h
  clear h hb0
  have hsz : ((w.alloc (.cells #[.slice aW nW cW, .slice aS nS cS] 33)).alloc (.cells #[.slice none 0 0, .slice none 0 0] 33)).heap.size = w.heap.size + 2 := by simp
  go_enter Try.func46, Try.ntmps46
  have y0 := blk_cell K.out (i := 0) rfl
  have y1 := blk_cell K.out (i := 1) rfl
  obtain ⟨w1, hw1⟩ : ∃ w1, w1 = (w.alloc (.cells #[.slice aW nW cW, .slice aS nS cS] 33)).alloc (.cells #[.slice none 0 0, .slice none 0 0] 33) := ⟨_, rfl⟩
  rw [← hw1] at K R B H
  have FIN := hid (show DpPost w (.slice aW nW cW) (.slice aS nS cS) V S 1 (.returned (.tuple #[.agg #[.slice aW nW cW, .slice aS nS cS], .int .i64 1])) (w1.setRow (w.heap.size + 1) #[.slice aW nW cW, .slice aS nS cS]) from
    have BF := row_below B.out (show w.heap.size ≤ w.heap.size + 1 by omega) #[.slice aW nW cW, .slice aS nS cS]
    ⟨_, _, rfl, HD.out.below BF, BF, fun q hq => .inl hq, fun q hq => .inl hq⟩)
  rw [hw1] at FIN K R
  clear HD B H y0 y1 hw1
  go_wp2_with (first
    | (refine wpList_load_known (by rfl) 33 (.tmp 3) rfl w.heap.size rfl 33 #[.slice aW nW cW, .slice aS nS cS] (0, 0) _ K.out Try.underlying33 rfl (by kernel_rfl) ?_)
    | (refine wpList_store_row rfl 33 (.tmp 6) (.tmp 14) rfl (w.heap.size + 1) #[.slice aW nW cW, .slice aS nS cS] rfl rfl 33 _ R.out (by kernel_rfl) (by rfl) (by simp [Value.oneCell']) ?_))
  refine bodyPost_ret (v := .tuple #[.agg #[.slice aW nW cW, .slice aS nS cS], .int .i64 1]) (results_row_tmp rfl _ _ (w.heap.size + 1) 33 #[.slice aW nW cW, .slice aS nS cS] (0, 0) _ (by rfl) (setRow_heap _ _ _ _ _ _ R.out) Try.underlying33 rfl (by kernel_rfl) _ (by rfl)) rfl FIN.out
set_option maxHeartbeats 4000000 in
theorem put_arg2 (w : World) (vW vS : Value) (V : List (Int × Int)) (S : List Int) (h : Dp w vW vS V S) (fd g : Int) (hg1 : 0 ≤ g) (hg0 : 4095 < g) :
    Calls Try.prog 46 #[.agg #[vW, vS], .int .i64 fd, .int .i64 g] w (DpPost w vW vS V S 1) := by
  obtain ⟨aW, nW, cW, aS, nS, cS, rfl, rfl, HNW, HNS, lw, ls⟩ := h.sl
  have hb0 := ((Below.refl w.heap.size w).alloc (Nat.le_refl _) (.cells #[.slice aW nW cW, .slice aS nS cS] 33)).alloc (by simp) (.cells #[.slice none 0 0, .slice none 0 0] 33)
  have H := hid (h.below hb0)
  have B := hid hb0
  have K := hid (heap_alloc2_old w (.cells #[.slice aW nW cW, .slice aS nS cS] 33) (.cells #[.slice none 0 0, .slice none 0 0] 33))
  have R := hid (heap_alloc2_new w (.cells #[.slice aW nW cW, .slice aS nS cS] 33) (.cells #[.slice none 0 0, .slice none 0 0] 33))
  have HD := hid h
  clear h hb0
  have hsz : ((w.alloc (.cells #[.slice aW nW cW, .slice aS nS cS] 33)).alloc (.cells #[.slice none 0 0, .slice none 0 0] 33)).heap.size = w.heap.size + 2 := by simp
  go_enter Try.func46, Try.ntmps46
  have y0 := blk_cell K.out (i := 0) rfl
  have y1 := blk_cell K.out (i := 1) rfl
  obtain ⟨w1, hw1⟩ : ∃ w1, w1 = (w.alloc (.cells #[.slice aW nW cW, .slice aS nS cS] 33)).alloc (.cells #[.slice none 0 0, .slice none 0 0] 33) := ⟨_, rfl⟩
  rw [← hw1] at K R B H
  have FIN := hid (show DpPost w (.slice aW nW cW) (.slice aS nS cS) V S 1 (.returned (.tuple #[.agg #[.slice aW nW cW, .slice aS nS cS], .int .i64 1])) (w1.setRow (w.heap.size + 1) #[.slice aW nW cW, .slice aS nS cS]) from
    have BF := row_below B.out (show w.heap.size ≤ w.heap.size + 1 by omega) #[.slice aW nW cW, .slice aS nS cS]
    ⟨_, _, rfl, HD.out.below BF, BF, fun q hq => .inl hq, fun q hq => .inl hq⟩)
  rw [hw1] at FIN K R
  clear HD B H y0 y1 hw1
  go_wp2_with (first
    | (refine wpList_load_known (by rfl) 33 (.tmp 3) rfl w.heap.size rfl 33 #[.slice aW nW cW, .slice aS nS cS] (0, 0) _ K.out Try.underlying33 rfl (by kernel_rfl) ?_)
    | (refine wpList_store_row rfl 33 (.tmp 6) (.tmp 14) rfl (w.heap.size + 1) #[.slice aW nW cW, .slice aS nS cS] rfl rfl 33 _ R.out (by kernel_rfl) (by rfl) (by simp [Value.oneCell']) ?_))
  refine bodyPost_ret (v := .tuple #[.agg #[.slice aW nW cW, .slice aS nS cS], .int .i64 1]) (results_row_tmp rfl _ _ (w.heap.size + 1) 33 #[.slice aW nW cW, .slice aS nS cS] (0, 0) _ (by rfl) (setRow_heap _ _ _ _ _ _ R.out) Try.underlying33 rfl (by kernel_rfl) _ (by rfl)) rfl FIN.out
end Go.Proofs.Ytaogpodncphpjaa
