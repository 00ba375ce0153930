/- The walk of the statement PollPlays: the law answers true and turns nothing that was there. -/
import Derived.Test.YtcfgkblonnmblaaPAll
import Derived.Test.YtcfgkblonnmblaaLives11
import Derived.Test.YtcfgkblonnmblaaStructs
import Derived.OpenShut
import Derived.Deep.CutRange
import Derived.Deep.CutBlock
namespace Go.Proofs.Ytcfgkblonnmblaa.pollPlays
open Go.RowKit
set_option linter.unusedVariables false
set_option linter.unusedSimpArgs false

set_option maxRecDepth 100000 in
set_option maxHeartbeats 8000000 in
theorem walk (a0 : Option Addr) (len0 cap0 : Nat) (z0 : Nat → Nat → Int) (a1 a2 : Int) (w : World) (w0 : IsStructs [.u8, .u16, .i64] w a0 len0 cap0 z0) (w1 : (Lit.int .u16 a1).wf = true) (w2 : (Lit.int .i64 a2).wf = true) :
    Calls Try.prog 3 #[.slice a0 len0 cap0, .int .u16 a1, .int .i64 a2] w fun e w' => e = .returned (.bool true) ∧ Below w.heap.size w w' := by
  obtain ⟨x0, x1⟩ := bounds_u16 w1
  clear w1 w2
  by_cases hlen : (60 : Int) < len0
  · go_enter Try.func3, Try.ntmps3
    go_wp2_with fail
    refine (lives11 _).mono ?_
    rintro e w2 ⟨rfl, hb1⟩
    go_wp2_with fail
    refine (lives11 _).mono ?_
    rintro e w3 ⟨rfl, hb2⟩
    go_wp2
    go_ret
    exact ⟨rfl, hb1.trans (hb2.mono hb1.size)⟩
  · have hlen' : len0 ≤ 60 := by omega
    have W0 := hid w0
    clear w0 hlen
    go_enter Try.func3, Try.ntmps3
    go_wp2_with fail
    refine (lives11 _).mono ?_
    rintro e w2 ⟨rfl, hb1⟩
    have HB1 := hid hb1
    clear hb1
    go_wp2_with fail
    refine (pnewZ _).mono ?_
    rintro e w3 ⟨Y, p, b1, b2, b3, rfl, q3, bl3, hz, hz2⟩
    obtain ⟨D, hD⟩ : ∃ D, D = w3.heap.size := ⟨_, rfl⟩
    have S0 : Hid (PW w p b1 b2 b3 D 0 [] [] [] [] (.slice none 0 0) (.slice none 0 0) (w3.alloc (.cells #[.slice none 0 0, .slice none 0 0] 30))) := by
      obtain ⟨l1, l2, l3, l4⟩ := q3.lt
      have s3 := bl3.size
      have sw := HB1.out.size
      obtain ⟨z1, z2, z3, z4⟩ := q3.zf
      have n1 : w2.heap.size ≤ p := Nat.le_of_not_lt fun q => z1 (hz _ q)
      have n2 : w2.heap.size ≤ b1 := Nat.le_of_not_lt fun q => z2 (hz _ q)
      have n3 : w2.heap.size ≤ b2 := Nat.le_of_not_lt fun q => z3 (hz _ q)
      have n4 : w2.heap.size ≤ b3 := Nat.le_of_not_lt fun q => z4 (hz _ q)
      have q4 : Pq (Zn p b1 b2 b3) w3 p b1 b2 b3 [] [] := ⟨q3.box, q3.m1, q3.m2, q3.m3, q3.n1, q3.n2, q3.n3, q3.ne, ⟨fun h => h.1 rfl, fun h => h.2.1 rfl, fun h => h.2.2.1 rfl, fun h => h.2.2.2 rfl⟩⟩
      refine hid ⟨q4.below (bl_al _ _), by rw [hD]; exact heap_alloc_new _ _, ⟨RdW.nil _, ⟨none, 0, rfl, ⟨by simp, by unfold maxLen; omega, .inl ⟨rfl, rfl⟩⟩, fun h => absurd h (by simp)⟩, by simp, by simp⟩, (fun q hq => by simp [Value.ownBlock] at hq), (fun q hq => by simp [Value.ownBlock] at hq), ⟨by omega, by omega, by omega, by omega⟩, (fun e he => by cases he), by simp, (HB1.out.trans (bl3.mono sw)).trans ((bl_al _ _).mono (by omega)), by omega⟩
    clear q3 bl3 hz hz2 HB1
    go_wp2_with fail
    rw [← hD]
    clear hD
    generalize w3.alloc (.cells #[.slice none 0 0, .slice none 0 0] 30) = w4 at *
    go_loopw [43] (fun i wr => ∃ (k : Nat) (V : List (Int × Int)) (S : List Int) (vW vS : Value), k ≤ len0 ∧ i = .int .i64 k ∧ Hid (PW w p b1 b2 b3 D k V S V S vW vS wr) ∧ Below w.heap.size w wr) (fun i _ => len0 - (intOf i).toNat)
    case atStart => exact ⟨0, [], [], _, _, by omega, rfl, S0, S0.out.bl⟩
    case round =>
      clear S0
      obtain ⟨k, V, S, vW, vS, hk, rfl, F, hbr⟩ := hrel
      by_cases hlt : k < len0
      · obtain ⟨bx, off, rfl, hcell⟩ := W0.out.open (by omega) (by simp)
        obtain ⟨hq0, hw0⟩ := hcell _ hbr k hlt 0 .u8 rfl
        obtain ⟨hq1, hw1⟩ := hcell _ hbr k hlt 1 .u16 rfl
        obtain ⟨hq2, hw2⟩ := hcell _ hbr k hlt 2 .i64 rfl
        obtain ⟨K, hK⟩ : ∃ x, x = z0 k 0 := ⟨_, rfl⟩
        obtain ⟨fd, hG⟩ : ∃ x, x = z0 k 1 := ⟨_, rfl⟩
        obtain ⟨G, hM⟩ : ∃ x, x = z0 k 2 := ⟨_, rfl⟩
        rw [← hK] at hq0 hw0
        rw [← hG] at hq1 hw1
        rw [← hM] at hq2
        obtain ⟨K0, K1⟩ := bounds_u8 hw0
        obtain ⟨f0, f1⟩ := bounds_u16 hw1
        simp only [List.length_cons, List.length_nil, Nat.reduceAdd, Nat.add_zero] at hq0 hq1 hq2
        rw [← Nat.add_assoc] at hq1 hq2
        clear hcell hw0 hw1 hw2 hK hG hM hbr
        have FA := hid (F.out.below (bl_al wr (.cells #[.int .u8 K, .int .u16 fd, .int .i64 G] 32)))
        have EB := hid (show (wr.alloc (.cells #[.int .u8 K, .int .u16 fd, .int .i64 G] 32)).heap[wr.heap.size]? = some (.cells #[.int .u8 K, .int .u16 fd, .int .i64 G] 32 (0, 0)) from heap_alloc_new _ _)
        have EZ := hid (show Zn p b1 b2 b3 wr.heap.size ∧ wr.heap.size ≠ D by
          obtain ⟨l1, l2, l3, l4⟩ := F.out.pq.lt
          have := blk_lt F.out.bx
          exact ⟨⟨by omega, by omega, by omega, by omega⟩, by omega⟩)
        have hk60 : k < 60 := by omega
        clear F
        go_upto_block 2 with (fail)
        go_cut [11, 12, 13, 14, 15, 16, 17, 18, 19, 20, 21, 22, 43] from 44 to 215 (fun s11 s12 s13 s14 s15 s16 s17 s18 s19 s20 s21 s22 s43 wc => ∃ (V2 : List (Int × Int)) (S2 : List Int) (vW2 vS2 : Value), s43 = .int .i64 k ∧ Hid (PW w p b1 b2 b3 D (k + 1) V2 S2 V2 S2 vW2 vS2 wc) ∧ Hid (wc.heap[wr.heap.size]? = some (.cells #[.int .u8 K, .int .u16 fd, .int .i64 G] 32 (0, 0))))
        case first => as_aux_lemma =>
          rcases (show (K % 6 = 0 ∨ K % 6 = 1) ∨ (K % 6 = 2 ∨ K % 6 = 3) ∨ K % 6 = 4 ∨ K % 6 = 5 by omega) with (hq | hq) | (hq | hq) | hq | hq
          · as_aux_lemma =>
              have t2 : (K % 6 == 2) = false := by simp [hq]
              have t3 : (K % 6 == 3) = false := by simp [hq]
              have t4 : (K % 6 == 4) = false := by simp [hq]
              have t5 : (K % 6 == 5) = false := by simp [hq]
              clear hq
              have hln := FA.out.ln
              have y0 := blk_cell FA.out.bx (i := 0) rfl
              have y1 := blk_cell FA.out.bx (i := 1) rfl
              have e1 := blk_cell EB.out (i := 1) rfl
              have e2 := blk_cell EB.out (i := 2) rfl
              obtain ⟨aW, nW, cW, aS, nS, cS, rfl, rfl, HNW, HNS, lw, ls⟩ := FA.out.dp.sl
              have DC := hid (rput_all _ _ _ V S FA.out.dp (by omega) fd G)
              have HLN := hid hln
              have WH := hid (fun fd => FA.out.who fd)
              generalize hpe : putE V fd G = pe at *
              go_wp2_with fail
              refine DC.out.mono ?_
              rintro e w5 ⟨vW5, vS5, rfl, d5, hb5, k1, k2⟩
              have P6 := hid (FA.out.doc d5 hb5 k1 k2 (putV_gv FA.out.gv f0 f1) (k' := k + 1) (by have := putV_len V fd G; omega) (.cells #[vW5, vS5] 30))
              have D6 := hid ((Below.heap_alloc w5 (.cells #[vW5, vS5] 30) D (by have := blk_lt FA.out.bx; have := hb5.size; omega)).trans ((hb5.block D (blk_lt FA.out.bx)).trans FA.out.bx))
              have E6 := hid (show ((w5.alloc (.cells #[vW5, vS5] 30)).setRow D #[vW5, vS5]).heap[wr.heap.size]? = some (.cells #[.int .u8 K, .int .u16 fd, .int .i64 G] 32 (0, 0)) by
                rw [row_other _ _ _ _ EZ.out.2, Below.heap_alloc _ _ _ (by have := blk_lt EB.out; have := hb5.size; omega), hb5.block _ (blk_lt EB.out)]; exact EB.out)
              obtain ⟨aX, nX, cX, aY, nY, cY, rfl, rfl, _, _, _, _⟩ := d5.sl
              clear d5 hb5 k1 k2 DC FA y0 y1 e1 e2 hln
              have e1 := blk_cell E6.out (i := 1) rfl
              have e2 := blk_cell E6.out (i := 2) rfl
              go_wp2_with (first
                | (refine wpList_store_row rfl 30 (.tmp 8) (.tmp 60) rfl D #[.slice aX nX cX, .slice aY nY cY] rfl rfl 30 _ D6.out (by kernel_rfl) (by rfl) (by simp [Value.oneCell']) ?_))
              generalize (w5.alloc (.cells #[.slice aX nX cX, .slice aY nY cY] 30)).setRow D #[.slice aX nX cX, .slice aY nY cY] = w6 at *
              have PC := hid (pwait_all P6.out.pq (by have := HLN.out; omega) WH.out fd G)
              refine PC.out.mono ?_
              rintro e w7 ⟨rfl, hf7, hq7⟩
              have P7 := hid (P6.out.prog hf7 hq7)
              have E7 := hid ((hf7.block wr.heap.size (blk_lt E6.out) EZ.out.1).trans E6.out)
              clear hf7 hq7 P6 E6 PC e1 e2
              go_wp2_with fail
              go_meet
              exact ⟨_, _, _, _, rfl, P7, E7⟩
          · as_aux_lemma =>
              have t2 : (K % 6 == 2) = false := by simp [hq]
              have t3 : (K % 6 == 3) = false := by simp [hq]
              have t4 : (K % 6 == 4) = false := by simp [hq]
              have t5 : (K % 6 == 5) = false := by simp [hq]
              clear hq
              have hln := FA.out.ln
              have y0 := blk_cell FA.out.bx (i := 0) rfl
              have y1 := blk_cell FA.out.bx (i := 1) rfl
              have e1 := blk_cell EB.out (i := 1) rfl
              have e2 := blk_cell EB.out (i := 2) rfl
              obtain ⟨aW, nW, cW, aS, nS, cS, rfl, rfl, HNW, HNS, lw, ls⟩ := FA.out.dp.sl
              have DC := hid (rput_all _ _ _ V S FA.out.dp (by omega) fd G)
              have HLN := hid hln
              have WH := hid (fun fd => FA.out.who fd)
              generalize hpe : putE V fd G = pe at *
              go_wp2_with fail
              refine DC.out.mono ?_
              rintro e w5 ⟨vW5, vS5, rfl, d5, hb5, k1, k2⟩
              have P6 := hid (FA.out.doc d5 hb5 k1 k2 (putV_gv FA.out.gv f0 f1) (k' := k + 1) (by have := putV_len V fd G; omega) (.cells #[vW5, vS5] 30))
              have D6 := hid ((Below.heap_alloc w5 (.cells #[vW5, vS5] 30) D (by have := blk_lt FA.out.bx; have := hb5.size; omega)).trans ((hb5.block D (blk_lt FA.out.bx)).trans FA.out.bx))
              have E6 := hid (show ((w5.alloc (.cells #[vW5, vS5] 30)).setRow D #[vW5, vS5]).heap[wr.heap.size]? = some (.cells #[.int .u8 K, .int .u16 fd, .int .i64 G] 32 (0, 0)) by
                rw [row_other _ _ _ _ EZ.out.2, Below.heap_alloc _ _ _ (by have := blk_lt EB.out; have := hb5.size; omega), hb5.block _ (blk_lt EB.out)]; exact EB.out)
              obtain ⟨aX, nX, cX, aY, nY, cY, rfl, rfl, _, _, _, _⟩ := d5.sl
              clear d5 hb5 k1 k2 DC FA y0 y1 e1 e2 hln
              have e1 := blk_cell E6.out (i := 1) rfl
              have e2 := blk_cell E6.out (i := 2) rfl
              go_wp2_with (first
                | (refine wpList_store_row rfl 30 (.tmp 8) (.tmp 60) rfl D #[.slice aX nX cX, .slice aY nY cY] rfl rfl 30 _ D6.out (by kernel_rfl) (by rfl) (by simp [Value.oneCell']) ?_))
              generalize (w5.alloc (.cells #[.slice aX nX cX, .slice aY nY cY] 30)).setRow D #[.slice aX nX cX, .slice aY nY cY] = w6 at *
              have PC := hid (pwait_all P6.out.pq (by have := HLN.out; omega) WH.out fd G)
              refine PC.out.mono ?_
              rintro e w7 ⟨rfl, hf7, hq7⟩
              have P7 := hid (P6.out.prog hf7 hq7)
              have E7 := hid ((hf7.block wr.heap.size (blk_lt E6.out) EZ.out.1).trans E6.out)
              clear hf7 hq7 P6 E6 PC e1 e2
              go_wp2_with fail
              go_meet
              exact ⟨_, _, _, _, rfl, P7, E7⟩
          · as_aux_lemma =>
              have t2 : (K % 6 == 2) = true := by simp [hq]
              have t3 : (K % 6 == 3) = false := by simp [hq]
              have t4 : (K % 6 == 4) = false := by simp [hq]
              have t5 : (K % 6 == 5) = false := by simp [hq]
              clear hq
              have hln := FA.out.ln
              have y0 := blk_cell FA.out.bx (i := 0) rfl
              have y1 := blk_cell FA.out.bx (i := 1) rfl
              have e1 := blk_cell EB.out (i := 1) rfl
              have e2 := blk_cell EB.out (i := 2) rfl
              obtain ⟨aW, nW, cW, aS, nS, cS, rfl, rfl, HNW, HNS, lw, ls⟩ := FA.out.dp.sl
              have DC := hid (rmark_all _ _ _ V S FA.out.dp (by omega) fd)
              have HLN := hid hln
              go_wp2_with fail
              refine DC.out.mono ?_
              rintro e w5 ⟨vW5, vS5, rfl, d5, hb5, k1, k2⟩
              have P6 := hid (FA.out.doc d5 hb5 k1 k2 (FA.out.gv) (k' := k + 1) (by have := markS_len S fd; omega) (.cells #[vW5, vS5] 30))
              have D6 := hid ((Below.heap_alloc w5 (.cells #[vW5, vS5] 30) D (by have := blk_lt FA.out.bx; have := hb5.size; omega)).trans ((hb5.block D (blk_lt FA.out.bx)).trans FA.out.bx))
              have E6 := hid (show ((w5.alloc (.cells #[vW5, vS5] 30)).setRow D #[vW5, vS5]).heap[wr.heap.size]? = some (.cells #[.int .u8 K, .int .u16 fd, .int .i64 G] 32 (0, 0)) by
                rw [row_other _ _ _ _ EZ.out.2, Below.heap_alloc _ _ _ (by have := blk_lt EB.out; have := hb5.size; omega), hb5.block _ (blk_lt EB.out)]; exact EB.out)
              obtain ⟨aX, nX, cX, aY, nY, cY, rfl, rfl, _, _, _, _⟩ := d5.sl
              clear d5 hb5 k1 k2 DC FA y0 y1 e1 e2 hln
              have e1 := blk_cell E6.out (i := 1) rfl
              have e2 := blk_cell E6.out (i := 2) rfl
              go_wp2_with (first
                | (refine wpList_store_row rfl 30 (.tmp 8) (.tmp 80) rfl D #[.slice aX nX cX, .slice aY nY cY] rfl rfl 30 _ D6.out (by kernel_rfl) (by rfl) (by simp [Value.oneCell']) ?_))
              generalize (w5.alloc (.cells #[.slice aX nX cX, .slice aY nY cY] 30)).setRow D #[.slice aX nX cX, .slice aY nY cY] = w6 at *
              have PC := hid (pready_all P6.out.pq (by have := HLN.out; omega) fd)
              refine PC.out.mono ?_
              rintro e w7 ⟨rfl, hf7, hq7⟩
              have P7 := hid (P6.out.prog hf7 hq7)
              have E7 := hid ((hf7.block wr.heap.size (blk_lt E6.out) EZ.out.1).trans E6.out)
              clear hf7 hq7 P6 E6 PC e1 e2
              go_wp2_with fail
              go_meet
              exact ⟨_, _, _, _, rfl, P7, E7⟩
          · as_aux_lemma =>
              have t2 : (K % 6 == 2) = false := by simp [hq]
              have t3 : (K % 6 == 3) = true := by simp [hq]
              have t4 : (K % 6 == 4) = false := by simp [hq]
              have t5 : (K % 6 == 5) = false := by simp [hq]
              clear hq
              have hln := FA.out.ln
              have y0 := blk_cell FA.out.bx (i := 0) rfl
              have y1 := blk_cell FA.out.bx (i := 1) rfl
              have e1 := blk_cell EB.out (i := 1) rfl
              have e2 := blk_cell EB.out (i := 2) rfl
              obtain ⟨aW, nW, cW, aS, nS, cS, rfl, rfl, HNW, HNS, lw, ls⟩ := FA.out.dp.sl
              have DC := hid (rmark_all _ _ _ V S FA.out.dp (by omega) fd)
              have HLN := hid hln
              go_wp2_with fail
              refine DC.out.mono ?_
              rintro e w5 ⟨vW5, vS5, rfl, d5, hb5, k1, k2⟩
              have P6 := hid (FA.out.doc d5 hb5 k1 k2 (FA.out.gv) (k' := k + 1) (by have := markS_len S fd; omega) (.cells #[vW5, vS5] 30))
              have D6 := hid ((Below.heap_alloc w5 (.cells #[vW5, vS5] 30) D (by have := blk_lt FA.out.bx; have := hb5.size; omega)).trans ((hb5.block D (blk_lt FA.out.bx)).trans FA.out.bx))
              have E6 := hid (show ((w5.alloc (.cells #[vW5, vS5] 30)).setRow D #[vW5, vS5]).heap[wr.heap.size]? = some (.cells #[.int .u8 K, .int .u16 fd, .int .i64 G] 32 (0, 0)) by
                rw [row_other _ _ _ _ EZ.out.2, Below.heap_alloc _ _ _ (by have := blk_lt EB.out; have := hb5.size; omega), hb5.block _ (blk_lt EB.out)]; exact EB.out)
              obtain ⟨aX, nX, cX, aY, nY, cY, rfl, rfl, _, _, _, _⟩ := d5.sl
              clear d5 hb5 k1 k2 DC FA y0 y1 e1 e2 hln
              have e1 := blk_cell E6.out (i := 1) rfl
              have e2 := blk_cell E6.out (i := 2) rfl
              go_wp2_with (first
                | (refine wpList_store_row rfl 30 (.tmp 8) (.tmp 80) rfl D #[.slice aX nX cX, .slice aY nY cY] rfl rfl 30 _ D6.out (by kernel_rfl) (by rfl) (by simp [Value.oneCell']) ?_))
              generalize (w5.alloc (.cells #[.slice aX nX cX, .slice aY nY cY] 30)).setRow D #[.slice aX nX cX, .slice aY nY cY] = w6 at *
              have PC := hid (pready_all P6.out.pq (by have := HLN.out; omega) fd)
              refine PC.out.mono ?_
              rintro e w7 ⟨rfl, hf7, hq7⟩
              have P7 := hid (P6.out.prog hf7 hq7)
              have E7 := hid ((hf7.block wr.heap.size (blk_lt E6.out) EZ.out.1).trans E6.out)
              clear hf7 hq7 P6 E6 PC e1 e2
              go_wp2_with fail
              go_meet
              exact ⟨_, _, _, _, rfl, P7, E7⟩
          · as_aux_lemma =>
              have t2 : (K % 6 == 2) = false := by simp [hq]
              have t3 : (K % 6 == 3) = false := by simp [hq]
              have t4 : (K % 6 == 4) = true := by simp [hq]
              have t5 : (K % 6 == 5) = false := by simp [hq]
              clear hq
              have hln := FA.out.ln
              have y0 := blk_cell FA.out.bx (i := 0) rfl
              have y1 := blk_cell FA.out.bx (i := 1) rfl
              have e1 := blk_cell EB.out (i := 1) rfl
              have e2 := blk_cell EB.out (i := 2) rfl
              obtain ⟨aW, nW, cW, aS, nS, cS, rfl, rfl, HNW, HNS, lw, ls⟩ := FA.out.dp.sl
              have DC := hid (rtake_all _ _ _ V S FA.out.dp (fun e he => (FA.out.gv e he).1) FA.out.nd.1)
              have HLN := hid hln
              have GV := hid FA.out.gv
              have ND := hid FA.out.nd.1
              have TR := hid (tkP_range FA.out.gv S FA.out.nd.1)
              go_wp2_with fail
              refine DC.out.mono ?_
              rintro e w5 ⟨vW5, vS5, rfl, d5, hb5, k1, k2⟩
              have P6 := hid (FA.out.doc d5 hb5 k1 k2 (tkV_gv FA.out.gv) (k' := k + 1) (by have := tkV_len V S; have := tkS_len V S; omega) (.cells #[vW5, vS5] 30))
              have D6 := hid ((Below.heap_alloc w5 (.cells #[vW5, vS5] 30) D (by have := blk_lt FA.out.bx; have := hb5.size; omega)).trans ((hb5.block D (blk_lt FA.out.bx)).trans FA.out.bx))
              have E6 := hid (show ((w5.alloc (.cells #[vW5, vS5] 30)).setRow D #[vW5, vS5]).heap[wr.heap.size]? = some (.cells #[.int .u8 K, .int .u16 fd, .int .i64 G] 32 (0, 0)) by
                rw [row_other _ _ _ _ EZ.out.2, Below.heap_alloc _ _ _ (by have := blk_lt EB.out; have := hb5.size; omega), hb5.block _ (blk_lt EB.out)]; exact EB.out)
              obtain ⟨aX, nX, cX, aY, nY, cY, rfl, rfl, _, _, _, _⟩ := d5.sl
              clear d5 hb5 k1 k2 DC FA y0 y1 e1 e2 hln
              have e1 := blk_cell E6.out (i := 1) rfl
              have e2 := blk_cell E6.out (i := 2) rfl
              go_wp2_with (first
                | (refine wpList_store_row rfl 30 (.tmp 8) (.tmp 96) rfl D #[.slice aX nX cX, .slice aY nY cY] rfl rfl 30 _ D6.out (by kernel_rfl) (by rfl) (by simp [Value.oneCell']) ?_))
              generalize (w5.alloc (.cells #[.slice aX nX cX, .slice aY nY cY] 30)).setRow D #[.slice aX nX cX, .slice aY nY cY] = w6 at *
              have PC := hid (ptake_all P6.out.pq (fun e he => (GV.out e he).1) ND.out)
              refine PC.out.mono ?_
              rintro e w7 ⟨rfl, hf7, hq7⟩
              have P7 := hid (P6.out.prog hf7 hq7)
              have E7 := hid ((hf7.block wr.heap.size (blk_lt E6.out) EZ.out.1).trans E6.out)
              clear hf7 hq7 P6 E6 PC e1 e2
              obtain ⟨r0, r1⟩ := TR.out
              generalize (tkP V S).1 = tm at *
              generalize (tkP V S).2 = ty at *
              have hne1 : (tm != tm) = false := by simp
              have hne2 : (ty != ty) = false := by simp
              go_wp2_with fail
              go_meet
              exact ⟨_, _, _, _, rfl, P7, E7⟩
          · as_aux_lemma =>
              have t2 : (K % 6 == 2) = false := by simp [hq]
              have t3 : (K % 6 == 3) = false := by simp [hq]
              have t4 : (K % 6 == 4) = false := by simp [hq]
              have t5 : (K % 6 == 5) = true := by simp [hq]
              clear hq
              have hln := FA.out.ln
              have NDV := hid FA.out.nd.1
              have GV := hid FA.out.gv
              have PC := hid (pcopy FA.out.pq)
              go_wp2_with fail
              refine PC.out.mono ?_
              rintro e w5 ⟨c, c1, c2, c3, rfl, q5, hb5⟩
              have E5 := hid ((hb5.block wr.heap.size (blk_lt EB.out)).trans EB.out)
              have R5 := hid (pready_all q5 (by omega) fd)
              have HB5 := hid hb5
              have e1 := blk_cell E5.out (i := 1) rfl
              clear PC EB q5 hb5
              go_wp2_with fail
              refine R5.out.mono ?_
              rintro e w6 ⟨rfl, hf6, q6⟩
              have T6 := hid (ptake_all q6 (fun e he => (GV.out e he).1) NDV.out)
              have HF6 := hid hf6
              clear q6 hf6 R5 e1
              go_wp2_with fail
              refine T6.out.mono ?_
              rintro e w7 ⟨rfl, hf7, q7⟩
              have hb7 := HB5.out.trans ((HF6.out.trans hf7).below (fun q hq => hq) HB5.out.size)
              have P7 := hid (FA.out.below hb7).more
              have E7 := hid (((HF6.out.trans hf7).block wr.heap.size (by have := HB5.out.size; simp at this; omega) (by simp)).trans E5.out)
              clear hf7 q7 T6 HF6 HB5 FA hb7 E5 NDV GV
              go_wp2_with fail
              go_meet
              exact ⟨_, _, _, _, rfl, P7, E7⟩
        case rest =>
          obtain ⟨V2, S2, vW2, vS2, rfl, P2, E2⟩ := hcut
          clear FA EB EZ
          generalize wr.heap.size = E at *
          obtain ⟨aW, nW, cW, aS, nS, cS, rfl, rfl, _, _, _, _⟩ := P2.out.dp.sl
          obtain ⟨HQ, hHQ⟩ : ∃ HQ : World → Prop, HQ = fun y => PW w p b1 b2 b3 D (k + 1) V2 S2 V2 S2 (.slice aW nW cW) (.slice aS nS cS) y ∧ y.heap[E]? = some (.cells #[.int .u8 K, .int .u16 fd, .int .i64 G] 32 (0, 0)) := ⟨_, rfl⟩
          have H0 : HQ wc := by rw [hHQ]; exact ⟨P2.out, E2.out⟩
          have UQ : Hid (∀ y, HQ y → PW w p b1 b2 b3 D (k + 1) V2 S2 V2 S2 (.slice aW nW cW) (.slice aS nS cS) y) := hid (fun y hy => by rw [hHQ] at hy; exact hy.1)
          have HB : Hid (∀ y y', HQ y → Below y.heap.size y y' → HQ y') := hid (fun y y' hy hb => by rw [hHQ] at hy ⊢; exact ⟨hy.1.below hb, (hb.block _ (blk_lt hy.2)).trans hy.2⟩)
          have HS : Hid (∀ y, HQ y → y.cell? ⟨D, 0, none⟩ = some (.slice aW nW cW) ∧ y.cell? ⟨D, 1, none⟩ = some (.slice aS nS cS) ∧ y.cell? ⟨E, 1, none⟩ = some (.int .u16 fd) ∧ y.cell? ⟨E, 2, none⟩ = some (.int .i64 G)) := hid (fun y hy => by
            rw [hHQ] at hy
            exact ⟨blk_cell hy.1.bx rfl, blk_cell hy.1.bx rfl, blk_cell hy.2 rfl, blk_cell hy.2 rfl⟩)
          have hln := P2.out.ln
          obtain ⟨n, hn⟩ : ∃ n, n = plen V2.reverse S2.reverse := ⟨_, rfl⟩
          have hr := P2.out.len
          rw [← hn] at hr
          have CL := hid (fun y (hy : HQ y) => ((plen_r (UQ.out y hy).pq (by simp; omega)).mono (fun e y' (h : _ ∧ _) => And.intro h.1 (HB.out y y' hy h.2))))
          rw [← hn] at CL
          have CR := hid (fun y (hy : HQ y) => ((rlen_any y _ _ V2 S2 (UQ.out y hy).dp).mono (fun e y' (h : _ ∧ _) => And.intro h.1 (HB.out y y' hy h.2))))
          rw [hr] at CR
          obtain ⟨d, hd⟩ : ∃ d, d = dueB V2 S2 := ⟨_, rfl⟩
          have CD := hid (fun y (hy : HQ y) => ((pdue (UQ.out y hy).pq).mono (fun e y' (h : _ ∧ _) => And.intro h.1 (HB.out y y' hy h.2))))
          rw [due_rev, show (V2.any fun e => decide (e.1 ∈ S2)) = d from hd.symm] at CD
          have CT := hid (fun y (hy : HQ y) => ((rtake_all y _ _ V2 S2 (UQ.out y hy).dp (fun e he => ((UQ.out y hy).gv e he).1) (UQ.out y hy).nd.1).mono (R' := fun e y' => ∃ aX nX cX aY nY cY m z, e = .returned (.tuple #[.agg #[.slice aX nX cX, .slice aY nY cY], .int .i64 m, .int .i64 z, .bool d]) ∧ HQ y') (fun e y' h => by
            obtain ⟨vX, vY, rfl, d5, hb, _⟩ := h
            obtain ⟨aX, nX, cX, aY, nY, cY, rfl, rfl, _⟩ := d5.sl
            rw [← hd]
            exact ⟨_, _, _, _, _, _, _, _, rfl, HB.out y y' hy hb⟩)))
          have CH := hid (fun (g : Int) (y : World) (hy : HQ y) => ((phas (UQ.out y hy).pq g).mono (R' := fun e y' => e = .returned (.bool (rhasb V2 g)) ∧ HQ y') (fun e y' h => by
            obtain ⟨rfl, rfl⟩ := h
            exact ⟨by rw [has_rev], hy⟩)))
          have RH := hid (fun (g : Int) (y : World) (hy : HQ y) => ((rhas_any y _ _ V2 S2 (UQ.out y hy).dp g _ rfl).mono (fun e y' (h : _ ∧ _) => And.intro h.1 (HB.out y y' hy h.2))))
          have CI := hid (fun (x : Int) (y : World) (hy : HQ y) => ((pis (UQ.out y hy).pq x _ rfl).mono (R' := fun e y' => e = .returned (.bool (decide (x ∈ S2))) ∧ HQ y' ∧ Below y.heap.size y y') (fun e y' h => by
            obtain ⟨rfl, rfl⟩ := h
            exact ⟨by simp, hy, Below.refl _ _⟩)))
          have RI := hid (fun (x : Int) (y : World) (hy : HQ y) => ((ris y _ _ V2 S2 (UQ.out y hy).dp x _ rfl).mono (fun e y' (h : _ ∧ _) => And.intro h.1 (And.intro (HB.out y y' hy h.2) h.2))))
          have CW := hid (fun (x : Int) (y : World) (hy : HQ y) => (show Calls Try.prog 18 #[.pointer (some ⟨p, 0, none⟩), .int .u16 x] y fun e y' => e = .returned (.tuple #[.int .i64 (if 0 ≤ rwho V2 x then rwho V2 x else 0), .bool (decide (0 ≤ rwho V2 x))]) ∧ HQ y' ∧ Below y.heap.size y y' from by
            have hP := UQ.out y hy
            by_cases h : 0 ≤ rwho V2 x
            · rw [if_pos h, decide_eq_true h]
              have hm : x ∈ V2.map Prod.fst := by
                refine Classical.byContradiction fun q => ?_
                rw [rwho_no q] at h; omega
              obtain ⟨⟨x', z⟩, he, rfl⟩ := List.mem_map.1 hm
              rw [rwho_mem hP.nd.1 he]
              exact (pwho_yes hP.pq (List.mem_reverse.2 he)).mono fun e y' hh => ⟨hh.1, by rw [hh.2]; exact hy, by rw [hh.2]; exact Below.refl _ _⟩
            · rw [if_neg h, decide_eq_false h]
              exact (pwho_no hP.pq (by rw [hP.who x, decide_eq_false h])).mono fun e y' hh => ⟨hh.1, by rw [hh.2]; exact hy, by rw [hh.2]; exact Below.refl _ _⟩))
          have RW := hid (fun (x : Int) (y : World) (hy : HQ y) => ((rwho_any y _ _ V2 S2 (UQ.out y hy).dp x _ rfl).mono (fun e y' (h : _ ∧ _) => And.intro h.1 (And.intro (HB.out y y' hy h.2) h.2))))
          obtain ⟨y0, y1, e1, e2⟩ := HS.out wc H0
          clear P2 E2 hHQ hn hr hd hln
          go_wp2_with fail
          refine (CT.out _ H0).mono ?_
          rintro e z1 ⟨aX, nX, cX, aY, nY, cY, m, z, rfl, H1⟩
          have H2 := HB.out _ _ H1 (bl_al z1 (.cells #[.slice aX nX cX, .slice aY nY cY] 30))
          clear H0 H1 y0 y1 e1 e2 CT
          go_wp2_with fail
          generalize z1.alloc (.cells #[.slice aX nX cX, .slice aY nY cY] 30) = z2 at *
          have nn : ((n : Int) != (n : Int)) = false := by simp
          have dd : (d != d) = false := by simp
          have g1 := CH.out a2
          have g2 := CH.out G
          have r1 := RH.out a2
          have r2 := RH.out G
          have b1n : (rhasb V2 a2 != rhasb V2 a2) = false := by simp
          have b2n : (rhasb V2 G != rhasb V2 G) = false := by simp
          have G1 := hid g1
          have G2 := hid g2
          have R1 := hid r1
          have R2 := hid r2
          clear g1 g2 r1 r2
          generalize rhasb V2 a2 = ba at *
          generalize rhasb V2 G = bg at *
          have HD := HB.out _ _ H2 (bl_drw z2 _)
          go_upto_region 30 with (fail)
          go_cut [43, 164] from 44 to 215 (fun s43 s164 wx => s43 = .int .i64 k ∧ s164 = .bool false ∧ HQ wx)
          case first => as_aux_lemma =>
            go_region_held3 (fun y => y.cell? ⟨D, 0, none⟩ = some (.slice aW nW cW) ∧ y.cell? ⟨D, 1, none⟩ = some (.slice aS nS cS) ∧ y.cell? ⟨E, 1, none⟩ = some (.int .u16 fd) ∧ y.cell? ⟨E, 2, none⟩ = some (.int .i64 G))
              (first
                | exact HS.out _ (by assumption))
              (first
                | (go_at_call 13; (with_reducible refine (CL.out _ (by assumption)).mono ?_); rintro e y ⟨rfl, HL⟩)
                | (go_at_call 14; (with_reducible refine (CR.out _ (by assumption)).mono ?_); rintro e y ⟨rfl, HL2⟩)
                | (go_at_call 15; (with_reducible refine (CD.out _ (by assumption)).mono ?_); rintro e y ⟨rfl, HL3⟩)
                | (go_at_call 16; (with_reducible refine (G1.out _ (by assumption)).mono ?_); rintro e y ⟨rfl, HL4⟩)
                | (go_at_call 17; (with_reducible refine (R1.out _ (by assumption)).mono ?_); rintro e y ⟨rfl, HL5⟩)
                | (go_at_call 16; (with_reducible refine (G2.out _ (by assumption)).mono ?_); rintro e y ⟨rfl, HL6⟩)
                | (go_at_call 17; (with_reducible refine (R2.out _ (by assumption)).mono ?_); rintro e y ⟨rfl, HL7⟩))
            all_goals
              go_wp2_with fail
              go_meet
              exact ⟨rfl, rfl, by assumption⟩
          case rest => as_aux_lemma =>
            obtain ⟨rfl, rfl, H3⟩ := hcut
            obtain ⟨_, _, e1, _⟩ := HS.out wc H3
            have H4 := HB.out _ _ H3 (bl_al wc (.cells #[.int .u16 a1, .int .u16 fd] 23))
            have BX := hid (heap_alloc_new wc (.cells #[.int .u16 a1, .int .u16 fd] 23))
            clear HD H2 CL CR CD CH RH G1 G2 R1 R2 nn dd b1n b2n
            go_wp2_with fail
            generalize hw4 : wc.alloc (.cells #[.int .u16 a1, .int .u16 fd] 23) = w4' at *
            obtain ⟨X, hX⟩ : ∃ X, X = wc.heap.size := ⟨_, rfl⟩
            rw [← hX] at BX ⊢
            clear hX hw4 e1 H3
            obtain ⟨HX, hHX⟩ : ∃ HX : World → Prop, HX = fun y => HQ y ∧ y.heap[X]? = some (.cells #[.int .u16 a1, .int .u16 fd] 23 (0, 0)) := ⟨_, rfl⟩
            have H5 : HX w4' := by rw [hHX]; exact ⟨H4, BX.out⟩
            have XQ := hid (show ∀ y, HX y → HQ y from fun y h => by rw [hHX] at h; exact h.1)
            have XC := hid (show ∀ y, HX y → y.heap[X]? = some (.cells #[.int .u16 a1, .int .u16 fd] 23 (0, 0)) from fun y h => by rw [hHX] at h; exact h.2)
            have XB := hid (show ∀ y y', HX y → Below y.heap.size y y' → HX y' from fun y y' h hb => by rw [hHX] at h ⊢; exact ⟨HB.out y y' h.1 hb, (hb.block _ (blk_lt h.2)).trans h.2⟩)
            clear hHX H4 BX
            go_loopw [170] (fun i wy => ∃ j : Nat, j ≤ 2 ∧ i = .int .i64 j ∧ HX wy) (fun i _ => 2 - (intOf i).toNat)
            case atStart => exact ⟨0, by omega, rfl, H5⟩
            case round =>
              clear H5
              obtain ⟨j, hj, rfl, H5⟩ := hrel
              by_cases hj2 : j < 2
              · obtain ⟨x, hx, hx0, hx1⟩ : ∃ x, (#[Value.int .u16 a1, .int .u16 fd] : Array Value)[j]? = some (.int .u16 x) ∧ 0 ≤ x ∧ x ≤ 65535 := by
                  match j, hj2 with
                  | 0, _ => exact ⟨a1, rfl, x0, x1⟩
                  | 1, _ => exact ⟨fd, rfl, f0, f1⟩
                have c0 := blk_cell (XC.out _ H5) hx
                have hj0 : (0 : Int) ≤ j := by omega
                have hj1 : (j : Int) < 2 := by omega
                have W1 := hid (fun y (hy : HX y) => (CW.out x y (XQ.out y hy)).mono (fun e y' (h : _ ∧ _ ∧ _) => And.intro h.1 (XB.out y y' hy h.2.2)))
                have W2 := hid (fun y (hy : HX y) => (RW.out x y (XQ.out y hy)).mono (fun e y' (h : _ ∧ _ ∧ _) => And.intro h.1 (XB.out y y' hy h.2.2)))
                have I1 := hid (fun y (hy : HX y) => (CI.out x y (XQ.out y hy)).mono (fun e y' (h : _ ∧ _ ∧ _) => And.intro h.1 (XB.out y y' hy h.2.2)))
                have I2 := hid (fun y (hy : HX y) => (RI.out x y (XQ.out y hy)).mono (fun e y' (h : _ ∧ _ ∧ _) => And.intro h.1 (XB.out y y' hy h.2.2)))
                have XS := hid (fun y (hy : HX y) => HS.out y (XQ.out y hy))
                clear hx CW RW CI RI HS HB UQ XC
                generalize rwho V2 x = r at *
                generalize decide (x ∈ S2) = sb at *
                have ss : (sb != sb) = false := by simp
                obtain ⟨v, hv⟩ : ∃ v, v = (if 0 ≤ r then r else 0) := ⟨_, rfl⟩
                obtain ⟨b, hb⟩ : ∃ b, b = decide (0 ≤ r) := ⟨_, rfl⟩
                rw [← hv, ← hb] at W1
                have hcv : IntKind.i64.wrap x = x := by
                  have hb : IntKind.i64.bits = 64 := rfl
                  have hs : IntKind.i64.signed = true := rfl
                  simp [IntKind.wrap, hb, hs]; split <;> omega
                by_cases hr : 0 ≤ r
                · rw [if_pos hr] at hv
                  rw [decide_eq_true hr] at hb
                  subst hv
                  subst hb
                  go_wp2_with fail
                  refine (W1.out _ H5).mono ?_
                  rintro e y1 ⟨rfl, H6⟩
                  obtain ⟨q0, q1, _, _⟩ := XS.out _ H6
                  clear H5 W1 c0
                  go_wp2_with fail
                  refine (W2.out _ H6).mono ?_
                  rintro e y2 ⟨rfl, H7⟩
                  have H8 := XB.out _ _ H7 (bl_drw y2 _)
                  clear H6 W2 q0 q1
                  go_wp2_with fail
                  refine wp_region_held_drew (S := fun w' => w'.cell? ⟨D, 0, none⟩ = some (.slice aW nW cW) ∧ w'.cell? ⟨D, 1, none⟩ = some (.slice aS nS cS) ∧ w'.cell? ⟨E, 1, none⟩ = some (.int .u16 fd) ∧ w'.cell? ⟨E, 2, none⟩ = some (.int .i64 G)) (by kernel_rfl) (XS.out _ H8) (fun hHeld => ?_)
                  refine wpAnyH_take (i := 0) (oi := _) (v := ?_) rfl (by kernel_rfl) (by kernel_rfl) (by kernel_rfl) (fun _ _ _ h => h) (Or.inl ⟨by rfl, ?_⟩) (by assumption) ?_
                  rotate_left
                  · intro w hSw
                    try dsimp only at hSw
                    go_simp
                    with_reducible rfl
                  try simp only [Act.put, List.getElem_toArray, List.getElem_cons_zero, List.getElem_cons_succ, List.setIfInBounds_toArray, List.set_cons_zero, List.set_cons_succ]
                  refine wpAnyH_take (i := 1) (oi := _) (v := ?_) rfl (by kernel_rfl) (by kernel_rfl) (by kernel_rfl) (fun _ _ _ h => h) (Or.inl ⟨by rfl, ?_⟩) (by assumption) ?_
                  rotate_left
                  · intro w hSw
                    try dsimp only at hSw
                    go_simp
                    with_reducible rfl
                  try simp only [Act.put, List.getElem_toArray, List.getElem_cons_zero, List.getElem_cons_succ, List.setIfInBounds_toArray, List.set_cons_zero, List.set_cons_succ]
                  refine wpAnyH_take (i := 2) (oi := _) (v := .bool true) rfl (by kernel_rfl) (by kernel_rfl) (by kernel_rfl) (fun _ _ _ h => h) (Or.inl ⟨by rfl, ?_⟩) (by assumption) ?_
                  · intro w hSw
                    try dsimp only at hSw
                    go_simp
                    all_goals (first | with_reducible rfl | simp [hr])
                  try simp only [Act.put, List.getElem_toArray, List.getElem_cons_zero, List.getElem_cons_succ, List.setIfInBounds_toArray, List.set_cons_zero, List.set_cons_succ]
                  refine wpAnyH_take (i := 3) (oi := _) (v := ?_) rfl (by kernel_rfl) (by kernel_rfl) (by kernel_rfl) (fun _ _ _ h => h) (Or.inl ⟨by rfl, ?_⟩) (by assumption) ?_
                  rotate_left
                  · intro w hSw
                    try dsimp only at hSw
                    go_simp
                    with_reducible rfl
                  try simp only [Act.put, List.getElem_toArray, List.getElem_cons_zero, List.getElem_cons_succ, List.setIfInBounds_toArray, List.set_cons_zero, List.set_cons_succ]
                  refine wpAnyH_take (i := 4) (oi := _) (v := ?_) rfl (by kernel_rfl) (by kernel_rfl) (by kernel_rfl) (fun _ _ _ h => h) (Or.inl ⟨by rfl, ?_⟩) (by assumption) ?_
                  rotate_left
                  · intro w hSw
                    try dsimp only at hSw
                    go_simp
                    with_reducible rfl
                  try simp only [Act.put, List.getElem_toArray, List.getElem_cons_zero, List.getElem_cons_succ, List.setIfInBounds_toArray, List.set_cons_zero, List.set_cons_succ]
                  refine wpAnyH_take (i := 5) (oi := _) (v := ?_) rfl (by kernel_rfl) (by kernel_rfl) (by kernel_rfl) (fun _ _ _ h => h) (Or.inl ⟨by rfl, ?_⟩) (by assumption) ?_
                  rotate_left
                  · intro w hSw
                    try dsimp only at hSw
                    go_simp
                    with_reducible rfl
                  try simp only [Act.put, List.getElem_toArray, List.getElem_cons_zero, List.getElem_cons_succ, List.setIfInBounds_toArray, List.set_cons_zero, List.set_cons_succ]
                  refine wpAnyH_take (i := 6) (oi := _) (v := ?_) rfl (by kernel_rfl) (by kernel_rfl) (by kernel_rfl) (fun _ _ _ h => h) (Or.inl ⟨by rfl, ?_⟩) (by assumption) ?_
                  rotate_left
                  · intro w hSw
                    try dsimp only at hSw
                    go_simp
                    with_reducible rfl
                  try simp only [Act.put, List.getElem_toArray, List.getElem_cons_zero, List.getElem_cons_succ, List.setIfInBounds_toArray, List.set_cons_zero, List.set_cons_succ]
                  refine wpAnyH_take (i := 7) (oi := _) (v := ?_) rfl (by kernel_rfl) (by kernel_rfl) (by kernel_rfl) (fun _ _ _ h => h) (Or.inl ⟨by rfl, ?_⟩) (by assumption) ?_
                  rotate_left
                  · intro w hSw
                    try dsimp only at hSw
                    go_simp
                    with_reducible rfl
                  try simp only [Act.put, List.getElem_toArray, List.getElem_cons_zero, List.getElem_cons_succ, List.setIfInBounds_toArray, List.set_cons_zero, List.set_cons_succ]
                  refine wpAnyH_take (i := 8) (oi := _) (v := ?_) rfl (by kernel_rfl) (by kernel_rfl) (by kernel_rfl) (fun _ _ _ h => h) (Or.inl ⟨by rfl, ?_⟩) (by assumption) ?_
                  rotate_left
                  · intro w hSw
                    try dsimp only at hSw
                    go_simp
                    with_reducible rfl
                  try simp only [Act.put, List.getElem_toArray, List.getElem_cons_zero, List.getElem_cons_succ, List.setIfInBounds_toArray, List.set_cons_zero, List.set_cons_succ]
                  refine wpAnyH_take (i := 9) (oi := _) (v := .bool false) rfl (by kernel_rfl) (by kernel_rfl) (by kernel_rfl) (fun _ _ _ h => h) (Or.inl ⟨by rfl, ?_⟩) (by assumption) ?_
                  · intro w hSw
                    try dsimp only at hSw
                    go_simp
                    all_goals (first | with_reducible rfl | simp)
                  try simp only [Act.put, List.getElem_toArray, List.getElem_cons_zero, List.getElem_cons_succ, List.setIfInBounds_toArray, List.set_cons_zero, List.set_cons_succ]
                  refine wpAnyH_take (i := 10) (oi := _) (v := ?_) rfl (by kernel_rfl) (by kernel_rfl) (by kernel_rfl) (fun _ _ _ h => h) (Or.inl ⟨by rfl, ?_⟩) (by assumption) ?_
                  rotate_left
                  · intro w hSw
                    try dsimp only at hSw
                    go_simp
                    with_reducible rfl
                  try simp only [Act.put, List.getElem_toArray, List.getElem_cons_zero, List.getElem_cons_succ, List.setIfInBounds_toArray, List.set_cons_zero, List.set_cons_succ]
                  refine wpAnyH_take (i := 11) (oi := _) (v := ?_) rfl (by kernel_rfl) (by kernel_rfl) (by kernel_rfl) (fun _ _ _ h => h) (Or.inl ⟨by rfl, ?_⟩) (by assumption) ?_
                  rotate_left
                  · intro w hSw
                    try dsimp only at hSw
                    go_simp
                    with_reducible rfl
                  try simp only [Act.put, List.getElem_toArray, List.getElem_cons_zero, List.getElem_cons_succ, List.setIfInBounds_toArray, List.set_cons_zero, List.set_cons_succ]
                  refine wpAnyH_take (i := 12) (oi := _) (v := ?_) rfl (by kernel_rfl) (by kernel_rfl) (by kernel_rfl) (fun _ _ _ h => h) (Or.inl ⟨by rfl, ?_⟩) (by assumption) ?_
                  rotate_left
                  · intro w hSw
                    try dsimp only at hSw
                    go_simp
                    with_reducible rfl
                  try simp only [Act.put, List.getElem_toArray, List.getElem_cons_zero, List.getElem_cons_succ, List.setIfInBounds_toArray, List.set_cons_zero, List.set_cons_succ]
                  refine wpAnyH_take (i := 13) (oi := _) (v := ?_) rfl (by kernel_rfl) (by kernel_rfl) (by kernel_rfl) (fun _ _ _ h => h) (Or.inl ⟨by rfl, ?_⟩) (by assumption) ?_
                  rotate_left
                  · intro w hSw
                    try dsimp only at hSw
                    go_simp
                    with_reducible rfl
                  try simp only [Act.put, List.getElem_toArray, List.getElem_cons_zero, List.getElem_cons_succ, List.setIfInBounds_toArray, List.set_cons_zero, List.set_cons_succ]
                  refine wpAnyH_take (i := 14) (oi := _) (v := ?_) rfl (by kernel_rfl) (by kernel_rfl) (by kernel_rfl) (fun _ _ _ h => h) (Or.inl ⟨by rfl, ?_⟩) (by assumption) ?_
                  rotate_left
                  · intro w hSw
                    try dsimp only at hSw
                    go_simp
                    with_reducible rfl
                  try simp only [Act.put, List.getElem_toArray, List.getElem_cons_zero, List.getElem_cons_succ, List.setIfInBounds_toArray, List.set_cons_zero, List.set_cons_succ]
                  refine wpAnyH_take (i := 15) (oi := _) (v := ?_) rfl (by kernel_rfl) (by kernel_rfl) (by kernel_rfl) (fun _ _ _ h => h) (Or.inl ⟨by rfl, ?_⟩) (by assumption) ?_
                  rotate_left
                  · intro w hSw
                    try dsimp only at hSw
                    go_simp
                    with_reducible rfl
                  try simp only [Act.put, List.getElem_toArray, List.getElem_cons_zero, List.getElem_cons_succ, List.setIfInBounds_toArray, List.set_cons_zero, List.set_cons_succ]
                  refine wpAnyH_take (i := 16) (oi := _) (v := undef) rfl (by kernel_rfl) (by kernel_rfl) (by kernel_rfl) (fun _ _ _ h => h) (Or.inr ⟨by rfl, rfl⟩) (by assumption) ?_
                  try simp only [Act.put, List.getElem_toArray, List.getElem_cons_zero, List.getElem_cons_succ, List.setIfInBounds_toArray, List.set_cons_zero, List.set_cons_succ]
                  refine wpAnyH_take (i := 17) (oi := _) (v := undef) rfl (by kernel_rfl) (by kernel_rfl) (by kernel_rfl) (fun _ _ _ h => h) (Or.inr ⟨by rfl, rfl⟩) (by assumption) ?_
                  try simp only [Act.put, List.getElem_toArray, List.getElem_cons_zero, List.getElem_cons_succ, List.setIfInBounds_toArray, List.set_cons_zero, List.set_cons_succ]
                  refine wpAnyH_take (i := 18) (oi := _) (v := ?_) rfl (by kernel_rfl) (by kernel_rfl) (by kernel_rfl) (fun _ _ _ h => h) (Or.inl ⟨by rfl, ?_⟩) (by assumption) ?_
                  rotate_left
                  · intro w hSw
                    try dsimp only at hSw
                    go_simp
                    with_reducible rfl
                  try simp only [Act.put, List.getElem_toArray, List.getElem_cons_zero, List.getElem_cons_succ, List.setIfInBounds_toArray, List.set_cons_zero, List.set_cons_succ]
                  refine wpAnyH_take (i := 19) (oi := _) (v := ?_) rfl (by kernel_rfl) (by kernel_rfl) (by kernel_rfl) (fun _ _ _ h => h) (Or.inl ⟨by rfl, ?_⟩) (by assumption) ?_
                  rotate_left
                  · intro w hSw
                    try dsimp only at hSw
                    go_simp
                    with_reducible rfl
                  try simp only [Act.put, List.getElem_toArray, List.getElem_cons_zero, List.getElem_cons_succ, List.setIfInBounds_toArray, List.set_cons_zero, List.set_cons_succ]
                  refine wpAnyH_take (i := 20) (oi := _) (v := ?_) rfl (by kernel_rfl) (by kernel_rfl) (by kernel_rfl) (fun _ _ _ h => h) (Or.inl ⟨by rfl, ?_⟩) (by assumption) ?_
                  rotate_left
                  · intro w hSw
                    try dsimp only at hSw
                    go_simp
                    with_reducible rfl
                  try simp only [Act.put, List.getElem_toArray, List.getElem_cons_zero, List.getElem_cons_succ, List.setIfInBounds_toArray, List.set_cons_zero, List.set_cons_succ]
                  refine wpAnyH_take (i := 21) (oi := _) (v := ?_) rfl (by kernel_rfl) (by kernel_rfl) (by kernel_rfl) (fun _ _ _ h => h) (Or.inl ⟨by rfl, ?_⟩) (by assumption) ?_
                  rotate_left
                  · intro w hSw
                    try dsimp only at hSw
                    go_simp
                    with_reducible rfl
                  try simp only [Act.put, List.getElem_toArray, List.getElem_cons_zero, List.getElem_cons_succ, List.setIfInBounds_toArray, List.set_cons_zero, List.set_cons_succ]
                  refine wpAnyH_take (i := 22) (oi := _) (v := ?_) rfl (by kernel_rfl) (by kernel_rfl) (by kernel_rfl) (fun _ _ _ h => h) (Or.inl ⟨by rfl, ?_⟩) (by assumption) ?_
                  rotate_left
                  · intro w hSw
                    try dsimp only at hSw
                    go_simp
                    with_reducible rfl
                  try simp only [Act.put, List.getElem_toArray, List.getElem_cons_zero, List.getElem_cons_succ, List.setIfInBounds_toArray, List.set_cons_zero, List.set_cons_succ]
                  refine wpAnyH_take (i := 24) (oi := _) (v := ?_) rfl (by kernel_rfl) (by kernel_rfl) (by kernel_rfl) (fun _ _ _ h => h) (Or.inl ⟨by rfl, ?_⟩) (by assumption) ?_
                  rotate_left
                  · intro w hSw
                    try dsimp only at hSw
                    go_simp
                    with_reducible rfl
                  try simp only [Act.put, List.getElem_toArray, List.getElem_cons_zero, List.getElem_cons_succ, List.setIfInBounds_toArray, List.set_cons_zero, List.set_cons_succ]
                  refine wpAnyH_take (i := 25) (oi := _) (v := ?_) rfl (by kernel_rfl) (by kernel_rfl) (by kernel_rfl) (fun _ _ _ h => h) (Or.inl ⟨by rfl, ?_⟩) (by assumption) ?_
                  rotate_left
                  · intro w hSw
                    try dsimp only at hSw
                    go_simp
                    with_reducible rfl
                  try simp only [Act.put, List.getElem_toArray, List.getElem_cons_zero, List.getElem_cons_succ, List.setIfInBounds_toArray, List.set_cons_zero, List.set_cons_succ]
                  refine wpAnyH_take (i := 26) (oi := _) (v := .int .i64 x) rfl (by kernel_rfl) (by kernel_rfl) (by kernel_rfl) (fun _ _ _ h => h) (Or.inl ⟨by rfl, ?_⟩) (by assumption) ?_
                  · intro w hSw
                    try dsimp only at hSw
                    go_simp
                    all_goals (first | with_reducible rfl | simp [hcv])
                  try simp only [Act.put, List.getElem_toArray, List.getElem_cons_zero, List.getElem_cons_succ, List.setIfInBounds_toArray, List.set_cons_zero, List.set_cons_succ]
                  refine wpAnyH_ready (rs := [23]) (by kernel_rfl) (by simp) ?_
                  refine AllReadyH.cons (o := _) rfl (fun K hK => ?_) AllReadyH.nil
                  go_simp
                  go_at_call 20
                  refine (I1.out _ H8).mono ?_
                  rintro e y3 ⟨rfl, H9⟩
                  go_wp2_with fail
                  refine hK.out _ _ (XS.out _ H9) (fun hHeld => ?_)
                  clear hK K
                  try simp only [Act.put, List.getElem_toArray, List.getElem_cons_zero, List.getElem_cons_succ, List.setIfInBounds_toArray, List.set_cons_zero, List.set_cons_succ]
                  refine wpAnyH_ready (rs := [27]) (by kernel_rfl) (by simp) ?_
                  refine AllReadyH.cons (o := _) rfl (fun K hK => ?_) AllReadyH.nil
                  go_simp
                  go_at_call 21
                  refine (I2.out _ H9).mono ?_
                  rintro e y4 ⟨rfl, H10⟩
                  go_wp2_with fail
                  refine hK.out _ _ (XS.out _ H10) (fun hHeld => ?_)
                  clear hK K
                  try simp only [Act.put, List.getElem_toArray, List.getElem_cons_zero, List.getElem_cons_succ, List.setIfInBounds_toArray, List.set_cons_zero, List.set_cons_succ]
                  refine wpAnyH_take (i := 28) (oi := _) (v := .bool false) rfl (by kernel_rfl) (by kernel_rfl) (by kernel_rfl) (fun _ _ _ h => h) (Or.inl ⟨by rfl, ?_⟩) (by assumption) ?_
                  · intro w hSw
                    try dsimp only at hSw
                    go_simp
                    all_goals (first | with_reducible rfl | simp [ss])
                  try simp only [Act.put, List.getElem_toArray, List.getElem_cons_zero, List.getElem_cons_succ, List.setIfInBounds_toArray, List.set_cons_zero, List.set_cons_succ]
                  refine wpAnyH_take (i := 29) (oi := _) (v := ?_) rfl (by kernel_rfl) (by kernel_rfl) (by kernel_rfl) (fun _ _ _ h => h) (Or.inl ⟨by rfl, ?_⟩) (by assumption) ?_
                  rotate_left
                  · intro w hSw
                    try dsimp only at hSw
                    go_simp
                    with_reducible rfl
                  try simp only [Act.put, List.getElem_toArray, List.getElem_cons_zero, List.getElem_cons_succ, List.setIfInBounds_toArray, List.set_cons_zero, List.set_cons_succ]
                  refine wpAnyH_done (by kernel_rfl) ?_ _
                  clear I1 I2 H7 H8 H9 XS
                  go_wp2_with fail
                  go_roundw
                  case rel => exact ⟨j + 1, by omega, by go_num, H10⟩
                  case measure => simp [intOf]; omega
                · rw [if_neg hr] at hv
                  rw [decide_eq_false hr] at hb
                  subst hv
                  subst hb
                  go_wp2_with fail
                  refine (W1.out _ H5).mono ?_
                  rintro e y1 ⟨rfl, H6⟩
                  obtain ⟨q0, q1, _, _⟩ := XS.out _ H6
                  clear H5 W1 c0
                  go_wp2_with fail
                  refine (W2.out _ H6).mono ?_
                  rintro e y2 ⟨rfl, H7⟩
                  have H8 := XB.out _ _ H7 (bl_drw y2 _)
                  clear H6 W2 q0 q1
                  go_wp2_with fail
                  refine wp_region_held_drew (S := fun w' => w'.cell? ⟨D, 0, none⟩ = some (.slice aW nW cW) ∧ w'.cell? ⟨D, 1, none⟩ = some (.slice aS nS cS) ∧ w'.cell? ⟨E, 1, none⟩ = some (.int .u16 fd) ∧ w'.cell? ⟨E, 2, none⟩ = some (.int .i64 G)) (by kernel_rfl) (XS.out _ H8) (fun hHeld => ?_)
                  refine wpAnyH_take (i := 0) (oi := _) (v := ?_) rfl (by kernel_rfl) (by kernel_rfl) (by kernel_rfl) (fun _ _ _ h => h) (Or.inl ⟨by rfl, ?_⟩) (by assumption) ?_
                  rotate_left
                  · intro w hSw
                    try dsimp only at hSw
                    go_simp
                    with_reducible rfl
                  try simp only [Act.put, List.getElem_toArray, List.getElem_cons_zero, List.getElem_cons_succ, List.setIfInBounds_toArray, List.set_cons_zero, List.set_cons_succ]
                  refine wpAnyH_take (i := 1) (oi := _) (v := ?_) rfl (by kernel_rfl) (by kernel_rfl) (by kernel_rfl) (fun _ _ _ h => h) (Or.inl ⟨by rfl, ?_⟩) (by assumption) ?_
                  rotate_left
                  · intro w hSw
                    try dsimp only at hSw
                    go_simp
                    with_reducible rfl
                  try simp only [Act.put, List.getElem_toArray, List.getElem_cons_zero, List.getElem_cons_succ, List.setIfInBounds_toArray, List.set_cons_zero, List.set_cons_succ]
                  refine wpAnyH_take (i := 2) (oi := _) (v := .bool false) rfl (by kernel_rfl) (by kernel_rfl) (by kernel_rfl) (fun _ _ _ h => h) (Or.inl ⟨by rfl, ?_⟩) (by assumption) ?_
                  · intro w hSw
                    try dsimp only at hSw
                    go_simp
                    all_goals (first | with_reducible rfl | (simp; omega))
                  try simp only [Act.put, List.getElem_toArray, List.getElem_cons_zero, List.getElem_cons_succ, List.setIfInBounds_toArray, List.set_cons_zero, List.set_cons_succ]
                  refine wpAnyH_take (i := 3) (oi := _) (v := ?_) rfl (by kernel_rfl) (by kernel_rfl) (by kernel_rfl) (fun _ _ _ h => h) (Or.inl ⟨by rfl, ?_⟩) (by assumption) ?_
                  rotate_left
                  · intro w hSw
                    try dsimp only at hSw
                    go_simp
                    with_reducible rfl
                  try simp only [Act.put, List.getElem_toArray, List.getElem_cons_zero, List.getElem_cons_succ, List.setIfInBounds_toArray, List.set_cons_zero, List.set_cons_succ]
                  refine wpAnyH_take (i := 4) (oi := _) (v := ?_) rfl (by kernel_rfl) (by kernel_rfl) (by kernel_rfl) (fun _ _ _ h => h) (Or.inl ⟨by rfl, ?_⟩) (by assumption) ?_
                  rotate_left
                  · intro w hSw
                    try dsimp only at hSw
                    go_simp
                    with_reducible rfl
                  try simp only [Act.put, List.getElem_toArray, List.getElem_cons_zero, List.getElem_cons_succ, List.setIfInBounds_toArray, List.set_cons_zero, List.set_cons_succ]
                  refine wpAnyH_take (i := 5) (oi := _) (v := ?_) rfl (by kernel_rfl) (by kernel_rfl) (by kernel_rfl) (fun _ _ _ h => h) (Or.inl ⟨by rfl, ?_⟩) (by assumption) ?_
                  rotate_left
                  · intro w hSw
                    try dsimp only at hSw
                    go_simp
                    with_reducible rfl
                  try simp only [Act.put, List.getElem_toArray, List.getElem_cons_zero, List.getElem_cons_succ, List.setIfInBounds_toArray, List.set_cons_zero, List.set_cons_succ]
                  refine wpAnyH_take (i := 6) (oi := _) (v := ?_) rfl (by kernel_rfl) (by kernel_rfl) (by kernel_rfl) (fun _ _ _ h => h) (Or.inl ⟨by rfl, ?_⟩) (by assumption) ?_
                  rotate_left
                  · intro w hSw
                    try dsimp only at hSw
                    go_simp
                    with_reducible rfl
                  try simp only [Act.put, List.getElem_toArray, List.getElem_cons_zero, List.getElem_cons_succ, List.setIfInBounds_toArray, List.set_cons_zero, List.set_cons_succ]
                  refine wpAnyH_take (i := 7) (oi := _) (v := undef) rfl (by kernel_rfl) (by kernel_rfl) (by kernel_rfl) (fun _ _ _ h => h) (Or.inr ⟨by rfl, rfl⟩) (by assumption) ?_
                  try simp only [Act.put, List.getElem_toArray, List.getElem_cons_zero, List.getElem_cons_succ, List.setIfInBounds_toArray, List.set_cons_zero, List.set_cons_succ]
                  refine wpAnyH_take (i := 8) (oi := _) (v := undef) rfl (by kernel_rfl) (by kernel_rfl) (by kernel_rfl) (fun _ _ _ h => h) (Or.inr ⟨by rfl, rfl⟩) (by assumption) ?_
                  try simp only [Act.put, List.getElem_toArray, List.getElem_cons_zero, List.getElem_cons_succ, List.setIfInBounds_toArray, List.set_cons_zero, List.set_cons_succ]
                  refine wpAnyH_take (i := 9) (oi := _) (v := undef) rfl (by kernel_rfl) (by kernel_rfl) (by kernel_rfl) (fun _ _ _ h => h) (Or.inr ⟨by rfl, rfl⟩) (by assumption) ?_
                  try simp only [Act.put, List.getElem_toArray, List.getElem_cons_zero, List.getElem_cons_succ, List.setIfInBounds_toArray, List.set_cons_zero, List.set_cons_succ]
                  refine wpAnyH_take (i := 10) (oi := _) (v := ?_) rfl (by kernel_rfl) (by kernel_rfl) (by kernel_rfl) (fun _ _ _ h => h) (Or.inl ⟨by rfl, ?_⟩) (by assumption) ?_
                  rotate_left
                  · intro w hSw
                    try dsimp only at hSw
                    go_simp
                    with_reducible rfl
                  try simp only [Act.put, List.getElem_toArray, List.getElem_cons_zero, List.getElem_cons_succ, List.setIfInBounds_toArray, List.set_cons_zero, List.set_cons_succ]
                  refine wpAnyH_take (i := 11) (oi := _) (v := ?_) rfl (by kernel_rfl) (by kernel_rfl) (by kernel_rfl) (fun _ _ _ h => h) (Or.inl ⟨by rfl, ?_⟩) (by assumption) ?_
                  rotate_left
                  · intro w hSw
                    try dsimp only at hSw
                    go_simp
                    with_reducible rfl
                  try simp only [Act.put, List.getElem_toArray, List.getElem_cons_zero, List.getElem_cons_succ, List.setIfInBounds_toArray, List.set_cons_zero, List.set_cons_succ]
                  refine wpAnyH_take (i := 12) (oi := _) (v := ?_) rfl (by kernel_rfl) (by kernel_rfl) (by kernel_rfl) (fun _ _ _ h => h) (Or.inl ⟨by rfl, ?_⟩) (by assumption) ?_
                  rotate_left
                  · intro w hSw
                    try dsimp only at hSw
                    go_simp
                    with_reducible rfl
                  try simp only [Act.put, List.getElem_toArray, List.getElem_cons_zero, List.getElem_cons_succ, List.setIfInBounds_toArray, List.set_cons_zero, List.set_cons_succ]
                  refine wpAnyH_take (i := 13) (oi := _) (v := ?_) rfl (by kernel_rfl) (by kernel_rfl) (by kernel_rfl) (fun _ _ _ h => h) (Or.inl ⟨by rfl, ?_⟩) (by assumption) ?_
                  rotate_left
                  · intro w hSw
                    try dsimp only at hSw
                    go_simp
                    with_reducible rfl
                  try simp only [Act.put, List.getElem_toArray, List.getElem_cons_zero, List.getElem_cons_succ, List.setIfInBounds_toArray, List.set_cons_zero, List.set_cons_succ]
                  refine wpAnyH_take (i := 14) (oi := _) (v := ?_) rfl (by kernel_rfl) (by kernel_rfl) (by kernel_rfl) (fun _ _ _ h => h) (Or.inl ⟨by rfl, ?_⟩) (by assumption) ?_
                  rotate_left
                  · intro w hSw
                    try dsimp only at hSw
                    go_simp
                    with_reducible rfl
                  try simp only [Act.put, List.getElem_toArray, List.getElem_cons_zero, List.getElem_cons_succ, List.setIfInBounds_toArray, List.set_cons_zero, List.set_cons_succ]
                  refine wpAnyH_take (i := 15) (oi := _) (v := ?_) rfl (by kernel_rfl) (by kernel_rfl) (by kernel_rfl) (fun _ _ _ h => h) (Or.inl ⟨by rfl, ?_⟩) (by assumption) ?_
                  rotate_left
                  · intro w hSw
                    try dsimp only at hSw
                    go_simp
                    with_reducible rfl
                  try simp only [Act.put, List.getElem_toArray, List.getElem_cons_zero, List.getElem_cons_succ, List.setIfInBounds_toArray, List.set_cons_zero, List.set_cons_succ]
                  refine wpAnyH_take (i := 16) (oi := _) (v := ?_) rfl (by kernel_rfl) (by kernel_rfl) (by kernel_rfl) (fun _ _ _ h => h) (Or.inl ⟨by rfl, ?_⟩) (by assumption) ?_
                  rotate_left
                  · intro w hSw
                    try dsimp only at hSw
                    go_simp
                    with_reducible rfl
                  try simp only [Act.put, List.getElem_toArray, List.getElem_cons_zero, List.getElem_cons_succ, List.setIfInBounds_toArray, List.set_cons_zero, List.set_cons_succ]
                  refine wpAnyH_take (i := 17) (oi := _) (v := ?_) rfl (by kernel_rfl) (by kernel_rfl) (by kernel_rfl) (fun _ _ _ h => h) (Or.inl ⟨by rfl, ?_⟩) (by assumption) ?_
                  rotate_left
                  · intro w hSw
                    try dsimp only at hSw
                    go_simp
                    with_reducible rfl
                  try simp only [Act.put, List.getElem_toArray, List.getElem_cons_zero, List.getElem_cons_succ, List.setIfInBounds_toArray, List.set_cons_zero, List.set_cons_succ]
                  refine wpAnyH_take (i := 18) (oi := _) (v := ?_) rfl (by kernel_rfl) (by kernel_rfl) (by kernel_rfl) (fun _ _ _ h => h) (Or.inl ⟨by rfl, ?_⟩) (by assumption) ?_
                  rotate_left
                  · intro w hSw
                    try dsimp only at hSw
                    go_simp
                    with_reducible rfl
                  try simp only [Act.put, List.getElem_toArray, List.getElem_cons_zero, List.getElem_cons_succ, List.setIfInBounds_toArray, List.set_cons_zero, List.set_cons_succ]
                  refine wpAnyH_take (i := 19) (oi := _) (v := ?_) rfl (by kernel_rfl) (by kernel_rfl) (by kernel_rfl) (fun _ _ _ h => h) (Or.inl ⟨by rfl, ?_⟩) (by assumption) ?_
                  rotate_left
                  · intro w hSw
                    try dsimp only at hSw
                    go_simp
                    with_reducible rfl
                  try simp only [Act.put, List.getElem_toArray, List.getElem_cons_zero, List.getElem_cons_succ, List.setIfInBounds_toArray, List.set_cons_zero, List.set_cons_succ]
                  refine wpAnyH_take (i := 20) (oi := _) (v := ?_) rfl (by kernel_rfl) (by kernel_rfl) (by kernel_rfl) (fun _ _ _ h => h) (Or.inl ⟨by rfl, ?_⟩) (by assumption) ?_
                  rotate_left
                  · intro w hSw
                    try dsimp only at hSw
                    go_simp
                    with_reducible rfl
                  try simp only [Act.put, List.getElem_toArray, List.getElem_cons_zero, List.getElem_cons_succ, List.setIfInBounds_toArray, List.set_cons_zero, List.set_cons_succ]
                  refine wpAnyH_take (i := 21) (oi := _) (v := ?_) rfl (by kernel_rfl) (by kernel_rfl) (by kernel_rfl) (fun _ _ _ h => h) (Or.inl ⟨by rfl, ?_⟩) (by assumption) ?_
                  rotate_left
                  · intro w hSw
                    try dsimp only at hSw
                    go_simp
                    with_reducible rfl
                  try simp only [Act.put, List.getElem_toArray, List.getElem_cons_zero, List.getElem_cons_succ, List.setIfInBounds_toArray, List.set_cons_zero, List.set_cons_succ]
                  refine wpAnyH_take (i := 22) (oi := _) (v := ?_) rfl (by kernel_rfl) (by kernel_rfl) (by kernel_rfl) (fun _ _ _ h => h) (Or.inl ⟨by rfl, ?_⟩) (by assumption) ?_
                  rotate_left
                  · intro w hSw
                    try dsimp only at hSw
                    go_simp
                    with_reducible rfl
                  try simp only [Act.put, List.getElem_toArray, List.getElem_cons_zero, List.getElem_cons_succ, List.setIfInBounds_toArray, List.set_cons_zero, List.set_cons_succ]
                  refine wpAnyH_take (i := 24) (oi := _) (v := ?_) rfl (by kernel_rfl) (by kernel_rfl) (by kernel_rfl) (fun _ _ _ h => h) (Or.inl ⟨by rfl, ?_⟩) (by assumption) ?_
                  rotate_left
                  · intro w hSw
                    try dsimp only at hSw
                    go_simp
                    with_reducible rfl
                  try simp only [Act.put, List.getElem_toArray, List.getElem_cons_zero, List.getElem_cons_succ, List.setIfInBounds_toArray, List.set_cons_zero, List.set_cons_succ]
                  refine wpAnyH_take (i := 25) (oi := _) (v := ?_) rfl (by kernel_rfl) (by kernel_rfl) (by kernel_rfl) (fun _ _ _ h => h) (Or.inl ⟨by rfl, ?_⟩) (by assumption) ?_
                  rotate_left
                  · intro w hSw
                    try dsimp only at hSw
                    go_simp
                    with_reducible rfl
                  try simp only [Act.put, List.getElem_toArray, List.getElem_cons_zero, List.getElem_cons_succ, List.setIfInBounds_toArray, List.set_cons_zero, List.set_cons_succ]
                  refine wpAnyH_take (i := 26) (oi := _) (v := .int .i64 x) rfl (by kernel_rfl) (by kernel_rfl) (by kernel_rfl) (fun _ _ _ h => h) (Or.inl ⟨by rfl, ?_⟩) (by assumption) ?_
                  · intro w hSw
                    try dsimp only at hSw
                    go_simp
                    all_goals (first | with_reducible rfl | simp [hcv])
                  try simp only [Act.put, List.getElem_toArray, List.getElem_cons_zero, List.getElem_cons_succ, List.setIfInBounds_toArray, List.set_cons_zero, List.set_cons_succ]
                  refine wpAnyH_ready (rs := [23]) (by kernel_rfl) (by simp) ?_
                  refine AllReadyH.cons (o := _) rfl (fun K hK => ?_) AllReadyH.nil
                  go_simp
                  go_at_call 20
                  refine (I1.out _ H8).mono ?_
                  rintro e y3 ⟨rfl, H9⟩
                  go_wp2_with fail
                  refine hK.out _ _ (XS.out _ H9) (fun hHeld => ?_)
                  clear hK K
                  try simp only [Act.put, List.getElem_toArray, List.getElem_cons_zero, List.getElem_cons_succ, List.setIfInBounds_toArray, List.set_cons_zero, List.set_cons_succ]
                  refine wpAnyH_ready (rs := [27]) (by kernel_rfl) (by simp) ?_
                  refine AllReadyH.cons (o := _) rfl (fun K hK => ?_) AllReadyH.nil
                  go_simp
                  go_at_call 21
                  refine (I2.out _ H9).mono ?_
                  rintro e y4 ⟨rfl, H10⟩
                  go_wp2_with fail
                  refine hK.out _ _ (XS.out _ H10) (fun hHeld => ?_)
                  clear hK K
                  try simp only [Act.put, List.getElem_toArray, List.getElem_cons_zero, List.getElem_cons_succ, List.setIfInBounds_toArray, List.set_cons_zero, List.set_cons_succ]
                  refine wpAnyH_take (i := 28) (oi := _) (v := .bool false) rfl (by kernel_rfl) (by kernel_rfl) (by kernel_rfl) (fun _ _ _ h => h) (Or.inl ⟨by rfl, ?_⟩) (by assumption) ?_
                  · intro w hSw
                    try dsimp only at hSw
                    go_simp
                    all_goals (first | with_reducible rfl | simp [ss])
                  try simp only [Act.put, List.getElem_toArray, List.getElem_cons_zero, List.getElem_cons_succ, List.setIfInBounds_toArray, List.set_cons_zero, List.set_cons_succ]
                  refine wpAnyH_take (i := 29) (oi := _) (v := ?_) rfl (by kernel_rfl) (by kernel_rfl) (by kernel_rfl) (fun _ _ _ h => h) (Or.inl ⟨by rfl, ?_⟩) (by assumption) ?_
                  rotate_left
                  · intro w hSw
                    try dsimp only at hSw
                    go_simp
                    with_reducible rfl
                  try simp only [Act.put, List.getElem_toArray, List.getElem_cons_zero, List.getElem_cons_succ, List.setIfInBounds_toArray, List.set_cons_zero, List.set_cons_succ]
                  refine wpAnyH_done (by kernel_rfl) ?_ _
                  clear I1 I2 H7 H8 H9 XS
                  go_wp2_with fail
                  go_roundw
                  case rel => exact ⟨j + 1, by omega, by go_num, H10⟩
                  case measure => simp [intOf]; omega
              · obtain rfl : j = 2 := by omega
                have P9 := hid (UQ.out wr (XQ.out wr H5))
                have B9 := P9.out.bl
                clear H5 XQ XC XB UQ HS HB CW RW CI RI
                go_wp2_with fail
                go_roundw
                case rel => exact ⟨k + 1, _, _, _, _, by omega, by go_num, P9, B9⟩
                case measure => simp [intOf]; omega
      · obtain rfl : k = len0 := by omega
        clear F
        go_wp2
        go_ret
        exact ⟨rfl, hbr⟩
end Go.Proofs.Ytcfgkblonnmblaa.pollPlays
