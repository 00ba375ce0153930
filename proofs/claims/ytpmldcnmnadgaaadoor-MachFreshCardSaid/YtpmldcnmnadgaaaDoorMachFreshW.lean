/- The walk of the statement MachFresh: the law answers true and turns nothing that was there. -/
import Derived.Test.YtpmldcnmnadgaaaDoorMachC
import Derived.Test.YtpmldcnmnadgaaaDoorMach4
import Derived.Deep.CutRange
namespace Go.Proofs.YtpmldcnmnadgaaaDoor.machFresh
open Go.RowKit
set_option linter.unusedVariables false
set_option linter.unusedSimpArgs false

set_option maxRecDepth 100000 in
set_option maxHeartbeats 16000000 in
theorem walk (a0 : Int) (a1 : Option Addr) (len1 cap1 : Nat) (z1 : List Int) (w : World) (w0 : (Lit.int .i64 a0).wf = true) (w1 : IsRow .i64 w a1 len1 cap1 z1) (T : MaPlaces w) :
    Calls Tryd.prog 6 #[.int .i64 a0, .slice a1 len1 cap1] w fun e w' => e = .returned (.bool true) ∧ Below w.heap.size w w' := by
  have HT := hid T
  clear T w0
  by_cases hlen : (60 : Int) < len1
  · clear w1
    go_enter Tryd.func6, Tryd.ntmps6
    go_wp2_with fail
    refine (lives19 _ HT.out).mono ?_
    rintro e x1 ⟨rfl, hx1⟩
    have HT1 := hid (HT.out.at hx1)
    go_wp2_with fail
    refine (lives19 _ HT1.out).mono ?_
    rintro e x2 ⟨rfl, hx2⟩
    go_wp2
    go_ret
    exact ⟨rfl, hx1.trans (hx2.mono hx1.size)⟩
  · have hlen' : len1 ≤ 60 := by omega
    obtain ⟨ys, hys0, hyl, hY⟩ := w1.reads
    clear hys0
    have HY := hid hY
    have HYL := hid hyl
    clear w1 hY hyl
    go_enter Tryd.func6, Tryd.ntmps6
    go_wp2_with fail
    refine (lives19 _ HT.out).mono ?_
    rintro e x1 ⟨rfl, hx1⟩
    go_wp2_with fail
    refine (fresh_any _).mono ?_
    rintro e x2 ⟨rfl, hx2'⟩
    have hx2 : Below w.heap.size w x2 := hx1.trans (hx2'.mono hx1.size)
    have hz2 := hx2.size
    have HX2 := hid hx2
    clear hx1 hx2 hx2' HT
    go_wp2_with (first
      | (refine wpList_store_new rfl 53 (.tmp 5) (.tmp 16) rfl _ (mach0 16 (-1) 0) 53 rfl rfl (by kernel_rfl) (by rfl) (by simp [mach0, Value.oneCell']) ?_)
      | (refine wpList_load_known (by rfl) 53 (.tmp 5) rfl x2.heap.size rfl 53 (mach0 16 (-1) 0) (0, 0) _ (heap_alloc_new x2 _) Tryd.underlying53 rfl (by kernel_rfl) ?_))
    obtain ⟨b5, hb5⟩ : ∃ b, b = x2.heap.size := ⟨_, rfl⟩
    have A3' := heap_alloc_new x2 (.cells (mach1 16 (.slice none 0 0)) 53)
    have X3' := hid (HX2.out.alloc hz2 (.cells (mach1 16 (.slice none 0 0)) 53))
    have z3' : (x2.alloc (.cells (mach1 16 (.slice none 0 0)) 53)).heap.size = b5 + 1 := by simp [hb5]
    refine (busy_any 16 none 0 0 _).mono ?_
    rintro e y3 ⟨rfl, hy3⟩
    rw [show busyB 16 = false from rfl]
    have A3 : y3.heap[b5]? = some (.cells (mach1 16 (.slice none 0 0)) 53 (0, 0)) := blk_kept (by rw [hb5]; exact A3') hy3 (by rw [z3']; omega)
    have X3 := hid (X3'.out.trans (hy3.mono (by rw [z3']; omega)))
    have z3 := hy3.size
    rw [z3'] at z3
    rw [← hb5] at hz2 ⊢
    clear A3' X3' z3' hy3 HX2 hb5
    have c0 : y3.cell? ⟨b5, 0, none⟩ = some (.int .i64 16) := blk_cell A3 rfl
    have f0 : y3.frozen? ⟨b5, 0, none⟩ = false := blk_free A3
    have A4 := hid (blk_set (.int .i64 a0) A3 (show (mach1 16 (.slice none 0 0)).setIfInBounds 0 (.int .i64 a0) = mach1 a0 (.slice none 0 0) from rfl))
    have X4 := hid (X3.out.setCell (p := ⟨b5, 0, none⟩) hz2 (.int .i64 a0))
    have z4 : b5 + 1 ≤ (y3.setCell ⟨b5, 0, none⟩ (.int .i64 a0)).heap.size := by simp [World.setCell]; omega
    clear A3 X3
    go_upto_region 7 with (fail)
    generalize y3.setCell ⟨b5, 0, none⟩ (.int .i64 a0) = y4 at A4 X4 z4 ⊢
    clear c0 f0 z3
    have X4a := X4.out.alloc (by omega) (.cells #[] 3)
    have HM := hid (show (y4.alloc (.cells #[] 3)).ownsRow y4.heap.size 3 1 (.slice (some ⟨y4.heap.size, 0, none⟩) 0 0) 0 [] from World.ownsRow_made (base := y4.heap.size) (e := 3) (size := 1) y4 #[] 0 (by simp) (Nat.zero_le _) rfl)
    have HRD := hid (HY.out _ X4a)
    have B1 := hid (show 0 + ys.length ≤ maxLen by have := HYL.out; unfold maxLen; omega)
    have B2 := hid (show (0 + ys.length) * 8 ≤ 140737488355328 by have := HYL.out; omega)
    have B3 := hid (show y4.heap.size ≤ (y4.alloc (.cells #[] 3)).heap.size by simp)
    have HX4a := hid X4a
    clear X4a
    obtain ⟨i0, hi, hy0, hy1, hy2⟩ := info_parts infoInt
    have HI := hid hi
    have HZ0 := hid hy0
    have HZ1 := hid hy1
    have HZ2 := hid hy2
    clear hi hy0 hy1 hy2
    go_wp2_with (with_reducible refine wpList_append_reads rfl (.tmp 91) (.tmp 92) 46 rfl y4.heap.size 3 i0 (.int .i64 0) 8 Tryd.underlying46 HI.out HZ0.out HZ1.out HZ2.out (by decide) (.slice (some ⟨y4.heap.size, 0, none⟩) 0 0) 0 [] rfl HM.out ys (.slice a1 len1 cap1) rfl HRD.out B1.out B2.out B3.out ?_)
    intro v8 w5 hown8 hgr8 hat8
    have A5 : w5.heap[b5]? = some (.cells (mach1 a0 (.slice none 0 0)) 53 (0, 0)) := by
      rw [hgr8.block b5 (by simp; omega) (fun e => by simp [Value.ownBlock] at e; omega), Below.heap_alloc _ _ _ (by omega)]
      exact A4.out
    have X5 := hid (HX4a.out.grown hgr8 (by simp; omega) (fun q hq => by simp [Value.ownBlock] at hq; omega))
    have O5 : Owns w5 y4.heap.size v8 ys := by
      exact hown8
    have z5 := hgr8.size
    simp only [World.size_alloc] at z5
    obtain ⟨a8, c8, rfl⟩ := O5.reads_n HYL.out
    have HO5 := hid O5
    have c9 : w5.cell? ⟨b5, 9, none⟩ = some (.slice none 0 0) := blk_cell A5 rfl
    have f9 : w5.frozen? ⟨b5, 9, none⟩ = false := blk_free A5
    have A6 := hid (blk_set (.slice a8 len1 c8) A5 (show (mach1 a0 (.slice none 0 0)).setIfInBounds 9 (.slice a8 len1 c8) = mach1 a0 (.slice a8 len1 c8) from rfl))
    have X6 := hid (X5.out.setCell (p := ⟨b5, 9, none⟩) hz2 (.slice a8 len1 c8))
    have O6 := hid (HO5.out.kept (w' := w5.setCell ⟨b5, 9, none⟩ (.slice a8 len1 c8)) (fun k hk => by
      have := (HO5.out.lt k hk).1
      rw [heap_setCell_other _ _ _ _ (by simp; omega)]))
    have z6 : (w5.setCell ⟨b5, 9, none⟩ (.slice a8 len1 c8)).heap.size = w5.heap.size := by simp [World.setCell]
    clear HI HZ0 HZ1 HZ2
    clear hown8 hgr8 hat8 O5 A5 A4 X4 HM HRD B1 B2 B3 HX4a X5
    go_upto_region 8 with (fail)
    generalize w5.setCell ⟨b5, 9, none⟩ (.slice a8 len1 c8) = y6 at A6 X6 O6 z6 ⊢
    rw [← z6] at z5
    clear c9 f9 HO5 z6
    go_wp2_with (refine wpList_load_known (by rfl) 53 (.tmp 5) rfl b5 rfl 53 (mach1 a0 (.slice a8 len1 c8)) (0, 0) _ A6.out Tryd.underlying53 rfl (by kernel_rfl) ?_)
    refine (mcopy_any a0 a8 len1 c8 ys _ O6.out.reads (by have := HYL.out; omega)).mono ?_
    rintro e y7 ⟨v9, rfl, ho9, hb7⟩
    obtain ⟨a9, c9', rfl⟩ := ho9.reads_n HYL.out
    have z7 := hb7.size
    have HO9 := hid ho9
    have A7 := blk_kept A6.out hb7 (by omega)
    have O7 := hid (O6.out.kept (w' := y7) (fun k hk => hb7.block k (O6.out.lt k hk).2))
    have HQ := hid (fun q (hq : (Value.slice a8 len1 c8).ownBlock = some q) => (O6.out.lt q hq).2)
    have X7 := hid (X6.out.trans (hb7.mono (by omega)))
    have c9 : y7.cell? ⟨b5, 9, none⟩ = some (.slice a8 len1 c8) := blk_cell A7 rfl
    have l5 : b5 < y7.heap.size := by omega
    have HA7 := hid A7
    clear ho9 hb7 A7 A6 X6 O6
    go_wp2_with (refine wpList_store_new rfl 53 (.tmp 6) (.tmp 96) rfl _ (mach1 a0 (.slice a9 len1 c9')) 53 rfl rfl (by kernel_rfl) (by rfl) (by simp [mach1, Value.oneCell']) ?_)
    have A8 := hid (blk_kept HA7.out ((Below.refl y7.heap.size y7).alloc (Nat.le_refl _) (.cells (mach1 a0 (.slice a9 len1 c9')) 53)) l5)
    have E8 := hid (heap_alloc_new y7 (.cells (mach1 a0 (.slice a9 len1 c9')) 53))
    have O8 := hid (O7.out.kept (w' := y7.alloc (.cells (mach1 a0 (.slice a9 len1 c9')) 53)) (fun k hk => Below.heap_alloc _ _ _ (O7.out.lt k hk).2))
    have P8 := hid (HO9.out.kept (w' := y7.alloc (.cells (mach1 a0 (.slice a9 len1 c9')) 53)) (fun k hk => Below.heap_alloc _ _ _ (HO9.out.lt k hk).2))
    have X8 := hid (X7.out.alloc (by omega) (.cells (mach1 a0 (.slice a9 len1 c9')) 53))
    obtain ⟨b6, hb6⟩ : ∃ b, b = y7.heap.size := ⟨_, rfl⟩
    rw [← hb6] at E8 z7 l5 ⊢
    have z8 : (y7.alloc (.cells (mach1 a0 (.slice a9 len1 c9')) 53)).heap.size = b6 + 1 := by simp [hb6]
    clear HA7 O7 HO9 X7 c9 hb6
    generalize y7.alloc (.cells (mach1 a0 (.slice a9 len1 c9')) 53) = y8 at A8 E8 O8 P8 X8 z8 ⊢
    go_loopw [100] (fun i wr => ∃ (k : Nat) (zs : List Int), k ≤ len1 ∧ i = .int .i64 k ∧ Hid (zs.length = len1) ∧ Hid (Owns wr y4.heap.size (.slice a8 len1 c8) zs) ∧ Hid (Owns wr y6.heap.size (.slice a9 len1 c9') ys) ∧ Hid (wr.heap[b5]? = some (.cells (mach1 a0 (.slice a8 len1 c8)) 53 (0, 0))) ∧ Hid (wr.heap[b6]? = some (.cells (mach1 a0 (.slice a9 len1 c9')) 53 (0, 0))) ∧ Hid (Below w.heap.size w wr))
      (fun i _ => len1 - (intOf i).toNat)
    case atStart => exact ⟨0, ys, by omega, rfl, HYL, O8, P8, A8, E8, X8⟩
    case round =>
      clear A8 E8 O8 P8 X8
      obtain ⟨k, zs, hk, rfl, HZL, HO, HP, HA, HE, HX⟩ := hrel
      by_cases hlt : k < len1
      · obtain ⟨B, hAB, hB1, hB2, hc, hfz, hset⟩ := HO.out.step HZL.out k hlt
        have hBq := HQ.out B (by rw [hAB]; rfl)
        have c9 : wr.cell? ⟨b5, 9, none⟩ = some (.slice (some ⟨B, 0, none⟩) len1 c8) := by rw [← hAB]; exact blk_cell HA.out rfl
        obtain ⟨x, hx⟩ : ∃ x, x = zs.getD k 0 := ⟨_, rfl⟩
        rw [← hx] at hc
        have HS := hid (hset (wrap64 (x + 1)))
        have HL' := hid (show (zs.set k (wrap64 (x + 1))).length = len1 by rw [List.length_set]; exact HZL.out)
        have HP' := hid (HP.out.kept (w' := wr.setCell ⟨B, k, none⟩ (.int .i64 (wrap64 (x + 1)))) (fun q hq => by
          have := (HP.out.lt q hq).1
          rw [heap_setCell_other _ _ _ _ (by simp; omega)]))
        have HA' := hid ((heap_setCell_other wr ⟨B, k, none⟩ b5 (.int .i64 (wrap64 (x + 1))) (by simp; omega)).trans HA.out)
        have HE' := hid ((heap_setCell_other wr ⟨B, k, none⟩ b6 (.int .i64 (wrap64 (x + 1))) (by simp; omega)).trans HE.out)
        have HX' := hid (HX.out.setCell (p := ⟨B, k, none⟩) (by simp; omega) (.int .i64 (wrap64 (x + 1))))
        have hk0 : (0 : Int) ≤ k := by omega
        have hkl : (k : Int) < len1 := by omega
        clear hx hset HO HP HA HE HX hAB
        go_wp2
        go_roundw
        case rel => exact ⟨k + 1, _, by omega, by go_num, HL', HS, HP', HA', HE', HX'⟩
        case measure => simp [intOf]; omega
      · obtain rfl : k = len1 := by omega
        have c9 : wr.cell? ⟨b6, 9, none⟩ = some (.slice a9 k c9') := blk_cell HE.out rfl
        have SM := hid (same_any (.slice a9 k c9') (.slice a1 k cap1) ys ys true (by simp) wr HP.out.reads (HY.out wr HX.out) (by have := HYL.out; omega) (by have := HYL.out; omega))
        go_wp2_with fail
        refine SM.out.mono ?_
        rintro e y9 ⟨rfl, hq⟩
        have HA9 := hid (show y9.heap[b5]? = some (.cells (mach1 a0 (.slice a8 k c8)) 53 (0, 0)) by rw [hq.heap]; exact HA.out)
        have HE9 := hid (show y9.heap[b6]? = some (.cells (mach1 a0 (.slice a9 k c9')) 53 (0, 0)) by rw [hq.heap]; exact HE.out)
        have HX9 := hid (HX.out.trans (hq.below _))
        have z9 : w.heap.size ≤ y9.heap.size := HX9.out.size
        clear hq c9 HA HE HX HO HP SM
        have d0 : y9.cell? ⟨b6, 0, none⟩ = some (.int .i64 a0) := blk_cell HE9.out rfl
        have d1 : y9.cell? ⟨b5, 0, none⟩ = some (.int .i64 a0) := blk_cell HA9.out rfl
        have BZ := hid (fun w => busy_any a0 a9 k c9' w)
        by_cases h0 : a0 = 0
        · subst h0
          rw [show busyB 0 = false from rfl] at BZ
          go_wp2_with (refine wpList_load_known (by rfl) 53 (.tmp 6) rfl b6 rfl 53 (mach1 0 (.slice a9 k c9')) (0, 0) _ HE9.out Tryd.underlying53 rfl (by kernel_rfl) ?_)
          refine (BZ.out _).mono ?_
          rintro e y10 ⟨rfl, hy10⟩
          have HF := hid (HX9.out.trans (hy10.mono z9))
          clear hy10
          go_wp2
          go_ret
          exact ⟨rfl, HF.out⟩
        · have q0 : (a0 != 0) = true := by simpa using h0
          by_cases h16 : a0 = 16
          · subst h16
            clear q0 h0
            rw [show busyB 16 = false from rfl] at BZ
            go_wp2_with (refine wpList_load_known (by rfl) 53 (.tmp 6) rfl b6 rfl 53 (mach1 16 (.slice a9 k c9')) (0, 0) _ HE9.out Tryd.underlying53 rfl (by kernel_rfl) ?_)
            refine (BZ.out _).mono ?_
            rintro e y10 ⟨rfl, hy10⟩
            have HF := hid (HX9.out.trans (hy10.mono z9))
            clear hy10
            go_wp2
            go_ret
            exact ⟨rfl, HF.out⟩
          · have q1 : (a0 != 16) = true := by simpa using h16
            rw [show busyB a0 = true by unfold busyB; rw [q0, q1]; rfl] at BZ
            clear h0 h16
            go_wp2_with (refine wpList_load_known (by rfl) 53 (.tmp 6) rfl b6 rfl 53 (mach1 a0 (.slice a9 k c9')) (0, 0) _ HE9.out Tryd.underlying53 rfl (by kernel_rfl) ?_)
            refine (BZ.out _).mono ?_
            rintro e y10 ⟨rfl, hy10⟩
            have HF := hid (HX9.out.trans (hy10.mono z9))
            clear hy10
            go_wp2
            go_ret
            exact ⟨rfl, HF.out⟩
end Go.Proofs.YtpmldcnmnadgaaaDoor.machFresh
