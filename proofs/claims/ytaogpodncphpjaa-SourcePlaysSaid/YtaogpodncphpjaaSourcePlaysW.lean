/- The walk of the statement SourcePlays: the law answers true and turns nothing that was there. Written by wip/tools/gensp.py. -/
import Derived.Test.YtaogpodncphpjaaSpl
import Derived.Test.YtaogpodncphpjaaStructs
import Derived.OpenShut
import Derived.Deep.CutRange
import Derived.Deep.CutBlock
import Derived.Deep.RegionHeld3
namespace Go.Proofs.Ytaogpodncphpjaa.sourcePlays
open Go.RowKit
set_option linter.unusedVariables false
set_option linter.unusedSimpArgs false
set_option maxRecDepth 100000 in
set_option maxHeartbeats 8000000 in
theorem walk (a0 : Int) (a1 : Option Addr) (len1 cap1 : Nat) (z1 : Nat → Nat → Int) (a2 : Int) (w : World) (w0 : (Lit.int .i64 a0).wf = true) (w1 : IsStructs [.u8, .i64, .i64, .i64, .u16] w a1 len1 cap1 z1) (w2 : (Lit.int .i64 a2).wf = true) :
    Calls Try.prog 3 #[.int .i64 a0, .slice a1 len1 cap1, .int .i64 a2] w fun e w' => e = .returned (.bool true) ∧ Below w.heap.size w w' := by
  clear w0 w2
  by_cases hlen : (50 : Int) < len1
  · go_enter Try.func3, Try.ntmps3
    go_wp2_with fail
    refine (lives12 _).mono ?_
    rintro e w2 ⟨rfl, hb1⟩
    go_wp2_with fail
    refine (lives12 _).mono ?_
    rintro e w3 ⟨rfl, hb2⟩
    go_wp2
    go_ret
    exact ⟨rfl, hb1.trans (hb2.mono hb1.size)⟩
  · have hlen' : len1 ≤ 50 := by omega
    have W0 := hid w1
    clear w1 hlen
    obtain ⟨n, hn⟩ : ∃ n : Nat, clampT a0 = (n : Int) := ⟨(clampT a0).toNat, by have := clampT_range a0; omega⟩
    have hn1 : 0 < n := by have := clampT_range a0; omega
    have hn2 : n ≤ 64 := by have := clampT_range a0; omega
    have HN := hid hn
    clear hn
    go_enter Try.func3, Try.ntmps3
    go_wp2_with fail
    refine (lives12 _).mono ?_
    rintro e w2 ⟨rfl, hb1⟩
    have HB1 := hid hb1
    clear hb1
    go_wp2_with fail
    refine (snew_c a0 n HN.out _).mono ?_
    rintro e w3 ⟨Z, s, t, p, b1, b2, b3, rfl, q3, bl3, hz, hz2⟩
    have Q3 := hid (show PS Z w3 s t p b1 b2 b3 n 0 0 [] [] [] from ⟨⟨_, by rw [show firstE [] = [] from by unfold firstE; simp [sortE]]; exact q3⟩, by simp, by simp⟩)
    have HB3 := hid bl3
    have HZ := hid hz
    clear q3 bl3 hz hz2
    go_wp2_with fail
    refine (rnew12 a0 n HN.out _).mono ?_
    rintro e w4 ⟨rfl, hb4⟩
    have S0 : Hid (LW12 w s t p b1 b2 b3 n w4.heap.size 0 (fun q => Z q ∨ (w3.heap.size ≤ q ∧ q < (w4.alloc (.cells (sx 0 n (.slice none 0 0) 0 (.slice none 0 0) (.slice none 0 0)) 35)).heap.size)) 0 0 [] [] [] (.slice none 0 0) (.slice none 0 0) (.slice none 0 0) (w4.alloc (.cells (sx 0 n (.slice none 0 0) 0 (.slice none 0 0) (.slice none 0 0)) 35))) := by
      have hb5 := hb4.trans ((bl_al w4 (.cells (sx 0 n (.slice none 0 0) 0 (.slice none 0 0) (.slice none 0 0)) 35)).mono hb4.size)
      have s1 := HB1.out.size
      have s3 := HB3.out.size
      have s4 := hb4.size
      have nilR : ∀ y : World, Reads y (.slice none 0 0) [] := fun y => ⟨none, 0, rfl, ⟨by simp, by unfold maxLen; omega, .inl ⟨rfl, rfl⟩⟩, fun h => absurd h (by simp)⟩
      exact hid ⟨⟨Q3.out.grow hb5, ⟨⟨RdT.nil _, by simp⟩, ⟨RdW.nil _, nilR _, by simp, by simp⟩, fun q hq => by simp [Value.ownBlock] at hq, fun q hq => by simp [Value.ownBlock] at hq, fun q hq => by simp [Value.ownBlock] at hq, by simp, by simp⟩, fun q hq => by simp [Value.ownBlock] at hq, fun q hq => by simp [Value.ownBlock] at hq, fun q hq => by simp [Value.ownBlock] at hq, by simp⟩, heap_alloc_new _ _, .inr ⟨s4, by simp⟩, fun q hq => .inl (HZ.out q (by omega)), fun q hq => by simp [Value.ownBlock] at hq, fun q hq => by simp [Value.ownBlock] at hq, fun q hq => by simp [Value.ownBlock] at hq, (HB1.out.trans (HB3.out.mono s1)).trans (hb5.mono (by omega)), by omega⟩
    obtain ⟨B, hB⟩ : ∃ B, B = w4.heap.size := ⟨_, rfl⟩
    rw [← hB] at S0
    clear hb4 HB1 HB3 HZ Q3
    go_wp2_with fail
    rw [← hB]
    clear hB
    generalize w4.alloc (.cells (sx 0 n (.slice none 0 0) 0 (.slice none 0 0) (.slice none 0 0)) 35) = w5 at *
    go_loopw [32] (fun i wr => ∃ (k : Nat) (Z : Nat → Prop) (now : Int) (o : Nat) (D : List Tr) (V : List (Int × Int)) (S : List Int) (vL vW vS : Value), k ≤ len1 ∧ i = .int .i64 k ∧ Hid (LW12 w s t p b1 b2 b3 n B k Z now o D V S vL vW vS wr) ∧ Below w.heap.size w wr) (fun i _ => len1 - (intOf i).toNat)
    case atStart => exact ⟨0, _, 0, 0, [], [], [], _, _, _, by omega, rfl, S0, S0.out.bl⟩
    case round =>
      clear S0
      obtain ⟨k, Z, now, o, D, V, S, vL, vW, vS, hk, rfl, F, hbr⟩ := hrel
      by_cases hlt : k < len1
      · obtain ⟨bx, off, rfl, hcell⟩ := W0.out.open (by omega) (by simp)
        obtain ⟨hq0, hw0⟩ := hcell _ hbr k hlt 0 .u8 rfl
        obtain ⟨hq1, hw1⟩ := hcell _ hbr k hlt 1 .i64 rfl
        obtain ⟨hq2, hw2⟩ := hcell _ hbr k hlt 2 .i64 rfl
        obtain ⟨hq3, hw3⟩ := hcell _ hbr k hlt 3 .i64 rfl
        obtain ⟨hq4, hw4⟩ := hcell _ hbr k hlt 4 .u16 rfl
        obtain ⟨K, hK⟩ : ∃ x, x = z1 k 0 := ⟨_, rfl⟩
        obtain ⟨P, hP⟩ : ∃ x, x = z1 k 1 := ⟨_, rfl⟩
        obtain ⟨G, hG⟩ : ∃ x, x = z1 k 2 := ⟨_, rfl⟩
        obtain ⟨DD, hD⟩ : ∃ x, x = z1 k 3 := ⟨_, rfl⟩
        obtain ⟨fd, hf⟩ : ∃ x, x = z1 k 4 := ⟨_, rfl⟩
        rw [← hK] at hq0 hw0
        rw [← hP] at hq1
        rw [← hG] at hq2
        rw [← hD] at hq3 hw3
        rw [← hf] at hq4 hw4
        obtain ⟨K0, K1⟩ := bounds_u8 hw0
        obtain ⟨f0, f1⟩ := bounds_u16 hw4
        have ID := hid (show inI DD from bounds_i64 hw3)
        simp only [List.length_cons, List.length_nil, Nat.reduceAdd, Nat.add_zero] at hq0 hq1 hq2 hq3 hq4
        rw [← Nat.add_assoc] at hq1 hq2 hq3 hq4
        clear hcell hw0 hw1 hw2 hw3 hw4 hK hP hG hD hf hbr
        obtain ⟨aL, nL, cL, aW, nW, cW, aS, nS, cS, rfl, rfl, rfl, _, _, _, _, _, _⟩ := F.out.st.di.sl
        have DC := hid (do12 (F.out.st.more (bl_al wr (.cells #[.int .u8 K, .int .i64 P, .int .i64 G, .int .i64 DD, .int .u16 fd] 39))) (by omega) hn1 hn2 K P G DD fd K0 K1 ID.out ⟨f0, f1⟩)
        have BX := hid ((Below.heap_alloc wr (.cells #[.int .u8 K, .int .i64 P, .int .i64 G, .int .i64 DD, .int .u16 fd] 39) B (blk_lt F.out.bx)).trans F.out.bx)
        have y0 := blk_cell BX.out (i := 0) rfl
        have y1 := blk_cell BX.out (i := 1) rfl
        have y2 := blk_cell BX.out (i := 2) rfl
        have y3 := blk_cell BX.out (i := 3) rfl
        have y4 := blk_cell BX.out (i := 4) rfl
        have y5 := blk_cell BX.out (i := 5) rfl
        go_wp2_with fail
        refine DC.out.mono ?_
        rintro e w5 ⟨now5, o5, D5, V5, S5, v1, v2, v3, rfl, st5, fr5, k1, k2, k3⟩
        obtain ⟨bL, mL, dL, bW, mW, dW, bS, mS, dS, rfl, rfl, rfl, HL, HW, HS', lL, lW, lS⟩ := st5.di.sl
        obtain ⟨e1, L5, E5⟩ := F.out.next (Z2 := fun q => (Z q ∨ (wr.heap.size ≤ q ∧ q < (wr.alloc (.cells #[.int .u8 K, .int .i64 P, .int .i64 G, .int .i64 DD, .int .u16 fd] 39)).heap.size)) ∨ ((wr.alloc (.cells #[.int .u8 K, .int .i64 P, .int .i64 G, .int .i64 DD, .int .u16 fd] 39)).heap.size ≤ q ∧ q < w5.heap.size ∧ ((Value.slice bL mL dL).ownBlock = some q ∨ (Value.slice bW mW dW).ownBlock = some q ∨ (Value.slice bS mS dS).ownBlock = some q))) (fun q hq => .inl hq) st5 fr5 k1 k2 k3
        have XB := hid e1
        have L5 := hid L5
        have E5 := hid E5
        have HL5 := hid (show D5.length = mL from HL.out)
        clear DC BX y0 y1 y2 y3 y4 y5 st5 fr5 k1 k2 k3 e1 F HL HW HS'
        go_upto_region 9 with (first
          | (refine wpList_store_row rfl 35 (.tmp 8) (.tmp 41) rfl B (sx now5 n (.slice bL mL dL) o5 (.slice bW mW dW) (.slice bS mS dS)) rfl rfl 35 _ XB.out (by kernel_rfl) (by rfl) (by simp [Value.oneCell']) ?_))
        clear XB
        obtain ⟨E, hE⟩ : ∃ E, E = wr.heap.size := ⟨_, rfl⟩
        rw [← hE] at E5
        obtain ⟨ZA, hZA⟩ : ∃ ZA : Nat → Prop, ZA = (fun q => (Z q ∨ (wr.heap.size ≤ q ∧ q < (wr.alloc (.cells #[.int .u8 K, .int .i64 P, .int .i64 G, .int .i64 DD, .int .u16 fd] 39)).heap.size)) ∨ ((wr.alloc (.cells #[.int .u8 K, .int .i64 P, .int .i64 G, .int .i64 DD, .int .u16 fd] 39)).heap.size ≤ q ∧ q < w5.heap.size ∧ ((Value.slice bL mL dL).ownBlock = some q ∨ (Value.slice bW mW dW).ownBlock = some q ∨ (Value.slice bS mS dS).ownBlock = some q))) := ⟨_, rfl⟩
        rw [← hZA] at L5
        clear hZA
        rw [← hE]
        clear hE
        obtain ⟨HQ, hHQ⟩ : ∃ HQ : World → Prop, HQ = fun y => LW12 w s t p b1 b2 b3 n B (k + 1) ZA now5 o5 D5 V5 S5 (.slice bL mL dL) (.slice bW mW dW) (.slice bS mS dS) y ∧ y.heap[E]? = some (.cells #[.int .u8 K, .int .i64 P, .int .i64 G, .int .i64 DD, .int .u16 fd] 39) := ⟨_, rfl⟩
        have UQ := hid (show ∀ y, HQ y → LW12 w s t p b1 b2 b3 n B (k + 1) ZA now5 o5 D5 V5 S5 (.slice bL mL dL) (.slice bW mW dW) (.slice bS mS dS) y from fun y hy => by rw [hHQ] at hy; exact hy.1)
        have HB := hid (show ∀ y y', HQ y → Below y.heap.size y y' → HQ y' from fun y y' hy hb => by rw [hHQ] at hy ⊢; exact ⟨hy.1.below hb, (hb.block _ (Array.getElem?_eq_some_iff.1 hy.2).1).trans hy.2⟩)
        have HS := hid (show ∀ y, HQ y → y.cell? ⟨B, 0, none⟩ = some (.int .i64 now5) ∧ y.cell? ⟨B, 1, none⟩ = some (.int .i64 n) ∧ y.cell? ⟨B, 2, none⟩ = some (.slice bL mL dL) ∧ y.cell? ⟨B, 3, none⟩ = some (.int .u64 o5) ∧ y.cell? ⟨B, 4, none⟩ = some (.slice bW mW dW) ∧ y.cell? ⟨B, 5, none⟩ = some (.slice bS mS dS) ∧ y.cell? ⟨E, 2, none⟩ = some (.int .i64 G) from fun y hy => by
          rw [hHQ] at hy
          exact ⟨blk_cell hy.1.bx rfl, blk_cell hy.1.bx rfl, blk_cell hy.1.bx rfl, blk_cell hy.1.bx rfl, blk_cell hy.1.bx rfl, blk_cell hy.1.bx rfl, blk_cell hy.2 rfl⟩)
        have H1 : HQ (w5.setRow B (sx now5 n (.slice bL mL dL) o5 (.slice bW mW dW) (.slice bS mS dS))) := by rw [hHQ]; exact ⟨L5.out, E5.out⟩
        clear hHQ L5 E5
        generalize w5.setRow B (sx now5 n (.slice bL mL dL) o5 (.slice bW mW dW) (.slice bS mS dS)) = w6 at *
        obtain ⟨dd, hdd⟩ : ∃ d, d = due12 now5 D5 V5 S5 := ⟨_, rfl⟩
        obtain ⟨ln, hln⟩ : ∃ m : Nat, m = D5.length + V5.length := ⟨_, rfl⟩
        obtain ⟨ba, hba⟩ : ∃ b, b = (thasb D5 a2 || rhasb V5 a2) := ⟨_, rfl⟩
        obtain ⟨bg, hbg⟩ : ∃ b, b = (thasb D5 G || rhasb V5 G) := ⟨_, rfl⟩
        have mv := fun {f : FuncId} {ar : Array Value} {y : World} {v : Value} (hy : HQ y) (h : Calls Try.prog f ar y fun e y' => e = .returned v ∧ Below y.heap.size y y') => Calls.mono h (R' := fun e y' => e = .returned v ∧ HQ y') (fun e y' hh => ⟨hh.1, HB.out y y' hy hh.2⟩)
        have CN := hid (show ∀ y, HQ y → Calls Try.prog 8 #[.pointer (some ⟨s, 0, none⟩)] y fun e y' => e = .returned (.int .i64 now5) ∧ HQ y' from fun y hy => mv hy (ps_now (UQ.out y hy).st.ps))
        have CD := hid (show ∀ y, HQ y → Calls Try.prog 9 #[.pointer (some ⟨s, 0, none⟩)] y fun e y' => e = .returned (.bool dd) ∧ HQ y' from fun y hy => mv hy (ps_due (UQ.out y hy).st.ps dd hdd.symm))
        have RD := hid (show ∀ y, HQ y → Calls Try.prog 10 #[.agg (sx now5 n (.slice bL mL dL) o5 (.slice bW mW dW) (.slice bS mS dS))] y fun e y' => e = .returned (.bool dd) ∧ HQ y' from fun y hy => mv hy (rdue12 (UQ.out y hy).st.di dd hdd.symm))
        have CL := hid (show ∀ y, HQ y → Calls Try.prog 11 #[.pointer (some ⟨s, 0, none⟩)] y fun e y' => e = .returned (.int .i64 ln) ∧ HQ y' from fun y hy => mv hy (ps_len (UQ.out y hy).st.ps (by have := (UQ.out y hy).st.ln; omega) ln hln.symm))
        have RL := hid (show ∀ y, HQ y → Calls Try.prog 12 #[.agg (sx now5 n (.slice bL mL dL) o5 (.slice bW mW dW) (.slice bS mS dS))] y fun e y' => e = .returned (.int .i64 ln) ∧ HQ y' from fun y hy => mv hy (rlen12 (UQ.out y hy).st.di ln hln.symm))
        have CA := hid (show ∀ y, HQ y → Calls Try.prog 13 #[.pointer (some ⟨s, 0, none⟩), .int .i64 a2] y fun e y' => e = .returned (.bool ba) ∧ HQ y' from fun y hy => mv hy (ps_out (UQ.out y hy).st.ps a2 ba hba.symm))
        have RA := hid (show ∀ y, HQ y → Calls Try.prog 14 #[.agg (sx now5 n (.slice bL mL dL) o5 (.slice bW mW dW) (.slice bS mS dS)), .int .i64 a2] y fun e y' => e = .returned (.bool ba) ∧ HQ y' from fun y hy => mv hy (rout12 (UQ.out y hy).st.di a2 ba hba.symm))
        have CG := hid (show ∀ y, HQ y → Calls Try.prog 13 #[.pointer (some ⟨s, 0, none⟩), .int .i64 G] y fun e y' => e = .returned (.bool bg) ∧ HQ y' from fun y hy => mv hy (ps_out (UQ.out y hy).st.ps G bg hbg.symm))
        have RG := hid (show ∀ y, HQ y → Calls Try.prog 14 #[.agg (sx now5 n (.slice bL mL dL) o5 (.slice bW mW dW) (.slice bS mS dS)), .int .i64 G] y fun e y' => e = .returned (.bool bg) ∧ HQ y' from fun y hy => mv hy (rout12 (UQ.out y hy).st.di G bg hbg.symm))
        have CX := hid (show ∀ y, HQ y → Calls Try.prog 15 #[.pointer (some ⟨s, 0, none⟩)] y fun e y' => e = .returned (.tuple #[.int .i64 (lst D5), .bool (decide (0 < D5.length))]) ∧ HQ y' from fun y hy => mv hy (by rw [← next_lst]; exact ps_next (UQ.out y hy).st.ps))
        have LC := hid (show ∀ y, HQ y → RdT y (.slice bL mL dL) D5 from fun y hy => (UQ.out y hy).st.di.dt.hd)
        have e1 : (now5 != now5) = false := by simp
        have e2 : (dd != dd) = false := by simp
        have e3 : ((ln : Int) != (ln : Int)) = false := by simp
        have e4 : (ba != ba) = false := by simp
        have e5 : (bg != bg) = false := by simp
        have HD := HB.out _ _ H1 (bl_drw w6 _)
        clear hdd hln hba hbg H1 mv
        go_cut [32, 85] from 33 to 120 (fun s32 s85 wx => s32 = .int .i64 k ∧ s85 = .bool false ∧ HQ wx)
        case first => as_aux_lemma =>
          go_region_held3 (fun y => y.cell? ⟨B, 0, none⟩ = some (.int .i64 now5) ∧ y.cell? ⟨B, 1, none⟩ = some (.int .i64 n) ∧ y.cell? ⟨B, 2, none⟩ = some (.slice bL mL dL) ∧ y.cell? ⟨B, 3, none⟩ = some (.int .u64 o5) ∧ y.cell? ⟨B, 4, none⟩ = some (.slice bW mW dW) ∧ y.cell? ⟨B, 5, none⟩ = some (.slice bS mS dS) ∧ y.cell? ⟨E, 2, none⟩ = some (.int .i64 G))
            (first
              | exact HS.out _ (by assumption))
            (first
              | (go_at_call 8; (with_reducible refine (CN.out _ (by assumption)).mono ?_); rintro e y ⟨rfl, HL1⟩)
              | (go_at_call 9; (with_reducible refine (CD.out _ (by assumption)).mono ?_); rintro e y ⟨rfl, HL2⟩)
              | (go_at_call 10; (with_reducible refine (RD.out _ (by assumption)).mono ?_); rintro e y ⟨rfl, HL3⟩)
              | (go_at_call 11; (with_reducible refine (CL.out _ (by assumption)).mono ?_); rintro e y ⟨rfl, HL4⟩)
              | (go_at_call 12; (with_reducible refine (RL.out _ (by assumption)).mono ?_); rintro e y ⟨rfl, HL6⟩)
              | (go_at_call 13; (with_reducible refine (CA.out _ (by assumption)).mono ?_); rintro e y ⟨rfl, HL7⟩)
              | (go_at_call 14; (with_reducible refine (RA.out _ (by assumption)).mono ?_); rintro e y ⟨rfl, HL8⟩)
              | (go_at_call 13; (with_reducible refine (CG.out _ (by assumption)).mono ?_); rintro e y ⟨rfl, HL9⟩)
              | (go_at_call 14; (with_reducible refine (RG.out _ (by assumption)).mono ?_); rintro e y ⟨rfl, HL10⟩))
          all_goals
            go_wp2_with fail
            go_meet
            exact ⟨rfl, rfl, by assumption⟩
        case rest => as_aux_lemma =>
          obtain ⟨rfl, rfl, H3⟩ := hcut
          clear HD CN CD RD CL RL CA RA CG RG e1 e2 e3 e4 e5
          go_wp2_with fail
          refine (CX.out _ H3).mono ?_
          rintro e w7 ⟨rfl, H4⟩
          obtain ⟨c0, c1, c2, c3, c4, c5, _⟩ := HS.out w7 H4
          clear CX H3
          go_wp2_with fail
          go_loopw [14, 15, 95] (fun v14 v15 i wy => ∃ j : Nat, j ≤ mL ∧ v14 = .int .i64 (lst (D5.take j)) ∧ v15 = .bool (decide (0 < j)) ∧ i = .int .i64 j ∧ HQ wy) (fun _ _ i _ => mL - (intOf i).toNat)
          case atStart => exact ⟨0, by omega, rfl, rfl, rfl, H4⟩
          case round =>
            clear H4 c0 c1 c2 c3 c4 c5
            obtain ⟨j, hj, rfl, rfl, rfl, H5⟩ := hrel
            by_cases hjl : j < mL
            · obtain ⟨a', c', e, _, hh⟩ := LC.out _ H5
              simp only [Value.slice.injEq] at e
              obtain ⟨rfl, e2, rfl⟩ := e
              clear e2
              obtain ⟨q, off, rfl, _, hc⟩ := hh (by have := HL5.out; omega)
              obtain ⟨h0, h1, h2, h3⟩ := hc j (by have := HL5.out; omega)
              have T := hid (t_take (es := D5) (k := j) (by have := HL5.out; omega))
              generalize tAt D5 j = ev at *
              obtain ⟨x, y1, y2, y3⟩ := ev
              simp only at h0 h1 h2 h3
              have LS := hid (lst_snoc (D5.take j) (x, y1, y2, y3))
              rw [← T.out] at LS
              have H6 := HB.out _ _ H5 (bl_al _ (.cells #[.int .i64 x, .int .i64 y1, .int .u64 y2, .int .i64 y3] 53))
              clear hh hc
              rcases Nat.eq_zero_or_pos j with rfl | hjp
              · have d0 : decide (0 < 0) = false := rfl
                have LV := hid (show lst (D5.take (0 + 1)) = y1 by rw [LS.out, if_pos (.inl (by simp))])
                clear LS T
                simp only [Nat.zero_mul, Nat.add_zero] at h0 h1 h2 h3
                go_wp2_with fail
                go_roundw
                case rel => exact ⟨1, by omega, by rw [← LV.out], rfl, by go_num, H6⟩
                case measure => simp [intOf]; omega
              · have d0 : decide (0 < j) = true := decide_eq_true hjp
                have ne : D5.take j ≠ [] := by
                  intro h9
                  have := congrArg List.length h9
                  rw [List.length_take, HL5.out] at this
                  simp at this; omega
                by_cases hl : y1 < lst (D5.take j)
                · have d1 : decide (y1 < lst (D5.take j)) = true := decide_eq_true hl
                  have LV := hid (show lst (D5.take (j + 1)) = y1 by rw [LS.out, if_pos (.inr hl)])
                  clear LS T
                  generalize lst (D5.take j) = lv at *
                  go_wp2_with fail
                  go_roundw
                  case rel => exact ⟨j + 1, by omega, by rw [← LV.out], by first | (simp; done) | (simp; omega), by go_num, H6⟩
                  case measure => simp [intOf]; omega
                · have d1 : decide (y1 < lst (D5.take j)) = false := decide_eq_false hl
                  have LV := hid (show lst (D5.take (j + 1)) = lst (D5.take j) by rw [LS.out, if_neg (by rintro (h | h); exact ne h; exact hl h)])
                  clear LS T
                  generalize hlv : lst (D5.take j) = lv at *
                  go_wp2_with fail
                  go_roundw
                  case rel => exact ⟨j + 1, by omega, by rw [← LV.out], by first | (simp; done) | (simp; omega), by go_num, H6⟩
                  case measure => simp [intOf]; omega
            · obtain rfl : j = mL := by omega
              have hT : D5.take j = D5 := List.take_of_length_le (by have := HL5.out; omega)
              have hL : D5.length = j := HL5.out
              rw [hT, hL]
              have e1 : (lst D5 != lst D5) = false := by simp
              have e2 : (decide (0 < j) != decide (0 < j)) = false := by simp
              generalize lst D5 = lv at *
              generalize decide (0 < j) = db at *
              have P9 := hid (UQ.out _ H5)
              have B9 := P9.out.bl
              go_wp2_with fail
              go_roundw
              case rel => exact ⟨k + 1, _, _, _, _, _, _, _, _, _, by omega, by go_num, P9, B9⟩
              case measure => simp [intOf]; omega
      · obtain rfl : k = len1 := by omega
        clear F
        go_wp2
        go_ret
        exact ⟨rfl, hbr⟩
end Go.Proofs.Ytaogpodncphpjaa.sourcePlays
