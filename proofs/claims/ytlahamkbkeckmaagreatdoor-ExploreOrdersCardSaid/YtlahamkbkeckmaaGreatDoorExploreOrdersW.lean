/- The walk of the statement ExploreOrders: the law answers true and turns nothing that was there. -/
import Derived.Test.YtlahamkbkeckmaaGreatDoorPre1
import Derived.Test.YtlahamkbkeckmaaGreatDoorLives28
import Derived.Test.YtlahamkbkeckmaaGreatDoorOrd28
import Derived.Test.YtlahamkbkeckmaaGreatDoorCnt28
import Derived.OpenShut
namespace Go.Proofs.YtlahamkbkeckmaaGreatDoor.exploreOrders
open Go.RowKit
set_option linter.unusedVariables false
set_option linter.unusedSimpArgs false
set_option maxRecDepth 20000

set_option maxHeartbeats 4000000 in
theorem walk (a0 a1 a2 : Int) (w : World) (w0 : (Lit.int .i64 a0).wf = true) (w1 : (Lit.int .i64 a1).wf = true) (w2 : (Lit.int .i64 a2).wf = true) (T2 : EvNames w) (T3 : EvSteps w) (T1 : MaPlaces w) :
    Calls Tryz.prog 4 #[.int .i64 a0, .int .i64 a1, .int .i64 a2] w fun e w' => e = .returned (.bool true) ∧ Below w.heap.size w w' := by
  have b0 := bounds_i64 w0
  have b1 := bounds_i64 w1
  have b2 := bounds_i64 w2
  clear w0 w1 w2
  have LV := hid (lives28 w T1 T2 T3 T1.lt T2.lt T3.lt)
  by_cases hbig : (1048576 : Int) < a1 ∨ (1099511627776 : Int) < a0
  · have LV2 : Hid (∀ w2 : World, Below w.heap.size w w2 → Calls Tryz.prog 5 #[] w2 fun e w' => e = .returned (.bool true) ∧ Below w2.heap.size w2 w') := hid (fun w2 hb => lives28 w2 (T1.at hb) (T2.at hb) (T3.at hb) (by have := T1.lt; have := hb.size; omega) (by have := T2.lt; have := hb.size; omega) (by have := T3.lt; have := hb.size; omega))
    clear T1 T2 T3
    rcases (show 1048576 < a1 ∨ (a1 ≤ 1048576 ∧ 1099511627776 < a0) by omega) with h1 | ⟨h1, h2⟩
    all_goals
      clear hbig
      go_enter Tryz.func4, Tryz.ntmps4
      go_wp2_with fail
      refine LV.out.mono ?_
      rintro e w2 ⟨rfl, hb⟩
      have B2 := hid hb
      clear LV
      go_wp2_with fail
      refine (LV2.out w2 hb).mono ?_
      rintro e w3 ⟨rfl, hb3⟩
      have B3 := hid (B2.out.trans (hb3.mono B2.out.size))
      clear hb hb3 B2 LV2
      go_wp2
      go_ret
      exact ⟨rfl, B3.out⟩
  · have h1 : a1 ≤ 1048576 := by omega
    have h2 : a0 ≤ 1099511627776 := by omega
    clear hbig T1 T2 T3
    have b01 := b0.1
    have b11 := b1.1
    have b21 := b2.1
    have b22 := b2.2
    clear b0 b1 b2
    have EC := hid (fun w => ecount a0 a1 w (by omega) (by omega))
    have RC := hid (fun w => rcount28 a0 a1 w h2 h1 b01 b11)
    have EN := hid (fun w => eorder_no a0 a1 a2 w (by omega) (by omega))
    have EP := hid (fun h => ecnt_pos (m := a0) (n := a1) h)
    have EA := hid (fun (n : Nat) (hn : n ≤ 300) (h0 : 0 ≤ a0) (he : a1 = n) (k : Nat) (hk : (k : Int) < ecnt a0 a1) (hk2 : k ≤ 300) w => eorder_all a0 n k w h0 (by omega) (by omega) (by omega) (by rw [← he]; exact hk) (by omega))
    have NA := hid (fun (n : Nat) (hn : n ≤ 300) (h0 : 1 ≤ a0 ∨ n = 0) (k : Nat) v w => next_all a0 n k v w h0 h2 (by omega) (by omega))
    generalize ecnt a0 a1 = c at *
    go_enter Tryz.func4, Tryz.ntmps4
    go_wp2_with fail
    refine LV.out.mono ?_
    rintro e w2 ⟨rfl, hb⟩
    have B2 := hid hb
    clear hb LV
    have d1 : decide ((1048576 : Int) < a1) = false := decide_eq_false (by omega)
    have d2 : decide ((1099511627776 : Int) < a0) = false := decide_eq_false (by omega)
    go_wp2_with fail
    refine (EC.out _).mono ?_
    rintro e w3 ⟨rfl, rfl⟩
    go_wp2_with fail
    refine (RC.out _).mono ?_
    rintro e w4 ⟨rfl, rfl⟩
    have hcc : (c != c) = false := by simp
    obtain ⟨L, hL⟩ : ∃ L : Nat, L = a1.toNat := ⟨_, rfl⟩
    rcases (show a2 < 0 ∨ (0 ≤ a2 ∧ c ≤ a2) ∨ (0 ≤ a2 ∧ a2 < c) by omega) with hi | ⟨hi1, hi2⟩ | ⟨hi1, hi2⟩
    · have EN2 := hid (fun w => EN.out w (Or.inl hi))
      clear EN
      go_wp2_with fail
      refine (EN2.out _).mono ?_
      rintro e w5 ⟨rfl, rfl⟩
      clear EN2
      obtain ⟨w6, rfl⟩ : ∃ w6, w6 = w5 := ⟨_, rfl⟩
      rcases (show 300 < c ∨ (c ≤ 300 ∧ 300 < a1) ∨ (c ≤ 300 ∧ a1 ≤ 300) by omega) with hz | ⟨hz1, hz2⟩ | ⟨hz1, hz2⟩
      · as_aux_lemma =>
          go_wp2
          go_ret
          exact ⟨rfl, B2.out⟩
      · as_aux_lemma =>
          go_wp2
          go_ret
          exact ⟨rfl, B2.out⟩
      · have hL3 : L ≤ 300 := by omega
        obtain ⟨w7, hw7⟩ : ∃ w7, w7 = w6.alloc (.cells (madeCells #[.int .i64 0] L) 3) := ⟨_, rfl⟩
        obtain ⟨q, hq⟩ : ∃ q, q = w6.heap.size := ⟨_, rfl⟩
        have MZ := made_zero L w6 (by omega)
        have R7 := hid (show Reads w7 (.slice (some ⟨q, 0, none⟩) L L) (edig a0 L 0) by rw [edig_first', hw7, hq]; exact MZ.1.reads)
        have B7 := hid (show Below w.heap.size w w7 by rw [hw7]; exact B2.out.trans (MZ.2.mono B2.out.size))
        have hmk := run_make_row' (P := Tryz.prog) 25 3 (.int .i64 0) 8 Tryz.underlying25 infoInt4 rfl .i64 .i64 L (by omega) (by omega) w6
        rw [← hw7, ← hq] at hmk
        clear MZ hw7 hq B2
        rcases (show a1 < 0 ∨ a1 = 0 ∨ 0 < a1 by omega) with hl | hl | hl
        · as_aux_lemma =>
            obtain rfl : L = 0 := by omega
            simp only [Int.natCast_zero] at hmk
            clear hL
            have hc0 : c ≤ 0 := by
              rcases (show c ≤ 0 ∨ 0 < c by omega) with h | h
              · exact h
              · obtain ⟨_, p2, _⟩ := EP.out h; omega
            go_wp2_with fail
            clear hmk
            go_loopw [8, 56] (fun x i wr => x = .slice (some ⟨q, 0, none⟩) 0 0 ∧ i = .int .i64 0 ∧ wr = w7)
              (fun _ i _ => 0)
            case atStart => exact ⟨rfl, rfl, rfl⟩
            case round =>
              obtain ⟨rfl, rfl, rfl⟩ := hrel
              go_wp2
              go_ret
              exact ⟨rfl, B7.out⟩
        · as_aux_lemma =>
            obtain rfl : L = 0 := by omega
            subst hl
            simp only [Int.natCast_zero] at hmk
            clear hL
            go_wp2_with fail
            clear hmk
            generalize Value.slice (some ⟨q, 0, none⟩) 0 0 = v0 at *
            go_loopw [8, 56] (fun x i wr => ∃ (k : Nat) (v : Value), (k : Int) ≤ 300 ∧ v = x ∧ i = .int .i64 k ∧ Hid (Reads wr v (edig a0 0 k)) ∧ Hid (Below w.heap.size w wr))
              (fun _ i _ => c.toNat - (intOf i).toNat)
            case atStart => exact ⟨0, _, by omega, rfl, rfl, R7, B7⟩
            case round =>
              clear R7 B7
              obtain ⟨k, v, hk, rfl, rfl, RD, BR⟩ := hrel
              by_cases hlt : (k : Int) < c
              · obtain ⟨p1, p2, p3⟩ := EP.out (by omega)
                have EO := EA.out 0 (by omega) p1 (by omega) k hlt (by omega) wr
                simp only [Int.natCast_zero] at EO
                have EO := hid EO
                have NX := hid (fun w => NA.out 0 (by omega) (by omega) k v w)
                have LE := hid (edig_len a0 0 k)
                generalize edig a0 0 k = xs at *
                have HYS := hid (show (k : Int) + 1 = ((k + 1 : Nat) : Int) by omega)
                have RD0 := RD.out
                obtain ⟨xa, xc, rfl, hxa⟩ := RD0
                clear hxa p2 p3 p1
                go_wp2_with fail
                refine EO.out.mono ?_
                rintro e w8 ⟨v8, rfl, ho8, hb8⟩
                have R8 := hid ho8.reads
                have RX := hid (RD.out.of_below hb8)
                have B8 := hid (BR.out.trans (hb8.mono BR.out.size))
                obtain ⟨ya, ym, yc, rfl⟩ := ho8.slice3
                clear ho8 hb8 EO RD BR
                go_wp2_with fail
                refine (same_any _ _ xs xs true (by simp) _ R8.out RX.out (by rw [LE.out]; omega) (by rw [LE.out]; omega)).mono ?_
                rintro e w9 ⟨rfl, hq9⟩
                have R9 := hid (RX.out.of_below (hq9.below _))
                have B9 := hid (B8.out.trans (hq9.below _))
                clear hq9 RX R8 B8
                go_wp2_with fail
                refine (NX.out _ R9.out).mono ?_
                rintro e w10 ⟨v10, rfl, ho10, hb10⟩
                have R10 := hid (show Reads w10 v10 (edig a0 0 ((k + 1 : Nat) : Int)) by
                  rw [← HYS.out]; exact ho10.reads)
                have B10 := hid (B9.out.trans (hb10.mono B9.out.size))
                clear ho10 hb10 R9 B9 NX
                go_wp2_with fail
                go_roundw
                case rel => exact ⟨k + 1, v10, by omega, rfl, by go_num, R10, B10⟩
                case measure => simp [intOf]; omega
              · go_wp2
                go_ret
                exact ⟨rfl, BR.out⟩
        · as_aux_lemma =>
            have hla : a1 = L := by omega
            subst hla
            clear hL
            go_wp2_with fail
            clear hmk
            generalize Value.slice (some ⟨q, 0, none⟩) L L = v0 at *
            go_loopw [8, 56] (fun x i wr => ∃ (k : Nat) (v : Value), (k : Int) ≤ 300 ∧ v = x ∧ i = .int .i64 k ∧ Hid (Reads wr v (edig a0 L k)) ∧ Hid (Below w.heap.size w wr))
              (fun _ i _ => c.toNat - (intOf i).toNat)
            case atStart => exact ⟨0, _, by omega, rfl, rfl, R7, B7⟩
            case round =>
              clear R7 B7
              obtain ⟨k, v, hk, rfl, rfl, RD, BR⟩ := hrel
              by_cases hlt : (k : Int) < c
              · obtain ⟨p1, p2, p3⟩ := EP.out (by omega)
                have EO := EA.out L (by omega) p1 (by omega) k hlt (by omega) wr
                have EO := hid EO
                have NX := hid (fun w => NA.out L (by omega) (by omega) k v w)
                have LE := hid (edig_len a0 L k)
                generalize edig a0 L k = xs at *
                have HYS := hid (show (k : Int) + 1 = ((k + 1 : Nat) : Int) by omega)
                have RD0 := RD.out
                obtain ⟨xa, xc, rfl, hxa⟩ := RD0
                clear hxa p2 p3 p1
                go_wp2_with fail
                refine EO.out.mono ?_
                rintro e w8 ⟨v8, rfl, ho8, hb8⟩
                have R8 := hid ho8.reads
                have RX := hid (RD.out.of_below hb8)
                have B8 := hid (BR.out.trans (hb8.mono BR.out.size))
                obtain ⟨ya, ym, yc, rfl⟩ := ho8.slice3
                clear ho8 hb8 EO RD BR
                go_wp2_with fail
                refine (same_any _ _ xs xs true (by simp) _ R8.out RX.out (by rw [LE.out]; omega) (by rw [LE.out]; omega)).mono ?_
                rintro e w9 ⟨rfl, hq9⟩
                have R9 := hid (RX.out.of_below (hq9.below _))
                have B9 := hid (B8.out.trans (hq9.below _))
                clear hq9 RX R8 B8
                go_wp2_with fail
                refine (NX.out _ R9.out).mono ?_
                rintro e w10 ⟨v10, rfl, ho10, hb10⟩
                have R10 := hid (show Reads w10 v10 (edig a0 L ((k + 1 : Nat) : Int)) by
                  rw [← HYS.out]; exact ho10.reads)
                have B10 := hid (B9.out.trans (hb10.mono B9.out.size))
                clear ho10 hb10 R9 B9 NX
                go_wp2_with fail
                go_roundw
                case rel => exact ⟨k + 1, v10, by omega, rfl, by go_num, R10, B10⟩
                case measure => simp [intOf]; omega
              · go_wp2
                go_ret
                exact ⟨rfl, BR.out⟩
    · have EN2 := hid (fun w => EN.out w (Or.inr hi2))
      clear EN
      go_wp2_with fail
      refine (EN2.out _).mono ?_
      rintro e w5 ⟨rfl, rfl⟩
      clear EN2
      obtain ⟨w6, rfl⟩ : ∃ w6, w6 = w5 := ⟨_, rfl⟩
      rcases (show 300 < c ∨ (c ≤ 300 ∧ 300 < a1) ∨ (c ≤ 300 ∧ a1 ≤ 300) by omega) with hz | ⟨hz1, hz2⟩ | ⟨hz1, hz2⟩
      · as_aux_lemma =>
          go_wp2
          go_ret
          exact ⟨rfl, B2.out⟩
      · as_aux_lemma =>
          go_wp2
          go_ret
          exact ⟨rfl, B2.out⟩
      · have hL3 : L ≤ 300 := by omega
        obtain ⟨w7, hw7⟩ : ∃ w7, w7 = w6.alloc (.cells (madeCells #[.int .i64 0] L) 3) := ⟨_, rfl⟩
        obtain ⟨q, hq⟩ : ∃ q, q = w6.heap.size := ⟨_, rfl⟩
        have MZ := made_zero L w6 (by omega)
        have R7 := hid (show Reads w7 (.slice (some ⟨q, 0, none⟩) L L) (edig a0 L 0) by rw [edig_first', hw7, hq]; exact MZ.1.reads)
        have B7 := hid (show Below w.heap.size w w7 by rw [hw7]; exact B2.out.trans (MZ.2.mono B2.out.size))
        have hmk := run_make_row' (P := Tryz.prog) 25 3 (.int .i64 0) 8 Tryz.underlying25 infoInt4 rfl .i64 .i64 L (by omega) (by omega) w6
        rw [← hw7, ← hq] at hmk
        clear MZ hw7 hq B2
        rcases (show a1 < 0 ∨ a1 = 0 ∨ 0 < a1 by omega) with hl | hl | hl
        · as_aux_lemma =>
            obtain rfl : L = 0 := by omega
            simp only [Int.natCast_zero] at hmk
            clear hL
            have hc0 : c ≤ 0 := by
              rcases (show c ≤ 0 ∨ 0 < c by omega) with h | h
              · exact h
              · obtain ⟨_, p2, _⟩ := EP.out h; omega
            go_wp2_with fail
            clear hmk
            go_loopw [8, 56] (fun x i wr => x = .slice (some ⟨q, 0, none⟩) 0 0 ∧ i = .int .i64 0 ∧ wr = w7)
              (fun _ i _ => 0)
            case atStart => exact ⟨rfl, rfl, rfl⟩
            case round =>
              obtain ⟨rfl, rfl, rfl⟩ := hrel
              go_wp2
              go_ret
              exact ⟨rfl, B7.out⟩
        · as_aux_lemma =>
            obtain rfl : L = 0 := by omega
            subst hl
            simp only [Int.natCast_zero] at hmk
            clear hL
            go_wp2_with fail
            clear hmk
            generalize Value.slice (some ⟨q, 0, none⟩) 0 0 = v0 at *
            go_loopw [8, 56] (fun x i wr => ∃ (k : Nat) (v : Value), (k : Int) ≤ 300 ∧ v = x ∧ i = .int .i64 k ∧ Hid (Reads wr v (edig a0 0 k)) ∧ Hid (Below w.heap.size w wr))
              (fun _ i _ => c.toNat - (intOf i).toNat)
            case atStart => exact ⟨0, _, by omega, rfl, rfl, R7, B7⟩
            case round =>
              clear R7 B7
              obtain ⟨k, v, hk, rfl, rfl, RD, BR⟩ := hrel
              by_cases hlt : (k : Int) < c
              · obtain ⟨p1, p2, p3⟩ := EP.out (by omega)
                have EO := EA.out 0 (by omega) p1 (by omega) k hlt (by omega) wr
                simp only [Int.natCast_zero] at EO
                have EO := hid EO
                have NX := hid (fun w => NA.out 0 (by omega) (by omega) k v w)
                have LE := hid (edig_len a0 0 k)
                generalize edig a0 0 k = xs at *
                have HYS := hid (show (k : Int) + 1 = ((k + 1 : Nat) : Int) by omega)
                have RD0 := RD.out
                obtain ⟨xa, xc, rfl, hxa⟩ := RD0
                clear hxa p2 p3 p1
                go_wp2_with fail
                refine EO.out.mono ?_
                rintro e w8 ⟨v8, rfl, ho8, hb8⟩
                have R8 := hid ho8.reads
                have RX := hid (RD.out.of_below hb8)
                have B8 := hid (BR.out.trans (hb8.mono BR.out.size))
                obtain ⟨ya, ym, yc, rfl⟩ := ho8.slice3
                clear ho8 hb8 EO RD BR
                go_wp2_with fail
                refine (same_any _ _ xs xs true (by simp) _ R8.out RX.out (by rw [LE.out]; omega) (by rw [LE.out]; omega)).mono ?_
                rintro e w9 ⟨rfl, hq9⟩
                have R9 := hid (RX.out.of_below (hq9.below _))
                have B9 := hid (B8.out.trans (hq9.below _))
                clear hq9 RX R8 B8
                go_wp2_with fail
                refine (NX.out _ R9.out).mono ?_
                rintro e w10 ⟨v10, rfl, ho10, hb10⟩
                have R10 := hid (show Reads w10 v10 (edig a0 0 ((k + 1 : Nat) : Int)) by
                  rw [← HYS.out]; exact ho10.reads)
                have B10 := hid (B9.out.trans (hb10.mono B9.out.size))
                clear ho10 hb10 R9 B9 NX
                go_wp2_with fail
                go_roundw
                case rel => exact ⟨k + 1, v10, by omega, rfl, by go_num, R10, B10⟩
                case measure => simp [intOf]; omega
              · go_wp2
                go_ret
                exact ⟨rfl, BR.out⟩
        · as_aux_lemma =>
            have hla : a1 = L := by omega
            subst hla
            clear hL
            go_wp2_with fail
            clear hmk
            generalize Value.slice (some ⟨q, 0, none⟩) L L = v0 at *
            go_loopw [8, 56] (fun x i wr => ∃ (k : Nat) (v : Value), (k : Int) ≤ 300 ∧ v = x ∧ i = .int .i64 k ∧ Hid (Reads wr v (edig a0 L k)) ∧ Hid (Below w.heap.size w wr))
              (fun _ i _ => c.toNat - (intOf i).toNat)
            case atStart => exact ⟨0, _, by omega, rfl, rfl, R7, B7⟩
            case round =>
              clear R7 B7
              obtain ⟨k, v, hk, rfl, rfl, RD, BR⟩ := hrel
              by_cases hlt : (k : Int) < c
              · obtain ⟨p1, p2, p3⟩ := EP.out (by omega)
                have EO := EA.out L (by omega) p1 (by omega) k hlt (by omega) wr
                have EO := hid EO
                have NX := hid (fun w => NA.out L (by omega) (by omega) k v w)
                have LE := hid (edig_len a0 L k)
                generalize edig a0 L k = xs at *
                have HYS := hid (show (k : Int) + 1 = ((k + 1 : Nat) : Int) by omega)
                have RD0 := RD.out
                obtain ⟨xa, xc, rfl, hxa⟩ := RD0
                clear hxa p2 p3 p1
                go_wp2_with fail
                refine EO.out.mono ?_
                rintro e w8 ⟨v8, rfl, ho8, hb8⟩
                have R8 := hid ho8.reads
                have RX := hid (RD.out.of_below hb8)
                have B8 := hid (BR.out.trans (hb8.mono BR.out.size))
                obtain ⟨ya, ym, yc, rfl⟩ := ho8.slice3
                clear ho8 hb8 EO RD BR
                go_wp2_with fail
                refine (same_any _ _ xs xs true (by simp) _ R8.out RX.out (by rw [LE.out]; omega) (by rw [LE.out]; omega)).mono ?_
                rintro e w9 ⟨rfl, hq9⟩
                have R9 := hid (RX.out.of_below (hq9.below _))
                have B9 := hid (B8.out.trans (hq9.below _))
                clear hq9 RX R8 B8
                go_wp2_with fail
                refine (NX.out _ R9.out).mono ?_
                rintro e w10 ⟨v10, rfl, ho10, hb10⟩
                have R10 := hid (show Reads w10 v10 (edig a0 L ((k + 1 : Nat) : Int)) by
                  rw [← HYS.out]; exact ho10.reads)
                have B10 := hid (B9.out.trans (hb10.mono B9.out.size))
                clear ho10 hb10 R9 B9 NX
                go_wp2_with fail
                go_roundw
                case rel => exact ⟨k + 1, v10, by omega, rfl, by go_num, R10, B10⟩
                case measure => simp [intOf]; omega
              · go_wp2
                go_ret
                exact ⟨rfl, BR.out⟩
    · clear EN
      obtain ⟨w6, rfl⟩ : ∃ w6, w6 = w4 := ⟨_, rfl⟩
      rcases (show 300 < c ∨ (c ≤ 300 ∧ 300 < a1) ∨ (c ≤ 300 ∧ a1 ≤ 300) by omega) with hz | ⟨hz1, hz2⟩ | ⟨hz1, hz2⟩
      · as_aux_lemma =>
          go_wp2
          go_ret
          exact ⟨rfl, B2.out⟩
      · as_aux_lemma =>
          go_wp2
          go_ret
          exact ⟨rfl, B2.out⟩
      · have hL3 : L ≤ 300 := by omega
        obtain ⟨w7, hw7⟩ : ∃ w7, w7 = w6.alloc (.cells (madeCells #[.int .i64 0] L) 3) := ⟨_, rfl⟩
        obtain ⟨q, hq⟩ : ∃ q, q = w6.heap.size := ⟨_, rfl⟩
        have MZ := made_zero L w6 (by omega)
        have R7 := hid (show Reads w7 (.slice (some ⟨q, 0, none⟩) L L) (edig a0 L 0) by rw [edig_first', hw7, hq]; exact MZ.1.reads)
        have B7 := hid (show Below w.heap.size w w7 by rw [hw7]; exact B2.out.trans (MZ.2.mono B2.out.size))
        have hmk := run_make_row' (P := Tryz.prog) 25 3 (.int .i64 0) 8 Tryz.underlying25 infoInt4 rfl .i64 .i64 L (by omega) (by omega) w6
        rw [← hw7, ← hq] at hmk
        clear MZ hw7 hq B2
        rcases (show a1 < 0 ∨ a1 = 0 ∨ 0 < a1 by omega) with hl | hl | hl
        · as_aux_lemma =>
            obtain rfl : L = 0 := by omega
            simp only [Int.natCast_zero] at hmk
            clear hL
            have hc0 : c ≤ 0 := by
              rcases (show c ≤ 0 ∨ 0 < c by omega) with h | h
              · exact h
              · obtain ⟨_, p2, _⟩ := EP.out h; omega
            omega
        · as_aux_lemma =>
            obtain rfl : L = 0 := by omega
            subst hl
            simp only [Int.natCast_zero] at hmk
            clear hL
            go_wp2_with fail
            clear hmk
            generalize Value.slice (some ⟨q, 0, none⟩) 0 0 = v0 at *
            go_loopw [8, 56] (fun x i wr => ∃ (k : Nat) (v : Value), (k : Int) ≤ 300 ∧ v = x ∧ i = .int .i64 k ∧ Hid (Reads wr v (edig a0 0 k)) ∧ Hid (Below w.heap.size w wr))
              (fun _ i _ => c.toNat - (intOf i).toNat)
            case atStart => exact ⟨0, _, by omega, rfl, rfl, R7, B7⟩
            case round =>
              clear R7 B7
              obtain ⟨k, v, hk, rfl, rfl, RD, BR⟩ := hrel
              by_cases hlt : (k : Int) < c
              · obtain ⟨p1, p2, p3⟩ := EP.out (by omega)
                have EO := EA.out 0 (by omega) p1 (by omega) k hlt (by omega) wr
                simp only [Int.natCast_zero] at EO
                have EO := hid EO
                have NX := hid (fun w => NA.out 0 (by omega) (by omega) k v w)
                have LE := hid (edig_len a0 0 k)
                generalize edig a0 0 k = xs at *
                have HYS := hid (show (k : Int) + 1 = ((k + 1 : Nat) : Int) by omega)
                have RD0 := RD.out
                obtain ⟨xa, xc, rfl, hxa⟩ := RD0
                clear hxa p2 p3 p1
                go_wp2_with fail
                refine EO.out.mono ?_
                rintro e w8 ⟨v8, rfl, ho8, hb8⟩
                have R8 := hid ho8.reads
                have RX := hid (RD.out.of_below hb8)
                have B8 := hid (BR.out.trans (hb8.mono BR.out.size))
                obtain ⟨ya, ym, yc, rfl⟩ := ho8.slice3
                clear ho8 hb8 EO RD BR
                go_wp2_with fail
                refine (same_any _ _ xs xs true (by simp) _ R8.out RX.out (by rw [LE.out]; omega) (by rw [LE.out]; omega)).mono ?_
                rintro e w9 ⟨rfl, hq9⟩
                have R9 := hid (RX.out.of_below (hq9.below _))
                have B9 := hid (B8.out.trans (hq9.below _))
                clear hq9 RX R8 B8
                go_wp2_with fail
                refine (NX.out _ R9.out).mono ?_
                rintro e w10 ⟨v10, rfl, ho10, hb10⟩
                have R10 := hid (show Reads w10 v10 (edig a0 0 ((k + 1 : Nat) : Int)) by
                  rw [← HYS.out]; exact ho10.reads)
                have B10 := hid (B9.out.trans (hb10.mono B9.out.size))
                clear ho10 hb10 R9 B9 NX
                go_wp2_with fail
                go_roundw
                case rel => exact ⟨k + 1, v10, by omega, rfl, by go_num, R10, B10⟩
                case measure => simp [intOf]; omega
              · go_wp2
                go_ret
                exact ⟨rfl, BR.out⟩
        · as_aux_lemma =>
            have hla : a1 = L := by omega
            subst hla
            clear hL
            go_wp2_with fail
            clear hmk
            generalize Value.slice (some ⟨q, 0, none⟩) L L = v0 at *
            go_loopw [8, 56] (fun x i wr => ∃ (k : Nat) (v : Value), (k : Int) ≤ 300 ∧ v = x ∧ i = .int .i64 k ∧ Hid (Reads wr v (edig a0 L k)) ∧ Hid (Below w.heap.size w wr))
              (fun _ i _ => c.toNat - (intOf i).toNat)
            case atStart => exact ⟨0, _, by omega, rfl, rfl, R7, B7⟩
            case round =>
              clear R7 B7
              obtain ⟨k, v, hk, rfl, rfl, RD, BR⟩ := hrel
              by_cases hlt : (k : Int) < c
              · obtain ⟨p1, p2, p3⟩ := EP.out (by omega)
                have EO := EA.out L (by omega) p1 (by omega) k hlt (by omega) wr
                have EO := hid EO
                have NX := hid (fun w => NA.out L (by omega) (by omega) k v w)
                have LE := hid (edig_len a0 L k)
                generalize edig a0 L k = xs at *
                have HYS := hid (show (k : Int) + 1 = ((k + 1 : Nat) : Int) by omega)
                have RD0 := RD.out
                obtain ⟨xa, xc, rfl, hxa⟩ := RD0
                clear hxa p2 p3 p1
                go_wp2_with fail
                refine EO.out.mono ?_
                rintro e w8 ⟨v8, rfl, ho8, hb8⟩
                have R8 := hid ho8.reads
                have RX := hid (RD.out.of_below hb8)
                have B8 := hid (BR.out.trans (hb8.mono BR.out.size))
                obtain ⟨ya, ym, yc, rfl⟩ := ho8.slice3
                clear ho8 hb8 EO RD BR
                go_wp2_with fail
                refine (same_any _ _ xs xs true (by simp) _ R8.out RX.out (by rw [LE.out]; omega) (by rw [LE.out]; omega)).mono ?_
                rintro e w9 ⟨rfl, hq9⟩
                have R9 := hid (RX.out.of_below (hq9.below _))
                have B9 := hid (B8.out.trans (hq9.below _))
                clear hq9 RX R8 B8
                go_wp2_with fail
                refine (NX.out _ R9.out).mono ?_
                rintro e w10 ⟨v10, rfl, ho10, hb10⟩
                have R10 := hid (show Reads w10 v10 (edig a0 L ((k + 1 : Nat) : Int)) by
                  rw [← HYS.out]; exact ho10.reads)
                have B10 := hid (B9.out.trans (hb10.mono B9.out.size))
                clear ho10 hb10 R9 B9 NX
                go_wp2_with fail
                go_roundw
                case rel => exact ⟨k + 1, v10, by omega, rfl, by go_num, R10, B10⟩
                case measure => simp [intOf]; omega
              · go_wp2
                go_ret
                exact ⟨rfl, BR.out⟩
end Go.Proofs.YtlahamkbkeckmaaGreatDoor.exploreOrders
