/- The walk of the statement MaskDrains: the law answers true and turns nothing that was there. -/
import Derived.Test.YtcbdmofdbmimfaaDoorMask5
import Derived.OpenShut
namespace Go.Proofs.YtcbdmofdbmimfaaDoor.maskDrains
open Go.RowKit
set_option linter.unusedVariables false
set_option linter.unusedSimpArgs false

set_option maxHeartbeats 4000000 in
theorem walk (a0 : Option Addr) (len0 cap0 : Nat) (z0 : List Int) (w : World) (w0 : IsRow .i64 w a0 len0 cap0 z0) (T1 : DbTab w) :
    Calls Tryd.prog 3 #[.slice a0 len0 cap0] w fun e w' => e = .returned (.bool true) ∧ Below w.heap.size w w' := by
  have HT := hid T1
  clear T1
  by_cases hlen : (60 : Int) < len0
  · go_enter Tryd.func3, Tryd.ntmps3
    go_wp2_with fail
    refine (lives2 _ HT.out).mono ?_
    rintro e w2 ⟨rfl, hb1⟩
    have T2 := hid (HT.out.at hb1)
    go_wp2_with fail
    refine (lives2 _ T2.out).mono ?_
    rintro e w3 ⟨rfl, hb2⟩
    go_wp2
    go_ret
    exact ⟨rfl, hb1.trans (hb2.mono hb1.size)⟩
  · have hlen' : len0 ≤ 60 := by omega
    have W0 := hid w0
    clear w0
    go_enter Tryd.func3, Tryd.ntmps3
    go_wp2_with fail
    refine (lives2 _ HT.out).mono ?_
    rintro e w2 ⟨rfl, hb1⟩
    have B2 := hid hb1
    clear hb1
    go_wp2_with fail
    refine (mnew_st 300 300 (by omega) _ _ HT.out B2.out).mono ?_
    rintro e w3 ⟨x, y, W3, rfl, hst, hw3⟩
    have ST := hid hst
    clear hst hw3
    go_wp2_with fail
    go_loopw [20] (fun i wr => ∃ (k : Nat) (W : List Nat), k ≤ len0 ∧ i = .int .i64 k ∧ Hid (MSt w x y 300 W wr)) (fun i _ => len0 - (intOf i).toNat)
    case atStart => exact ⟨0, W3, Nat.zero_le _, rfl, ST⟩
    case round =>
      clear ST W3
      obtain ⟨k, W, hk, rfl, HS⟩ := hrel
      by_cases hlt : k < len0
      · obtain ⟨bx, off, rfl, hzl, hwf, hcell⟩ := W0.out.open.resolve_left (by omega)
        have hx := hcell _ HS.out.B k hlt
        obtain ⟨v, hv⟩ : ∃ v, v = z0.getD k 0 := ⟨_, rfl⟩
        rw [← hv] at hx
        clear hv hwf hcell
        go_wp2_with fail
        refine (put_any x y 300 W v _ HS.out.m).mono ?_
        rintro e w5 ⟨b, W', rfl, hm5, ho5⟩
        have HS' := hid (HS.out.put hm5 ho5)
        clear hm5 ho5 HS
        go_wp2
        go_roundw
        case rel => exact ⟨k + 1, W', by omega, by go_num, HS'⟩
        case measure => simp [intOf]; omega
      · obtain rfl : k = len0 := by omega
        obtain ⟨c, hc⟩ : ∃ c, c = card (bitAt W) 300 := ⟨_, rfl⟩
        have CNT := hid (mcount_any x y 300 W wr HS.out.m)
        rw [← hc] at CNT
        have HC := hid hc
        have hc3 : c ≤ 300 := by rw [hc]; exact card_le (bitAt W) 300
        clear hc
        go_wp2_with fail
        refine CNT.out.mono ?_
        rintro e w5 ⟨rfl, rfl⟩
        clear CNT
        go_wp2_with fail
        go_loopw [7, 31] (fun l i wq => ∃ (j : Nat) (L : Int) (W : List Nat), j ≤ c ∧ i = .int .i64 j ∧ l = .int .i64 L ∧ -1 ≤ L ∧ Hid (card (bitAt W) 300 + j = c) ∧ Hid (∀ k : Nat, (k : Int) ≤ L → bitAt W k = false) ∧ Hid (MSt w x y 300 W wq)) (fun _ i _ => c - (intOf i).toNat)
        case atStart => exact ⟨0, -1, W, Nat.zero_le _, rfl, rfl, by omega, hid (by rw [Nat.add_zero]; exact HC.out.symm), fun k hk => by omega, HS⟩
        case round =>
          clear HS HC W
          obtain ⟨j, L, W, hj, rfl, rfl, hL, HC, HN, HS⟩ := hrel
          obtain ⟨wo, rfl⟩ : ∃ wo : World, wo = wr := ⟨_, rfl⟩
          by_cases hlt : j < c
          · have NX := next_cases (bitAt W) 300 (-1)
            rcases NX with ⟨_, h2⟩ | ⟨i, h1, h2, h3, h4, h5⟩
            · exact absurd (card_none fun i hi => h2 i (by omega) hi) (by have := HC.out; omega)
            · have FI := hid (mfirst_any x y 300 W wo HS.out.m HS.out.T)
              rw [h1] at FI
              have hiL : L < (i : Int) := by
                rcases Int.lt_or_le L i with h | h
                · exact h
                · have := HN.out i h; rw [this] at h4; cases h4
              have HCT := hid (card_take (bitAt W) h3 h4)
              have TK := hid (take_yes x y 300 W i wo HS.out.m h3 h4)
              have HN' := hid (show ∀ k : Nat, (k : Int) ≤ i → upd (bitAt W) i false k = false from fun k hk => by
                by_cases e : k = i
                · subst e; exact upd_same _ _ _
                · rw [upd_ne _ _ e]; exact h5 k (by omega) (by omega))
              have H3 := hid h3
              clear h1 h2 h5 h4 h3 HN
              go_wp2_with fail
              refine FI.out.mono ?_
              rintro e w6 ⟨rfl, rfl⟩
              clear FI
              go_wp2_with fail
              refine TK.out.mono ?_
              rintro e w6 ⟨W', rfl, hm6, hb6, ho6⟩
              have HS' := hid (HS.out.put hm6 ho6)
              rw [← hb6] at HCT HN'
              have HHA := hid (has_in x y 300 W' i false w6 HS'.out.m H3.out (by rw [hb6]; exact upd_same _ _ _))
              clear hm6 hb6 ho6 TK HS H3
              go_wp2_with fail
              refine HHA.out.mono ?_
              rintro e w7 ⟨rfl, hq⟩
              have HS7 := hid (HS'.out.quiet hq)
              clear hq HHA HS'
              go_wp2
              go_roundw
              case rel => exact ⟨j + 1, i, W', by omega, by go_num, rfl, by omega, hid (by have := HCT.out; have := HC.out; omega), HN', HS7⟩
              case measure => simp [intOf]; omega
          · obtain rfl : j = c := by omega
            have hz : card (bitAt W) 300 = 0 := by have := HC.out; omega
            have hnx : nextI (bitAt W) 300 (-1) = -1 := next_none fun i _ hi => card_zero hz i hi
            have CNT := hid (mcount_any x y 300 W wo HS.out.m)
            have FI := hid (mfirst_any x y 300 W wo HS.out.m HS.out.T)
            have NX := hid (mnext_any x y 300 W (-1) wo HS.out.m HS.out.T)
            rw [hz] at CNT
            rw [hnx] at FI NX
            clear hz hnx HC HN
            go_wp2_with fail
            refine CNT.out.mono ?_
            rintro e w6 ⟨rfl, rfl⟩
            clear CNT
            go_wp2_with fail
            refine FI.out.mono ?_
            rintro e w6 ⟨rfl, rfl⟩
            clear FI
            go_wp2_with fail
            refine NX.out.mono ?_
            rintro e w6 ⟨rfl, rfl⟩
            go_wp2
            go_ret
            exact ⟨rfl, HS.out.B⟩
end Go.Proofs.YtcbdmofdbmimfaaDoor.maskDrains
