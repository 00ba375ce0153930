/- The walk of the statement GlobalPlays: the law answers true and turns nothing that was there. -/
import Derived.Test.YtciilbpchejpcaaGlobal4
import Derived.Test.YtciilbpchejpcaaRef5
import Derived.Test.YtciilbpchejpcaaStay
import Derived.Test.YtciilbpchejpcaaStructs
import Derived.OpenShut
namespace Go.Proofs.Ytciilbpchejpcaa.globalPlays
open Go.RowKit
set_option linter.unusedVariables false
set_option linter.unusedSimpArgs false
theorem rest' {w : World} {p : Nat} {r : Option Nat} {v v2 : Value} {xs ys : List Int} (h : Stay w p r v xs) (hr : ∀ W, Reads W v xs → Reads W v2 ys) (hg : ∀ g o n c, v2 = .slice (some ⟨g, o, none⟩) n c → 0 < ys.length → ∃ o' n' c', v = .slice (some ⟨g, o', none⟩) n' c') (hl : ys.length ≤ xs.length) : Stay w p r v2 ys :=
  ⟨hr _ h.rd, fun g o n c he h0 => by
    obtain ⟨o', n', c', hv⟩ := hg g o n c he h0
    exact h.off g o' n' c' hv (by omega)⟩
theorem sl {w : World} {p : Nat} {r : Option Nat} {v : Value} {xs : List Int} {n : Nat} (h : Stay w p r v xs) (hn : xs.length = n) : ∃ a c, v = .slice a n c := by
  obtain ⟨a, c, h, _⟩ := h.rd; exact ⟨a, c, by rw [h, hn]⟩
theorem tle (zs : List Int) {j : Nat} (h : j = zs.length) : zs.take j = zs := List.take_of_length_le (by omega)

set_option maxRecDepth 100000 in
set_option maxHeartbeats 8000000 in
theorem walk (a0 : Int) (a1 : Option Addr) (len1 cap1 : Nat) (z1 : Nat → Nat → Int) (a2 : Int) (w : World) (w0 : (Lit.int .i64 a0).wf = true) (w1 : IsStructs [.u8, .i64, .u16] w a1 len1 cap1 z1) (w2 : (Lit.int .i64 a2).wf = true) :
    Calls Try.prog 14 #[.int .i64 a0, .slice a1 len1 cap1, .int .i64 a2] w fun e w' => e = .returned (.bool true) ∧ Below w.heap.size w w' := by
  by_cases hlen : (40 : Int) < len1
  · go_enter Try.func14, Try.ntmps14
    go_wp2_with fail
    refine (lives7 _).mono ?_
    rintro e w2 ⟨rfl, hb1⟩
    go_wp2_with fail
    refine (lives7 _).mono ?_
    rintro e w3 ⟨rfl, hb2⟩
    go_wp2
    go_ret
    exact ⟨rfl, hb1.trans (hb2.mono hb1.size)⟩
  · have hlen' : len1 ≤ 40 := by omega
    have W1 := hid w1
    obtain ⟨P, hP⟩ : ∃ P, P = min (max a0 1) 64 := ⟨_, rfl⟩
    have HP := hid hP
    have NW := hid (fun w => qnew a0 P hP w)
    clear w0 w1 w2 hP hlen
    go_enter Try.func14, Try.ntmps14
    go_wp2_with fail
    refine (lives7 _).mono ?_
    rintro e w2 ⟨rfl, hb1⟩
    have hs1 := hb1.size
    go_wp2_with fail
    refine (NW.out _).mono ?_
    rintro e w3 ⟨q, p, r, rfl, hqu, hq, hp, hr, hbel3⟩
    have HQ3 := hid hqu
    have HRk := hid (fun k hk => (by have := hr k hk; omega : w.heap.size ≤ k))
    have hs3 := hbel3.size
    have hbw3 : Below w.heap.size w w3 := hb1.trans (hbel3.mono hs1)
    have hP1 := hqu.lo
    have hP2 := hqu.hi
    have HST : Hid (Stay w3 p r (.slice none 0 0) []) := ⟨⟨none, 0, rfl, ⟨by simp, by unfold maxLen; omega, .inl ⟨rfl, rfl⟩⟩, fun h => absurd h (by simp)⟩, fun _ _ _ _ h => by simp at h⟩
    have hpw : w.heap.size ≤ p := by omega
    have hqw : w.heap.size ≤ q := by omega
    clear hqu hr hb1 hbel3
    go_wp2_with fail
    go_loopw [8, 35] (fun wv i wr => ∃ (k : Nat) (xs : List Int) (r : Option Nat), k ≤ len1 ∧ i = .int .i64 k ∧ Hid (xs.length ≤ 299 * k) ∧ Hid (Stay wr p r wv xs) ∧ Hid (Qu wr q p P r xs) ∧ Hid (∀ j, r = some j → w.heap.size ≤ j) ∧ w.heap.size ≤ wr.heap.size ∧ Below w.heap.size w wr)
      (fun _ i _ => len1 - (intOf i).toNat)
    case atStart => exact ⟨0, [], r, by omega, rfl, hid (by simp), HST, HQ3, HRk, by omega, hbw3⟩
    case round =>
      clear HST HQ3 HRk
      obtain ⟨k, xs, r, hk, rfl, HXL, HS, HQ, HR, hsz, hbr⟩ := hrel
      by_cases hlt : k < len1
      · obtain ⟨bx, off, rfl, hcell⟩ := W1.out.open (by omega) (by simp)
        obtain ⟨q0, q0w⟩ := hcell _ hbr k hlt 0 .u8 rfl
        obtain ⟨q1, q1w⟩ := hcell _ hbr k hlt 1 .i64 rfl
        obtain ⟨q2, q2w⟩ := hcell _ hbr k hlt 2 .u16 rfl
        obtain ⟨K, hKe⟩ : ∃ x, x = z1 k 0 := ⟨_, rfl⟩
        obtain ⟨G, hGe⟩ : ∃ x, x = z1 k 1 := ⟨_, rfl⟩
        obtain ⟨N, hNe⟩ : ∃ x, x = z1 k 2 := ⟨_, rfl⟩
        have hb8 := bounds_u8 q0w
        have hb16 := bounds_u16 q2w
        rw [← hKe] at q0 hb8
        rw [← hGe] at q1
        rw [← hNe] at q2 hb16
        simp only [List.length_cons, List.length_nil, Nat.reduceAdd, Nat.add_zero] at q0 q1 q2
        rw [← Nat.add_assoc] at q1 q2
        have hK0 := hb8.1
        have hK1 := hb8.2
        have hN0 := hb16.1
        have hN1 := hb16.2
        obtain ⟨n, hn⟩ : ∃ n, n = xs.length := ⟨_, rfl⟩
        obtain ⟨wa, wc, rfl⟩ := sl HS.out hn.symm
        have HN := hid hn
        have hnb : n ≤ 299 * k := by have := HXL.out; omega
        have hnb2 : n ≤ 11960 := by omega
        have hba := (Below.refl wr.heap.size wr).alloc (Nat.le_refl _) (.cells #[.int .u8 K, .int .i64 G, .int .u16 N] 73)
        have hbw3 : Below w.heap.size w (wr.alloc (.cells #[.int .u8 K, .int .i64 G, .int .u16 N] 73)) := hbr.alloc hsz _
        have HQ3 := hid (HQ.out.below hba)
        have HS3 := hid (HS.out.below hba)
        have hz3 := hba.size
        have hplt := HQ.out.hb.lt
        have hqlt := HQ.out.lt
        have HRL := hid HQ.out.hb.rlt
        have t : ∀ j : Int, (K % 5 == j) = decide (K % 5 = j) := fun j => rfl
        have HT := hid t
        clear hcell q0w q1w q2w hKe hGe hNe hn hba hb8 hb16 HS HQ t
        by_cases k01 : K % 5 = 0 ∨ K % 5 = 1
        · have t : (K % 5 == 0) = true ∨ ((K % 5 == 0) = false ∧ (K % 5 == 1) = true) := by
            rcases k01 with h | h
            · exact .inl (by rw [HT.out]; exact decide_eq_true h)
            · exact .inr ⟨by rw [HT.out]; exact decide_eq_false (by omega), by rw [HT.out]; exact decide_eq_true h⟩
          clear k01
          rcases t with t | ⟨t, t'⟩
          all_goals
            obtain ⟨d, hd⟩ : ∃ d : Nat, N % 300 = d := ⟨(N % 300).toNat, by omega⟩
            have hd1 : d ≤ 299 := by omega
            have HD := hid hd
            have hl : (xs ++ rowZ G d).length ≤ 1000000 := by have := HN.out; rw [List.length_append, rowZ_length]; omega
            have HL := hid hl
            have HYL := hid (rowZ_length G d)
            have LR := hid (fun w => lawrowZ G d (by omega) w)
            obtain ⟨ys, hys⟩ : ∃ ys, ys = rowZ G d := ⟨_, rfl⟩
            rw [← hys] at HL HYL LR
            clear hd hl hys
            go_wp2_with fail
            rw [HD.out]
            refine (LR.out _).mono ?_
            rintro e w4 ⟨v8, rfl, ho8, hbel4⟩
            obtain ⟨B8, hB8⟩ : ∃ B, B = (wr.alloc (.cells #[.int .u8 K, .int .i64 G, .int .u16 N] 73)).heap.size := ⟨_, rfl⟩
            rw [← hB8] at ho8
            have hB8' : wr.heap.size < B8 := by rw [hB8]; simp
            have HO8 := hid ho8
            obtain ⟨a8, c8, rfl⟩ := ho8.reads_n HYL.out
            have HQ4 := hid (HQ3.out.below hbel4)
            have HS4 := hid (HS3.out.below hbel4)
            have hz4 := hbel4.size
            have hB84 : B8 ≤ w4.heap.size := by omega
            have hbw4 : Below w.heap.size w w4 := hbw3.trans (hbel4.mono (by omega))
            clear ho8 hbel4 hB8
            go_wp2_with fail
            refine (qput q p P r xs ys _ _ HQ4.out HO8.out.reads HL.out).mono ?_
            rintro e w5 ⟨rfl, r5, hb5, ho5, hr5⟩
            have HQ5 := hid (HQ4.out.after ho5 hb5 hr5)
            have HS5 := hid (HS4.out.step ho5 hr5)
            have HO5 := hid (HO8.out.kept (w' := w5) (fun j hj => ho5.block j (HO8.out.lt j hj).2 (by have := (HO8.out.lt j hj).1; omega) (fun e => by have := HRL.out j e.symm; have := (HO8.out.lt j hj).1; omega)))
            have HR5 := hid (show r5 = r ∨ ∀ k, r5 = some k → w4.heap.size ≤ k from hr5)
            have hz5 := ho5.size
            have hbw5 : Below w.heap.size w w5 := hbw4.trans (ho5.below hpw HR.out (by omega))
            have HRt := hid (fresh_ge HR.out hr5 (by omega))
            clear hb5 ho5 hr5
            go_wp2_with fail
            refine (join_any _ _ xs ys _ HS5.out.rd HO5.out.reads (by have := HN.out; omega) (by have := HYL.out; omega)).mono ?_
            rintro e w6 ⟨v6, rfl, ho6, hbel6⟩
            have HO6 := hid (HO5.out.kept (w' := w6) (fun j hj => hbel6.block j (HO5.out.lt j hj).2))
            obtain ⟨B6, hB6⟩ : ∃ B, B = w5.heap.size := ⟨_, rfl⟩
            rw [← hB6] at ho6
            have HV6 := hid ho6
            obtain ⟨m, hm⟩ : ∃ m, m = (xs ++ ys).length := ⟨_, rfl⟩
            obtain ⟨va, vc, rfl⟩ := ho6.reads_n hm.symm
            have HM := hid hm
            have HZL := hid (show m ≤ 299 * (k + 1) by have := HN.out; have := HYL.out; rw [hm, List.length_append]; omega)
            have hmb : m ≤ 12000 := by have := HZL.out; omega
            have HQ6 := hid (HQ5.out.below hbel6)
            have hz6 := hbel6.size
            have hbw6 : Below w.heap.size w w6 := hbw5.trans (hbel6.mono (by omega))
            have hB6' : B6 ≤ w6.heap.size := by omega
            have hwB6 : w4.heap.size ≤ B6 := by omega
            have HB8 := hid (show ∀ B, (Value.slice a8 d c8).ownBlock = some B → B8 ≤ B ∧ B < w4.heap.size from fun B hB => HO8.out.lt B hB)
            have HQB := hid (show q < B6 ∧ p < B6 ∧ ∀ j, r5 = some j → j < B6 from ⟨by have := HQ5.out.lt; omega, by have := HQ5.out.hb.lt; omega, fun j hj => by have := HQ5.out.hb.rlt j hj; omega⟩)
            clear ho6 hbel6 hB6 hm
            go_wp2_with fail
            obtain ⟨wo, rfl⟩ : ∃ wo : World, wo = wr := ⟨_, rfl⟩
            go_loopw [67] (fun i wt => ∃ (j : Nat) (zs : List Int), j ≤ d ∧ i = .int .i64 j ∧ zs.length = d ∧ Hid (Owns wt B8 (.slice a8 d c8) zs) ∧ Hid (Owns wt B6 (.slice va m vc) (xs ++ ys)) ∧ Hid (Qu wt q p P r5 (xs ++ ys)) ∧ B6 ≤ wt.heap.size ∧ Below w.heap.size w wt)
              (fun i _ => d - (intOf i).toNat)
            case atStart => exact ⟨0, ys, by omega, rfl, HYL.out, HO6, HV6, HQ6, hB6', hbw6⟩
            case round =>
              clear HO6 HV6 HQ6 hB6' hbw6
              obtain ⟨j, zs, hj, rfl, hzl, HO6, HV6, HQ6, hB6', hbw6⟩ := hrel
              have HZ := hid hzl
              clear hzl
              by_cases hlt1 : j < d
              · obtain ⟨B, rfl, hBa, hBb, hcell, hfr, hset⟩ := HO6.out.step HZ.out j hlt1
                have HSET := hid hset
                obtain ⟨z, hz⟩ : ∃ z, z = zs.getD j 0 := ⟨_, rfl⟩
                rw [← hz] at hcell
                have hBw := HB8.out B rfl
                have HBV := hid (show ∀ j, (Value.slice va m vc).ownBlock = some j → j ≠ B from fun j hj => by have := (HV6.out.lt j hj).1; omega)
                have HBQ := hid (show q ≠ B ∧ p ≠ B ∧ ∀ j, r5 = some j → j ≠ B from ⟨by omega, by omega, fun j hj => by
                  rcases HR5.out with h | h
                  · rw [h] at hj; have := HRL.out j hj; omega
                  · have := h j hj; omega⟩)
                have hwB : w.heap.size ≤ B := by omega
                clear hz hset hBw
                go_wp2
                go_roundw
                case rel =>
                  refine ⟨j + 1, _, by omega, by go_num, by rw [List.length_set]; exact HZ.out, hid (HSET.out _), hid (HV6.out.kept fun j hj => Below.heap_setCell _ _ _ _ (HBV.out j hj)), hid ⟨(Below.heap_setCell _ _ _ _ HBQ.out.1).trans HQ6.out.hq, HQ6.out.hb.kept (Below.heap_setCell _ _ _ _ HBQ.out.2.1) (fun j hj => Below.heap_setCell _ _ _ _ (HBQ.out.2.2 j hj)), HQ6.out.ne, HQ6.out.nr, HQ6.out.lo, HQ6.out.hi⟩, by simp [World.setCell]; omega, hbw6.setCell hwB _⟩
                case measure => simp [intOf]; omega
              · have HQt := hid HQ6.out
                have HSt := hid (HV6.out.stay HQB.out.2.1 HQB.out.2.2)
                have hbwt := hbw6
                obtain rfl : j = d := by omega
                clear HO6 HV6 HQ6
                have LH := hid (fun w h => qhas q p P r5 (xs ++ ys) a2 w h)
                have LL := hid (fun w h => qlen q p P r5 (xs ++ ys) w h)
                rw [← HM.out] at LL
                obtain ⟨s, hs⟩ : ∃ s, s = min (min ((m : Int) / P + 1) m) 128 := ⟨_, rfl⟩
                have SH := hid (fun w h => share_any q p P r5 (xs ++ ys) w h m HM.out.symm s hs)
                have RS := hid (fun w => refshare m a0 P HP.out (by omega) s hs w)
                clear hs
                go_wp2_with fail
                go_loop [20, 132] (fun has i => ∃ (j : Nat) (b : Bool), j ≤ m ∧ i = .int .i64 j ∧ has = .bool b ∧ Hid (b = hasB a2 ((xs ++ ys).take j))) (fun _ i => m - (intOf i).toNat)
                case atStart => exact ⟨0, false, Nat.zero_le _, rfl, rfl, by simp [Hid, hasB]⟩
                case round =>
                  obtain ⟨j, b, hj, rfl, rfl, hb⟩ := hrel
                  by_cases hlt2 : j < m
                  · have k1 : j < (xs ++ ys).length := by rw [← HM.out]; exact hlt2
                    obtain ⟨a', c', he, _, hrd⟩ := HSt.out.rd
                    simp only [Value.slice.injEq] at he
                    obtain ⟨g, o, h2, _, h4⟩ := hrd (by omega)
                    have he1 := he.1
                    rw [h2] at he1
                    clear he h2
                    subst he1
                    obtain ⟨x, hx⟩ : ∃ x, x = (xs ++ ys).getD j 0 := ⟨_, rfl⟩
                    have q1 := h4 j k1
                    rw [← hx] at q1
                    have HT2 := hid (show hasB a2 ((xs ++ ys).take (j + 1)) = (hasB a2 ((xs ++ ys).take j) || (x == a2)) by rw [lst_take_snoc (xs ++ ys) j k1, ← hx, hasB_snoc])
                    clear hx h4 hrd k1
                    cases b
                    · have HF := hid (show (x == a2) = hasB a2 ((xs ++ ys).take (j + 1)) by rw [HT2.out, ← hb.out]; rfl)
                      go_wp2
                      go_round
                      case rel => exact ⟨j + 1, _, by omega, by go_num, rfl, HF⟩
                      case measure => simp [intOf]; omega
                    · have HF := hid (show true = hasB a2 ((xs ++ ys).take (j + 1)) by rw [HT2.out, ← hb.out]; rfl)
                      go_wp2
                      go_round
                      case rel => exact ⟨j + 1, _, by omega, by go_num, rfl, HF⟩
                      case measure => simp [intOf]; omega
                  · have e0 : (xs ++ ys).take j = (xs ++ ys) := tle (xs ++ ys) (by have := HM.out; omega)
                    rw [← e0, ← hb.out, e0] at LH
                    have HM6 := hid (show (xs ++ ys).length ≤ 299 * (k + 1) by have := HM.out; have := HZL.out; omega)
                    clear e0
                    go_wp2_with fail
                    refine (LL.out _ HQt.out).mono ?_
                    rintro e v1 ⟨rfl, hq1⟩
                    have HQ1 := hid (HQt.out.quiet hq1)
                    have HS1 := hid (HSt.out.only (OnlyO.quiet hq1))
                    have hbv1 := hbwt.trans (hq1.below _)
                    have hzv1 : (wr).heap.size ≤ v1.heap.size := by rw [hq1.heap]; omega
                    clear hq1
                    go_wp2_with fail
                    refine (qlist q p P r5 (xs ++ ys) _ HQ1.out).mono ?_
                    rintro e v2 ⟨vl, rfl, hvl, hbel2⟩
                    have HVL := hid hvl.reads
                    have HQ2 := hid (HQ1.out.below hbel2)
                    have HS2 := hid (HS1.out.below hbel2)
                    have hzv2 := hbel2.size
                    have hbv2 : Below w.heap.size w v2 := hbv1.trans (hbel2.mono (by omega))
                    clear hvl hbel2
                    go_wp2_with fail
                    refine (same_any _ _ (xs ++ ys) (xs ++ ys) true (by simp) _ HVL.out HS2.out.rd (by have := HM.out; omega) (by have := HM.out; omega)).mono ?_
                    rintro e v3 ⟨rfl, hq3⟩
                    have HQ3' := hid (HQ2.out.quiet hq3)
                    have HS3' := hid (HS2.out.only (OnlyO.quiet hq3))
                    have hbv3 := hbv2.trans (hq3.below _)
                    have hzv3 : v2.heap.size ≤ v3.heap.size := by rw [hq3.heap]; omega
                    clear hq3
                    go_wp2_with fail
                    refine (SH.out _ HQ3'.out).mono ?_
                    rintro e v4 ⟨rfl, hq4⟩
                    have HQ4 := hid (HQ3'.out.quiet hq4)
                    have HS4 := hid (HS3'.out.only (OnlyO.quiet hq4))
                    have hbv4 := hbv3.trans (hq4.below _)
                    have hzv4 : v3.heap.size ≤ v4.heap.size := by rw [hq4.heap]; omega
                    clear hq4
                    go_wp2_with fail
                    refine (RS.out _).mono ?_
                    rintro e v5 ⟨rfl, rfl⟩
                    go_wp2_with fail
                    refine (LH.out _ HQ4.out).mono ?_
                    rintro e v6 ⟨rfl, hq6⟩
                    have HQ6 := hid (HQ4.out.quiet hq6)
                    have HS6 := hid (HS4.out.only (OnlyO.quiet hq6))
                    have hbv6 := hbv4.trans (hq6.below _)
                    have hzv6 : v4.heap.size ≤ v6.heap.size := by rw [hq6.heap]; omega
                    clear hq6
                    go_wp2
                    go_roundw
                    case rel => exact ⟨k + 1, (xs ++ ys), r5, by omega, by go_num, HM6, HS6, HQ6, HRt, by omega, hbv6⟩
                    case measure => simp [intOf]; omega
        · have t0 : (K % 5 == 0) = false := by rw [HT.out]; exact decide_eq_false (by omega)
          have t1 : (K % 5 == 1) = false := by rw [HT.out]; exact decide_eq_false (by omega)
          by_cases k2 : K % 5 = 2
          · have t2 : (K % 5 == 2) = true := by rw [HT.out]; exact decide_eq_true k2
            clear k01 k2
            have hd0 : 0 ≤ (n : Int) / P := Int.ediv_nonneg (by omega) (by omega)
            obtain ⟨j, hj⟩ : ∃ j : Nat, (j : Int) = min (min ((n : Int) / P + 1) n) 128 := ⟨(min (min ((n : Int) / P + 1) n) 128).toNat, by omega⟩
            have hjn : j ≤ n := by omega
            have RS0 := hid (fun w => refshare n a0 P HP.out (by omega) (j : Int) hj w)
            have TK := hid (fun w h => rtake_any (.slice wa n wc) xs (j : Int) j (by rw [← HN.out]; omega) w h (by have := HN.out; omega))
            have QT := hid (fun w h => qtake q p P r xs w h n HN.out.symm j hj)
            have HTL := hid (show (xs.take j).length = j by have := HN.out; rw [List.length_take]; omega)
            clear hj hd0
            go_wp2_with fail
            refine (RS0.out _).mono ?_
            rintro e w4 ⟨rfl, rfl⟩
            go_wp2_with fail
            refine (TK.out _ HS3.out.rd).mono ?_
            rintro e w5 ⟨v1, v2, rfl, ho1, hrest, hrb, hbel5⟩
            have HV1 := hid ho1
            obtain ⟨v1a, v1c, rfl⟩ := ho1.reads_n HTL.out
            obtain ⟨zd, hzd⟩ : ∃ l, l = xs.drop j := ⟨_, rfl⟩
            rw [← hzd] at hrest hrb
            have HW5 := hid (rest' (HS3.out.below hbel5) hrest hrb (by rw [hzd]; simp))
            have HZD := hid hzd
            obtain ⟨m, hm⟩ : ∃ m, m = zd.length := ⟨_, rfl⟩
            obtain ⟨va, vc, rfl⟩ := sl HW5.out hm.symm
            have HM := hid hm
            rw [hzd] at hm
            have hmn : m ≤ n := by rw [hm, List.length_drop]; have := HN.out; omega
            have HZL := hid (show m ≤ 299 * (k + 1) by omega)
            have hmb : m ≤ 12000 := by omega
            have HQ5 := hid (HQ3.out.below hbel5)
            have HS1 := hid (HV1.out.stay (p := p) (r := r) (by simp; omega) (fun j hj => by have := HRL.out j hj; simp; omega))
            have hz5 := hbel5.size
            have hbw5 : Below w.heap.size w w5 := hbw3.trans (hbel5.mono (by omega))
            clear ho1 hrest hrb hbel5 hm hzd
            go_wp2_with fail
            refine (QT.out _ HQ5.out).mono ?_
            rintro e w6 ⟨v6, r6, rfl, ho6, hb6, hon6, hr6, hne6⟩
            rw [← HZD.out] at hb6
            have HQ6 := hid (HQ5.out.after hon6 hb6 hr6)
            have HS6 := hid (HW5.out.step hon6 hr6)
            have HRD := hid (HS1.out.step hon6 hr6).rd
            have HV6 := hid ho6.reads
            have hz6 := hon6.size
            have hbw6 : Below w.heap.size w w6 := hbw5.trans (hon6.below hpw HR.out (by omega))
            have HRt := hid (fresh_ge HR.out hr6 (by omega))
            clear ho6 hb6 hon6 hr6 hne6
            go_wp2_with fail
            refine (same_any _ _ (xs.take j) (xs.take j) true (by simp) _ HV6.out HRD.out (by have := HTL.out; omega) (by have := HTL.out; omega)).mono ?_
            rintro e w7 ⟨rfl, hq7⟩
            have HQt := hid (HQ6.out.quiet hq7)
            have HSt := hid (HS6.out.only (OnlyO.quiet hq7))
            have hbwt := hbw6.trans (hq7.below _)
            have hzt : w6.heap.size ≤ w7.heap.size := by rw [hq7.heap]; omega
            clear hq7
            have LH := hid (fun w h => qhas q p P r6 (zd) a2 w h)
            have LL := hid (fun w h => qlen q p P r6 (zd) w h)
            rw [← HM.out] at LL
            obtain ⟨s, hs⟩ : ∃ s, s = min (min ((m : Int) / P + 1) m) 128 := ⟨_, rfl⟩
            have SH := hid (fun w h => share_any q p P r6 (zd) w h m HM.out.symm s hs)
            have RS := hid (fun w => refshare m a0 P HP.out (by omega) s hs w)
            clear hs
            go_wp2_with fail
            go_loop [20, 132] (fun has i => ∃ (j : Nat) (b : Bool), j ≤ m ∧ i = .int .i64 j ∧ has = .bool b ∧ Hid (b = hasB a2 ((zd).take j))) (fun _ i => m - (intOf i).toNat)
            case atStart => exact ⟨0, false, Nat.zero_le _, rfl, rfl, by simp [Hid, hasB]⟩
            case round =>
              obtain ⟨j, b, hj, rfl, rfl, hb⟩ := hrel
              by_cases hlt2 : j < m
              · have k1 : j < (zd).length := by rw [← HM.out]; exact hlt2
                obtain ⟨a', c', he, _, hrd⟩ := HSt.out.rd
                simp only [Value.slice.injEq] at he
                obtain ⟨g, o, h2, _, h4⟩ := hrd (by omega)
                have he1 := he.1
                rw [h2] at he1
                clear he h2
                subst he1
                obtain ⟨x, hx⟩ : ∃ x, x = (zd).getD j 0 := ⟨_, rfl⟩
                have q1 := h4 j k1
                rw [← hx] at q1
                have HT2 := hid (show hasB a2 ((zd).take (j + 1)) = (hasB a2 ((zd).take j) || (x == a2)) by rw [lst_take_snoc (zd) j k1, ← hx, hasB_snoc])
                clear hx h4 hrd k1
                cases b
                · have HF := hid (show (x == a2) = hasB a2 ((zd).take (j + 1)) by rw [HT2.out, ← hb.out]; rfl)
                  go_wp2
                  go_round
                  case rel => exact ⟨j + 1, _, by omega, by go_num, rfl, HF⟩
                  case measure => simp [intOf]; omega
                · have HF := hid (show true = hasB a2 ((zd).take (j + 1)) by rw [HT2.out, ← hb.out]; rfl)
                  go_wp2
                  go_round
                  case rel => exact ⟨j + 1, _, by omega, by go_num, rfl, HF⟩
                  case measure => simp [intOf]; omega
              · have e0 : (zd).take j = (zd) := tle (zd) (by have := HM.out; omega)
                rw [← e0, ← hb.out, e0] at LH
                have HM6 := hid (show (zd).length ≤ 299 * (k + 1) by have := HM.out; have := HZL.out; omega)
                clear e0
                go_wp2_with fail
                refine (LL.out _ HQt.out).mono ?_
                rintro e v1 ⟨rfl, hq1⟩
                have HQ1 := hid (HQt.out.quiet hq1)
                have HS1 := hid (HSt.out.only (OnlyO.quiet hq1))
                have hbv1 := hbwt.trans (hq1.below _)
                have hzv1 : (w7).heap.size ≤ v1.heap.size := by rw [hq1.heap]; omega
                clear hq1
                go_wp2_with fail
                refine (qlist q p P r6 (zd) _ HQ1.out).mono ?_
                rintro e v2 ⟨vl, rfl, hvl, hbel2⟩
                have HVL := hid hvl.reads
                have HQ2 := hid (HQ1.out.below hbel2)
                have HS2 := hid (HS1.out.below hbel2)
                have hzv2 := hbel2.size
                have hbv2 : Below w.heap.size w v2 := hbv1.trans (hbel2.mono (by omega))
                clear hvl hbel2
                go_wp2_with fail
                refine (same_any _ _ (zd) (zd) true (by simp) _ HVL.out HS2.out.rd (by have := HM.out; omega) (by have := HM.out; omega)).mono ?_
                rintro e v3 ⟨rfl, hq3⟩
                have HQ3' := hid (HQ2.out.quiet hq3)
                have HS3' := hid (HS2.out.only (OnlyO.quiet hq3))
                have hbv3 := hbv2.trans (hq3.below _)
                have hzv3 : v2.heap.size ≤ v3.heap.size := by rw [hq3.heap]; omega
                clear hq3
                go_wp2_with fail
                refine (SH.out _ HQ3'.out).mono ?_
                rintro e v4 ⟨rfl, hq4⟩
                have HQ4 := hid (HQ3'.out.quiet hq4)
                have HS4 := hid (HS3'.out.only (OnlyO.quiet hq4))
                have hbv4 := hbv3.trans (hq4.below _)
                have hzv4 : v3.heap.size ≤ v4.heap.size := by rw [hq4.heap]; omega
                clear hq4
                go_wp2_with fail
                refine (RS.out _).mono ?_
                rintro e v5 ⟨rfl, rfl⟩
                go_wp2_with fail
                refine (LH.out _ HQ4.out).mono ?_
                rintro e v6 ⟨rfl, hq6⟩
                have HQ6 := hid (HQ4.out.quiet hq6)
                have HS6 := hid (HS4.out.only (OnlyO.quiet hq6))
                have hbv6 := hbv4.trans (hq6.below _)
                have hzv6 : v4.heap.size ≤ v6.heap.size := by rw [hq6.heap]; omega
                clear hq6
                go_wp2
                go_roundw
                case rel => exact ⟨k + 1, (zd), r6, by omega, by go_num, HM6, HS6, HQ6, HRt, by omega, hbv6⟩
                case measure => simp [intOf]; omega
          · have t2 : (K % 5 == 2) = false := by rw [HT.out]; exact decide_eq_false k2
            by_cases k3 : K % 5 = 3
            · have t3 : (K % 5 == 3) = true := by rw [HT.out]; exact decide_eq_true k3
              clear k01 k2 k3
              rcases xs with _ | ⟨x, xt⟩
              · have hn0 : n = 0 := HN.out
                subst hn0
                have HK1 := hid (show ((0 : Nat) : Int) = min (max (1 : Int) 0) (([] : List Int).length : Int) by decide)
                go_wp2_with fail
                refine (rtake_any _ ([] : List Int) 1 0 HK1.out _ HS3.out.rd (by have := HN.out; omega)).mono ?_
                rintro e w5 ⟨v1, v2, rfl, ho1, hrest, hrb, hbel5⟩
                have HW5 : Hid (Stay w5 p r v2 ([] : List Int)) := rest' (HS3.out.below hbel5) hrest hrb (by simp)
                obtain ⟨m, hm⟩ : ∃ m, m = (([] : List Int)).length := ⟨_, rfl⟩
                obtain ⟨va, vc, rfl⟩ := sl HW5.out hm.symm
                have HM := hid hm
                have HZL := hid (show m ≤ 299 * (k + 1) by have := HN.out; simp only [List.length_cons, List.length_nil] at this hm; omega)
                have hmb : m ≤ 12000 := by have := HZL.out; omega
                have HQ5 := hid (HQ3.out.below hbel5)
                have HS1 := hid (ho1.stay (p := p) (r := r) (by simp; omega) (fun j hj => by have := HRL.out j hj; simp; omega))
                have hz5 := hbel5.size
                have hbw5 : Below w.heap.size w w5 := hbw3.trans (hbel5.mono (by omega))
                obtain ⟨v1a, v1c, rfl⟩ := ho1.reads_n (show (([] : List Int).take 0).length = 0 from rfl)
                clear ho1 hrest hrb hbel5 hm
                go_wp2_with fail
                refine (one_nil q p P r _ HQ5.out).mono ?_
                rintro e w6 ⟨rfl, hq6⟩
                have HQt := hid (HQ5.out.quiet hq6)
                have HSt := hid (HW5.out.only (OnlyO.quiet hq6))
                have HRt := hid HR.out
                have hbwt := hbw5.trans (hq6.below _)
                have hzt : w5.heap.size ≤ w6.heap.size := by rw [hq6.heap]; omega
                clear hq6
                have LH := hid (fun w h => qhas q p P r (([] : List Int)) a2 w h)
                have LL := hid (fun w h => qlen q p P r (([] : List Int)) w h)
                rw [← HM.out] at LL
                obtain ⟨s, hs⟩ : ∃ s, s = min (min ((m : Int) / P + 1) m) 128 := ⟨_, rfl⟩
                have SH := hid (fun w h => share_any q p P r (([] : List Int)) w h m HM.out.symm s hs)
                have RS := hid (fun w => refshare m a0 P HP.out (by omega) s hs w)
                clear hs
                go_wp2_with fail
                go_loop [20, 132] (fun has i => ∃ (j : Nat) (b : Bool), j ≤ m ∧ i = .int .i64 j ∧ has = .bool b ∧ Hid (b = hasB a2 ((([] : List Int)).take j))) (fun _ i => m - (intOf i).toNat)
                case atStart => exact ⟨0, false, Nat.zero_le _, rfl, rfl, by simp [Hid, hasB]⟩
                case round =>
                  obtain ⟨j, b, hj, rfl, rfl, hb⟩ := hrel
                  by_cases hlt2 : j < m
                  · have k1 : j < (([] : List Int)).length := by rw [← HM.out]; exact hlt2
                    obtain ⟨a', c', he, _, hrd⟩ := HSt.out.rd
                    simp only [Value.slice.injEq] at he
                    obtain ⟨g, o, h2, _, h4⟩ := hrd (by omega)
                    have he1 := he.1
                    rw [h2] at he1
                    clear he h2
                    subst he1
                    obtain ⟨x, hx⟩ : ∃ x, x = (([] : List Int)).getD j 0 := ⟨_, rfl⟩
                    have q1 := h4 j k1
                    rw [← hx] at q1
                    have HT2 := hid (show hasB a2 ((([] : List Int)).take (j + 1)) = (hasB a2 ((([] : List Int)).take j) || (x == a2)) by rw [lst_take_snoc (([] : List Int)) j k1, ← hx, hasB_snoc])
                    clear hx h4 hrd k1
                    cases b
                    · have HF := hid (show (x == a2) = hasB a2 ((([] : List Int)).take (j + 1)) by rw [HT2.out, ← hb.out]; rfl)
                      go_wp2
                      go_round
                      case rel => exact ⟨j + 1, _, by omega, by go_num, rfl, HF⟩
                      case measure => simp [intOf]; omega
                    · have HF := hid (show true = hasB a2 ((([] : List Int)).take (j + 1)) by rw [HT2.out, ← hb.out]; rfl)
                      go_wp2
                      go_round
                      case rel => exact ⟨j + 1, _, by omega, by go_num, rfl, HF⟩
                      case measure => simp [intOf]; omega
                  · have e0 : (([] : List Int)).take j = (([] : List Int)) := tle (([] : List Int)) (by have := HM.out; omega)
                    rw [← e0, ← hb.out, e0] at LH
                    have HM6 := hid (show (([] : List Int)).length ≤ 299 * (k + 1) by have := HM.out; have := HZL.out; omega)
                    clear e0
                    go_wp2_with fail
                    refine (LL.out _ HQt.out).mono ?_
                    rintro e v1 ⟨rfl, hq1⟩
                    have HQ1 := hid (HQt.out.quiet hq1)
                    have HS1 := hid (HSt.out.only (OnlyO.quiet hq1))
                    have hbv1 := hbwt.trans (hq1.below _)
                    have hzv1 : (w6).heap.size ≤ v1.heap.size := by rw [hq1.heap]; omega
                    clear hq1
                    go_wp2_with fail
                    refine (qlist q p P r (([] : List Int)) _ HQ1.out).mono ?_
                    rintro e v2 ⟨vl, rfl, hvl, hbel2⟩
                    have HVL := hid hvl.reads
                    have HQ2 := hid (HQ1.out.below hbel2)
                    have HS2 := hid (HS1.out.below hbel2)
                    have hzv2 := hbel2.size
                    have hbv2 : Below w.heap.size w v2 := hbv1.trans (hbel2.mono (by omega))
                    clear hvl hbel2
                    go_wp2_with fail
                    refine (same_any _ _ (([] : List Int)) (([] : List Int)) true (by simp) _ HVL.out HS2.out.rd (by have := HM.out; omega) (by have := HM.out; omega)).mono ?_
                    rintro e v3 ⟨rfl, hq3⟩
                    have HQ3' := hid (HQ2.out.quiet hq3)
                    have HS3' := hid (HS2.out.only (OnlyO.quiet hq3))
                    have hbv3 := hbv2.trans (hq3.below _)
                    have hzv3 : v2.heap.size ≤ v3.heap.size := by rw [hq3.heap]; omega
                    clear hq3
                    go_wp2_with fail
                    refine (SH.out _ HQ3'.out).mono ?_
                    rintro e v4 ⟨rfl, hq4⟩
                    have HQ4 := hid (HQ3'.out.quiet hq4)
                    have HS4 := hid (HS3'.out.only (OnlyO.quiet hq4))
                    have hbv4 := hbv3.trans (hq4.below _)
                    have hzv4 : v3.heap.size ≤ v4.heap.size := by rw [hq4.heap]; omega
                    clear hq4
                    go_wp2_with fail
                    refine (RS.out _).mono ?_
                    rintro e v5 ⟨rfl, rfl⟩
                    go_wp2_with fail
                    refine (LH.out _ HQ4.out).mono ?_
                    rintro e v6 ⟨rfl, hq6⟩
                    have HQ6 := hid (HQ4.out.quiet hq6)
                    have HS6 := hid (HS4.out.only (OnlyO.quiet hq6))
                    have hbv6 := hbv4.trans (hq6.below _)
                    have hzv6 : v4.heap.size ≤ v6.heap.size := by rw [hq6.heap]; omega
                    clear hq6
                    go_wp2
                    go_roundw
                    case rel => exact ⟨k + 1, (([] : List Int)), r, by omega, by go_num, HM6, HS6, HQ6, HRt, by omega, hbv6⟩
                    case measure => simp [intOf]; omega
              · have hn1 : 1 ≤ n := by have := HN.out; simp at this; omega
                have HK1 := hid (show ((1 : Nat) : Int) = min (max (1 : Int) 0) ((x :: xt).length : Int) by simp; omega)
                go_wp2_with fail
                refine (rtake_any _ (x :: xt) 1 1 HK1.out _ HS3.out.rd (by have := HN.out; omega)).mono ?_
                rintro e w5 ⟨v1, v2, rfl, ho1, hrest, hrb, hbel5⟩
                have HW5 : Hid (Stay w5 p r v2 xt) := rest' (HS3.out.below hbel5) hrest hrb (by simp)
                obtain ⟨m, hm⟩ : ∃ m, m = (xt).length := ⟨_, rfl⟩
                obtain ⟨va, vc, rfl⟩ := sl HW5.out hm.symm
                have HM := hid hm
                have HZL := hid (show m ≤ 299 * (k + 1) by have := HN.out; simp only [List.length_cons, List.length_nil] at this hm; omega)
                have hmb : m ≤ 12000 := by have := HZL.out; omega
                have HQ5 := hid (HQ3.out.below hbel5)
                have HS1 := hid (ho1.stay (p := p) (r := r) (by simp; omega) (fun j hj => by have := HRL.out j hj; simp; omega))
                have hz5 := hbel5.size
                have hbw5 : Below w.heap.size w w5 := hbw3.trans (hbel5.mono (by omega))
                obtain ⟨v1a, v1c, rfl⟩ := ho1.reads_n (show ((x :: xt).take 1).length = 1 from rfl)
                clear ho1 hrest hrb hbel5 hm
                go_wp2_with fail
                refine (one_cons q p P r x xt _ HQ5.out).mono ?_
                rintro e w6 ⟨rfl, r6, hb6, hon6, hr6⟩
                have HQt := hid (HQ5.out.after hon6 hb6 hr6)
                have HSt := hid (HW5.out.step hon6 hr6)
                obtain ⟨a1', c1', he1, _, hrd⟩ := (HS1.out.step hon6 hr6).rd
                simp only [Value.slice.injEq] at he1
                obtain ⟨g, o, h2, h3, h4⟩ := hrd (by simp)
                have hva : v1a = some ⟨g, o, none⟩ := by rw [he1.1, h2]
                clear he1 h2
                subst hva
                have hc1 := h4 0 (by simp)
                simp at hc1
                have hz6 := hon6.size
                have hbwt : Below w.heap.size w w6 := hbw5.trans (hon6.below hpw HR.out (by omega))
                have HRt := hid (fresh_ge HR.out hr6 (by omega))
                clear hrd h4 hb6 hon6 hr6
                have LH := hid (fun w h => qhas q p P r6 (xt) a2 w h)
                have LL := hid (fun w h => qlen q p P r6 (xt) w h)
                rw [← HM.out] at LL
                obtain ⟨s, hs⟩ : ∃ s, s = min (min ((m : Int) / P + 1) m) 128 := ⟨_, rfl⟩
                have SH := hid (fun w h => share_any q p P r6 (xt) w h m HM.out.symm s hs)
                have RS := hid (fun w => refshare m a0 P HP.out (by omega) s hs w)
                clear hs
                go_wp2_with fail
                go_loop [20, 132] (fun has i => ∃ (j : Nat) (b : Bool), j ≤ m ∧ i = .int .i64 j ∧ has = .bool b ∧ Hid (b = hasB a2 ((xt).take j))) (fun _ i => m - (intOf i).toNat)
                case atStart => exact ⟨0, false, Nat.zero_le _, rfl, rfl, by simp [Hid, hasB]⟩
                case round =>
                  obtain ⟨j, b, hj, rfl, rfl, hb⟩ := hrel
                  by_cases hlt2 : j < m
                  · have k1 : j < (xt).length := by rw [← HM.out]; exact hlt2
                    obtain ⟨a', c', he, _, hrd⟩ := HSt.out.rd
                    simp only [Value.slice.injEq] at he
                    obtain ⟨g, o, h2, _, h4⟩ := hrd (by omega)
                    have he1 := he.1
                    rw [h2] at he1
                    clear he h2
                    subst he1
                    obtain ⟨x, hx⟩ : ∃ x, x = (xt).getD j 0 := ⟨_, rfl⟩
                    have q1 := h4 j k1
                    rw [← hx] at q1
                    have HT2 := hid (show hasB a2 ((xt).take (j + 1)) = (hasB a2 ((xt).take j) || (x == a2)) by rw [lst_take_snoc (xt) j k1, ← hx, hasB_snoc])
                    clear hx h4 hrd k1
                    cases b
                    · have HF := hid (show (x == a2) = hasB a2 ((xt).take (j + 1)) by rw [HT2.out, ← hb.out]; rfl)
                      go_wp2
                      go_round
                      case rel => exact ⟨j + 1, _, by omega, by go_num, rfl, HF⟩
                      case measure => simp [intOf]; omega
                    · have HF := hid (show true = hasB a2 ((xt).take (j + 1)) by rw [HT2.out, ← hb.out]; rfl)
                      go_wp2
                      go_round
                      case rel => exact ⟨j + 1, _, by omega, by go_num, rfl, HF⟩
                      case measure => simp [intOf]; omega
                  · have e0 : (xt).take j = (xt) := tle (xt) (by have := HM.out; omega)
                    rw [← e0, ← hb.out, e0] at LH
                    have HM6 := hid (show (xt).length ≤ 299 * (k + 1) by have := HM.out; have := HZL.out; omega)
                    clear e0
                    go_wp2_with fail
                    refine (LL.out _ HQt.out).mono ?_
                    rintro e v1 ⟨rfl, hq1⟩
                    have HQ1 := hid (HQt.out.quiet hq1)
                    have HS1 := hid (HSt.out.only (OnlyO.quiet hq1))
                    have hbv1 := hbwt.trans (hq1.below _)
                    have hzv1 : (w6).heap.size ≤ v1.heap.size := by rw [hq1.heap]; omega
                    clear hq1
                    go_wp2_with fail
                    refine (qlist q p P r6 (xt) _ HQ1.out).mono ?_
                    rintro e v2 ⟨vl, rfl, hvl, hbel2⟩
                    have HVL := hid hvl.reads
                    have HQ2 := hid (HQ1.out.below hbel2)
                    have HS2 := hid (HS1.out.below hbel2)
                    have hzv2 := hbel2.size
                    have hbv2 : Below w.heap.size w v2 := hbv1.trans (hbel2.mono (by omega))
                    clear hvl hbel2
                    go_wp2_with fail
                    refine (same_any _ _ (xt) (xt) true (by simp) _ HVL.out HS2.out.rd (by have := HM.out; omega) (by have := HM.out; omega)).mono ?_
                    rintro e v3 ⟨rfl, hq3⟩
                    have HQ3' := hid (HQ2.out.quiet hq3)
                    have HS3' := hid (HS2.out.only (OnlyO.quiet hq3))
                    have hbv3 := hbv2.trans (hq3.below _)
                    have hzv3 : v2.heap.size ≤ v3.heap.size := by rw [hq3.heap]; omega
                    clear hq3
                    go_wp2_with fail
                    refine (SH.out _ HQ3'.out).mono ?_
                    rintro e v4 ⟨rfl, hq4⟩
                    have HQ4 := hid (HQ3'.out.quiet hq4)
                    have HS4 := hid (HS3'.out.only (OnlyO.quiet hq4))
                    have hbv4 := hbv3.trans (hq4.below _)
                    have hzv4 : v3.heap.size ≤ v4.heap.size := by rw [hq4.heap]; omega
                    clear hq4
                    go_wp2_with fail
                    refine (RS.out _).mono ?_
                    rintro e v5 ⟨rfl, rfl⟩
                    go_wp2_with fail
                    refine (LH.out _ HQ4.out).mono ?_
                    rintro e v6 ⟨rfl, hq6⟩
                    have HQ6 := hid (HQ4.out.quiet hq6)
                    have HS6 := hid (HS4.out.only (OnlyO.quiet hq6))
                    have hbv6 := hbv4.trans (hq6.below _)
                    have hzv6 : v4.heap.size ≤ v6.heap.size := by rw [hq6.heap]; omega
                    clear hq6
                    go_wp2
                    go_roundw
                    case rel => exact ⟨k + 1, (xt), r6, by omega, by go_num, HM6, HS6, HQ6, HRt, by omega, hbv6⟩
                    case measure => simp [intOf]; omega
            · have t3 : (K % 5 == 3) = false := by rw [HT.out]; exact decide_eq_false k3
              clear k01 k2 k3
              go_wp2_with fail
              refine (qcopy q p P r xs _ HQ3.out).mono ?_
              rintro e w4 ⟨q2, p2, r2, rfl, hqu2, hq2, hp2, hr2, hbel4⟩
              obtain ⟨S, hSe⟩ : ∃ S, S = (wr.alloc (.cells #[.int .u8 K, .int .i64 G, .int .u16 N] 73)).heap.size := ⟨_, rfl⟩
              have HT4 := hid (Two.made HQ3.out hbel4 hqu2 hq2 hp2 hr2)
              rw [← hSe] at hq2 hp2 hr2 hbel4
              have HBL4 := hid hbel4
              have HR2 := hid hr2
              have hz4 := hbel4.size
              have hS1 : wr.heap.size < S := by rw [hSe]; simp
              have HSe := hid hSe
              clear hqu2 hr2 hbel4 hSe
              go_wp2_with fail
              have hba := (Below.refl w4.heap.size w4).alloc (Nat.le_refl _) (.cells (([5] : List Int).map (Value.int .i64)).toArray 3)
              have HTa := hid (HT4.out.below hba)
              have HBLa := hid (HBL4.out.trans (hba.mono (by rw [← HSe.out] at hz4; omega)))
              have hza := hba.size
              clear hba
              refine (qput q2 p2 P r2 xs [5] _ _ HTa.out.b (reads_built w4 [5] _ rfl (by unfold maxLen; simp)) (by have := HN.out; rw [List.length_append]; simp only [List.length_cons, List.length_nil]; omega)).mono ?_
              rintro e w5 ⟨rfl, r5, hb5, ho5, hr5⟩
              have hz4' : S ≤ w4.heap.size := by rw [HSe.out]; exact HBL4.out.size
              have HT5 := hid (HTa.out.swap.first hb5 ho5 hr5)
              have HBL5 := hid (HBLa.out.trans (ho5.below hp2 HR2.out (by omega)))
              have HR5 := hid (fresh_ge HR2.out hr5 (by omega))
              have hz5 := ho5.size
              have hlen5 : (xs ++ [5]).length = n + 1 := by have := HN.out; rw [List.length_append]; simp only [List.length_cons, List.length_nil]; omega
              have hd0 : 0 ≤ ((n + 1 : Nat) : Int) / P := Int.ediv_nonneg (by omega) (by omega)
              obtain ⟨j, hj⟩ : ∃ j : Nat, (j : Int) = min (min (((n + 1 : Nat) : Int) / P + 1) ((n + 1 : Nat) : Int)) 128 := ⟨(min (min (((n + 1 : Nat) : Int) / P + 1) ((n + 1 : Nat) : Int)) 128).toNat, by omega⟩
              have QT := hid (fun w h => qtake q2 p2 P r5 (xs ++ [5]) w h (n + 1) hlen5 j hj)
              clear hb5 ho5 hr5 hlen5 hd0 hj
              go_wp2_with fail
              refine (QT.out _ HT5.out.a).mono ?_
              rintro e w6 ⟨v6, r6, rfl, ho6, hb6, hon6, hr6, hne6⟩
              obtain ⟨v6a, v6m, v6c, rfl⟩ := ho6.slice3
              have HQt := hid (HT5.out.first hb6 hon6 hr6).b
              have hbl6 := HBL5.out.trans (hon6.below hp2 HR5.out (by omega))
              have HSt := hid (HS3.out.below (by rw [← HSe.out]; exact hbl6))
              have hbwt : Below w.heap.size w w6 := hbw3.trans (hbl6.mono (by omega))
              have hz6 := hon6.size
              have HRt := hid HR.out
              have HM := hid HN.out
              have HZL := hid (show n ≤ 299 * (k + 1) by omega)
              clear ho6 hb6 hon6 hr6 hne6 hbl6
              have LH := hid (fun w h => qhas q p P r (xs) a2 w h)
              have LL := hid (fun w h => qlen q p P r (xs) w h)
              rw [← HM.out] at LL
              obtain ⟨s, hs⟩ : ∃ s, s = min (min ((n : Int) / P + 1) n) 128 := ⟨_, rfl⟩
              have SH := hid (fun w h => share_any q p P r (xs) w h n HM.out.symm s hs)
              have RS := hid (fun w => refshare n a0 P HP.out (by omega) s hs w)
              clear hs
              go_wp2_with fail
              go_loop [20, 132] (fun has i => ∃ (j : Nat) (b : Bool), j ≤ n ∧ i = .int .i64 j ∧ has = .bool b ∧ Hid (b = hasB a2 ((xs).take j))) (fun _ i => n - (intOf i).toNat)
              case atStart => exact ⟨0, false, Nat.zero_le _, rfl, rfl, by simp [Hid, hasB]⟩
              case round =>
                obtain ⟨j, b, hj, rfl, rfl, hb⟩ := hrel
                by_cases hlt2 : j < n
                · have k1 : j < (xs).length := by rw [← HM.out]; exact hlt2
                  obtain ⟨a', c', he, _, hrd⟩ := HSt.out.rd
                  simp only [Value.slice.injEq] at he
                  obtain ⟨g, o, h2, _, h4⟩ := hrd (by omega)
                  have he1 := he.1
                  rw [h2] at he1
                  clear he h2
                  subst he1
                  obtain ⟨x, hx⟩ : ∃ x, x = (xs).getD j 0 := ⟨_, rfl⟩
                  have q1 := h4 j k1
                  rw [← hx] at q1
                  have HT2 := hid (show hasB a2 ((xs).take (j + 1)) = (hasB a2 ((xs).take j) || (x == a2)) by rw [lst_take_snoc (xs) j k1, ← hx, hasB_snoc])
                  clear hx h4 hrd k1
                  cases b
                  · have HF := hid (show (x == a2) = hasB a2 ((xs).take (j + 1)) by rw [HT2.out, ← hb.out]; rfl)
                    go_wp2
                    go_round
                    case rel => exact ⟨j + 1, _, by omega, by go_num, rfl, HF⟩
                    case measure => simp [intOf]; omega
                  · have HF := hid (show true = hasB a2 ((xs).take (j + 1)) by rw [HT2.out, ← hb.out]; rfl)
                    go_wp2
                    go_round
                    case rel => exact ⟨j + 1, _, by omega, by go_num, rfl, HF⟩
                    case measure => simp [intOf]; omega
                · have e0 : (xs).take j = (xs) := tle (xs) (by have := HM.out; omega)
                  rw [← e0, ← hb.out, e0] at LH
                  have HM6 := hid (show (xs).length ≤ 299 * (k + 1) by have := HM.out; have := HZL.out; omega)
                  clear e0
                  go_wp2_with fail
                  refine (LL.out _ HQt.out).mono ?_
                  rintro e v1 ⟨rfl, hq1⟩
                  have HQ1 := hid (HQt.out.quiet hq1)
                  have HS1 := hid (HSt.out.only (OnlyO.quiet hq1))
                  have hbv1 := hbwt.trans (hq1.below _)
                  have hzv1 : (w6).heap.size ≤ v1.heap.size := by rw [hq1.heap]; omega
                  clear hq1
                  go_wp2_with fail
                  refine (qlist q p P r (xs) _ HQ1.out).mono ?_
                  rintro e v2 ⟨vl, rfl, hvl, hbel2⟩
                  have HVL := hid hvl.reads
                  have HQ2 := hid (HQ1.out.below hbel2)
                  have HS2 := hid (HS1.out.below hbel2)
                  have hzv2 := hbel2.size
                  have hbv2 : Below w.heap.size w v2 := hbv1.trans (hbel2.mono (by omega))
                  clear hvl hbel2
                  go_wp2_with fail
                  refine (same_any _ _ (xs) (xs) true (by simp) _ HVL.out HS2.out.rd (by have := HM.out; omega) (by have := HM.out; omega)).mono ?_
                  rintro e v3 ⟨rfl, hq3⟩
                  have HQ3' := hid (HQ2.out.quiet hq3)
                  have HS3' := hid (HS2.out.only (OnlyO.quiet hq3))
                  have hbv3 := hbv2.trans (hq3.below _)
                  have hzv3 : v2.heap.size ≤ v3.heap.size := by rw [hq3.heap]; omega
                  clear hq3
                  go_wp2_with fail
                  refine (SH.out _ HQ3'.out).mono ?_
                  rintro e v4 ⟨rfl, hq4⟩
                  have HQ4 := hid (HQ3'.out.quiet hq4)
                  have HS4 := hid (HS3'.out.only (OnlyO.quiet hq4))
                  have hbv4 := hbv3.trans (hq4.below _)
                  have hzv4 : v3.heap.size ≤ v4.heap.size := by rw [hq4.heap]; omega
                  clear hq4
                  go_wp2_with fail
                  refine (RS.out _).mono ?_
                  rintro e v5 ⟨rfl, rfl⟩
                  go_wp2_with fail
                  refine (LH.out _ HQ4.out).mono ?_
                  rintro e v6 ⟨rfl, hq6⟩
                  have HQ6 := hid (HQ4.out.quiet hq6)
                  have HS6 := hid (HS4.out.only (OnlyO.quiet hq6))
                  have hbv6 := hbv4.trans (hq6.below _)
                  have hzv6 : v4.heap.size ≤ v6.heap.size := by rw [hq6.heap]; omega
                  clear hq6
                  go_wp2
                  go_roundw
                  case rel => exact ⟨k + 1, (xs), r, by omega, by go_num, HM6, HS6, HQ6, HRt, by omega, hbv6⟩
                  case measure => simp [intOf]; omega
      · go_wp2
        go_ret
        exact ⟨rfl, hbr⟩
end Go.Proofs.Ytciilbpchejpcaa.globalPlays
