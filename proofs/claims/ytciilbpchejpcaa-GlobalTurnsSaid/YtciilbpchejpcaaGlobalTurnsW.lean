/- The walk of the statement GlobalTurns: the law answers true and turns nothing that was there. -/
import Derived.Test.YtciilbpchejpcaaGlobal2
import Derived.OpenShut
namespace Go.Proofs.Ytciilbpchejpcaa.globalTurns
open Go.RowKit
set_option linter.unusedVariables false
theorem sliceN {w : World} {base : Nat} {v : Value} {xs : List Int} {n : Nat} (h : Owns w base v xs) (hn : xs.length = n) : ∃ a c, v = .slice a n c := by
  subst hn; exact h.slice

set_option maxHeartbeats 4000000 in
theorem walk (a0 a1 : Int) (w : World) (w0 : (Lit.int .u8 a0).wf = true) (w1 : (Lit.int .u16 a1).wf = true) :
    Calls Try.prog 13 #[.int .u8 a0, .int .u16 a1] w fun e w' => e = .returned (.bool true) ∧ Below w.heap.size w w' := by
  have b0 := bounds_u8 w0
  have b1 := bounds_u16 w1
  have l0 := b0.1
  have l1 := b0.2
  have m0 := b1.1
  have m1 := b1.2
  clear b0 b1 w0 w1
  obtain ⟨P, hP⟩ : ∃ P, P = 1 + a0 % 64 := ⟨_, rfl⟩
  obtain ⟨k, hk⟩ : ∃ k : Nat, a1 % 1000 = k := ⟨(a1 % 1000).toNat, by omega⟩
  have hP1 : 1 ≤ P := by omega
  have hP2 : P ≤ 64 := by omega
  have hk1 : k ≤ 999 := by omega
  have HP := hid hP.symm
  have HK := hid hk
  clear hP hk
  go_enter Try.func13, Try.ntmps13
  go_wp2_with fail
  refine (lives7 _).mono ?_
  rintro e w2 ⟨rfl, hb1⟩
  have hs1 := hb1.size
  go_wp2_with fail
  rw [HP.out, HK.out]
  refine (qnew P P (by omega) _).mono ?_
  rintro e w3 ⟨q, p, r, rfl, hqu, hq, hp, hr, hbel3⟩
  have HQ3 := hid hqu
  have HR := hid hr
  have hs3 := hbel3.size
  clear hqu hr
  go_wp2_with fail
  refine (lawrow 0 k (by omega) (by omega) (by omega) _).mono ?_
  rintro e w4 ⟨v4, rfl, ho4, hbel4⟩
  have HRD := hid ho4.reads
  have hs4 := hbel4.size
  have HQ4 := hid (HQ3.out.below hbel4)
  obtain ⟨va, vm, vc, rfl⟩ := ho4.slice3
  clear ho4
  go_wp2_with fail
  refine (qput q p P r [] (rowL 0 k) _ _ HQ4.out HRD.out (by simp [rowL_length]; omega)).mono ?_
  rintro e w5 ⟨rfl, r5, hb5, hon5, hr5⟩
  have HQ5 := hid (show Qu w5 q p P r5 (rowL 0 k) from HQ4.out.after hon5 hb5 hr5)
  have hs5 := hon5.size
  have hbw5 : Below w.heap.size w w5 := ((hb1.trans (hbel3.mono hs1)).trans (hbel4.mono (by omega))).trans (hon5.below (by omega) (fun j hj => by have := HR.out j hj; omega) (by omega))
  have hr5b : ∀ j, r5 = some j → w.heap.size ≤ j := fun j hj => by
    rcases hr5 with h | h
    · have := HR.out j (by rw [← h]; exact hj); omega
    · have := h j hj; omega
  have HR5 := hid hr5b
  clear hb5 hr5 hr5b
  go_wp2_with fail
  go_loopw [8] (fun left wr => ∃ (m : Nat) (ys : List Int) (r : Option Nat), m ≤ 999 ∧ left = .int .i64 m ∧ Hid (ys.length = m) ∧ Hid (Qu wr q p P r ys) ∧ Hid (∀ j, r = some j → w.heap.size ≤ j) ∧ w.heap.size ≤ wr.heap.size ∧ Below w.heap.size w wr)
    (fun left _ => (intOf left).toNat)
  case atStart => exact ⟨k, rowL 0 k, r5, hk1, rfl, rowL_length _ _, HQ5, HR5, by omega, hbw5⟩
  case round =>
    obtain ⟨m, ys, r, hm, rfl, hy, HQ, HRb, hsz, hbr⟩ := hrel
    by_cases hm0 : 0 < m
    · have hd0 : 0 ≤ (m : Int) / P := Int.ediv_nonneg (by omega) (by omega)
      have hd1 : (m : Int) / P ≤ m := Int.ediv_le_self _ (by omega)
      obtain ⟨j, hj⟩ : ∃ j : Nat, (j : Int) = min (min ((m : Int) / P + 1) m) 128 := ⟨(min (min ((m : Int) / P + 1) m) 128).toNat, by omega⟩
      have hj1 : 1 ≤ j := by omega
      have hj2 : j ≤ m := by omega
      have hj3 : (j : Int) ≤ (m : Int) / P + 1 := by omega
      have hP0 : (P == 0) = false := beq_eq_false_iff_ne.2 (by omega)
      have hj0 : ((j : Int) == 0) = false := beq_eq_false_iff_ne.2 (by omega)
      have T := hid (fun w h => qtake q p P r ys w h m hy.out j hj)
      clear hj
      go_wp2_with fail
      refine (T.out _ HQ.out).mono ?_
      rintro e w6 ⟨v6, r6, rfl, ho6, hb6, hon6, hr6, hne6⟩
      obtain ⟨va6, vc6, rfl⟩ := sliceN ho6 (show (ys.take j).length = j by have := hy.out; simp; omega)
      have HQ6 := hid (HQ.out.after hon6 hb6 hr6)
      have L := hid (fun w h => qlen q p P r6 (ys.drop j) w h)
      have hdl : ((ys.drop j).length : Int) = (m : Int) - j := by have := hy.out; simp; omega
      have HDL := hid (show (ys.drop j).length = m - j by have := hy.out; simp; omega)
      rw [hdl] at L
      have hs6 := hon6.size
      have hbw6 := hbr.trans (hon6.below (by have := HQ.out.hb.lt; omega) HRb.out hsz)
      clear ho6 hb6 hne6 hdl
      go_wp2_with fail
      refine (L.out _ HQ6.out).mono ?_
      rintro e w7 ⟨rfl, hq7⟩
      have HQ7 := hid (HQ6.out.quiet hq7)
      have hmj : ((m - j : Nat) : Int) = (m : Int) - j := by omega
      have HMJ := hid hmj
      have HR7 : Hid (∀ i, r6 = some i → w.heap.size ≤ i) := by
        intro i hi
        rcases hr6 with h | h
        · exact HRb.out i (by rw [← h]; exact hi)
        · have := h i hi; omega
      have hs7 : w7.heap.size = w6.heap.size := by rw [hq7.heap]
      clear hmj hr6
      go_wp2
      go_roundw
      case rel => exact ⟨m - j, ys.drop j, r6, by omega, by rw [HMJ.out], HDL.out, HQ7, HR7, by omega, hbw6.trans (hq7.below _)⟩
      case measure => simp [intOf]; omega
    · have hy0 : ys = [] := List.length_eq_zero_iff.1 (by have := hy.out; omega)
      have hm00 : m = 0 := by omega
      subst hy0
      subst hm00
      go_wp2_with fail
      refine (one_nil q p P r _ HQ.out).mono ?_
      rintro e w6 ⟨rfl, hq6⟩
      go_wp2
      go_ret
      exact ⟨rfl, hbr.trans (hq6.below _)⟩
end Go.Proofs.Ytciilbpchejpcaa.globalTurns
