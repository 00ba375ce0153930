/- The walk of the statement GlobalShares: the law answers true and turns nothing that was there. -/
import Derived.Test.YtciilbpchejpcaaGlobal2
import Derived.OpenShut
namespace Go.Proofs.Ytciilbpchejpcaa.globalShares
open Go.RowKit
set_option linter.unusedVariables false
set_option linter.unusedSimpArgs false
theorem sliceN {w : World} {base : Nat} {v : Value} {xs : List Int} {n : Nat} (h : Owns w base v xs) (hn : xs.length = n) : ∃ a c, v = .slice a n c := by
  subst hn; exact h.slice
theorem take_get (k x j t : Nat) (h : x + j ≤ k) (ht : t < j) : (((rowL 0 k).drop x).take j).getD t 0 = ((x + t : Nat) : Int) := by
  have h1 : (((rowL 0 k).drop x).take j).getD t 0 = (rowL 0 k).getD (x + t) 0 := by
    simp [List.getElem?_take, ht]
  rw [h1, rowL_get 0 k (x + t) (by omega)]
  omega

set_option maxHeartbeats 4000000 in
theorem walk (a0 a1 : Int) (w : World) (w0 : (Lit.int .u8 a0).wf = true) (w1 : (Lit.int .u16 a1).wf = true) :
    Calls Try.prog 15 #[.int .u8 a0, .int .u16 a1] w fun e w' => e = .returned (.bool true) ∧ Below w.heap.size w w' := by
  have b0 := bounds_u8 w0
  have b1 := bounds_u16 w1
  have l0 := b0.1
  have l1 := b0.2
  have m0 := b1.1
  have m1 := b1.2
  clear b0 b1 w0 w1
  obtain ⟨P, hP⟩ : ∃ P, P = 1 + a0 % 64 := ⟨_, rfl⟩
  obtain ⟨k, hk⟩ : ∃ k : Nat, a1 % 2000 = k := ⟨(a1 % 2000).toNat, by omega⟩
  have hP1 : 1 ≤ P := by omega
  have hP2 : P ≤ 64 := by omega
  have hk1 : k ≤ 1999 := by omega
  have HP := hid hP.symm
  have HK := hid hk
  clear hP hk
  go_enter Try.func15, Try.ntmps15
  go_wp2_with fail
  refine (lives7 _).mono ?_
  rintro e w2 ⟨rfl, hb1⟩
  have hs1 := hb1.size
  go_wp2_with fail
  rw [HP.out, HK.out]
  refine (qnew P P (by omega) _).mono ?_
  rintro e w3 ⟨q, p, r, rfl, hqu, hq, hp, hr, hbel3⟩
  have HQ3 := hid hqu
  have HR := hid hr
  have hs3 := hbel3.size
  clear hqu hr
  go_wp2_with fail
  refine (lawrow 0 k (by omega) (by omega) (by omega) _).mono ?_
  rintro e w4 ⟨v4, rfl, ho4, hbel4⟩
  have HRD := hid ho4.reads
  have hs4 := hbel4.size
  have HQ4 := hid (HQ3.out.below hbel4)
  obtain ⟨va, vm, vc, rfl⟩ := ho4.slice3
  clear ho4
  go_wp2_with fail
  refine (qput q p P r [] (rowL 0 k) _ _ HQ4.out HRD.out (by simp [rowL_length]; omega)).mono ?_
  rintro e w5 ⟨rfl, r5, hb5, hon5, hr5⟩
  have HQ5 := hid (show Qu w5 q p P r5 (rowL 0 k) from HQ4.out.after hon5 hb5 hr5)
  have hs5 := hon5.size
  have hbw5 : Below w.heap.size w w5 := ((hb1.trans (hbel3.mono hs1)).trans (hbel4.mono (by omega))).trans (hon5.below (by omega) (fun j hj => by have := HR.out j hj; omega) (by omega))
  have hr5b : ∀ j, r5 = some j → w.heap.size ≤ j := fun j hj => by
    rcases hr5 with h | h
    · have := HR.out j (by rw [← h]; exact hj); omega
    · have := h j hj; omega
  have HR5 := hid hr5b
  clear hb5 hr5 hr5b
  have hd0 : 0 ≤ (k : Int) / P := Int.ediv_nonneg (by omega) (by omega)
  obtain ⟨s, hs⟩ : ∃ s : Int, s = min (min ((k : Int) / P + 1) k) 128 := ⟨_, rfl⟩
  have hsk : s ≤ k := by omega
  have hs128 : s ≤ 128 := by omega
  obtain ⟨z, hz1, hz2⟩ : ∃ z, (s == 0) = z ∧ ((k : Int) == 0) = z := by
    by_cases h : k = 0
    · exact ⟨true, beq_iff_eq.2 (by omega), beq_iff_eq.2 (by omega)⟩
    · exact ⟨false, beq_eq_false_iff_ne.2 (by omega), beq_eq_false_iff_ne.2 (by omega)⟩
  have SH := hid (fun w h => share_any q p P r5 (rowL 0 k) w h k (rowL_length _ _) s hs)
  clear hd0 hs
  go_wp2_with fail
  refine (SH.out _ HQ5.out).mono ?_
  rintro e w6 ⟨rfl, hq6⟩
  have HQ6 := hid (HQ5.out.quiet hq6)
  have hs6 : w5.heap.size ≤ w6.heap.size := by rw [hq6.heap]; omega
  have hbw6 := hbw5.trans (hq6.below _)
  clear hq6
  go_wp2_with fail
  clear hz1 hz2 hsk hs128
  go_loopw [9, 44] (fun nx i wr => ∃ (c x : Nat) (r : Option Nat), c ≤ x ∧ x ≤ k ∧ i = .int .i64 c ∧ nx = .int .i64 x ∧ Hid (Qu wr q p P r ((rowL 0 k).drop x)) ∧ Hid (∀ j, r = some j → w.heap.size ≤ j) ∧ w.heap.size ≤ wr.heap.size ∧ Below w.heap.size w wr)
    (fun _ i _ => 20000 - (intOf i).toNat)
  case atStart => exact ⟨0, 0, r5, by omega, by omega, rfl, rfl, HQ6, HR5, by omega, hbw6⟩
  case round =>
    obtain ⟨c, x, r, hcx, hxk, rfl, rfl, HQ, HRb, hsz, hbr⟩ := hrel
    have hc2 : (c : Int) < 20000 := by omega
    obtain ⟨m, hm⟩ : ∃ m, m = k - x := ⟨_, rfl⟩
    have hyl : ((rowL 0 k).drop x).length = m := by simp [rowL_length]; omega
    have hd0 : 0 ≤ (m : Int) / P := Int.ediv_nonneg (by omega) (by omega)
    obtain ⟨j, hj⟩ : ∃ j : Nat, (j : Int) = min (min ((m : Int) / P + 1) m) 128 := ⟨(min (min ((m : Int) / P + 1) m) 128).toNat, by omega⟩
    have hj2 : x + j ≤ k := by omega
    have hjz : m = 0 ∨ 1 ≤ j := by omega
    have hjm : m = 0 → j = 0 := by omega
    have T := hid (fun w h => qtake q p P r ((rowL 0 k).drop x) w h m hyl j hj)
    have htl : (((rowL 0 k).drop x).take j).length = j := by simp [rowL_length]; omega
    have HTL := hid htl
    clear hj hd0 hyl htl
    have HM := hid hm
    clear hm
    by_cases hm0 : m = 0
    · have hj0 : j = 0 := hjm hm0
      subst hj0
      have HM0 := hid hm0
      clear hjz hjm hm0
      go_wp2_with fail
      refine (T.out _ HQ.out).mono ?_
      rintro e w7 ⟨v7, r7, rfl, ho7, hb7, hon7, hr7, hne7⟩
      obtain ⟨va7, vc7, rfl⟩ := sliceN ho7 HTL.out
      have hxk' : x = k := by have := HM.out; have := HM0.out; omega
      have tx : ((x : Int) == (k : Int)) = true := beq_iff_eq.2 (by omega)
      have HQ7 := hid (show Qu w7 q p P r7 [] by have := HQ.out.after hon7 hb7 hr7; rwa [hxk', List.drop_of_length_le (by simp [rowL_length])] at this)
      have L := hid (fun w h => qlen q p P r7 [] w h)
      have hbw7 := hbr.trans (hon7.below (by have := HQ.out.hb.lt; omega) HRb.out hsz)
      clear ho7 hb7 hne7 hxk'
      go_wp2_with fail
      refine (L.out _ HQ7.out).mono ?_
      rintro e w8 ⟨rfl, hq8⟩
      go_wp2
      go_ret
      exact ⟨rfl, hbw7.trans (hq8.below _)⟩
    · have hj1 : 1 ≤ j := by omega
      clear hjz hjm hm0
      have hj0 : ((j : Int) == 0) = false := beq_eq_false_iff_ne.2 (by omega)
      go_wp2_with fail
      refine (T.out _ HQ.out).mono ?_
      rintro e w7 ⟨v7, r7, rfl, ho7, hb7, hon7, hr7, hne7⟩
      have HRD := hid ho7.reads
      obtain ⟨va7, vc7, rfl⟩ := sliceN ho7 HTL.out
      have HQ7 := hid (show Qu w7 q p P r7 ((rowL 0 k).drop (x + j)) by have := HQ.out.after hon7 hb7 hr7; rwa [List.drop_drop] at this)
      have hbw7 := hbr.trans (hon7.below (by have := HQ.out.hb.lt; omega) HRb.out hsz)
      have hs7 := hon7.size
      have HR7 : Hid (∀ i, r7 = some i → w.heap.size ≤ i) := by
        intro i hi
        rcases hr7 with h | h
        · exact HRb.out i (by rw [← h]; exact hi)
        · have := h i hi; omega
      have hcells : ∀ t, t < j → ∃ g off, va7 = some ⟨g, off, none⟩ ∧ w7.cell? ⟨g, off + t, none⟩ = some (.int .i64 ((x + t : Nat) : Int)) := by
        intro t ht
        obtain ⟨a', c', he, _, hrd⟩ := HRD.out
        rw [HTL.out] at he hrd
        simp only [Value.slice.injEq, true_and] at he
        obtain ⟨g', off', h2, h3, h4⟩ := hrd (by omega)
        refine ⟨g', off', by rw [he.1, h2], ?_⟩
        rw [h4 t ht, take_get k x j t hj2 ht]
      have HC := hid hcells
      clear ho7 hb7 hne7 hr7 HRD hcells
      go_wp2_with fail
      go_loopw [9, 53] (fun nx i wr => ∃ (t : Nat), t ≤ j ∧ i = .int .i64 t ∧ nx = .int .i64 ((x : Int) + t) ∧ wr = w7)
        (fun _ i _ => j - (intOf i).toNat)
      case atStart => exact ⟨0, by omega, rfl, by simp, rfl⟩
      case round =>
        obtain ⟨t, ht, rfl, rfl, rfl⟩ := hrel
        by_cases hlt : t < j
        · obtain ⟨g, off, rfl, hc⟩ := HC.out t hlt
          rw [Int.natCast_add] at hc
          go_wp2
          go_roundw
          case rel => exact ⟨t + 1, by omega, by go_num, by congr 1, trivial⟩
          case measure => simp [intOf]; omega
        · obtain rfl : t = j := by omega
          go_wp2
          go_roundw
          case rel => exact ⟨c + 1, x + t, r7, by omega, by omega, by go_num, by go_num, HQ7, HR7, by omega, hbw7⟩
          case measure => simp [intOf]; omega
end Go.Proofs.Ytciilbpchejpcaa.globalShares
