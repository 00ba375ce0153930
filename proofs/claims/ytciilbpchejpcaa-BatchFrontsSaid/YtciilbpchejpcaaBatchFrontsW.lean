/- The walk of the statement BatchFronts: the law answers true and turns nothing that was there. -/
import Derived.Test.YtciilbpchejpcaaBatch4
import Derived.Test.YtciilbpchejpcaaLives05
namespace Go.Proofs.Ytciilbpchejpcaa.batchFronts
open Go.RowKit
set_option linter.unusedVariables false
set_option linter.unusedSimpArgs false

set_option maxHeartbeats 4000000 in
theorem walk (a0 : Option Addr) (len0 cap0 : Nat) (z0 : List Int) (a1 : Option Addr) (len1 cap1 : Nat) (z1 : List Int) (w : World) (w0 : IsRow .i64 w a0 len0 cap0 z0) (w1 : IsRow .i64 w a1 len1 cap1 z1) :
    Calls Try.prog 3 #[.slice a0 len0 cap0, .slice a1 len1 cap1] w fun e w' => e = .returned (.bool true) ∧ Below w.heap.size w w' := by
  by_cases hlen : (40 : Int) < len0 ∨ (40 : Int) < len1
  · have h2 : (40 : Int) < len0 ∨ (¬ (40 : Int) < len0 ∧ (40 : Int) < len1) := by omega
    clear hlen
    rcases h2 with h | ⟨h, h'⟩
    all_goals
      go_enter Try.func3, Try.ntmps3
      go_wp2_with fail
      refine (lives5 _).mono ?_
      rintro e w2 ⟨rfl, hb1⟩
      go_wp2_with fail
      refine (lives5 _).mono ?_
      rintro e w3 ⟨rfl, hb2⟩
      go_wp2
      go_ret
      exact ⟨rfl, hb1.trans (hb2.mono hb1.size)⟩
  · have hlen0 : len0 ≤ 40 := by omega
    have hlen1 : len1 ≤ 40 := by omega
    obtain ⟨xs, hxs, hxl, hR⟩ := w0.reads
    obtain ⟨fs, hfs, hfl, hF⟩ := w1.reads
    have HR := hid hR
    have HF := hid hF
    have HXL := hid hxl
    have HFL := hid hfl
    clear w0 w1 hxs hR hfs hF hlen hxl hfl
    go_enter Try.func3, Try.ntmps3
    go_wp2_with fail
    refine (lives5 _).mono ?_
    rintro e w2 ⟨rfl, hb1⟩
    have hs1 := hb1.size
    go_wp2_with fail
    refine (of_any _ xs _ (by have := HXL.out; omega) (HR.out _ hb1)).mono ?_
    rintro e w3 ⟨p, r, rfl, hb3, hp3, hr3, hbel3⟩
    have HB3 := hid hb3
    have HRW := hid (fun k hk => (by have := hr3 k hk; omega : w.heap.size ≤ k))
    have hs3 := hbel3.size
    have hbw3 : Below w.heap.size w w3 := hb1.trans (hbel3.mono hs1)
    clear hb3 hr3
    go_wp2_with fail
    refine (bcopy_any p r xs _ HB3.out).mono ?_
    rintro e w4 ⟨q, s, rfl, hb4, hq4, hs4, hbel4⟩
    have HC4 := hid hb4
    have HS4 := hid (Sep.fresh HB3.out hq4 hs4)
    have HB4 := hid (HB3.out.below hbel4)
    have hz4 := hbel4.size
    have hbw4 : Below w.heap.size w w4 := hbw3.trans (hbel4.mono (by omega))
    clear hb4 hs4
    go_wp2_with fail
    refine (front_any p r xs fs _ _ HB4.out (fun w' ho => HF.out w' (hbw4.trans (ho.below (by omega) HRW.out (by omega)))) (by have := HXL.out; have := HFL.out; omega)).mono ?_
    rintro e w5 ⟨rfl, r5, hb5, ho5, hr5⟩
    have HB5 := hid hb5
    have HC5 := hid (HC4.out.keep HS4.out.symm ho5)
    have HS5 := hid (HS4.out.left HC4.out hr5)
    have HR5 := hid (fresh_ge' HRW.out hr5 (by omega))
    have hz5 := ho5.size
    have hbw5 : Below w.heap.size w w5 := hbw4.trans (ho5.below (by omega) HRW.out (by omega))
    clear hb5 ho5 hr5
    go_wp2_with fail
    refine (most_any p r5 (fs ++ xs) (len1 : Int) len1 (by have := HXL.out; have := HFL.out; rw [List.length_append]; omega) _ HB5.out).mono ?_
    rintro e w6 ⟨v6, r6, rfl, hv6, hb6, ho6, hr6, hne6⟩
    have hv6' : Owns w6 w5.heap.size v6 fs := by rwa [List.take_left' HFL.out] at hv6
    have hb6' : Bat w6 p r6 xs := by rwa [List.drop_left' HFL.out] at hb6
    have HB6 := hid hb6'
    have HV6 := hid hv6'.reads
    have HC6 := hid (HC5.out.keep HS5.out.symm ho6)
    have HS6 := hid (HS5.out.left HC5.out hr6)
    have HR6 := hid (fresh_ge' HR5.out hr6 (by omega))
    have hz6 := ho6.size
    have hbw6 : Below w.heap.size w w6 := hbw5.trans (ho6.below (by omega) HR5.out (by omega))
    clear hv6 hv6' hb6 hb6' ho6 hr6 hne6
    go_wp2_with fail
    refine (same_any _ _ fs fs true (by simp) _ HV6.out (HF.out _ hbw6) (by have := HFL.out; omega) (by have := HFL.out; omega)).mono ?_
    rintro e w7 ⟨rfl, hq7⟩
    have HB7 := hid (HB6.out.quiet hq7)
    have HC7 := hid (HC6.out.quiet hq7)
    have hz7 : w6.heap.size ≤ w7.heap.size := by rw [hq7.heap]; omega
    have hbw7 := hbw6.trans (hq7.below _)
    clear hq7
    go_wp2_with fail
    refine (list_any p r6 xs _ HB7.out).mono ?_
    rintro e w8 ⟨v8, rfl, hv8, hbel8⟩
    have HB8 := hid (HB7.out.below hbel8)
    have HC8 := hid (HC7.out.below hbel8)
    have HV8 := hid hv8.reads
    have hz8 := hbel8.size
    have hbw8 : Below w.heap.size w w8 := hbw7.trans (hbel8.mono (by omega))
    clear hv8
    go_wp2_with fail
    refine (same_any _ _ xs xs true (by simp) _ HV8.out (HR.out _ hbw8) (by have := HXL.out; omega) (by have := HXL.out; omega)).mono ?_
    rintro e w9 ⟨rfl, hq9⟩
    have HB9 := hid (HB8.out.quiet hq9)
    have HC9 := hid (HC8.out.quiet hq9)
    have hz9 : w8.heap.size ≤ w9.heap.size := by rw [hq9.heap]; omega
    have hbw9 := hbw8.trans (hq9.below _)
    clear hq9
    go_wp2_with fail
    refine (list_any q s xs _ HC9.out).mono ?_
    rintro e w10 ⟨v10, rfl, hv10, hbel10⟩
    have HB10 := hid (HB9.out.below hbel10)
    have HC10 := hid (HC9.out.below hbel10)
    have HV10 := hid hv10.reads
    have hz10 := hbel10.size
    have hbw10 : Below w.heap.size w w10 := hbw9.trans (hbel10.mono (by omega))
    clear hv10
    go_wp2_with fail
    refine (same_any _ _ xs xs true (by simp) _ HV10.out (HR.out _ hbw10) (by have := HXL.out; omega) (by have := HXL.out; omega)).mono ?_
    rintro e w11 ⟨rfl, hq11⟩
    have HB11 := hid (HB10.out.quiet hq11)
    have HC11 := hid (HC10.out.quiet hq11)
    have hz11 : w10.heap.size ≤ w11.heap.size := by rw [hq11.heap]; omega
    have hbw11 := hbw10.trans (hq11.below _)
    clear hq11
    go_wp2_with fail
    refine (half_any p r6 xs _ HB11.out).mono ?_
    rintro e w12 ⟨p2, r2, r12, rfl, hb122, hb121, ho12, hr12, hp12, hr122, hne12⟩
    obtain ⟨k, hk⟩ : ∃ k, k = (xs.length + 1) / 2 := ⟨_, rfl⟩
    rw [← hk] at hb122 hb121
    obtain ⟨hs, hhs⟩ : ∃ l, l = xs.take k := ⟨_, rfl⟩
    obtain ⟨rs, hrs⟩ : ∃ l, l = xs.drop k := ⟨_, rfl⟩
    rw [← hhs] at hb122
    rw [← hrs] at hb121
    obtain ⟨n, hn⟩ : ∃ n, n = rs.length := ⟨_, rfl⟩
    have hnk : n + hs.length = len0 := by rw [hn, hrs, hhs]; have := HXL.out; simp; omega
    have hnk' : (n : Int) + (hs.length + 1 : Nat) = (len0 : Int) + 1 := by omega
    have hhl : hs.length ≤ 40 := by omega
    have HB12 := hid hb121
    have HH12 := hid hb122
    have HC12 := hid (HC11.out.keep HS6.out.symm ho12)
    have HS12 := hid (HS6.out.left HC11.out hr12)
    have HR12 := hid (fresh_ge' HR6.out hr12 (by omega))
    have HSH : Hid (Sep p r12 p2 r2) := ⟨by have := HB11.out.lt; omega, hne12, fun e => by have := (hr122 _ e).1; have := HB11.out.lt; omega, fun j hj e => (hr122 _ e).2 hj⟩
    have HSC := hid (Sep.fresh HC11.out hp12 (fun j hj => (hr122 j hj).1))
    have HRH := hid (fun j hj => (by have := (hr122 j hj).1; omega : w.heap.size ≤ j))
    have hz12 := ho12.size
    have hbw12 : Below w.heap.size w w12 := hbw11.trans (ho12.below (by omega) HR6.out (by omega))
    have L := hid (fun r w h => blen_any p r rs w h)
    rw [← hn] at L
    have hph : w.heap.size ≤ p2 := by omega
    have HNK := hid hnk'
    have hnb : n ≤ 40 := by omega
    clear hb121 hb122 ho12 hr12 hr122 hne12 hk hhs hrs hn hnk hnk'
    go_wp2_with fail
    refine (L.out _ _ HB12.out).mono ?_
    rintro e w13 ⟨rfl, hq13⟩
    have HB13 := hid (HB12.out.quiet hq13)
    have HC13 := hid (HC12.out.quiet hq13)
    have HH13 := hid (HH12.out.quiet hq13)
    have hz13 : w12.heap.size ≤ w13.heap.size := by rw [hq13.heap]; omega
    have hbw13 := hbw12.trans (hq13.below _)
    clear hq13
    go_wp2_with fail
    have hba := (Below.refl w13.heap.size w13).alloc (Nat.le_refl _) (.cells (([5, 5] : List Int).map (Value.int .i64)).toArray 3)
    have HB14 := hid (HB13.out.below hba)
    have HC14 := hid (HC13.out.below hba)
    have HH14 := hid (HH13.out.below hba)
    have hza := hba.size
    have hbw14 : Below w.heap.size w _ := hbw13.trans (hba.mono (by omega))
    clear hba
    refine (put_any p2 r2 hs [5, 5] _ _ HH14.out (reads_built w13 [5, 5] _ rfl (by unfold maxLen; simp)) (by simp; omega)).mono ?_
    rintro e w15 ⟨rfl, r15, hb15, ho15, hr15⟩
    have HH15 := hid hb15
    have HB15 := hid (HB14.out.keep HSH.out ho15)
    have HC15 := hid (HC14.out.keep HSC.out ho15)
    have HSH15 := hid (HSH.out.symm.left HB14.out hr15)
    have HSC15 := hid (HSC.out.symm.left HC14.out hr15)
    have HRH15 := hid (fresh_ge' HRH.out hr15 (by omega))
    have hz15 := ho15.size
    have hbw15 : Below w.heap.size w w15 := hbw14.trans (ho15.below hph HRH.out (by omega))
    have H1 := hid (show ((1 : Nat) : Int) = min (max (1 : Int) 0) ((hs ++ [5, 5]).length : Int) by simp; omega)
    clear hb15 ho15 hr15
    go_wp2_with fail
    refine (most_any p2 r15 (hs ++ [5, 5]) 1 1 H1.out _ HH15.out).mono ?_
    rintro e w16 ⟨v16, r16, rfl, hv16, hb16, ho16, hr16, hne16⟩
    obtain ⟨va, vm, vc, rfl⟩ := hv16.slice3
    have HB16 := hid (HB15.out.keep HSH15.out.symm ho16)
    have HC16 := hid (HC15.out.keep HSC15.out.symm ho16)
    have HH16 := hid hb16
    have hz16 := ho16.size
    have hbw16 : Below w.heap.size w w16 := hbw15.trans (ho16.below hph HRH15.out (by omega))
    have LH := hid (fun w h => blen_any p2 r16 ((hs ++ [5, 5]).drop 1) w h)
    have e1 : ((hs ++ [5, 5]).drop 1).length = hs.length + 1 := by simp
    rw [e1] at LH
    have LC := hid (fun w h => blen_any q s xs w h)
    rw [HXL.out] at LC
    have HT := hid HNK.out
    obtain ⟨m, hm⟩ : ∃ m, m = hs.length + 1 := ⟨_, rfl⟩
    rw [← hm] at LH HT
    have hmb : m ≤ 41 := by omega
    have t : ((n : Int) + m == (len0 : Int) + 1) = true := beq_iff_eq.2 HT.out
    clear hv16 hb16 ho16 hr16 hne16 e1 hm
    go_wp2_with fail
    refine (L.out _ _ HB16.out).mono ?_
    rintro e w17 ⟨rfl, hq17⟩
    have HB17 := hid (HB16.out.quiet hq17)
    have HC17 := hid (HC16.out.quiet hq17)
    have HH17 := hid (HH16.out.quiet hq17)
    go_wp2_with fail
    refine (L.out _ _ HB17.out).mono ?_
    rintro e w18 ⟨rfl, hq18⟩
    have HC18 := hid (HC17.out.quiet hq18)
    have HH18 := hid (HH17.out.quiet hq18)
    go_wp2_with fail
    refine (LH.out _ HH18.out).mono ?_
    rintro e w19 ⟨rfl, hq19⟩
    have HC19 := hid (HC18.out.quiet hq19)
    go_wp2_with fail
    refine (LC.out _ HC19.out).mono ?_
    rintro e w20 ⟨rfl, hq20⟩
    have HQ : Hid (Quiet w16 w20) := ((hq17.trans hq18).trans hq19).trans hq20
    clear hq17 hq18 hq19 hq20
    go_wp2
    go_ret
    exact ⟨rfl, hbw16.trans (HQ.out.below _)⟩
end Go.Proofs.Ytciilbpchejpcaa.batchFronts
