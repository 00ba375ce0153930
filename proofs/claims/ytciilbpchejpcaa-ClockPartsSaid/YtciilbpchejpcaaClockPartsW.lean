/- The walk of the statement ClockParts: the law answers true and turns nothing that was there. -/
import Derived.Test.YtciilbpchejpcaaLives08
namespace Go.Proofs.Ytciilbpchejpcaa.clockParts
open Go.RowKit
set_option linter.unusedVariables false
set_option maxHeartbeats 2000000 in
theorem walk (a0 a1 : Int) (w : World) (w0 : (Lit.int .i64 a0).wf = true) (w1 : (Lit.int .i64 a1).wf = true) :
    Calls Try.prog 20 #[.int .i64 a0, .int .i64 a1] w fun e w' => e = .returned (.bool true) ∧ Below w.heap.size w w' := by
  have b0 : inI a0 := bounds_i64 w0
  have b1 : inI a1 := bounds_i64 w1
  obtain ⟨ma, hma⟩ : ∃ m, m = max a0 0 := ⟨_, rfl⟩
  obtain ⟨mb, hmb⟩ : ∃ m, m = max a1 0 := ⟨_, rfl⟩
  obtain ⟨v, hv⟩ : ∃ v, v = sat ma mb := ⟨_, rfl⟩
  obtain ⟨M, hM⟩ : ∃ m, m = max ma mb := ⟨_, rfl⟩
  have hz : inI 0 := by unfold inI; omega
  have ima : inI ma := by unfold inI at b0 ⊢; omega
  have imb : inI mb := by unfold inI at b1 ⊢; omega
  have iv : inI v := by rw [hv]; exact sat_inI _ _
  have s0 : sat 0 ma = ma := by unfold inI at ima; unfold sat; omega
  have v0 : M ≤ v := by unfold inI at ima imb; rw [hv]; unfold sat; omega
  have v1 : sat 0 v = v := by unfold inI at iv; unfold sat; omega
  have T1 := fun p w hc => tick_any p 0 a0 ma w hc hz b0 hma
  have T2 := fun p w hc => tick_any p ma a1 mb w hc ima b1 hmb
  have T3 := fun p w hc => tick_any p 0 v v w hc hz iv (by omega)
  have S1 := fun w => sum_any ma mb w ima imb
  rw [← hv] at S1
  simp only [← hv] at T2
  simp only [s0] at T1
  simp only [v1] at T3
  have e1 : (if 0 < a0 then a0 else 0) = ma := by rw [hma]; split <;> omega
  have e2 : (if 0 < a1 then a1 else 0) = mb := by rw [hmb]; split <;> omega
  have e3 : (if ma < mb then mb else ma) = M := by rw [hM]; split <;> omega
  have big : (4611686018427387904 ≤ ma ∨ 4611686018427387904 ≤ mb) ∨ (ma < 4611686018427387904 ∧ mb < 4611686018427387904 ∧ (v == ma + mb) = true) := by
    by_cases h : ma < 4611686018427387904 ∧ mb < 4611686018427387904
    · exact .inr ⟨h.1, h.2, beq_iff_eq.2 (by unfold inI at ima imb; rw [hv]; unfold sat; omega)⟩
    · exact .inl (by omega)
  have m0 : 0 ≤ ma := by omega
  have m1 : 0 ≤ mb := by omega
  have HT1 := hid T1
  have HT2 := hid T2
  have HT3 := hid T3
  have HS1 := hid S1
  clear T1 T2 T3 S1 hma hmb hv hM hz ima imb iv s0 v1 b0 b1 w0 w1
  have BIG := hid big
  clear big
  · go_enter Try.func20, Try.ntmps20
    go_wp2_with fail
    refine (lives8 _).mono ?_
    rintro e w2 ⟨rfl, hb1⟩
    have hs1 := hb1.size
    have hc := (Ck.new w2 0).alloc (.cells #[.int .i64 0] 81)
    have hd : Ck ((w2.alloc (.cells #[.int .i64 0] 81)).alloc (.cells #[.int .i64 0] 81)) (w2.heap.size + 1) 0 := by
      have := Ck.new (w2.alloc (.cells #[.int .i64 0] 81)) 0
      simpa using this
    have HC := hid hc
    have HD := hid hd
    clear hc hd
    go_wp2_with fail
    refine (HT1.out _ _ HC.out).mono ?_
    rintro e w3 ⟨rfl, hc3, ho3⟩
    go_wp2_with fail
    refine (HT2.out _ _ hc3).mono ?_
    rintro e w4 ⟨rfl, hc4, ho4⟩
    have HC4 := hid hc4
    have HD4 := hid (HD.out.other (ho3.trans ho4) (by omega) (by omega))
    clear hc3 hc4
    go_wp2_with fail
    refine (HS1.out _).mono ?_
    rintro e w' ⟨rfl, rfl⟩
    go_wp2_with fail
    refine (HT3.out _ _ HD4.out).mono ?_
    rintro e w5 ⟨rfl, hd5, ho5⟩
    have HD5 := hid hd5
    have HC5 := hid (HC4.out.other ho5 (by omega) (by omega))
    clear hd5
    rcases BIG.out with (big | big) | ⟨big1, big2, big3⟩
    all_goals
      go_wp2_with fail
      refine (now_any _ _ _ HC5.out).mono ?_
      rintro e w' ⟨rfl, rfl⟩
      go_wp2_with fail
      refine (now_any _ _ _ HD5.out).mono ?_
      rintro e w' ⟨rfl, rfl⟩
      go_wp2_with fail
      refine (now_any _ _ _ HC5.out).mono ?_
      rintro e w' ⟨rfl, rfl⟩
      go_wp2_with (go_at_call 66; refine (now_any _ _ _ HC5.out).mono ?_; rintro e w' ⟨rfl, rfl⟩)
      all_goals
        go_ret
        exact ⟨rfl, ((((hb1.alloc hs1 _).alloc (by simp; omega) _)).trans ((ho3.trans ho4).below (by omega) (by omega) (by simp; omega))).trans (ho5.below (by omega) (by omega) (by have := ho3.size; have := ho4.size; simp at *; omega))⟩
end Go.Proofs.Ytciilbpchejpcaa.clockParts
