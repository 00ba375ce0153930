/- The walk of the statement ClockAfter: the law answers true and turns nothing that was there. -/
import Derived.Test.YtciilbpchejpcaaLives08
namespace Go.Proofs.Ytciilbpchejpcaa.clockAfter
open Go.RowKit
set_option linter.unusedVariables false
set_option maxHeartbeats 2000000 in
theorem walk (a0 a1 a2 : Int) (w : World) (w0 : (Lit.int .i64 a0).wf = true) (w1 : (Lit.int .i64 a1).wf = true) (w2 : (Lit.int .i64 a2).wf = true) :
    Calls Try.prog 17 #[.int .i64 a0, .int .i64 a1, .int .i64 a2] w fun e w' => e = .returned (.bool true) ∧ Below w.heap.size w w' := by
  have b0 : inI a0 := bounds_i64 w0
  have b1 : inI a1 := bounds_i64 w1
  have b2 : inI a2 := bounds_i64 w2
  obtain ⟨x, hx⟩ : ∃ m, m = max a0 0 := ⟨_, rfl⟩
  obtain ⟨md, hmd⟩ : ∃ m, m = max a1 0 := ⟨_, rfl⟩
  obtain ⟨u, hu⟩ : ∃ v, v = sat x md := ⟨_, rfl⟩
  have hz : inI 0 := by unfold inI; omega
  have ix : inI x := by unfold inI at b0 ⊢; omega
  have imd : inI md := by unfold inI at b1 ⊢; omega
  have iu : inI u := by rw [hu]; exact sat_inI _ _
  have s0 : sat 0 x = x := by unfold inI at ix; unfold sat; omega
  have hux : x ≤ u := by unfold inI at ix imd; rw [hu]; unfold sat; omega
  have hul : u ≤ 9223372036854775807 := iu.2
  have x0 : 0 ≤ x := by omega
  have iux : inI (u - x) := by unfold inI; omega
  have T1 := fun p w hc => tick_any p 0 a0 x w hc hz b0 hx
  have A1 := fun p w hc => after_any p x a1 md w hc ix b1 hmd
  have s1 : sat x (u - x) = u := by unfold inI at iu; unfold sat; omega
  have T2 := fun p w hc => tick_any p x (u - x) (u - x) w hc ix iux (by omega)
  simp only [s0] at T1
  simp only [← hu] at A1
  simp only [s1] at T2
  have early : (0 < a1 ∧ 0 < a2 ∧ a2 < a1 ∧ u < 9223372036854775807) → inI (a1 - a2) ∧ sat x (a1 - a2) < u ∧ a1 - a2 = max (a1 - a2) 0 := by
    intro h
    refine ⟨by unfold inI at b1 b2 ⊢; omega, ?_, by omega⟩
    obtain ⟨h1, h2, h3, h4⟩ := h
    rw [hu] at h4 ⊢
    unfold inI at ix imd b1 b2
    unfold sat at h4 ⊢
    omega
  obtain ⟨q, hd1, hd2⟩ : ∃ q, decide (u ≤ x) = q ∧ (u == x) = q := by
    by_cases h : u = x
    · exact ⟨true, by subst h; simp, by subst h; simp⟩
    · exact ⟨false, decide_eq_false (by omega), beq_eq_false_iff_ne.2 h⟩
  have emx : (if 0 < u - x then u - x else 0) = u - x := by split <;> omega
  have emx2 : (if x < u then u - x else 0) = u - x := by split <;> omega
  have a1le := b1.2
  have HT1 := hid T1
  have HA1 := hid A1
  have HT2 := hid T2
  have EARLY := hid early
  have IX := hid ix
  clear T1 A1 T2 hx hmd hu hz imd iu s0 s1 early iux w0 w1 w2 ix
  have huu : (u == u) = true := by simp
  by_cases hE : 0 < a1 ∧ 0 < a2 ∧ a2 < a1 ∧ u < 9223372036854775807
  · obtain ⟨e1, e2, e3⟩ := EARLY.out hE
    obtain ⟨h1, h2, h3, h4⟩ := hE
    have T3 := fun p w hc => tick_any p x (a1 - a2) (a1 - a2) w hc IX.out e1 e3
    obtain ⟨y, hy⟩ : ∃ y, y = sat x (a1 - a2) := ⟨_, rfl⟩
    simp only [← hy] at T3 e2
    have hdy : decide (u ≤ y) = false := decide_eq_false (by omega)
    have HT3 := hid T3
    clear T3 hy e1 e3
    go_enter Try.func17, Try.ntmps17
    go_wp2_with fail
    refine (lives8 _).mono ?_
    rintro e w2 ⟨rfl, hb1⟩
    have hs1 := hb1.size
    go_wp2_with fail
    refine (HT1.out _ _ (Ck.new w2 0)).mono ?_
    rintro e w3 ⟨rfl, hc3, ho3⟩
    have HC3 := hid hc3
    have hz3 := ho3.size
    simp only [World.size_alloc] at hz3
    clear hc3
    go_wp2_with fail
    refine (HA1.out _ _ HC3.out).mono ?_
    rintro e w' ⟨rfl, rfl⟩
    go_wp2_with fail
    refine (now_any _ _ _ HC3.out).mono ?_
    rintro e w' ⟨rfl, rfl⟩
    go_wp2_with fail
    refine (past_any _ _ _ _ HC3.out).mono ?_
    rintro e w' ⟨rfl, rfl⟩
    go_wp2_with fail
    refine (now_any _ _ _ HC3.out).mono ?_
    rintro e w' ⟨rfl, rfl⟩
    have hb0 : Ck ((w3.alloc (.cells #[.int .i64 0] 81)).alloc (.cells #[.int .i64 0] 81)) w3.heap.size 0 := (Ck.new w3 0).alloc _
    have he0 : Ck ((w3.alloc (.cells #[.int .i64 0] 81)).alloc (.cells #[.int .i64 0] 81)) (w3.heap.size + 1) 0 := by
      have := Ck.new (w3.alloc (.cells #[.int .i64 0] 81)) 0
      simpa using this
    have hc0 := (HC3.out.alloc (.cells #[.int .i64 0] 81)).alloc (.cells #[.int .i64 0] 81)
    have HB0 := hid hb0
    have HE0 := hid he0
    have HC0 := hid hc0
    clear hb0 he0 hc0
    have hbl : Below w.heap.size w ((w3.alloc (.cells #[.int .i64 0] 81)).alloc (.cells #[.int .i64 0] 81)) := (((hb1.alloc hs1 _).trans (ho3.below (by omega) (by omega) (by simp; omega))).alloc (by omega) _).alloc (by simp; omega) _
    go_wp2_with fail
    refine (HT1.out _ _ HB0.out).mono ?_
    rintro e w4 ⟨rfl, hb4, ho4⟩
    have HB4 := hid hb4
    have HC4 := hid (HC0.out.other ho4 (by omega) (by omega))
    have HE4 := hid (HE0.out.other ho4 (by omega) (by omega))
    have hz4 := ho4.size
    simp only [World.size_alloc] at hz4
    clear hb4
    go_wp2_with fail
    refine (now_any _ _ _ HC4.out).mono ?_
    rintro e w' ⟨rfl, rfl⟩
    go_wp2_with fail
    refine (HT2.out _ _ HB4.out).mono ?_
    rintro e w5 ⟨rfl, hb5, ho5⟩
    have HB5 := hid hb5
    have HE5 := hid (HE4.out.other ho5 (by omega) (by omega))
    have hz5 := ho5.size
    clear hb5
    have hbl5 := hbl.trans ((ho4.trans ho5).below (by omega) (by omega) (by simp; omega))
    go_wp2_with fail
    refine (HT1.out _ _ HE5.out).mono ?_
    rintro e w6 ⟨rfl, he6, ho6⟩
    have HE6 := hid he6
    clear he6
    go_wp2_with fail
    refine (HT3.out _ _ HE6.out).mono ?_
    rintro e w7 ⟨rfl, he7, ho7⟩
    have HE7 := hid he7
    clear he7
    go_wp2_with fail
    refine (past_any _ _ _ _ HE7.out).mono ?_
    rintro e w' ⟨rfl, rfl⟩
    have HB7 := hid (HB5.out.other (ho6.trans ho7) (by omega) (by omega))
    have hbl7 := hbl5.trans ((ho6.trans ho7).below (by omega) (by omega) (by omega))
    go_wp2_with fail
    refine (past_any _ _ _ _ HB7.out).mono ?_
    rintro e w' ⟨rfl, rfl⟩
    go_wp2_with fail
    refine (now_any _ _ _ HB7.out).mono ?_
    rintro e w' ⟨rfl, rfl⟩
    go_wp2
    go_ret
    exact ⟨rfl, hbl7⟩
  · have hE' : a1 ≤ 0 ∨ a2 ≤ 0 ∨ a1 ≤ a2 ∨ 9223372036854775807 ≤ u := by omega
    have HE' := hid hE'
    clear hE hE'
    go_enter Try.func17, Try.ntmps17
    go_wp2_with fail
    refine (lives8 _).mono ?_
    rintro e w2 ⟨rfl, hb1⟩
    have hs1 := hb1.size
    go_wp2_with fail
    refine (HT1.out _ _ (Ck.new w2 0)).mono ?_
    rintro e w3 ⟨rfl, hc3, ho3⟩
    have HC3 := hid hc3
    have hz3 := ho3.size
    simp only [World.size_alloc] at hz3
    clear hc3
    go_wp2_with fail
    refine (HA1.out _ _ HC3.out).mono ?_
    rintro e w' ⟨rfl, rfl⟩
    go_wp2_with fail
    refine (now_any _ _ _ HC3.out).mono ?_
    rintro e w' ⟨rfl, rfl⟩
    go_wp2_with fail
    refine (past_any _ _ _ _ HC3.out).mono ?_
    rintro e w' ⟨rfl, rfl⟩
    go_wp2_with fail
    refine (now_any _ _ _ HC3.out).mono ?_
    rintro e w' ⟨rfl, rfl⟩
    have hb0 : Ck ((w3.alloc (.cells #[.int .i64 0] 81)).alloc (.cells #[.int .i64 0] 81)) w3.heap.size 0 := (Ck.new w3 0).alloc _
    have he0 : Ck ((w3.alloc (.cells #[.int .i64 0] 81)).alloc (.cells #[.int .i64 0] 81)) (w3.heap.size + 1) 0 := by
      have := Ck.new (w3.alloc (.cells #[.int .i64 0] 81)) 0
      simpa using this
    have hc0 := (HC3.out.alloc (.cells #[.int .i64 0] 81)).alloc (.cells #[.int .i64 0] 81)
    have HB0 := hid hb0
    have HE0 := hid he0
    have HC0 := hid hc0
    clear hb0 he0 hc0
    have hbl : Below w.heap.size w ((w3.alloc (.cells #[.int .i64 0] 81)).alloc (.cells #[.int .i64 0] 81)) := (((hb1.alloc hs1 _).trans (ho3.below (by omega) (by omega) (by simp; omega))).alloc (by omega) _).alloc (by simp; omega) _
    go_wp2_with fail
    refine (HT1.out _ _ HB0.out).mono ?_
    rintro e w4 ⟨rfl, hb4, ho4⟩
    have HB4 := hid hb4
    have HC4 := hid (HC0.out.other ho4 (by omega) (by omega))
    have HE4 := hid (HE0.out.other ho4 (by omega) (by omega))
    have hz4 := ho4.size
    simp only [World.size_alloc] at hz4
    clear hb4
    go_wp2_with fail
    refine (now_any _ _ _ HC4.out).mono ?_
    rintro e w' ⟨rfl, rfl⟩
    go_wp2_with fail
    refine (HT2.out _ _ HB4.out).mono ?_
    rintro e w5 ⟨rfl, hb5, ho5⟩
    have HB5 := hid hb5
    have HE5 := hid (HE4.out.other ho5 (by omega) (by omega))
    have hz5 := ho5.size
    clear hb5
    have hbl5 := hbl.trans ((ho4.trans ho5).below (by omega) (by omega) (by simp; omega))
    rcases HE'.out with h | h | h | h
    all_goals
      go_wp2_with (first
        | (go_at_call 67; refine (past_any _ _ _ _ HB5.out).mono ?_; rintro e w' ⟨rfl, rfl⟩)
        | (go_at_call 66; refine (now_any _ _ _ HB5.out).mono ?_; rintro e w' ⟨rfl, rfl⟩))
    all_goals
      go_ret
      exact ⟨rfl, hbl5⟩
end Go.Proofs.Ytciilbpchejpcaa.clockAfter
