/- The walk of the statement IdleLeaves: the law answers true and turns nothing that was there. -/
import Derived.Test.YtdhinekggbkjjaaLives13
import Derived.OpenShut
namespace Go.Proofs.Ytdhinekggbkjjaa.idleLeaves
open Go.RowKit
set_option linter.unusedVariables false
set_option linter.unusedSimpArgs false

set_option maxRecDepth 100000 in
set_option maxHeartbeats 4000000 in
theorem walk (a0 a1 a2 : Int) (w : World) (w0 : (Lit.int .u8 a0).wf = true) (w1 : (Lit.int .u8 a1).wf = true) (w2 : (Lit.int .i64 a2).wf = true) :
    Calls Try.prog 3 #[.int .u8 a0, .int .u8 a1, .int .i64 a2] w fun e w' => e = .returned (.bool true) ∧ Below w.heap.size w w' := by
  have b0 := bounds_u8 w0
  have b1 := bounds_u8 w1
  have h00 := b0.1
  have h01 := b0.2
  have h10 := b1.1
  have h11 := b1.2
  obtain ⟨i, hi⟩ : ∃ i, i = a0 % 128 := ⟨_, rfl⟩
  have hi0 : 0 ≤ i := by omega
  have hi1 : i < 128 := by omega
  obtain ⟨k, hk⟩ : ∃ k, k = (if a0 % 128 = a1 % 128 then (a1 % 128 + 1) % 128 else a1 % 128) := ⟨_, rfl⟩
  have hik : i ≠ k := by rw [hk, hi]; split <;> omega
  have hk0 : 0 ≤ k := by rw [hk]; split <;> omega
  have hk1 : k < 128 := by rw [hk]; split <;> omega
  have HI := hid hi.symm
  have hkc : (a0 % 128 = a1 % 128 ∧ (a1 % 128 + 1) % 128 = k) ∨ (a0 % 128 ≠ a1 % 128 ∧ a1 % 128 = k) := by rw [hk]; split <;> simp_all
  clear w0 w1 w2 b0 b1 hi hk
  rcases hkc with ⟨c1, c2⟩ | ⟨c1, c2⟩
  · have t : (a0 % 128 == a1 % 128) = true := beq_iff_eq.2 c1
    have HIK := hid hik
    have HC2 := hid c2
    clear c1 c2 hik
    go_enter Try.func3, Try.ntmps3
    go_wp2_with fail
    refine (lives13 _).mono ?_
    rintro e w1 ⟨rfl, hb1⟩
    have hs1 := hb1.size
    go_wp2_with fail
    refine (inew_1 _).mono ?_
    rintro e w2 ⟨x, rfl, h2, hx, hb2⟩
    have H2 := hid h2
    have hx' : w.heap.size ≤ x := by omega
    have B2 := hb1.trans (hb2.mono hs1)
    have hs2 : w.heap.size ≤ w2.heap.size := by have := hb2.size; omega
    have R2 := hid (show ∀ k, (none : Option Nat) = some k → w.heap.size ≤ k from fun k hk => by cases hk)
    clear h2 hb1 hb2
    go_wp2_with fail
    rw [HI.out, HC2.out]
    refine (stop_first x none 128 [] i _ H2.out hi0 hi1 (hasB_nil _) (by simp)).mono ?_
    intro e w3 hp
    obtain ⟨rfl, r3, h3, hb3, hr3, hs3⟩ := hp.step hx' R2.out hs2
    have H3 := hid h3
    have R3 := hid hr3
    have B3 := B2.trans hb3
    clear hp h3 hr3
    by_cases ha : a2 = i
    · have t3 : (a2 != i) = false := by rw [bne_eq_false_iff_eq]; exact ha
      clear ha
      go_wp2_with fail
      refine (poller_yes x r3 128 [] i _ H3.out hi0).mono ?_
      rintro e w5 ⟨rfl, rfl⟩
      go_wp2_with fail
      refine (leave_yes x r3 128 [] i _ H3.out hi0).mono ?_
      intro e w6 hp
      obtain ⟨rfl, r6, h6, hb6, hr6, hs6⟩ := hp.step hx' R3.out hs3
      have H6 := hid h6
      have R6 := hid hr6
      have B6 := B3.trans hb6
      clear hp h6 hr6
      go_wp2_with fail
      refine (leave_no x r6 128 [] (-1) i _ H6.out (.inr (by omega))).mono ?_
      rintro e w7 ⟨rfl, rfl⟩
      go_wp2_with fail
      refine (poller_no x r6 128 [] _ H6.out).mono ?_
      rintro e w8 ⟨rfl, rfl⟩
      go_wp2_with fail
      refine (stop_first x r6 128 [] k _ H6.out hk0 hk1 (hasB_nil _) (by simp)).mono ?_
      intro e w9 hp
      obtain ⟨rfl, r9, h9, hb9, hr9, hs9⟩ := hp.step hx' R6.out hs6
      have H9 := hid h9
      have R9 := hid hr9
      have B9 := B6.trans hb9
      clear hp h9 hr9
      go_wp2_with fail
      refine (stop_more x r9 128 [] k i _ H9.out hk0 HIK.out hi0 hi1 (hasB_nil _) (by simp)).mono ?_
      intro e w10 hp
      obtain ⟨rfl, r10, h10, hb10, hr10, hs10⟩ := hp.step hx' R9.out hs9
      have H10 := hid h10
      have R10 := hid hr10
      have B10 := B9.trans hb10
      clear hp h10 hr10
      go_wp2_with fail
      refine (poller_yes x r10 128 _ k _ H10.out hk0).mono ?_
      rintro e w11 ⟨rfl, rfl⟩
      go_wp2_with fail
      refine (countM x r10 128 _ k 1 (by simp) _ H10.out).mono ?_
      rintro e w12 ⟨rfl, rfl⟩
      go_wp2
      go_ret
      exact ⟨rfl, B10⟩
    · have t3 : (a2 != i) = true := by rw [bne_iff_ne]; exact ha
      have HA := hid ha
      clear ha
      go_wp2_with fail
      refine (leave_no x r3 128 [] i a2 _ H3.out (.inr HA.out)).mono ?_
      rintro e w4 ⟨rfl, rfl⟩
      go_wp2_with fail
      refine (poller_yes x r3 128 [] i _ H3.out hi0).mono ?_
      rintro e w5 ⟨rfl, rfl⟩
      go_wp2_with fail
      refine (leave_yes x r3 128 [] i _ H3.out hi0).mono ?_
      intro e w6 hp
      obtain ⟨rfl, r6, h6, hb6, hr6, hs6⟩ := hp.step hx' R3.out hs3
      have H6 := hid h6
      have R6 := hid hr6
      have B6 := B3.trans hb6
      clear hp h6 hr6
      go_wp2_with fail
      refine (leave_no x r6 128 [] (-1) i _ H6.out (.inr (by omega))).mono ?_
      rintro e w7 ⟨rfl, rfl⟩
      go_wp2_with fail
      refine (poller_no x r6 128 [] _ H6.out).mono ?_
      rintro e w8 ⟨rfl, rfl⟩
      go_wp2_with fail
      refine (stop_first x r6 128 [] k _ H6.out hk0 hk1 (hasB_nil _) (by simp)).mono ?_
      intro e w9 hp
      obtain ⟨rfl, r9, h9, hb9, hr9, hs9⟩ := hp.step hx' R6.out hs6
      have H9 := hid h9
      have R9 := hid hr9
      have B9 := B6.trans hb9
      clear hp h9 hr9
      go_wp2_with fail
      refine (stop_more x r9 128 [] k i _ H9.out hk0 HIK.out hi0 hi1 (hasB_nil _) (by simp)).mono ?_
      intro e w10 hp
      obtain ⟨rfl, r10, h10, hb10, hr10, hs10⟩ := hp.step hx' R9.out hs9
      have H10 := hid h10
      have R10 := hid hr10
      have B10 := B9.trans hb10
      clear hp h10 hr10
      go_wp2_with fail
      refine (poller_yes x r10 128 _ k _ H10.out hk0).mono ?_
      rintro e w11 ⟨rfl, rfl⟩
      go_wp2_with fail
      refine (countM x r10 128 _ k 1 (by simp) _ H10.out).mono ?_
      rintro e w12 ⟨rfl, rfl⟩
      go_wp2
      go_ret
      exact ⟨rfl, B10⟩
  · have t : (a0 % 128 == a1 % 128) = false := beq_eq_false_iff_ne.2 c1
    have HIK := hid hik
    have HC2 := hid c2
    clear c1 c2 hik
    go_enter Try.func3, Try.ntmps3
    go_wp2_with fail
    refine (lives13 _).mono ?_
    rintro e w1 ⟨rfl, hb1⟩
    have hs1 := hb1.size
    go_wp2_with fail
    refine (inew_1 _).mono ?_
    rintro e w2 ⟨x, rfl, h2, hx, hb2⟩
    have H2 := hid h2
    have hx' : w.heap.size ≤ x := by omega
    have B2 := hb1.trans (hb2.mono hs1)
    have hs2 : w.heap.size ≤ w2.heap.size := by have := hb2.size; omega
    have R2 := hid (show ∀ k, (none : Option Nat) = some k → w.heap.size ≤ k from fun k hk => by cases hk)
    clear h2 hb1 hb2
    go_wp2_with fail
    rw [HI.out, HC2.out]
    refine (stop_first x none 128 [] i _ H2.out hi0 hi1 (hasB_nil _) (by simp)).mono ?_
    intro e w3 hp
    obtain ⟨rfl, r3, h3, hb3, hr3, hs3⟩ := hp.step hx' R2.out hs2
    have H3 := hid h3
    have R3 := hid hr3
    have B3 := B2.trans hb3
    clear hp h3 hr3
    by_cases ha : a2 = i
    · have t3 : (a2 != i) = false := by rw [bne_eq_false_iff_eq]; exact ha
      clear ha
      go_wp2_with fail
      refine (poller_yes x r3 128 [] i _ H3.out hi0).mono ?_
      rintro e w5 ⟨rfl, rfl⟩
      go_wp2_with fail
      refine (leave_yes x r3 128 [] i _ H3.out hi0).mono ?_
      intro e w6 hp
      obtain ⟨rfl, r6, h6, hb6, hr6, hs6⟩ := hp.step hx' R3.out hs3
      have H6 := hid h6
      have R6 := hid hr6
      have B6 := B3.trans hb6
      clear hp h6 hr6
      go_wp2_with fail
      refine (leave_no x r6 128 [] (-1) i _ H6.out (.inr (by omega))).mono ?_
      rintro e w7 ⟨rfl, rfl⟩
      go_wp2_with fail
      refine (poller_no x r6 128 [] _ H6.out).mono ?_
      rintro e w8 ⟨rfl, rfl⟩
      go_wp2_with fail
      refine (stop_first x r6 128 [] k _ H6.out hk0 hk1 (hasB_nil _) (by simp)).mono ?_
      intro e w9 hp
      obtain ⟨rfl, r9, h9, hb9, hr9, hs9⟩ := hp.step hx' R6.out hs6
      have H9 := hid h9
      have R9 := hid hr9
      have B9 := B6.trans hb9
      clear hp h9 hr9
      go_wp2_with fail
      refine (stop_more x r9 128 [] k i _ H9.out hk0 HIK.out hi0 hi1 (hasB_nil _) (by simp)).mono ?_
      intro e w10 hp
      obtain ⟨rfl, r10, h10, hb10, hr10, hs10⟩ := hp.step hx' R9.out hs9
      have H10 := hid h10
      have R10 := hid hr10
      have B10 := B9.trans hb10
      clear hp h10 hr10
      go_wp2_with fail
      refine (poller_yes x r10 128 _ k _ H10.out hk0).mono ?_
      rintro e w11 ⟨rfl, rfl⟩
      go_wp2_with fail
      refine (countM x r10 128 _ k 1 (by simp) _ H10.out).mono ?_
      rintro e w12 ⟨rfl, rfl⟩
      go_wp2
      go_ret
      exact ⟨rfl, B10⟩
    · have t3 : (a2 != i) = true := by rw [bne_iff_ne]; exact ha
      have HA := hid ha
      clear ha
      go_wp2_with fail
      refine (leave_no x r3 128 [] i a2 _ H3.out (.inr HA.out)).mono ?_
      rintro e w4 ⟨rfl, rfl⟩
      go_wp2_with fail
      refine (poller_yes x r3 128 [] i _ H3.out hi0).mono ?_
      rintro e w5 ⟨rfl, rfl⟩
      go_wp2_with fail
      refine (leave_yes x r3 128 [] i _ H3.out hi0).mono ?_
      intro e w6 hp
      obtain ⟨rfl, r6, h6, hb6, hr6, hs6⟩ := hp.step hx' R3.out hs3
      have H6 := hid h6
      have R6 := hid hr6
      have B6 := B3.trans hb6
      clear hp h6 hr6
      go_wp2_with fail
      refine (leave_no x r6 128 [] (-1) i _ H6.out (.inr (by omega))).mono ?_
      rintro e w7 ⟨rfl, rfl⟩
      go_wp2_with fail
      refine (poller_no x r6 128 [] _ H6.out).mono ?_
      rintro e w8 ⟨rfl, rfl⟩
      go_wp2_with fail
      refine (stop_first x r6 128 [] k _ H6.out hk0 hk1 (hasB_nil _) (by simp)).mono ?_
      intro e w9 hp
      obtain ⟨rfl, r9, h9, hb9, hr9, hs9⟩ := hp.step hx' R6.out hs6
      have H9 := hid h9
      have R9 := hid hr9
      have B9 := B6.trans hb9
      clear hp h9 hr9
      go_wp2_with fail
      refine (stop_more x r9 128 [] k i _ H9.out hk0 HIK.out hi0 hi1 (hasB_nil _) (by simp)).mono ?_
      intro e w10 hp
      obtain ⟨rfl, r10, h10, hb10, hr10, hs10⟩ := hp.step hx' R9.out hs9
      have H10 := hid h10
      have R10 := hid hr10
      have B10 := B9.trans hb10
      clear hp h10 hr10
      go_wp2_with fail
      refine (poller_yes x r10 128 _ k _ H10.out hk0).mono ?_
      rintro e w11 ⟨rfl, rfl⟩
      go_wp2_with fail
      refine (countM x r10 128 _ k 1 (by simp) _ H10.out).mono ?_
      rintro e w12 ⟨rfl, rfl⟩
      go_wp2
      go_ret
      exact ⟨rfl, B10⟩
end Go.Proofs.Ytdhinekggbkjjaa.idleLeaves
