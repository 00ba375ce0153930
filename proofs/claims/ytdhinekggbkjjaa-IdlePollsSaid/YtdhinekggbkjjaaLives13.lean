/- The chapter's example of package idle. -/
import Derived.Test.YtdhinekggbkjjaaIdle
namespace Go.Proofs.Ytdhinekggbkjjaa
set_option linter.unusedVariables false
set_option linter.unusedSimpArgs false
open Go.RowKit
theorem IPost.step {x B : Nat} {r : Option Nat} {v : Value} {N : Int} {ss : List Int} {pl : Int} {w1 : World} {e : Ending} {w2 : World} (h : IPost x r v N ss pl w1 e w2) (hx : B ≤ x) (hr : ∀ k, r = some k → B ≤ k) (hB : B ≤ w1.heap.size) :
    e = .returned v ∧ ∃ r', Idl w2 x r' N ss pl ∧ Below B w1 w2 ∧ (∀ k, r' = some k → B ≤ k) ∧ B ≤ w2.heap.size := by
  obtain ⟨r', he, h1, h2, h3⟩ := h
  refine ⟨he, r', h1, h2.below hx hr hB, fun k hk => ?_, Nat.le_trans hB h2.size⟩
  rcases h3 with h | h
  · exact hr k (by rw [← h, hk])
  · have := h k hk; omega

set_option maxHeartbeats 4000000 in
theorem lives13 (w : World) :
    Calls Try.prog 5 #[] w fun e w' => e = .returned (.bool true) ∧ Below w.heap.size w w' := by
  go_enter Try.func5, Try.ntmps5
  go_wp2_with fail
  refine (inew_4 _).mono ?_
  rintro e w1 ⟨x, rfl, h1, hx, hb1⟩
  have H1 := hid h1
  have hs1 := hb1.size
  have R1 := hid (show ∀ k, (none : Option Nat) = some k → w.heap.size ≤ k from fun k hk => by cases hk)
  clear h1
  go_wp2_with fail
  refine (stop_first x none 4 [] 2 _ H1.out (by omega) (by omega) (hasB_nil _) (by simp)).mono ?_
  intro e w2 hp
  obtain ⟨rfl, r2, h2, hb2, hr2, hs2⟩ := hp.step hx R1.out hs1
  have H2 := hid h2
  have R2 := hid hr2
  have B2 := hb1.trans hb2
  clear hp h2 hr2
  go_wp2_with fail
  refine (stop_more x r2 4 [] 2 3 _ H2.out (by omega) (by omega) (by omega) (by omega) (hasB_nil _) (by simp)).mono ?_
  intro e w3 hp
  obtain ⟨rfl, r3, h3, hb3, hr3, hs3⟩ := hp.step hx R2.out hs2
  have H3 := hid h3
  have R3 := hid hr3
  have B3 := B2.trans hb3
  clear hp h3 hr3
  go_wp2_with fail
  refine (takeM_last x r3 4 [] 2 3 _ H3.out (by simp)).mono ?_
  intro e w4 hp
  obtain ⟨rfl, r4, h4, hb4, hr4, hs4⟩ := hp.step hx R3.out hs3
  have H4 := hid h4
  have R4 := hid hr4
  have B4 := B3.trans hb4
  clear hp h4 hr4
  go_wp2_with fail
  refine (takeM_poller x r4 4 2 _ H4.out (by omega)).mono ?_
  intro e w5 hp
  obtain ⟨rfl, r5, h5, hb5, hr5, hs5⟩ := hp.step hx R4.out hs4
  have H5 := hid h5
  have R5 := hid hr5
  have B5 := B4.trans hb5
  clear hp h5 hr5
  go_wp2_with fail
  refine (takeM_none x r5 4 _ H5.out).mono ?_
  intro e w6 hp
  obtain ⟨rfl, r6, h6, hb6, hr6, hs6⟩ := hp.step hx R5.out hs5
  have B6 := B5.trans hb6
  clear hp h6 hr6
  go_wp2
  go_ret
  exact ⟨rfl, B6⟩
end Go.Proofs.Ytdhinekggbkjjaa
