/- The walk of the statement EventLegal: the law answers true and turns nothing that was there. -/
import Derived.Test.YtlahinefnhfifaaDoorTabStS
import Derived.Test.YtlahinefnhfifaaDoorEvent
namespace Go.Proofs.YtlahinefnhfifaaDoor.eventLegal
open Go.RowKit
set_option linter.unusedVariables false
set_option linter.unusedSimpArgs false

set_option maxHeartbeats 4000000 in
theorem legal_ev (k : Nat) (w : World) (T1 : StSteps w) (hk : k < 8) (h1 : k ≠ 1) : Calls Tryd.prog 10 #[.int .u64 (evStep0 k), .int .u64 (evStep1 k)] w fun e w' => e = .returned (.bool true) ∧ w = w' := by
  have a0 := T1 0 (by omega)
  have a1 := T1 1 (by omega)
  have a2 := T1 2 (by omega)
  simp only [stStep0] at a0 a1 a2
  clear T1
  match k, hk with
  | 0, _ | 2, _ | 3, _ | 4, _ | 5, _ | 6, _ | 7, _ =>
    simp only [evStep0, evStep1]
    go_enter Tryd.func10, Tryd.ntmps10
    go_wp2
    go_ret
    exact ⟨rfl, rfl⟩
  | 1, _ => exact absurd rfl h1

theorem lives15 (w : World) (T2 : EvNames w) (T3 : EvSteps w) : Calls Tryd.prog 15 #[] w fun e w' => e = .returned (.bool true) ∧ Below w.heap.size w w' := by
  have H2 := hid T2
  have H3 := hid T3
  clear T2 T3
  go_enter Tryd.func15, Tryd.ntmps15
  go_wp2_with fail
  refine (esteps_in 7 0 0 0 0 _ H2.out H3.out (by omega)).mono ?_
  rintro e w2 ⟨rfl, hb⟩
  simp only [evStep0, evStep1]
  go_wp2
  go_ret
  exact ⟨rfl, hb⟩

set_option maxHeartbeats 4000000 in
theorem walk (a0 : Int) (w : World) (w0 : (Lit.int .i64 a0).wf = true) (T1 : StSteps w) (T2 : EvNames w) (T3 : EvSteps w) :
    Calls Tryd.prog 4 #[.int .i64 a0] w fun e w' => e = .returned (.bool true) ∧ Below w.heap.size w w' := by
  have H1 := hid T1
  have H2 := hid T2
  have H3 := hid T3
  clear T1 T2 T3 w0
  by_cases hout : a0 < 0 ∨ 7 < a0
  · have HO := hid hout
    have hz : w.heap.size = w.heap.size := rfl
    rcases hout with h | h
    all_goals
      go_enter Tryd.func4, Tryd.ntmps4
      go_wp2_with fail
      refine (lives15 _ H2.out H3.out).mono ?_
      rintro e w2 ⟨rfl, hb1⟩
      go_wp2_with fail
      refine (esteps_out a0 0 0 0 0 _ HO.out).mono ?_
      rintro e w3 ⟨rfl, hb2⟩
      go_wp2
      go_ret
      exact ⟨rfl, hb1.trans (hb2.mono hb1.size)⟩
  · obtain ⟨k, rfl⟩ : ∃ k : Nat, a0 = k := ⟨a0.toNat, by omega⟩
    have hk : k < 8 := by omega
    clear hout
    by_cases k1 : k = 1
    · subst k1
      go_enter Tryd.func4, Tryd.ntmps4
      go_wp2_with fail
      refine (lives15 _ H2.out H3.out).mono ?_
      rintro e w2 ⟨rfl, hb1⟩
      have hz := hb1.size
      have G2 := hid (H2.out.at hb1)
      have G3 := hid (H3.out.at hb1)
      go_wp2_with fail
      refine (esteps_in 1 0 0 0 0 _ G2.out G3.out (by omega)).mono ?_
      rintro e w3 ⟨rfl, hb2⟩
      simp only [evStep0, evStep1]
      go_wp2
      go_ret
      exact ⟨rfl, hb1.trans (hb2.mono hb1.size)⟩
    · have h0 : (0 : Int) ≤ k := by omega
      have h8 : (k : Int) ≤ 7 := by omega
      have h1 : ((k : Int) == 1) = false := beq_eq_false_iff_ne.2 (by omega)
      have K1 := hid k1
      clear k1
      go_enter Tryd.func4, Tryd.ntmps4
      go_wp2_with fail
      refine (lives15 _ H2.out H3.out).mono ?_
      rintro e w2 ⟨rfl, hb1⟩
      have hz := hb1.size
      have G1 := hid (H1.out.at hb1)
      have G2 := hid (H2.out.at hb1)
      have G3 := hid (H3.out.at hb1)
      go_wp2_with fail
      refine (esteps_in k 0 0 0 0 _ G2.out G3.out (by omega)).mono ?_
      rintro e w3 ⟨rfl, hb2⟩
      have F1 := hid (G1.out.at hb2)
      have LG := hid (fun w T1 => legal_ev k w T1 hk K1.out)
      generalize evStep0 k = s at LG ⊢
      generalize evStep1 k = t at LG ⊢
      go_wp2_with fail
      refine (LG.out _ F1.out).mono ?_
      rintro e w4 ⟨rfl, rfl⟩
      go_wp2
      go_ret
      exact ⟨rfl, hb1.trans (hb2.mono hb1.size)⟩
end Go.Proofs.YtlahinefnhfifaaDoor.eventLegal
