/- The walk of the statement StatusSteps: the law answers true and turns nothing that was there. -/
import Derived.Test.YtlahinefnhfifaaDoorStatus2
namespace Go.Proofs.YtlahinefnhfifaaDoor.statusSteps
open Go.RowKit
set_option linter.unusedVariables false
set_option linter.unusedSimpArgs false

/-- A status's name; of what is none: nothing. -/
def stNm (a : Int) : ByteArray := if a < 7 then stName0 a.toNat else { data := #[] }
theorem sname_any (a : Int) (w : World) (T2 : StNames w) (h0 : 0 ≤ a) : Calls Tryd.prog 12 #[.int .u64 a] w fun e w' => e = .returned (.string (stNm a)) ∧ w = w' := by
  by_cases h : a < 7
  · obtain ⟨k, rfl⟩ : ∃ k : Nat, a = k := ⟨a.toNat, by omega⟩
    rw [show stNm k = stName0 k by unfold stNm; rw [if_pos h]; rfl]
    exact sname_in k w T2 (by omega)
  · rw [show stNm a = { data := #[] } by unfold stNm; rw [if_neg h]]
    exact sname_out a w (by omega)
theorem rname_any (a : Int) (w : World) (h0 : 0 ≤ a) : Calls Tryd.prog 13 #[.int .u64 a] w fun e w' => e = .returned (.string (stNm a)) ∧ w = w' := by
  by_cases h : a < 7
  · obtain ⟨k, rfl⟩ : ∃ k : Nat, a = k := ⟨a.toNat, by omega⟩
    rw [show stNm k = stName0 k by unfold stNm; rw [if_pos h]; rfl]
    exact rname_in k w (by omega)
  · rw [show stNm a = { data := #[] } by unfold stNm; rw [if_neg h]]
    exact rname_out a w (by omega)
theorem slegal_any (a b : Int) (w : World) (T1 : StSteps w) (h0 : 0 ≤ a) (h1 : 0 ≤ b) : Calls Tryd.prog 10 #[.int .u64 a, .int .u64 b] w fun e w' => e = .returned (.bool (stLegal a b)) ∧ w = w' := by
  by_cases h : a < 7 ∧ b < 7
  · obtain ⟨k, rfl⟩ : ∃ k : Nat, a = k := ⟨a.toNat, by omega⟩
    obtain ⟨j, rfl⟩ : ∃ j : Nat, b = j := ⟨b.toNat, by omega⟩
    exact slegal_in k j w T1 (by omega) (by omega)
  · rw [show stLegal a b = false by
      unfold stLegal
      split
      · simp; omega
      · split
        · simp; omega
        · simp; omega]
    exact slegal_out a b w (by omega)

set_option maxHeartbeats 8000000 in
theorem walk (a0 a1 : Int) (a2 : ByteArray) (w : World) (w0 : (Lit.int .u64 a0).wf = true) (w1 : (Lit.int .u64 a1).wf = true) (w2 : a2.size ≤ maxLen) (T1 : StSteps w) (T2 : StNames w) :
    Calls Tryd.prog 3 #[.int .u64 a0, .int .u64 a1, .string a2] w fun e w' => e = .returned (.bool true) ∧ Below w.heap.size w w' := by
  have H0 := hid (bounds_u64 w0).1
  have H1 := hid (bounds_u64 w1).1
  have HS := hid T1
  have HN := hid T2
  clear T1 T2 w0 w1 w2
  go_enter Tryd.func3, Tryd.ntmps3
  go_wp2_with fail
  refine (lives14 _ HS.out).mono ?_
  rintro e w2 ⟨rfl, rfl⟩
  go_wp2_with fail
  refine (slegal_any a0 a1 _ HS.out H0.out H1.out).mono ?_
  rintro e w2 ⟨rfl, rfl⟩
  go_wp2_with fail
  refine (rlegal_any a0 a1 _).mono ?_
  rintro e w2 ⟨rfl, rfl⟩
  generalize stLegal a0 a1 = lb
  go_wp2_with fail
  refine (sname_any a0 _ HN.out H0.out).mono ?_
  rintro e w2 ⟨rfl, rfl⟩
  go_wp2_with fail
  refine (rname_any a0 _ H0.out).mono ?_
  rintro e w2 ⟨rfl, rfl⟩
  generalize stNm a0 = nm
  have hnm := txt_eq nm
  go_wp2_with fail
  go_loop [32] (fun i => ∃ k : Nat, k ≤ 7 ∧ i = .int .u64 k ∧ Hid (∀ j, j < k → a2 ≠ stName0 j)) (fun i => 7 - (intOf i).toNat)
  case atStart => exact ⟨0, by omega, rfl, hid (fun j hj => by omega)⟩
  case round =>
    obtain ⟨k, hk, rfl, HK⟩ := hrel
    by_cases hlt : k < 7
    · have RN := hid (fun w => rname_in k w hlt)
      have NI := hid (named_in k w HN.out hlt)
      have hlt' : (k : Int) < 7 := by omega
      by_cases he : a2 = stName0 k
      · obtain ⟨t, ht⟩ : ∃ t, t = stName0 k := ⟨_, rfl⟩
        rw [← ht] at he RN NI
        have hq := txt_eq t
        clear ht
        go_wp2_with fail
        refine (RN.out _).mono ?_
        rintro e w2 ⟨rfl, rfl⟩
        go_wp2_with fail
        refine NI.out.mono ?_
        rintro e w2 ⟨rfl, rfl⟩
        go_wp2_with fail
        refine (RN.out _).mono ?_
        rintro e w2 ⟨rfl, rfl⟩
        subst he
        go_wp2
        go_ret
        exact ⟨rfl, Below.refl _ _⟩
      · have hq := txt_ne he
        have HK' := hid (show ∀ j, j < k + 1 → a2 ≠ stName0 j from fun j hj => by
          rcases Nat.lt_or_ge j k with h | h
          · exact HK.out j h
          · obtain rfl : j = k := by omega
            exact he)
        obtain ⟨t, ht⟩ : ∃ t, t = stName0 k := ⟨_, rfl⟩
        rw [← ht] at hq RN NI
        clear ht he HK
        go_wp2_with fail
        refine (RN.out _).mono ?_
        rintro e w2 ⟨rfl, rfl⟩
        go_wp2_with fail
        refine NI.out.mono ?_
        rintro e w2 ⟨rfl, rfl⟩
        go_wp2_with fail
        refine (RN.out _).mono ?_
        rintro e w2 ⟨rfl, rfl⟩
        have hw : IntKind.u64.wrap ((k : Int) + 1) = (k : Int) + 1 := IntWalk.u64_in _ (by omega)
        go_wp2
        go_round
        case rel => exact ⟨k + 1, by omega, by go_num, HK'⟩
        case measure => simp [intOf]; omega
    · obtain rfl : k = 7 := by omega
      have NN := hid (named_none a2 w HN.out HK.out)
      go_wp2_with fail
      refine NN.out.mono ?_
      rintro e w2 ⟨rfl, rfl⟩
      go_wp2
      go_ret
      exact ⟨rfl, Below.refl _ _⟩
end Go.Proofs.YtlahinefnhfifaaDoor.statusSteps
