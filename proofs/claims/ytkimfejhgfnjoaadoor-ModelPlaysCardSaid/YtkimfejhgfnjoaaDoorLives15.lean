/- 'lives' of layer 15: the chapter's example. -/
import Derived.Test.YtkimfejhgfnjoaaDoorEvent2
import Derived.Deep.RegionHeld3
import Derived.Laws.Rows
namespace Go.Proofs.YtkimfejhgfnjoaaDoor
open Go.RowKit
set_option linter.unusedVariables false
set_option linter.unusedSimpArgs false
/-- A kind's name; of what is none: nothing. -/
def evNm (k : Int) : ByteArray := if 0 ≤ k ∧ k < 8 then evName0 k.toNat else { data := #[] }
theorem ename_any (k : Int) (w : World) (T2 : EvNames w) : Calls Tryd.prog 36 #[.int .i64 k] w fun e w' => e = .returned (.string (evNm k)) ∧ w = w' := by
  by_cases h : 0 ≤ k ∧ k < 8
  · obtain ⟨j, rfl⟩ : ∃ j : Nat, k = j := ⟨k.toNat, by omega⟩
    rw [show evNm j = evName0 j by unfold evNm; rw [if_pos h]; rfl]
    exact ename_in j w T2 (by omega)
  · rw [show evNm k = { data := #[] } by unfold evNm; rw [if_neg h]]
    exact ename_out k w (by omega)
/-- A kind's step. -/
def evFrom (k : Int) : Int := if 0 ≤ k ∧ k < 8 then evStep0 k.toNat else 0
def evTo (k : Int) : Int := if 0 ≤ k ∧ k < 8 then evStep1 k.toNat else 0
def evIs (k : Int) : Bool := decide (0 ≤ k ∧ k < 8)
theorem evStep_small (k : Nat) (hk : k < 8) : (0 ≤ evStep0 k ∧ evStep0 k ≤ 6) ∧ (0 ≤ evStep1 k ∧ evStep1 k ≤ 6) :=
  match k, hk with
  | 0, _ | 1, _ | 2, _ | 3, _ | 4, _ | 5, _ | 6, _ | 7, _ => by decide
theorem evStep_b (k : Int) : (0 ≤ evFrom k ∧ evFrom k ≤ 6) ∧ (0 ≤ evTo k ∧ evTo k ≤ 6) := by
  unfold evFrom evTo
  by_cases h : 0 ≤ k ∧ k < 8
  · rw [if_pos h, if_pos h]; exact evStep_small _ (by omega)
  · rw [if_neg h, if_neg h]; omega
theorem esteps_any (k g m p v : Int) (w : World) (T2 : EvNames w) (T3 : EvSteps w) : Calls Tryd.prog 30 #[.agg #[.int .i64 k, .int .i64 g, .int .i64 m, .int .i64 p, .int .i64 v]] w fun e w' => e = .returned (.tuple #[.int .u64 (evFrom k), .int .u64 (evTo k), .bool (evIs k)]) ∧ Below w.heap.size w w' := by
  by_cases h : 0 ≤ k ∧ k < 8
  · obtain ⟨j, rfl⟩ : ∃ j : Nat, k = j := ⟨k.toNat, by omega⟩
    rw [show evFrom j = evStep0 j by unfold evFrom; rw [if_pos h]; rfl, show evTo j = evStep1 j by unfold evTo; rw [if_pos h]; rfl, show evIs j = true from decide_eq_true h]
    exact esteps_in j g m p v w T2 T3 (by omega)
  · rw [show evFrom k = 0 by unfold evFrom; rw [if_neg h], show evTo k = 0 by unfold evTo; rw [if_neg h], show evIs k = false from decide_eq_false h]
    exact esteps_out k g m p v w (by omega)
theorem rsteps_any (k : Int) (w : World) : Calls Tryd.prog 18 #[.int .i64 k] w fun e w' => e = .returned (.tuple #[.int .i64 (evFrom k), .int .i64 (evTo k), .bool (evIs k)]) ∧ w = w' := by
  by_cases h : 0 ≤ k ∧ k < 8
  · obtain ⟨j, rfl⟩ : ∃ j : Nat, k = j := ⟨k.toNat, by omega⟩
    rw [show evFrom j = evStep0 j by unfold evFrom; rw [if_pos h]; rfl, show evTo j = evStep1 j by unfold evTo; rw [if_pos h]; rfl, show evIs j = true from decide_eq_true h]
    exact rsteps_in j w (by omega)
  · rw [show evFrom k = 0 by unfold evFrom; rw [if_neg h], show evTo k = 0 by unfold evTo; rw [if_neg h], show evIs k = false from decide_eq_false h]
    exact rsteps_out k w (by omega)

end Go.Proofs.YtkimfejhgfnjoaaDoor
