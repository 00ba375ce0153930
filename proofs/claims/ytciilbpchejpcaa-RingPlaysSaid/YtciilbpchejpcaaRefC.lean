/- The document's ring as a value: Get. -/
import Derived.Test.YtciilbpchejpcaaRefB
namespace Go.Proofs.Ytciilbpchejpcaa
set_option linter.unusedVariables false
set_option linter.unusedSimpArgs false
open Go.RowKit

set_option maxHeartbeats 4000000 in
theorem refget_last (a : Option Addr) (c : Nat) (nx st : Int) (w : World) (h0 : 0 ≤ st) (h4 : st ≤ 4) :
    Calls Try.prog 81 #[.agg #[.slice a 0 c, .bool true, .int .i64 nx, .int .i64 st]] w (fun e w' => e = .returned (.tuple #[.agg #[.slice a 0 c, .bool false, .int .i64 0, .int .i64 0], .int .i64 nx, .bool true]) ∧ Below w.heap.size w w') := by
  have hw : IntKind.i64.wrap (st + 1) = st + 1 := IntWalk.i64_in _ (by omega)
  by_cases hs : st < 4
  · have t1 : decide (st < 4) = true := decide_eq_true hs
    go_enter Try.func81, Try.ntmps81
    go_wp2_with fail
    refine bodyPost_ret (v := .tuple #[.agg #[.slice a 0 c, .bool false, .int .i64 0, .int .i64 0], .int .i64 nx, .bool true]) (by simp [results, Try.results81, go_sem]) rfl ⟨rfl, ?_⟩
    exact ((Below.refl _ _).alloc (Nat.le_refl _) _).alloc (by simp) _
  · have t1 : decide (st < 4) = false := decide_eq_false hs
    go_enter Try.func81, Try.ntmps81
    go_wp2_with fail
    refine bodyPost_ret (v := .tuple #[.agg #[.slice a 0 c, .bool false, .int .i64 0, .int .i64 0], .int .i64 nx, .bool true]) (by simp [results, Try.results81, go_sem]) rfl ⟨rfl, ?_⟩
    exact ((Below.refl _ _).alloc (Nat.le_refl _) _).alloc (by simp) _

set_option maxHeartbeats 4000000 in
theorem refget_inherit (a : Option Addr) (n c : Nat) (nx st : Int) (w : World) (h0 : 0 ≤ st) (h4 : st < 4) (hn : 0 < n) (hn2 : n ≤ 256) :
    Calls Try.prog 81 #[.agg #[.slice a n c, .bool true, .int .i64 nx, .int .i64 st]] w (fun e w' => e = .returned (.tuple #[.agg #[.slice a n c, .bool false, .int .i64 0, .int .i64 (st + 1)], .int .i64 nx, .bool true]) ∧ Below w.heap.size w w') := by
  have hw : IntKind.i64.wrap (st + 1) = st + 1 := IntWalk.i64_in _ (by omega)
  have t1 : decide (st < 4) = true := decide_eq_true h4
  have t2 : ((n : Int) == 0) = false := beq_eq_false_iff_ne.2 (by omega)
  go_enter Try.func81, Try.ntmps81
  go_wp2_with fail
  refine bodyPost_ret (v := .tuple #[.agg #[.slice a n c, .bool false, .int .i64 0, .int .i64 (st + 1)], .int .i64 nx, .bool true]) (by simp [results, Try.results81, go_sem]) rfl ⟨rfl, ?_⟩
  exact ((Below.refl _ _).alloc (Nat.le_refl _) _).alloc (by simp) _
end Go.Proofs.Ytciilbpchejpcaa
