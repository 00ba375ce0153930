/- What a new world of one is made of: right, mask.New(1), idle.New(1, 1), poll.New. -/
import Derived.Test.YtfpkgkjmpcoppaaGreatDoorPre2
namespace Go.Proofs.YtfpkgkjmpcoppaaGreatDoor
open Go.RowKit
set_option linter.unusedVariables false
set_option linter.unusedSimpArgs false
set_option maxRecDepth 20000
theorem right_1 (w : World) : Calls Tryz.prog 37 #[.agg #[.int .i64 1, .int .i64 1, .int .i64 1]] w fun e w' => e = .returned (.bool true) ∧ Below w.heap.size w w' := by
  go_enter Tryz.func37, Tryz.ntmps37
  go_wp2
  go_ret
  exact ⟨rfl, (Below.refl _ _).alloc (Nat.le_refl _) _⟩
/-- A pointer was answered, and new memory made, and no more. -/
def PtrB (w : World) (e : Ending) (w' : World) : Prop := ∃ q : Nat, e = .returned (.pointer (some ⟨q, 0, none⟩)) ∧ Below w.heap.size w w'
theorem bla (w : World) (o : Obj) : Below w.heap.size w (w.alloc o) := (Below.refl _ _).alloc (Nat.le_refl _) _
theorem pnew_b (w : World) : Calls Tryz.prog 70 #[] w (PtrB w) := by
  have mk : ∀ T (w : World), (Instr.makeMap T none).run Tryz.prog w = .ok (.map (some w.heap.size)) (w.alloc (.map #[] 0)) := fun T w => rfl
  go_enter Tryz.func70, Tryz.ntmps70
  go_wp2
  go_ret
  exact ⟨_, rfl, ((((Below.refl _ _).alloc (Nat.le_refl _) _).alloc (by simp) _).alloc (by simp; omega) _).alloc (by simp; omega) _⟩
set_option maxHeartbeats 2000000 in
theorem mask_1b (w : World) : Calls Tryz.prog 71 #[.int .i64 1] w (PtrB w) := by
  have hm0 := run_make_row' (P := Tryz.prog) 124 30 (.int .u64 0) 8 Tryz.underlying124 infoU64 rfl .i64 .i64 1 (by omega) (by omega)
  simp only [Int.natCast_one] at hm0
  go_enter Tryz.func71, Tryz.ntmps71
  go_wp2
  go_ret
  exact ⟨_, rfl, ((Below.refl _ _).alloc (Nat.le_refl _) _).alloc (by simp) _⟩
set_option maxHeartbeats 2000000 in
theorem inew_11 (w : World) : Calls Tryz.prog 41 #[.int .i64 1, .int .i64 1] w (PtrB w) := by
  go_enter Tryz.func41, Tryz.ntmps41
  go_wp2_with fail
  refine (mask_1b _).mono ?_
  rintro e w2 ⟨q, rfl, hb⟩
  have hs := hb.size
  have B2 := hid hb
  clear hb
  go_wp2
  go_ret
  exact ⟨_, rfl, B2.out.alloc hs _⟩
end Go.Proofs.YtfpkgkjmpcoppaaGreatDoor
