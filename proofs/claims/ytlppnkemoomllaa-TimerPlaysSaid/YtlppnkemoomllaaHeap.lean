/- package heap: which of two entries stands ahead. -/
import Derived.Test.YtlppnkemoomllaaBase
import Derived.WalkKit
import Derived.WalkLawsBesides
import Derived.WalkSpells
import Derived.Below
import Derived.Outline
import Derived.OpenShut
import Derived.Deep.RegionWith
import Derived.Deep.RegionHeld3
import Derived.Deep.CutRange
namespace Go.Proofs.Ytlppnkemoomllaa
set_option linter.unusedVariables false
set_option linter.unusedSimpArgs false
open Go.RowKit

/-- What cmp.Compare answers. -/
def c3 (a b : Int) : Int := if a < b then -1 else if b < a then 1 else 0
/-- What cmp.Or answers, of three. -/
def or3 (x y z : Int) : Int := if x ≠ 0 then x else if y ≠ 0 then y else z
/-- The cells of an entry. -/
def ent (e : Int × Int × Int) : List Value := [.int .i64 e.1, .int .u64 e.2.1, .int .i64 e.2.2]
def cmpE (a b : Int × Int × Int) : Int := or3 (c3 a.1 b.1) (c3 a.2.1 b.2.1) (c3 a.2.2 b.2.2)
def aheadE (a b : Int × Int × Int) : Bool := decide (cmpE a b < 0)
theorem ret_i {k : IntKind} {a b : Int} (h : a = b) : Ending.returned (.int k a) = .returned (.int k b) := by rw [h]
theorem c3_lt {a b : Int} (h : a < b) : c3 a b = -1 := by simp [c3, h]
theorem c3_gt {a b : Int} (h : b < a) : c3 a b = 1 := by unfold c3; rw [if_neg (by omega), if_pos h]
theorem c3_eq {a b : Int} (h : a = b) : c3 a b = 0 := by unfold c3; rw [if_neg (by omega), if_neg (by omega)]
theorem c3_b (a b : Int) : -1 ≤ c3 a b ∧ c3 a b ≤ 1 := by
  unfold c3
  split
  · omega
  · split <;> omega

theorem nan_a (x : Int) (w : World) : Calls Try.prog 53 #[.int .i64 x] w fun e w' => e = .returned (.bool false) ∧ w' = w := by
  have hx : (x != x) = false := by simp
  go_enter Try.func53, Try.ntmps53
  go_wp2
  go_ret
  exact ⟨rfl, rfl⟩
theorem cmp_a (x y : Int) (w : World) : Calls Try.prog 40 #[.int .i64 x, .int .i64 y] w fun e w' => e = .returned (.int .i64 (c3 x y)) ∧ w' = w := by
  by_cases h1 : x < y
  · rw [c3_lt h1]
    go_enter Try.func40, Try.ntmps40
    go_wp2_with fail
    refine (nan_a x _).mono ?_
    rintro e w' ⟨rfl, rfl⟩
    go_wp2_with fail
    refine (nan_a y _).mono ?_
    rintro e w' ⟨rfl, rfl⟩
    go_wp2
    go_ret
    exact ⟨rfl, rfl⟩
  · by_cases h2 : y < x
    · rw [c3_gt h2]
      go_enter Try.func40, Try.ntmps40
      go_wp2_with fail
      refine (nan_a x _).mono ?_
      rintro e w' ⟨rfl, rfl⟩
      go_wp2_with fail
      refine (nan_a y _).mono ?_
      rintro e w' ⟨rfl, rfl⟩
      go_wp2
      go_ret
      exact ⟨rfl, rfl⟩
    · rw [c3_eq (show x = y by omega)]
      go_enter Try.func40, Try.ntmps40
      go_wp2_with fail
      refine (nan_a x _).mono ?_
      rintro e w' ⟨rfl, rfl⟩
      go_wp2_with fail
      refine (nan_a y _).mono ?_
      rintro e w' ⟨rfl, rfl⟩
      go_wp2
      go_ret
      exact ⟨rfl, rfl⟩
theorem nan_b (x : Int) (w : World) : Calls Try.prog 54 #[.int .u64 x] w fun e w' => e = .returned (.bool false) ∧ w' = w := by
  have hx : (x != x) = false := by simp
  go_enter Try.func54, Try.ntmps54
  go_wp2
  go_ret
  exact ⟨rfl, rfl⟩
theorem cmp_b (x y : Int) (w : World) : Calls Try.prog 41 #[.int .u64 x, .int .u64 y] w fun e w' => e = .returned (.int .i64 (c3 x y)) ∧ w' = w := by
  by_cases h1 : x < y
  · rw [c3_lt h1]
    go_enter Try.func41, Try.ntmps41
    go_wp2_with fail
    refine (nan_b x _).mono ?_
    rintro e w' ⟨rfl, rfl⟩
    go_wp2_with fail
    refine (nan_b y _).mono ?_
    rintro e w' ⟨rfl, rfl⟩
    go_wp2
    go_ret
    exact ⟨rfl, rfl⟩
  · by_cases h2 : y < x
    · rw [c3_gt h2]
      go_enter Try.func41, Try.ntmps41
      go_wp2_with fail
      refine (nan_b x _).mono ?_
      rintro e w' ⟨rfl, rfl⟩
      go_wp2_with fail
      refine (nan_b y _).mono ?_
      rintro e w' ⟨rfl, rfl⟩
      go_wp2
      go_ret
      exact ⟨rfl, rfl⟩
    · rw [c3_eq (show x = y by omega)]
      go_enter Try.func41, Try.ntmps41
      go_wp2_with fail
      refine (nan_b x _).mono ?_
      rintro e w' ⟨rfl, rfl⟩
      go_wp2_with fail
      refine (nan_b y _).mono ?_
      rintro e w' ⟨rfl, rfl⟩
      go_wp2
      go_ret
      exact ⟨rfl, rfl⟩
theorem nan_c (x : Int) (w : World) : Calls Try.prog 55 #[.int .i64 x] w fun e w' => e = .returned (.bool false) ∧ w' = w := by
  have hx : (x != x) = false := by simp
  go_enter Try.func55, Try.ntmps55
  go_wp2
  go_ret
  exact ⟨rfl, rfl⟩
theorem cmp_c (x y : Int) (w : World) : Calls Try.prog 42 #[.int .i64 x, .int .i64 y] w fun e w' => e = .returned (.int .i64 (c3 x y)) ∧ w' = w := by
  by_cases h1 : x < y
  · rw [c3_lt h1]
    go_enter Try.func42, Try.ntmps42
    go_wp2_with fail
    refine (nan_c x _).mono ?_
    rintro e w' ⟨rfl, rfl⟩
    go_wp2_with fail
    refine (nan_c y _).mono ?_
    rintro e w' ⟨rfl, rfl⟩
    go_wp2
    go_ret
    exact ⟨rfl, rfl⟩
  · by_cases h2 : y < x
    · rw [c3_gt h2]
      go_enter Try.func42, Try.ntmps42
      go_wp2_with fail
      refine (nan_c x _).mono ?_
      rintro e w' ⟨rfl, rfl⟩
      go_wp2_with fail
      refine (nan_c y _).mono ?_
      rintro e w' ⟨rfl, rfl⟩
      go_wp2
      go_ret
      exact ⟨rfl, rfl⟩
    · rw [c3_eq (show x = y by omega)]
      go_enter Try.func42, Try.ntmps42
      go_wp2_with fail
      refine (nan_c x _).mono ?_
      rintro e w' ⟨rfl, rfl⟩
      go_wp2_with fail
      refine (nan_c y _).mono ?_
      rintro e w' ⟨rfl, rfl⟩
      go_wp2
      go_ret
      exact ⟨rfl, rfl⟩

/-- The first of three that isn't 0. -/
def at3 (x y z : Int) (k : Nat) : Int := if k = 0 then x else if k = 1 then y else z
theorem or_three (x y z : Int) (g : Nat) (w : World) (h0 : w.cell? ⟨g, 0, none⟩ = some (.int .i64 x)) (h1 : w.cell? ⟨g, 1, none⟩ = some (.int .i64 y)) (h2 : w.cell? ⟨g, 2, none⟩ = some (.int .i64 z)) :
    Calls Try.prog 39 #[.slice (some ⟨g, 0, none⟩) 3 3] w fun e w' => e = .returned (.int .i64 (or3 x y z)) ∧ w' = w := by
  have HC := hid (fun (k : Nat) (hk : k < 3) => (show w.cell? ⟨g, k, none⟩ = some (.int .i64 (at3 x y z k)) by
    match k, hk with
    | 0, _ => exact h0
    | 1, _ => exact h1
    | 2, _ => exact h2))
  have HO := hid (show ∀ k, k < 3 → (∀ j, j < k → at3 x y z j = 0) → at3 x y z k ≠ 0 → or3 x y z = at3 x y z k from fun k hk hj hn => by
    match k, hk with
    | 0, _ => simp [at3] at hn; simp [or3, at3, hn]
    | 1, _ => have a0 := hj 0 (by omega); simp [at3] at hn a0; simp [or3, at3, hn, a0]
    | 2, _ => have a0 := hj 0 (by omega); have a1 := hj 1 (by omega); simp [at3] at hn a0 a1; simp [or3, at3, hn, a0, a1])
  have HE := hid (show (∀ j, j < 3 → at3 x y z j = 0) → or3 x y z = 0 from fun hj => by
    have a0 := hj 0 (by omega); have a1 := hj 1 (by omega); have a2 := hj 2 (by omega); simp [at3] at a0 a1 a2; simp [or3, a0, a1, a2])
  clear h0 h1 h2
  go_enter Try.func39, Try.ntmps39
  go_wp2_with fail
  go_loopw [8] (fun i wr => ∃ k : Nat, k ≤ 3 ∧ i = .int .i64 k ∧ wr = w ∧ Hid (∀ j, j < k → at3 x y z j = 0)) (fun i _ => 3 - (intOf i).toNat)
  case atStart => exact ⟨0, by omega, rfl, rfl, fun j hj => by omega⟩
  case round =>
    obtain ⟨k, hk, rfl, rfl, HZ⟩ := hrel
    by_cases hlt : k < 3
    · have hc := HC.out k hlt
      obtain ⟨q, hq⟩ : ∃ q, q = at3 x y z k := ⟨_, rfl⟩
      rw [← hq] at hc
      have HQ := hid hq
      clear hq
      by_cases q0 : q = 0
      · have t0 : (q != 0) = false := by simp [q0]
        have HZ' := hid (show ∀ j, j < k + 1 → at3 x y z j = 0 from fun j hj => by
          by_cases e : j = k
          · rw [e, ← HQ.out, q0]
          · exact HZ.out j (by omega))
        clear q0
        go_wp2
        go_roundw
        case rel => exact ⟨k + 1, by omega, by go_num, by trivial, HZ'⟩
        case measure => simp [intOf]; omega
      · have t0 : (q != 0) = true := by simpa using q0
        have HR := hid (show or3 x y z = q by rw [HQ.out]; exact HO.out k hlt HZ.out (by rw [← HQ.out]; exact q0))
        clear q0
        go_wp2
        go_ret
        exact ⟨ret_i HR.out.symm, rfl⟩
    · have HR := hid (show or3 x y z = 0 from HE.out (fun j hj => HZ.out j (by omega)))
      go_wp2
      go_ret
      exact ⟨ret_i HR.out.symm, rfl⟩
end Go.Proofs.Ytlppnkemoomllaa
