/- The contract of status.Named. -/
import Derived.Test.YtlahinefnhfifaaDoorStatus
import Derived.Test.YtlahinefnhfifaaDoorText
namespace Go.Proofs.YtlahinefnhfifaaDoor
open Go.RowKit
set_option linter.unusedVariables false
set_option linter.unusedSimpArgs false

def stKey : Nat → Nat
  | 0 => 4400
  | 1 => 374177
  | 2 => 124795
  | 3 => 110716
  | 4 => 367363
  | 5 => 123337
  | 6 => 4000
  | _ => 0
theorem stKey_is (k : Nat) (hk : k < 7) : textKey (stName0 k) = stKey k :=
  match k, hk with
  | 0, _ => by kernel_rfl
  | 1, _ => by kernel_rfl
  | 2, _ => by kernel_rfl
  | 3, _ => by kernel_rfl
  | 4, _ => by kernel_rfl
  | 5, _ => by kernel_rfl
  | 6, _ => by kernel_rfl
theorem stKey_inj : ∀ j, j < 7 → ∀ k, k < 7 → stKey j = stKey k → j = k := by decide
theorem stName_inj {j k : Nat} (hj : j < 7) (hk : k < 7) (h : stName0 j = stName0 k) : j = k := stKey_inj j hj k hk (by rw [← stKey_is j hj, ← stKey_is k hk, h])

theorem stAgg_at (k : Nat) (hk : k < 7) (w : World) : (Instr.index 67 (.agg #[.string (stName0 0), .string (stName0 1), .string (stName0 2), .string (stName0 3), .string (stName0 4), .string (stName0 5), .string (stName0 6)]) (.int .i64 k)).run Tryd.prog w = .ok (.string (stName0 k)) w :=
  match k, hk with
  | 0, _ | 1, _ | 2, _ | 3, _ | 4, _ | 5, _ | 6, _ => by kernel_rfl

set_option maxHeartbeats 8000000 in
theorem named_none (s : ByteArray) (w : World) (T2 : StNames w) (hs : ∀ k, k < 7 → s ≠ stName0 k) : Calls Tryd.prog 14 #[.string s] w fun e w' => e = .returned (.tuple #[.int .u64 0, .bool false]) ∧ w = w' := by
  have c0 := T2 0 (by omega)
  have c1 := T2 1 (by omega)
  have c2 := T2 2 (by omega)
  have c3 := T2 3 (by omega)
  have c4 := T2 4 (by omega)
  have c5 := T2 5 (by omega)
  have c6 := T2 6 (by omega)
  have HS := hid hs
  have HA := hid stAgg_at
  clear T2 hs
  go_enter Tryd.func14, Tryd.ntmps14
  go_wp2_with fail
  clear c0 c1 c2 c3 c4 c5 c6
  generalize (Value.agg #[.string (stName0 0), .string (stName0 1), .string (stName0 2), .string (stName0 3), .string (stName0 4), .string (stName0 5), .string (stName0 6)]) = A at HA ⊢
  go_loop [7] (fun i => ∃ k : Nat, k ≤ 7 ∧ i = .int .i64 k) (fun i => 7 - (intOf i).toNat)
  case atStart => exact ⟨0, by omega, rfl⟩
  case round =>
    obtain ⟨k, hk, rfl⟩ := hrel
    by_cases hlt : k < 7
    · have hA := HA.out k hlt
      have hne := txt_ne (fun e => HS.out k hlt e.symm)
      obtain ⟨t, ht⟩ : ∃ t, t = stName0 k := ⟨_, rfl⟩
      rw [← ht] at hA hne
      clear ht
      go_wp2
      go_round
      case rel => exact ⟨k + 1, by omega, by go_num⟩
      case measure => simp [intOf]; omega
    · obtain rfl : k = 7 := by omega
      go_wp2
      go_ret2
      exact ⟨rfl, rfl⟩

set_option maxHeartbeats 8000000 in
theorem named_in (m : Nat) (w : World) (T2 : StNames w) (hm : m < 7) : Calls Tryd.prog 14 #[.string (stName0 m)] w fun e w' => e = .returned (.tuple #[.int .u64 m, .bool true]) ∧ w = w' := by
  have c0 := T2 0 (by omega)
  have c1 := T2 1 (by omega)
  have c2 := T2 2 (by omega)
  have c3 := T2 3 (by omega)
  have c4 := T2 4 (by omega)
  have c5 := T2 5 (by omega)
  have c6 := T2 6 (by omega)
  have HA := hid stAgg_at
  have HNE := hid (fun k (hk : k < m) => txt_ne (fun e => absurd (stName_inj (j := k) (k := m) (by omega) hm e) (by omega)))
  obtain ⟨s, hs⟩ : ∃ s, s = stName0 m := ⟨_, rfl⟩
  rw [← hs] at HNE ⊢
  have HS := hid hs
  clear T2 hs
  go_enter Tryd.func14, Tryd.ntmps14
  go_wp2_with fail
  clear c0 c1 c2 c3 c4 c5 c6
  generalize (Value.agg #[.string (stName0 0), .string (stName0 1), .string (stName0 2), .string (stName0 3), .string (stName0 4), .string (stName0 5), .string (stName0 6)]) = A at HA ⊢
  go_loop [7] (fun i => ∃ k : Nat, k ≤ m ∧ i = .int .i64 k) (fun i => 7 - (intOf i).toNat)
  case atStart => exact ⟨0, by omega, rfl⟩
  case round =>
    obtain ⟨k, hk, rfl⟩ := hrel
    have hA := HA.out k (by omega)
    have hlt : (k : Int) < 7 := by omega
    by_cases hkm : k < m
    · have hne := HNE.out k hkm
      obtain ⟨t, ht⟩ : ∃ t, t = stName0 k := ⟨_, rfl⟩
      rw [← ht] at hA hne
      clear ht
      go_wp2
      go_round
      case rel => exact ⟨k + 1, by omega, by go_num⟩
      case measure => simp [intOf]; omega
    · obtain rfl : k = m := by omega
      rw [← HS.out] at hA
      have hq := txt_eq s
      have hw : IntKind.u64.wrap (k : Int) = k := IntWalk.u64_in _ (by omega)
      go_wp2
      go_ret2
      exact ⟨rfl, rfl⟩
end Go.Proofs.YtlahinefnhfifaaDoor
