/- Contracts of package event: is, Name, Steps. -/
import Derived.Test.YtbplbdopnhnhdaaGreatDoorTabEv
import Derived.Test.YtbplbdopnhnhdaaGreatDoorEis
namespace Go.Proofs.YtbplbdopnhnhdaaGreatDoor
open Go.RowKit
set_option linter.unusedVariables false
set_option linter.unusedSimpArgs false

theorem ename_in (k : Nat) (w : World) (T2 : EvNames w) (hk : k < 8) : Calls Tryz.prog 109 #[.int .i64 k] w fun e w' => e = .returned (.string (evName0 k)) ∧ w = w' := by
  have b := T2 k hk
  obtain ⟨s, hs⟩ : ∃ s, s = evName0 k := ⟨_, rfl⟩
  rw [← hs] at b ⊢
  have h0 : (0 : Int) ≤ k := by omega
  have h8 : (k : Int) < 8 := by omega
  clear T2 hs
  go_enter Tryz.func109, Tryz.ntmps109
  go_wp2_with fail
  refine (eis_in k _ hk).mono ?_
  rintro e w2 ⟨rfl, rfl⟩
  go_wp2
  go_ret
  exact ⟨rfl, rfl⟩
theorem ename_out (n : Int) (w : World) (hn : n < 0 ∨ 7 < n) : Calls Tryz.prog 109 #[.int .i64 n] w fun e w' => e = .returned (.string { data := #[] }) ∧ w = w' := by
  have HN := hid hn
  clear hn
  go_enter Tryz.func109, Tryz.ntmps109
  go_wp2_with fail
  refine (eis_out n _ HN.out).mono ?_
  rintro e w2 ⟨rfl, rfl⟩
  go_wp2
  go_ret
  exact ⟨rfl, rfl⟩

theorem evName_some (k : Nat) (hk : k < 8) : (evName0 k).toList.isEmpty = false :=
  match k, hk with
  | 0, _ => by kernel_rfl
  | 1, _ => by kernel_rfl
  | 2, _ => by kernel_rfl
  | 3, _ => by kernel_rfl
  | 4, _ => by kernel_rfl
  | 5, _ => by kernel_rfl
  | 6, _ => by kernel_rfl
  | 7, _ => by kernel_rfl

set_option maxHeartbeats 4000000 in
theorem esteps_out (n g m p v : Int) (w : World) (hn : n < 0 ∨ 7 < n) : Calls Tryz.prog 77 #[.agg #[.int .i64 n, .int .i64 g, .int .i64 m, .int .i64 p, .int .i64 v]] w fun e w' => e = .returned (.tuple #[.int .u64 0, .int .u64 0, .bool false]) ∧ Below w.heap.size w w' := by
  have HN := hid hn
  clear hn
  go_enter Tryz.func77, Tryz.ntmps77
  go_wp2_with fail
  refine (ename_out n _ HN.out).mono ?_
  rintro e w2 ⟨rfl, rfl⟩
  go_wp2
  exact bodyPost_ret (v := .tuple #[.int .u64 0, .int .u64 0, .bool false]) (by simp [results, Tryz.results77, go_sem]) rfl ⟨rfl, (Below.refl _ _).alloc (Nat.le_refl _) _⟩
set_option maxHeartbeats 4000000 in
theorem esteps_in (k : Nat) (g m p v : Int) (w : World) (T2 : EvNames w) (T3 : EvSteps w) (hk : k < 8) :
    Calls Tryz.prog 77 #[.agg #[.int .i64 k, .int .i64 g, .int .i64 m, .int .i64 p, .int .i64 v]] w fun e w' => e = .returned (.tuple #[.int .u64 (evStep0 k), .int .u64 (evStep1 k), .bool true]) ∧ Below w.heap.size w w' := by
  have hb := (Below.refl w.heap.size w).alloc (Nat.le_refl _) (.cells #[.int .i64 k, .int .i64 g, .int .i64 m, .int .i64 p, .int .i64 v] 34)
  have HT := hid (T2.at hb)
  have hw2 := T3.lt
  have h0 : (0 : Int) ≤ k := by omega
  have h8 : (k : Int) < 8 := by omega
  have c0 : w.cell? ⟨1, k * 2, none⟩ = some (.int .u64 (evStep0 k)) := (T3 k hk).1
  have c1 : w.cell? ⟨1, k * 2 + 1, none⟩ = some (.int .u64 (evStep1 k)) := (T3 k hk).2
  obtain ⟨s, hs⟩ : ∃ s, s = evStep0 k := ⟨_, rfl⟩
  obtain ⟨t, ht⟩ : ∃ t, t = evStep1 k := ⟨_, rfl⟩
  rw [← hs] at c0 ⊢
  rw [← ht] at c1 ⊢
  have HNE := hid (evName_some k hk)
  clear T2 T3 hs ht
  go_enter Tryz.func77, Tryz.ntmps77
  go_wp2_with fail
  refine (ename_in k _ HT.out hk).mono ?_
  rintro e w2 ⟨rfl, rfl⟩
  have hne := HNE.out
  generalize evName0 k = str at hne
  go_wp2
  go_quiet (fail)
  go_wp2
  exact bodyPost_ret (v := .tuple #[.int .u64 s, .int .u64 t, .bool true]) (by simp [results, Tryz.results77, go_sem]) rfl ⟨rfl, ((Below.refl _ _).alloc (Nat.le_refl _) _).trans (Quiet.below ⟨_, rfl⟩ _)⟩
end Go.Proofs.YtbplbdopnhnhdaaGreatDoor
