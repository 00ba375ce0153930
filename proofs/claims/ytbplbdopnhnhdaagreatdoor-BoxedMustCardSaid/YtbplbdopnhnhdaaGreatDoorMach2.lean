/- Contracts of package mach: Fresh, Lock; the document's Lock. -/
import Derived.Test.YtbplbdopnhnhdaaGreatDoorMach
namespace Go.Proofs.YtbplbdopnhnhdaaGreatDoor
open Go.RowKit
set_option linter.unusedVariables false
set_option maxRecDepth 20000
set_option linter.unusedSimpArgs false
set_option maxHeartbeats 4000000 in
theorem fresh_any (w : World) : Calls Tryz.prog 42 #[] w fun e w' => e = .returned (.agg (mach0 16 (-1) 0)) ∧ Below w.heap.size w w' := by
  go_enter Tryz.func42, Tryz.ntmps42
  go_wp2_with (refine wpList_store_new rfl 84 (.tmp 0) (.tmp 1) rfl _ (mach0 16 (-1) 0) 84 rfl rfl (by kernel_rfl) (by rfl) (by simp [mach0, Value.oneCell']) ?_)
  exact bodyPost_ret (v := .agg (mach0 16 (-1) 0)) (results_cell_row rfl _ _ w.heap.size 84 (mach0 16 (-1) 0) (0, 0) _ (by rfl) (heap_alloc_new w _) Tryz.underlying84 rfl (by kernel_rfl)) rfl ⟨rfl, (Below.refl _ _).alloc (Nat.le_refl _) _⟩

theorem maPlace1_le (k : Nat) (hk : k < 31) : maPlace1 k = 0 ∨ maPlace1 k = 1 ∨ maPlace1 k = 2 ∨ maPlace1 k = 3 ∨ maPlace1 k = 4 ∨ maPlace1 k = 5 :=
  match k, hk with
  | 0, _ => by simp [maPlace1]
  | 1, _ => by simp [maPlace1]
  | 2, _ => by simp [maPlace1]
  | 3, _ => by simp [maPlace1]
  | 4, _ => by simp [maPlace1]
  | 5, _ => by simp [maPlace1]
  | 6, _ => by simp [maPlace1]
  | 7, _ => by simp [maPlace1]
  | 8, _ => by simp [maPlace1]
  | 9, _ => by simp [maPlace1]
  | 10, _ => by simp [maPlace1]
  | 11, _ => by simp [maPlace1]
  | 12, _ => by simp [maPlace1]
  | 13, _ => by simp [maPlace1]
  | 14, _ => by simp [maPlace1]
  | 15, _ => by simp [maPlace1]
  | 16, _ => by simp [maPlace1]
  | 17, _ => by simp [maPlace1]
  | 18, _ => by simp [maPlace1]
  | 19, _ => by simp [maPlace1]
  | 20, _ => by simp [maPlace1]
  | 21, _ => by simp [maPlace1]
  | 22, _ => by simp [maPlace1]
  | 23, _ => by simp [maPlace1]
  | 24, _ => by simp [maPlace1]
  | 25, _ => by simp [maPlace1]
  | 26, _ => by simp [maPlace1]
  | 27, _ => by simp [maPlace1]
  | 28, _ => by simp [maPlace1]
  | 29, _ => by simp [maPlace1]
  | 30, _ => by simp [maPlace1]
  | k + 31, hk => absurd hk (by omega)

/-- A place's class: that of the table; of what is no place: none. -/
def placeClass (pl : Int) : Int := if 0 ≤ pl ∧ pl < 31 then maPlace1 pl.toNat else 0
theorem placeClass_nat (k : Nat) (hk : k < 31) : placeClass k = maPlace1 k := by unfold placeClass; rw [if_pos (by omega)]; rfl

set_option maxHeartbeats 4000000 in
theorem mlock_in (k : Nat) (p i n : Int) (w : World) (T : MaPlaces w) (hk : k < 31) (hn : 1 ≤ n) (hn2 : n ≤ 4611686018427387904) (hi : i ≤ 9223372036854775807) :
    Calls Tryz.prog 59 #[.agg (mach0 k p i), .int .i64 n] w fun e w' => e = .returned (.int .i64 (lk (maPlace1 k) p i n)) ∧ Below w.heap.size w w' := by
  have hg := T.lt
  have c1 : w.cell? ⟨0, k * 2 + 1, none⟩ = some (.int .i64 (maPlace1 k)) := (T k hk).2
  have hb := hid ((Below.refl w.heap.size w).alloc (Nat.le_refl _) (.cells (mach0 k p i) 84))
  have hcl := maPlace1_le k hk
  generalize maPlace1 k = c at c1 hcl ⊢
  have h0 : (0 : Int) ≤ k := by omega
  have h31 : (k : Int) < 31 := by omega
  have hwn : IntKind.i64.wrap (n + 1) = n + 1 := IntWalk.i64_in _ (by omega)
  have LO := hid (fun r w => lockOf_any r n w hn2)
  have LA := hid (fun w => around_any p i n w hn hn2 hi)
  have MI := hid (fun w => mis_in k w hk)
  clear T
  rcases hcl with rfl | rfl | rfl | rfl | rfl | rfl
  · rw [show lk 0 p i n = (-1) from rfl]
    go_enter Tryz.func59, Tryz.ntmps59
    go_wp2_with fail
    refine (MI.out _).mono ?_
    rintro e w2 ⟨rfl, rfl⟩
    go_wp2
    go_ret
    exact ⟨rfl, hb.out⟩
  · rw [show lk 1 p i n = 0 from rfl]
    go_enter Tryz.func59, Tryz.ntmps59
    go_wp2_with fail
    refine (MI.out _).mono ?_
    rintro e w2 ⟨rfl, rfl⟩
    go_wp2
    go_ret
    exact ⟨rfl, hb.out⟩
  · rw [show lk 2 p i n = lkOf p n from rfl]
    go_enter Tryz.func59, Tryz.ntmps59
    go_wp2_with fail
    refine (MI.out _).mono ?_
    rintro e w2 ⟨rfl, rfl⟩
    go_wp2_with fail
    refine (LO.out p _).mono ?_
    rintro e w3 ⟨rfl, rfl⟩
    go_wp2
    go_ret
    exact ⟨rfl, hb.out⟩
  · rw [show lk 3 p i n = lkOf (lkAround p i n) n from rfl]
    go_enter Tryz.func59, Tryz.ntmps59
    go_wp2_with fail
    refine (MI.out _).mono ?_
    rintro e w2 ⟨rfl, rfl⟩
    go_wp2_with fail
    refine (LA.out _).mono ?_
    rintro e w4 ⟨rfl, rfl⟩
    go_wp2_with fail
    refine (LO.out (lkAround p i n) _).mono ?_
    rintro e w3 ⟨rfl, rfl⟩
    go_wp2
    go_ret
    exact ⟨rfl, hb.out⟩
  · rw [show lk 4 p i n = lkOf i n from rfl]
    go_enter Tryz.func59, Tryz.ntmps59
    go_wp2_with fail
    refine (MI.out _).mono ?_
    rintro e w2 ⟨rfl, rfl⟩
    go_wp2_with fail
    refine (LO.out i _).mono ?_
    rintro e w3 ⟨rfl, rfl⟩
    go_wp2
    go_ret
    exact ⟨rfl, hb.out⟩
  · rw [show lk 5 p i n = n + 1 from rfl]
    go_enter Tryz.func59, Tryz.ntmps59
    go_wp2_with fail
    refine (MI.out _).mono ?_
    rintro e w2 ⟨rfl, rfl⟩
    go_wp2
    go_ret
    exact ⟨rfl, hb.out⟩
set_option maxHeartbeats 4000000 in
theorem mlock_out (pl p i n : Int) (w : World) (hp : pl < 0 ∨ 30 < pl) :
    Calls Tryz.prog 59 #[.agg (mach0 pl p i), .int .i64 n] w fun e w' => e = .returned (.int .i64 (-1)) ∧ Below w.heap.size w w' := by
  have hb := hid ((Below.refl w.heap.size w).alloc (Nat.le_refl _) (.cells (mach0 pl p i) 84))
  have HP := hid hp
  clear hp
  go_enter Tryz.func59, Tryz.ntmps59
  go_wp2_with fail
  refine (mis_out pl _ HP.out).mono ?_
  rintro e w2 ⟨rfl, rfl⟩
  go_wp2
  go_ret
  exact ⟨rfl, hb.out⟩
set_option maxHeartbeats 4000000 in
theorem mlock_small (k : Nat) (p i n : Int) (w : World) (hk : k < 31) (hn : n < 1) :
    Calls Tryz.prog 59 #[.agg (mach0 k p i), .int .i64 n] w fun e w' => e = .returned (.int .i64 (-1)) ∧ Below w.heap.size w w' := by
  have hb := hid ((Below.refl w.heap.size w).alloc (Nat.le_refl _) (.cells (mach0 k p i) 84))
  have MI := hid (fun w => mis_in k w hk)
  clear hk
  go_enter Tryz.func59, Tryz.ntmps59
  go_wp2_with fail
  refine (MI.out _).mono ?_
  rintro e w2 ⟨rfl, rfl⟩
  go_wp2
  go_ret
  exact ⟨rfl, hb.out⟩
end Go.Proofs.YtbplbdopnhnhdaaGreatDoor
