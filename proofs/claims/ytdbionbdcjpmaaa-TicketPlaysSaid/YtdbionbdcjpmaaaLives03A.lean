/- 'lives' and 'lock' of layer 3: what they answer, and that they turn nothing that was there. -/
import Derived.Test.YtdbionbdcjpmaaaTicketA
import Derived.Deep.RegionWith
import Derived.RegionTactic
import Derived.ChangeAlike
namespace Go.Proofs.Ytdbionbdcjpmaaa
set_option linter.unusedVariables false
open Go.RowKit

set_option maxHeartbeats 1000000 in
theorem lock_any (t : Int) (w : World) :
    Calls Try.prog 15 #[.int .u64 t] w fun e w' => ∃ b g, e = .returned (.tuple #[.pointer (some ⟨b, 0, none⟩), .agg #[.int .i64 4, .int .i64 2]]) ∧ Mem w' b g [0, 0, t, 0, t, 0] 2 ∧ w.heap.size ≤ b ∧ w.heap.size ≤ g ∧ Below w.heap.size w w' := by
  go_enter Try.func15, Try.ntmps15
  go_wp2_with fail
  refine (new_ex 6 6 rfl _).mono ?_
  rintro e w1 ⟨b, g, rfl, hm, hb, hg, hb1⟩
  have hr := (hb1.block w.heap.size (by simp)).trans (Deep.blk_alloc_new _ _)
  have sb := hm.sb
  have sg := hm.sg
  have hs := hb1.size
  simp only [World.size_alloc] at hs hb hg
  go_wp2_with fail
  refine (store_in b g _ _ 4 t _ (hm.alloc _) (by omega) (by omega) (by simp)).mono ?_
  rintro e w2 ⟨rfl, hm2, ho2⟩
  have n2 := ho2.new sb sg
  have r2 := ho2.keep ((Below.heap_alloc _ _ _ (by omega)).trans hr) (by omega) (by omega)
  go_wp2_with fail
  refine (store_in b g _ _ 2 t _ hm2 (by omega) (by omega) (by simp)).mono ?_
  rintro e w3 ⟨rfl, hm3, ho3⟩
  have n3 := ho3.keep n2 (by omega) (by omega)
  have r3 := ho3.keep r2 (by omega) (by omega)
  have j0 := cell_of_blk (i := 0) n3 rfl
  have j1 := cell_of_blk (i := 1) n3 rfl
  have q0 := cell_of_blk (i := 0) r3 rfl
  have q1 := cell_of_blk (i := 1) r3 rfl
  have f0 := free_of_blk (i := 0) r3
  have f1 := free_of_blk (i := 1) r3
  have hne : w.heap.size ≠ w1.heap.size := by omega
  clear n2 r2 n3 r3 hr
  go_wp2_with fail
  go_region
  all_goals go_wp2
  all_goals
    refine bodyPost_ret (v := .tuple #[.pointer (some ⟨b, 0, none⟩), .agg #[.int .i64 4, .int .i64 2]]) (by simp [results, Try.results15, go_sem, q0, q1]) rfl ⟨b, g, rfl, (((hm3.setOther (by omega) (by omega)).setOther (by omega) (by omega)).drew), by omega, by omega, ?_⟩
    exact ((((((Below.refl _ _).alloc (Nat.le_refl _) _).trans (hb1.mono (by simp))).alloc (by omega) _).trans ((ho2.trans ho3).below (by omega) (by omega) (by simp; omega))).setCell (Nat.le_refl _) _).setCell (Nat.le_refl _) _ |>.drew

set_option maxHeartbeats 1000000 in
theorem lives3 (w : World) :
    Calls Try.prog 14 #[] w fun e w' => e = .returned (.bool true) ∧ Below w.heap.size w w' := by
  have u0 : inU 0 := by unfold inU; omega
  have u1 : inU 1 := by unfold inU; omega
  have U1 : U (0 + 1) = 1 := by unfold U; rw [u64_wrap]; rfl
  have U2 : U (1 + 1) = 2 := by unfold U; rw [u64_wrap]; rfl
  have HU0 := hid u0
  have HU1 := hid u1
  have H1 := hid U1
  have H2 := hid U2
  clear u0 u1 U1 U2
  go_enter Try.func14, Try.ntmps14
  go_wp2_with fail
  refine (new_ex 2 2 rfl _).mono ?_
  rintro e w1 ⟨b, g, rfl, hm, hb, hg, hb1⟩
  have sb := hm.sb
  have sg := hm.sg
  have hs := hb1.size
  have n0 := Deep.blk_alloc_new w1 (.cells #[.int .i64 0, .int .i64 1] 41)
  have N0 := hid n0
  clear n0
  go_wp2_with fail
  go_region_with (first
    | (go_at_call 17; (with_reducible refine (take_in b g _ _ 0 1 _ hm2 (by omega) (by omega) L2.out 1 V2.out HU1.out).mono ?_); rintro e w3 ⟨rfl, hm3, ho3⟩; have n3 := ho3.keep n2 (by omega) (by omega); have j0 := cell_of_blk (i := 0) n3 rfl; have j1 := cell_of_blk (i := 1) n3 rfl)
    | (go_at_call 17; (refine (take_in b g _ _ 0 1 _ ((hm.alloc _).quiet ⟨1, rfl⟩) (by omega) (by omega) (by simp) 0 (by simp) HU0.out).mono ?_); rintro e w2 ⟨rfl, hm2, ho2⟩; have n2 := keep_drew ho2 N0.out (by omega) (by omega); have k0 := cell_of_blk (i := 0) n2 rfl; have k1 := cell_of_blk (i := 1) n2 rfl; rw [H1.out] at hm2; have L2 : Hid ((0 : Int) < ((List.set (List.replicate 2 0) (0 : Int).toNat (1 : Int)).length : Int)) := hid (by simp); have V2 : Hid ((List.set (List.replicate 2 0) (0 : Int).toNat (1 : Int)).getD (0 : Int).toNat 0 = 1) := hid (by simp)))
  all_goals
    go_wp2_with fail
    refine (held_in b g _ _ 0 1 1 _ hm3 (by omega) (by omega) (by simp) 0 (by simp) false (by simp) HU1.out HU0.out).mono ?_
    rintro e w4 ⟨rfl, hm4, ho4⟩
    have n4 := ho4.keep n3 (by omega) (by omega)
    have i0 := cell_of_blk (i := 0) n4 rfl
    have i1 := cell_of_blk (i := 1) n4 rfl
    clear n2 k0 k1 j0 j1
    go_wp2_with fail
    refine (free_yes b g _ _ 0 1 0 _ hm4 (by omega) (by omega) (by simp) (by simp) HU0.out).mono ?_
    rintro e w5 ⟨rfl, hm5, ho5⟩
    have n5 := ho5.keep n4 (by omega) (by omega)
    have l0 := cell_of_blk (i := 0) n5 rfl
    have l1 := cell_of_blk (i := 1) n5 rfl
    rw [H1.out] at hm5
    clear n3 n4 i0 i1
    go_wp2_with fail
    refine (held_in b g _ _ 0 1 1 _ hm5 (by omega) (by omega) (by simp) 1 (by simp) true (by simp) HU1.out HU1.out).mono ?_
    rintro e w6 ⟨rfl, hm6, ho6⟩
    go_wp2
    go_ret
    exact ⟨rfl, hb1.trans (((((Only.alloc _ _).trans (only_drew ho2)).trans ho3).trans ((ho4.trans ho5).trans ho6)).below hb hg hs)⟩
end Go.Proofs.Ytdbionbdcjpmaaa
