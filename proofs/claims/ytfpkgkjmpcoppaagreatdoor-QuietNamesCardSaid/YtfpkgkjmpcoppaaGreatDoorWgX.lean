/- world.New of any config, over what J tells of its parts, and what begin makes of them. Written by wip/tools/gennewx.py. -/
import Derived.Test.YtfpkgkjmpcoppaaGreatDoorWgV
import Derived.Test.YtfpkgkjmpcoppaaGreatDoorWoW
import Derived.IntWalk
namespace Go.Proofs.YtfpkgkjmpcoppaaGreatDoor
open Go.RowKit
set_option linter.unusedVariables false
set_option linter.unusedSimpArgs false
set_option maxRecDepth 20000
set_option maxHeartbeats 40000000 in
theorem wnew_yes (P M : Nat) (G : Int) (hok : OkC P M G) (w : World) (J : JT) (R : Nat → World → Prop)
    (HJ : JOk J w.heap.size P M G (2 * ((P : Int) + 2) + 1 + (M : Int) + G))
    (HJ0 : ∀ y, Below w.heap.size w y → SG w.heap.size P M G y → J y none none none none none none none)
    (HB : ∀ y b1 b2 tb q sb ib mb, J y (some b1) (some b2) (some tb) (some q) (some sb) (some ib) (some mb) →
      Calls Tryz.prog 42 #[ptr y.heap.size] (y.alloc (.cells (wcG P M G (2 * ((P : Int) + 2)) (2 * ((P : Int) + 2) + 1) (2 * ((P : Int) + 2) + 1 + (M : Int)) b1 b2 tb q sb ib mb) 95)) fun e w' => e = .returned (.tuple #[]) ∧ R y.heap.size w') :
    Calls Tryz.prog 9 #[.agg #[.int .i64 (P : Int), .int .i64 (M : Int), .int .i64 G]] w fun e w' => ∃ x, e = .returned (.tuple #[.pointer (some ⟨x, 0, none⟩), .int .i64 0]) ∧ R x w' := by
  have b0 := hid (bla w (.cells #[.int .i64 (P : Int), .int .i64 (M : Int), .int .i64 G] 24))
  have S0 := hid (show SG w.heap.size P M G (w.alloc (.cells #[.int .i64 (P : Int), .int .i64 (M : Int), .int .i64 G] 24)) from by have h := heap_alloc_new w (.cells #[.int .i64 (P : Int), .int .i64 (M : Int), .int .i64 G] 24); refine ⟨?_, ?_, ?_⟩ <;> (simp only [World.cell?, h]; rfl))
  have hR := hid (right_yes P M G hok)
  have hJ := hid HJ
  have hJ0 := hid HJ0
  have hB := hid HB
  clear HJ HJ0 HB
  obtain ⟨h1, h2, h3, h4, h5, h6⟩ := hok
  obtain ⟨bx, hbx⟩ : ∃ bx, bx = w.heap.size := ⟨_, rfl⟩
  have hlx : bx < (w.alloc (.cells #[.int .i64 (P : Int), .int .i64 (M : Int), .int .i64 G] 24)).heap.size := by rw [hbx]; simp
  go_enter Tryz.func9, Tryz.ntmps9
  go_wp2_with fail
  refine (hR.out _).mono ?_
  rintro e y ⟨rfl, hb⟩
  rw [← hbx] at S0 hJ hJ0 ⊢
  have A := hid (b0.out.trans (hb.mono b0.out.size))
  have hS0 : SG bx P M G y := ⟨(hb.cell (p := ⟨bx, 0, none⟩) hlx).trans S0.out.1, (hb.cell (p := ⟨bx, 1, none⟩) hlx).trans S0.out.2.1, (hb.cell (p := ⟨bx, 2, none⟩) hlx).trans S0.out.2.2⟩
  have HX := hid hbx
  clear hb b0 S0 hR hlx hbx
  have c0 := hS0.1
  have c1 := hS0.2.1
  have c2 := hS0.2.2
  go_wp2_with fail
  have hS : SG bx P M G (World.drew y) := hS0
  have JJ := hid (hJ0.out _ (by rw [HX.out]; exact A.out.trans (Quiet.below ⟨1, rfl⟩ _)) hS)
  refine wp_region_held (S := SG bx P M G) (by kernel_rfl) ?_
  change wpAnyH _ _ _ _ _ _ _ _ (World.drew _)
  refine wpAnyH_take (i := 0) (oi := ⟨some 21, .load 24 (.tmp 1), _, _, _, none⟩) (v := .agg #[.int .i64 (P : Int), .int .i64 (M : Int), .int .i64 G]) rfl (by kernel_rfl) (by kernel_rfl) (by kernel_rfl) (fun _ _ _ h => h) (Or.inl ⟨by rfl, fun w' hSw => by (obtain ⟨s0, s1, s2⟩ := hSw; go_simp)⟩) hS ?_
  simp only [Act.put, List.setIfInBounds_toArray, List.set_cons_zero, List.set_cons_succ]
  refine wpAnyH_take (i := 1) (oi := ⟨some 22, .move (.tmp 6), _, _, _, none⟩) (v := .int .i64 (2 * ((P : Int) + 2) + 1 + (M : Int))) rfl (by kernel_rfl) (by kernel_rfl) (by kernel_rfl) (fun _ _ _ h => h) (Or.inl ⟨by rfl, fun w' hSw => by kernel_rfl⟩) hS ?_
  simp only [Act.put, List.setIfInBounds_toArray, List.set_cons_zero, List.set_cons_succ]
  refine wpAnyH_take (i := 2) (oi := ⟨some 23, .fieldAddr 24 (.tmp 1) 2, _, _, _, none⟩) (v := .pointer (some ⟨bx, 2, none⟩)) rfl (by kernel_rfl) (by kernel_rfl) (by kernel_rfl) (fun _ _ _ h => h) (Or.inl ⟨by rfl, fun w' hSw => by kernel_rfl⟩) hS ?_
  simp only [Act.put, List.setIfInBounds_toArray, List.set_cons_zero, List.set_cons_succ]
  refine wpAnyH_take (i := 3) (oi := ⟨some 24, .load 3 (.tmp 23), _, _, _, none⟩) (v := .int .i64 G) rfl (by kernel_rfl) (by kernel_rfl) (by kernel_rfl) (fun _ _ _ h => h) (Or.inl ⟨by rfl, fun w' hSw => by (obtain ⟨s0, s1, s2⟩ := hSw; go_simp)⟩) hS ?_
  simp only [Act.put, List.setIfInBounds_toArray, List.set_cons_zero, List.set_cons_succ]
  refine wpAnyH_take (i := 4) (oi := ⟨some 25, .binOp .add 3 (.tmp 22) (.tmp 24) 3, _, _, _, none⟩) (v := .int .i64 (2 * ((P : Int) + 2) + 1 + (M : Int) + G)) rfl (by kernel_rfl) (by kernel_rfl) (by kernel_rfl) (fun _ _ _ h => h) (Or.inl ⟨by rfl, fun w' hSw => by (go_simp; exact IntWalk.i64_in _ (by omega))⟩) hS ?_
  simp only [Act.put, List.setIfInBounds_toArray, List.set_cons_zero, List.set_cons_succ]
  refine wpAnyH_take (i := 6) (oi := ⟨some 27, .move (.tmp 6), _, _, _, none⟩) (v := .int .i64 (2 * ((P : Int) + 2) + 1 + (M : Int))) rfl (by kernel_rfl) (by kernel_rfl) (by kernel_rfl) (fun _ _ _ h => h) (Or.inl ⟨by rfl, fun w' hSw => by kernel_rfl⟩) hS ?_
  simp only [Act.put, List.setIfInBounds_toArray, List.set_cons_zero, List.set_cons_succ]
  refine wpAnyH_take (i := 7) (oi := ⟨some 28, .fieldAddr 24 (.tmp 1) 2, _, _, _, none⟩) (v := .pointer (some ⟨bx, 2, none⟩)) rfl (by kernel_rfl) (by kernel_rfl) (by kernel_rfl) (fun _ _ _ h => h) (Or.inl ⟨by rfl, fun w' hSw => by kernel_rfl⟩) hS ?_
  simp only [Act.put, List.setIfInBounds_toArray, List.set_cons_zero, List.set_cons_succ]
  refine wpAnyH_take (i := 8) (oi := ⟨some 29, .load 3 (.tmp 28), _, _, _, none⟩) (v := .int .i64 G) rfl (by kernel_rfl) (by kernel_rfl) (by kernel_rfl) (fun _ _ _ h => h) (Or.inl ⟨by rfl, fun w' hSw => by (obtain ⟨s0, s1, s2⟩ := hSw; go_simp)⟩) hS ?_
  simp only [Act.put, List.setIfInBounds_toArray, List.set_cons_zero, List.set_cons_succ]
  refine wpAnyH_take (i := 9) (oi := ⟨some 30, .binOp .add 3 (.tmp 27) (.tmp 29) 3, _, _, _, none⟩) (v := .int .i64 (2 * ((P : Int) + 2) + 1 + (M : Int) + G)) rfl (by kernel_rfl) (by kernel_rfl) (by kernel_rfl) (fun _ _ _ h => h) (Or.inl ⟨by rfl, fun w' hSw => by (go_simp; exact IntWalk.i64_in _ (by omega))⟩) hS ?_
  simp only [Act.put, List.setIfInBounds_toArray, List.set_cons_zero, List.set_cons_succ]
  refine wpAnyH_take (i := 11) (oi := ⟨some 32, .move (.tmp 4), _, _, _, none⟩) (v := .int .i64 (2 * ((P : Int) + 2))) rfl (by kernel_rfl) (by kernel_rfl) (by kernel_rfl) (fun _ _ _ h => h) (Or.inl ⟨by rfl, fun w' hSw => by kernel_rfl⟩) hS ?_
  simp only [Act.put, List.setIfInBounds_toArray, List.set_cons_zero, List.set_cons_succ]
  refine wpAnyH_take (i := 12) (oi := ⟨some 33, .move (.tmp 5), _, _, _, none⟩) (v := .int .i64 (2 * ((P : Int) + 2) + 1)) rfl (by kernel_rfl) (by kernel_rfl) (by kernel_rfl) (fun _ _ _ h => h) (Or.inl ⟨by rfl, fun w' hSw => by kernel_rfl⟩) hS ?_
  simp only [Act.put, List.setIfInBounds_toArray, List.set_cons_zero, List.set_cons_succ]
  refine wpAnyH_take (i := 13) (oi := ⟨some 34, .move (.tmp 6), _, _, _, none⟩) (v := .int .i64 (2 * ((P : Int) + 2) + 1 + (M : Int))) rfl (by kernel_rfl) (by kernel_rfl) (by kernel_rfl) (fun _ _ _ h => h) (Or.inl ⟨by rfl, fun w' hSw => by kernel_rfl⟩) hS ?_
  simp only [Act.put, List.setIfInBounds_toArray, List.set_cons_zero, List.set_cons_succ]
  refine wpAnyH_take (i := 14) (oi := ⟨some 35, .fieldAddr 24 (.tmp 1) 2, _, _, _, none⟩) (v := .pointer (some ⟨bx, 2, none⟩)) rfl (by kernel_rfl) (by kernel_rfl) (by kernel_rfl) (fun _ _ _ h => h) (Or.inl ⟨by rfl, fun w' hSw => by kernel_rfl⟩) hS ?_
  simp only [Act.put, List.setIfInBounds_toArray, List.set_cons_zero, List.set_cons_succ]
  refine wpAnyH_take (i := 15) (oi := ⟨some 36, .load 3 (.tmp 35), _, _, _, none⟩) (v := .int .i64 G) rfl (by kernel_rfl) (by kernel_rfl) (by kernel_rfl) (fun _ _ _ h => h) (Or.inl ⟨by rfl, fun w' hSw => by (obtain ⟨s0, s1, s2⟩ := hSw; go_simp)⟩) hS ?_
  simp only [Act.put, List.setIfInBounds_toArray, List.set_cons_zero, List.set_cons_succ]
  refine wpAnyH_take (i := 16) (oi := ⟨some 37, .build 84 #[(0, .tmp 34), (1, .tmp 36)], _, _, _, none⟩) (v := .agg #[.int .i64 (2 * ((P : Int) + 2) + 1 + (M : Int)), .int .i64 G]) rfl (by kernel_rfl) (by kernel_rfl) (by kernel_rfl) (fun _ _ _ h => h) (Or.inl ⟨by rfl, fun w' hSw => by kernel_rfl⟩) hS ?_
  simp only [Act.put, List.setIfInBounds_toArray, List.set_cons_zero, List.set_cons_succ]
  refine wpAnyH_take (i := 17) (oi := ⟨some 38, .fieldAddr 24 (.tmp 1) 0, _, _, _, none⟩) (v := .pointer (some ⟨bx, 0, none⟩)) rfl (by kernel_rfl) (by kernel_rfl) (by kernel_rfl) (fun _ _ _ h => h) (Or.inl ⟨by rfl, fun w' hSw => by kernel_rfl⟩) hS ?_
  simp only [Act.put, List.setIfInBounds_toArray, List.set_cons_zero, List.set_cons_succ]
  refine wpAnyH_take (i := 18) (oi := ⟨some 39, .load 3 (.tmp 38), _, _, _, none⟩) (v := .int .i64 (P : Int)) rfl (by kernel_rfl) (by kernel_rfl) (by kernel_rfl) (fun _ _ _ h => h) (Or.inl ⟨by rfl, fun w' hSw => by (obtain ⟨s0, s1, s2⟩ := hSw; go_simp)⟩) hS ?_
  simp only [Act.put, List.setIfInBounds_toArray, List.set_cons_zero, List.set_cons_succ]
  refine wpAnyH_take (i := 20) (oi := ⟨some 41, .fieldAddr 24 (.tmp 1) 0, _, _, _, none⟩) (v := .pointer (some ⟨bx, 0, none⟩)) rfl (by kernel_rfl) (by kernel_rfl) (by kernel_rfl) (fun _ _ _ h => h) (Or.inl ⟨by rfl, fun w' hSw => by kernel_rfl⟩) hS ?_
  simp only [Act.put, List.setIfInBounds_toArray, List.set_cons_zero, List.set_cons_succ]
  refine wpAnyH_take (i := 21) (oi := ⟨some 42, .load 3 (.tmp 41), _, _, _, none⟩) (v := .int .i64 (P : Int)) rfl (by kernel_rfl) (by kernel_rfl) (by kernel_rfl) (fun _ _ _ h => h) (Or.inl ⟨by rfl, fun w' hSw => by (obtain ⟨s0, s1, s2⟩ := hSw; go_simp)⟩) hS ?_
  simp only [Act.put, List.setIfInBounds_toArray, List.set_cons_zero, List.set_cons_succ]
  refine wpAnyH_take (i := 23) (oi := ⟨some 44, .fieldAddr 24 (.tmp 1) 0, _, _, _, none⟩) (v := .pointer (some ⟨bx, 0, none⟩)) rfl (by kernel_rfl) (by kernel_rfl) (by kernel_rfl) (fun _ _ _ h => h) (Or.inl ⟨by rfl, fun w' hSw => by kernel_rfl⟩) hS ?_
  simp only [Act.put, List.setIfInBounds_toArray, List.set_cons_zero, List.set_cons_succ]
  refine wpAnyH_take (i := 24) (oi := ⟨some 45, .load 3 (.tmp 44), _, _, _, none⟩) (v := .int .i64 (P : Int)) rfl (by kernel_rfl) (by kernel_rfl) (by kernel_rfl) (fun _ _ _ h => h) (Or.inl ⟨by rfl, fun w' hSw => by (obtain ⟨s0, s1, s2⟩ := hSw; go_simp)⟩) hS ?_
  simp only [Act.put, List.setIfInBounds_toArray, List.set_cons_zero, List.set_cons_succ]
  refine wpAnyH_take (i := 26) (oi := ⟨some 47, .fieldAddr 24 (.tmp 1) 0, _, _, _, none⟩) (v := .pointer (some ⟨bx, 0, none⟩)) rfl (by kernel_rfl) (by kernel_rfl) (by kernel_rfl) (fun _ _ _ h => h) (Or.inl ⟨by rfl, fun w' hSw => by kernel_rfl⟩) hS ?_
  simp only [Act.put, List.setIfInBounds_toArray, List.set_cons_zero, List.set_cons_succ]
  refine wpAnyH_take (i := 27) (oi := ⟨some 48, .load 3 (.tmp 47), _, _, _, none⟩) (v := .int .i64 (P : Int)) rfl (by kernel_rfl) (by kernel_rfl) (by kernel_rfl) (fun _ _ _ h => h) (Or.inl ⟨by rfl, fun w' hSw => by (obtain ⟨s0, s1, s2⟩ := hSw; go_simp)⟩) hS ?_
  simp only [Act.put, List.setIfInBounds_toArray, List.set_cons_zero, List.set_cons_succ]
  refine wpAnyH_take (i := 28) (oi := ⟨some 49, .fieldAddr 24 (.tmp 1) 1, _, _, _, none⟩) (v := .pointer (some ⟨bx, 1, none⟩)) rfl (by kernel_rfl) (by kernel_rfl) (by kernel_rfl) (fun _ _ _ h => h) (Or.inl ⟨by rfl, fun w' hSw => by kernel_rfl⟩) hS ?_
  simp only [Act.put, List.setIfInBounds_toArray, List.set_cons_zero, List.set_cons_succ]
  refine wpAnyH_take (i := 29) (oi := ⟨some 50, .load 3 (.tmp 49), _, _, _, none⟩) (v := .int .i64 (M : Int)) rfl (by kernel_rfl) (by kernel_rfl) (by kernel_rfl) (fun _ _ _ h => h) (Or.inl ⟨by rfl, fun w' hSw => by (obtain ⟨s0, s1, s2⟩ := hSw; go_simp)⟩) hS ?_
  simp only [Act.put, List.setIfInBounds_toArray, List.set_cons_zero, List.set_cons_succ]
  refine wpAnyH_take (i := 31) (oi := ⟨some 52, .fieldAddr 24 (.tmp 1) 1, _, _, _, none⟩) (v := .pointer (some ⟨bx, 1, none⟩)) rfl (by kernel_rfl) (by kernel_rfl) (by kernel_rfl) (fun _ _ _ h => h) (Or.inl ⟨by rfl, fun w' hSw => by kernel_rfl⟩) hS ?_
  simp only [Act.put, List.setIfInBounds_toArray, List.set_cons_zero, List.set_cons_succ]
  refine wpAnyH_take (i := 32) (oi := ⟨some 53, .load 3 (.tmp 52), _, _, _, none⟩) (v := .int .i64 (M : Int)) rfl (by kernel_rfl) (by kernel_rfl) (by kernel_rfl) (fun _ _ _ h => h) (Or.inl ⟨by rfl, fun w' hSw => by (obtain ⟨s0, s1, s2⟩ := hSw; go_simp)⟩) hS ?_
  simp only [Act.put, List.setIfInBounds_toArray, List.set_cons_zero, List.set_cons_succ]
  refine sg_000 (pp := ((P : Int) + 2)) (sp := (2 * ((P : Int) + 2))) (nt := (2 * ((P : Int) + 2) + 1)) (fr := (2 * ((P : Int) + 2) + 1 + (M : Int))) (wd := (2 * ((P : Int) + 2) + 1 + (M : Int) + G)) (by omega) (by omega) hJ.out (fun y' b1 b2 tb q sb ib mb hA => ?_) JJ.out
  have BG := hid (hB.out _ _ _ _ _ _ _ _ hA)
  clear hA hS A c0 c1 c2 hS0 JJ hJ hJ0 hB
  go_wp2_with fail
  refine BG.out.mono ?_
  rintro e w5 ⟨rfl, h5⟩
  have F5 := hid h5
  clear h5 BG
  go_wp2
  go_ret2
  exact ⟨_, rfl, F5.out⟩
end Go.Proofs.YtfpkgkjmpcoppaaGreatDoor
