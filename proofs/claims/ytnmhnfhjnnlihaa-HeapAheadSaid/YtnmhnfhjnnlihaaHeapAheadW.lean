/- The walk of the statement HeapAhead: the law answers true and turns nothing that was there. -/
import Derived.Test.YtnmhnfhjnnlihaaHaw
namespace Go.Proofs.Ytnmhnfhjnnlihaa.heapAhead
open Go.RowKit
set_option linter.unusedVariables false
set_option linter.unusedSimpArgs false

/-- The three entries, in the blocks that the law made first. -/
structure Abc (w : World) (s : Nat) (a1 a2 a3 b1 b2 b3 c1 c2 c3 : Int) (y : World) : Prop where
  a : y.heap[s]? = some (.cells #[.int .i64 a1, .int .u64 a2, .int .i64 a3] 24 (0, 0))
  b : y.heap[s + 1]? = some (.cells #[.int .i64 b1, .int .u64 b2, .int .i64 b3] 24 (0, 0))
  c : y.heap[s + 1 + 1]? = some (.cells #[.int .i64 c1, .int .u64 c2, .int .i64 c3] 24 (0, 0))
  o : Below s w y
  l : s + 3 ≤ y.heap.size
theorem Abc.below {w : World} {s : Nat} {a1 a2 a3 b1 b2 b3 c1 c2 c3 : Int} {y z : World} (h : Abc w s a1 a2 a3 b1 b2 b3 c1 c2 c3 y) (hb : Below y.heap.size y z) : Abc w s a1 a2 a3 b1 b2 b3 c1 c2 c3 z := by
  have hl := h.l
  have hs := hb.size
  exact ⟨(hb.block _ (by omega)).trans h.a, (hb.block _ (by omega)).trans h.b, (hb.block _ (by omega)).trans h.c, h.o.trans (hb.mono (by omega)), by omega⟩
theorem Abc.drew {w : World} {s : Nat} {a1 a2 a3 b1 b2 b3 c1 c2 c3 : Int} {y : World} (h : Abc w s a1 a2 a3 b1 b2 b3 c1 c2 c3 y) : Abc w s a1 a2 a3 b1 b2 b3 c1 c2 c3 y.drew := h.below (Quiet.below ⟨1, rfl⟩ _)
theorem Abc.sx {w : World} {s : Nat} {a1 a2 a3 b1 b2 b3 c1 c2 c3 : Int} {y : World} (h : Abc w s a1 a2 a3 b1 b2 b3 c1 c2 c3 y) : y.cell? ⟨s, 0, none⟩ = some (.int .i64 a1) ∧ y.cell? ⟨s, 1, none⟩ = some (.int .u64 a2) ∧ y.cell? ⟨s, 2, none⟩ = some (.int .i64 a3) ∧
      y.cell? ⟨s + 1, 0, none⟩ = some (.int .i64 b1) ∧ y.cell? ⟨s + 1, 1, none⟩ = some (.int .u64 b2) ∧ y.cell? ⟨s + 1, 2, none⟩ = some (.int .i64 b3) ∧
      y.cell? ⟨s + 1 + 1, 0, none⟩ = some (.int .i64 c1) ∧ y.cell? ⟨s + 1 + 1, 1, none⟩ = some (.int .u64 c2) ∧ y.cell? ⟨s + 1 + 1, 2, none⟩ = some (.int .i64 c3) :=
  ⟨cell_ent h.a rfl, cell_ent h.a rfl, cell_ent h.a rfl, cell_ent h.b rfl, cell_ent h.b rfl, cell_ent h.b rfl, cell_ent h.c rfl, cell_ent h.c rfl, cell_ent h.c rfl⟩

set_option maxRecDepth 100000 in
set_option maxHeartbeats 16000000 in
theorem walk (a1 a2 a3 b1 b2 b3 c1 c2 c3 : Int) (w : World) (w0 : (Lit.int .i64 a1).wf = true) (w1 : (Lit.int .u64 a2).wf = true) (w2 : (Lit.int .i64 a3).wf = true) (w3 : (Lit.int .i64 b1).wf = true) (w4 : (Lit.int .u64 b2).wf = true) (w5 : (Lit.int .i64 b3).wf = true) (w6 : (Lit.int .i64 c1).wf = true) (w7 : (Lit.int .u64 c2).wf = true) (w8 : (Lit.int .i64 c3).wf = true) :
    Calls Try.prog 3 #[.agg #[.int .i64 a1, .int .u64 a2, .int .i64 a3], .agg #[.int .i64 b1, .int .u64 b2, .int .i64 b3], .agg #[.int .i64 c1, .int .u64 c2, .int .i64 c3]] w fun e w' => e = .returned (.bool true) ∧ Below w.heap.size w w' := by
  clear w0 w1 w2 w3 w4 w5 w6 w7 w8
  have H0 : ∀ y, y = ((w.alloc (.cells #[.int .i64 a1, .int .u64 a2, .int .i64 a3] 24)).alloc (.cells #[.int .i64 b1, .int .u64 b2, .int .i64 b3] 24)).alloc (.cells #[.int .i64 c1, .int .u64 c2, .int .i64 c3] 24) → Hid (Abc w w.heap.size a1 a2 a3 b1 b2 b3 c1 c2 c3 y) := by
    rintro y rfl
    refine ⟨?_, ?_, ?_, (((Below.refl _ _).alloc (Nat.le_refl _) _).alloc (by simp) _).alloc (by simp; omega) _, by simp⟩
    · rw [Below.heap_alloc _ _ _ (by simp; omega), Below.heap_alloc _ _ _ (by simp)]; exact Deep.blk_alloc_new _ _
    · rw [Below.heap_alloc _ _ _ (by simp)]
      have := Deep.blk_alloc_new (w.alloc (.cells #[.int .i64 a1, .int .u64 a2, .int .i64 a3] 24)) (.cells #[.int .i64 b1, .int .u64 b2, .int .i64 b3] 24)
      rw [World.size_alloc] at this
      exact this
    · have := Deep.blk_alloc_new ((w.alloc (.cells #[.int .i64 a1, .int .u64 a2, .int .i64 a3] 24)).alloc (.cells #[.int .i64 b1, .int .u64 b2, .int .i64 b3] 24)) (.cells #[.int .i64 c1, .int .u64 c2, .int .i64 c3] 24)
      rw [World.size_alloc, World.size_alloc] at this
      exact this
  go_enter Try.func3, Try.ntmps3
  go_wp2_with fail
  obtain ⟨y, hy⟩ : ∃ y, y = ((w.alloc (.cells #[.int .i64 a1, .int .u64 a2, .int .i64 a3] 24)).alloc (.cells #[.int .i64 b1, .int .u64 b2, .int .i64 b3] 24)).alloc (.cells #[.int .i64 c1, .int .u64 c2, .int .i64 c3] 24) := ⟨_, rfl⟩
  have HA := H0 y hy
  rw [← hy]
  obtain ⟨s, hs⟩ : ∃ s, s = w.heap.size := ⟨_, rfl⟩
  rw [← hs] at HA ⊢
  have HS := hid hs
  clear H0 hy hs
  refine (lives9 _).mono ?_
  rintro e y2 ⟨rfl, hb2⟩
  have HB := hid (HA.out.below hb2)
  clear hb2 HA
  obtain ⟨p, hp⟩ : ∃ p, aheadE (a1, a2, a3) (b1, b2, b3) = p := ⟨_, rfl⟩
  obtain ⟨q, hq⟩ : ∃ q, aheadE (b1, b2, b3) (a1, a2, a3) = q := ⟨_, rfl⟩
  have AB := hid (fun (y : World) => ahead_r a1 a2 a3 b1 b2 b3 p hp y)
  have BA := hid (fun (y : World) => ahead_r b1 b2 b3 a1 a2 a3 q hq y)
  have RF := hid (fun (y : World) => ref_ahead a1 a2 a3 b1 b2 b3 p hp y)
  have HP := hid hp
  have HQ := hid hq
  clear hp hq
  have HD := hid HB.out.drew
  rcases p with _ | _
  · rcases q with _ | _
    · obtain ⟨e1, e2, e3⟩ := ahead_tot a1 a2 a3 b1 b2 b3 HP.out HQ.out
      subst e1
      subst e2
      subst e3
      go_upto_region 3 with (fail)
      go_region_held3 (fun y => y.cell? ⟨s, 0, none⟩ = some (.int .i64 a1) ∧ y.cell? ⟨s, 1, none⟩ = some (.int .u64 a2) ∧ y.cell? ⟨s, 2, none⟩ = some (.int .i64 a3) ∧
            y.cell? ⟨s + 1, 0, none⟩ = some (.int .i64 a1) ∧ y.cell? ⟨s + 1, 1, none⟩ = some (.int .u64 a2) ∧ y.cell? ⟨s + 1, 2, none⟩ = some (.int .i64 a3) ∧
            y.cell? ⟨s + 1 + 1, 0, none⟩ = some (.int .i64 c1) ∧ y.cell? ⟨s + 1 + 1, 1, none⟩ = some (.int .u64 c2) ∧ y.cell? ⟨s + 1 + 1, 2, none⟩ = some (.int .i64 c3))
        (first
          | exact H2.out.sx
          | exact H1.out.sx
          | exact HD.out.sx)
        (first
          | (go_at_call 7; with_reducible refine (AB.out _).mono ?_; rintro e z2 ⟨rfl, hb1⟩; have H2 := hid (H1.out.below hb1); clear hb1)
          | (go_at_call 7; with_reducible refine (BA.out _).mono ?_; rintro e z2 ⟨rfl, hb1⟩; have H2 := hid (H1.out.below hb1); clear hb1)
          | (go_at_call 7; with_reducible refine (AB.out _).mono ?_; rintro e z1 ⟨rfl, hb1⟩; have H1 := hid (HD.out.below hb1); clear hb1)
          | (go_at_call 7; with_reducible refine (BA.out _).mono ?_; rintro e z1 ⟨rfl, hb1⟩; have H1 := hid (HD.out.below hb1); clear hb1))
      all_goals
        obtain ⟨k1, k2, k3, k4, k5, k6, k7, k8, k9⟩ := H2.out.sx
        go_wp2_with fail
        refine (RF.out _).mono ?_
        rintro e z3 ⟨rfl, hb3⟩
        have H3 := hid (H2.out.below hb3)
        clear hb3 k1 k2 k3 k4 k5 k6 k7 k8 k9
        obtain ⟨k1, k2, k3, k4, k5, k6, k7, k8, k9⟩ := H3.out.sx
        go_wp2
        all_goals
          go_ret
          exact ⟨rfl, by rw [← HS.out]; exact H3.out.o⟩
    · have hne := fun h => (ahead_not b1 b2 b3 a1 a2 a3 HQ.out).2 h
      have NE := hid (show ¬ (a1 = b1 ∧ a2 = b2 ∧ a3 = b3) from fun h => hne ⟨h.1.symm, h.2.1.symm, h.2.2.symm⟩)
      clear hne
      by_cases e1 : a1 = b1
      · subst e1
        by_cases e2 : a2 = b2
        · subst e2
          have e3 : a3 ≠ b3 := fun e => NE.out ⟨rfl, rfl, e⟩
          have t3 : (a3 == b3) = false := by simpa using e3
          go_upto_region 3 with (fail)
          go_region_held3 (fun y => y.cell? ⟨s, 0, none⟩ = some (.int .i64 a1) ∧ y.cell? ⟨s, 1, none⟩ = some (.int .u64 a2) ∧ y.cell? ⟨s, 2, none⟩ = some (.int .i64 a3) ∧
                y.cell? ⟨s + 1, 0, none⟩ = some (.int .i64 a1) ∧ y.cell? ⟨s + 1, 1, none⟩ = some (.int .u64 a2) ∧ y.cell? ⟨s + 1, 2, none⟩ = some (.int .i64 b3) ∧
                y.cell? ⟨s + 1 + 1, 0, none⟩ = some (.int .i64 c1) ∧ y.cell? ⟨s + 1 + 1, 1, none⟩ = some (.int .u64 c2) ∧ y.cell? ⟨s + 1 + 1, 2, none⟩ = some (.int .i64 c3))
            (first
              | exact H2.out.sx
              | exact H1.out.sx
              | exact HD.out.sx)
            (first
              | (go_at_call 7; with_reducible refine (AB.out _).mono ?_; rintro e z2 ⟨rfl, hb1⟩; have H2 := hid (H1.out.below hb1); clear hb1)
              | (go_at_call 7; with_reducible refine (BA.out _).mono ?_; rintro e z2 ⟨rfl, hb1⟩; have H2 := hid (H1.out.below hb1); clear hb1)
              | (go_at_call 7; with_reducible refine (AB.out _).mono ?_; rintro e z1 ⟨rfl, hb1⟩; have H1 := hid (HD.out.below hb1); clear hb1)
              | (go_at_call 7; with_reducible refine (BA.out _).mono ?_; rintro e z1 ⟨rfl, hb1⟩; have H1 := hid (HD.out.below hb1); clear hb1))
          all_goals
            obtain ⟨k1, k2, k3, k4, k5, k6, k7, k8, k9⟩ := H2.out.sx
            go_wp2_with fail
            refine (RF.out _).mono ?_
            rintro e z3 ⟨rfl, hb3⟩
            have H3 := hid (H2.out.below hb3)
            clear hb3 k1 k2 k3 k4 k5 k6 k7 k8 k9
            obtain ⟨k1, k2, k3, k4, k5, k6, k7, k8, k9⟩ := H3.out.sx
            clear NE
            go_wp2
            all_goals
              go_ret
              exact ⟨rfl, by rw [← HS.out]; exact H3.out.o⟩
        · have t2 : (a2 == b2) = false := by simpa using e2
          go_upto_region 3 with (fail)
          go_region_held3 (fun y => y.cell? ⟨s, 0, none⟩ = some (.int .i64 a1) ∧ y.cell? ⟨s, 1, none⟩ = some (.int .u64 a2) ∧ y.cell? ⟨s, 2, none⟩ = some (.int .i64 a3) ∧
                y.cell? ⟨s + 1, 0, none⟩ = some (.int .i64 a1) ∧ y.cell? ⟨s + 1, 1, none⟩ = some (.int .u64 b2) ∧ y.cell? ⟨s + 1, 2, none⟩ = some (.int .i64 b3) ∧
                y.cell? ⟨s + 1 + 1, 0, none⟩ = some (.int .i64 c1) ∧ y.cell? ⟨s + 1 + 1, 1, none⟩ = some (.int .u64 c2) ∧ y.cell? ⟨s + 1 + 1, 2, none⟩ = some (.int .i64 c3))
            (first
              | exact H2.out.sx
              | exact H1.out.sx
              | exact HD.out.sx)
            (first
              | (go_at_call 7; with_reducible refine (AB.out _).mono ?_; rintro e z2 ⟨rfl, hb1⟩; have H2 := hid (H1.out.below hb1); clear hb1)
              | (go_at_call 7; with_reducible refine (BA.out _).mono ?_; rintro e z2 ⟨rfl, hb1⟩; have H2 := hid (H1.out.below hb1); clear hb1)
              | (go_at_call 7; with_reducible refine (AB.out _).mono ?_; rintro e z1 ⟨rfl, hb1⟩; have H1 := hid (HD.out.below hb1); clear hb1)
              | (go_at_call 7; with_reducible refine (BA.out _).mono ?_; rintro e z1 ⟨rfl, hb1⟩; have H1 := hid (HD.out.below hb1); clear hb1))
          all_goals
            obtain ⟨k1, k2, k3, k4, k5, k6, k7, k8, k9⟩ := H2.out.sx
            go_wp2_with fail
            refine (RF.out _).mono ?_
            rintro e z3 ⟨rfl, hb3⟩
            have H3 := hid (H2.out.below hb3)
            clear hb3 k1 k2 k3 k4 k5 k6 k7 k8 k9
            obtain ⟨k1, k2, k3, k4, k5, k6, k7, k8, k9⟩ := H3.out.sx
            clear NE
            go_wp2
            all_goals
              go_ret
              exact ⟨rfl, by rw [← HS.out]; exact H3.out.o⟩
      · have t1 : (a1 == b1) = false := by simpa using e1
        go_upto_region 3 with (fail)
        go_region_held3 (fun y => y.cell? ⟨s, 0, none⟩ = some (.int .i64 a1) ∧ y.cell? ⟨s, 1, none⟩ = some (.int .u64 a2) ∧ y.cell? ⟨s, 2, none⟩ = some (.int .i64 a3) ∧
              y.cell? ⟨s + 1, 0, none⟩ = some (.int .i64 b1) ∧ y.cell? ⟨s + 1, 1, none⟩ = some (.int .u64 b2) ∧ y.cell? ⟨s + 1, 2, none⟩ = some (.int .i64 b3) ∧
              y.cell? ⟨s + 1 + 1, 0, none⟩ = some (.int .i64 c1) ∧ y.cell? ⟨s + 1 + 1, 1, none⟩ = some (.int .u64 c2) ∧ y.cell? ⟨s + 1 + 1, 2, none⟩ = some (.int .i64 c3))
          (first
            | exact H2.out.sx
            | exact H1.out.sx
            | exact HD.out.sx)
          (first
            | (go_at_call 7; with_reducible refine (AB.out _).mono ?_; rintro e z2 ⟨rfl, hb1⟩; have H2 := hid (H1.out.below hb1); clear hb1)
            | (go_at_call 7; with_reducible refine (BA.out _).mono ?_; rintro e z2 ⟨rfl, hb1⟩; have H2 := hid (H1.out.below hb1); clear hb1)
            | (go_at_call 7; with_reducible refine (AB.out _).mono ?_; rintro e z1 ⟨rfl, hb1⟩; have H1 := hid (HD.out.below hb1); clear hb1)
            | (go_at_call 7; with_reducible refine (BA.out _).mono ?_; rintro e z1 ⟨rfl, hb1⟩; have H1 := hid (HD.out.below hb1); clear hb1))
        all_goals
          obtain ⟨k1, k2, k3, k4, k5, k6, k7, k8, k9⟩ := H2.out.sx
          go_wp2_with fail
          refine (RF.out _).mono ?_
          rintro e z3 ⟨rfl, hb3⟩
          have H3 := hid (H2.out.below hb3)
          clear hb3 k1 k2 k3 k4 k5 k6 k7 k8 k9
          obtain ⟨k1, k2, k3, k4, k5, k6, k7, k8, k9⟩ := H3.out.sx
          clear NE
          go_wp2
          all_goals
            go_ret
            exact ⟨rfl, by rw [← HS.out]; exact H3.out.o⟩
  · have HN := hid (ahead_not a1 a2 a3 b1 b2 b3 HP.out)
    have hq := HN.out.1
    rw [HQ.out] at hq
    subst hq
    have NE := hid (show ¬ (a1 = b1 ∧ a2 = b2 ∧ a3 = b3) from HN.out.2)
    clear HN
    obtain ⟨z, hz⟩ : ∃ z, aheadE (b1, b2, b3) (c1, c2, c3) = z := ⟨_, rfl⟩
    have BC := hid (fun (y : World) => ahead_r b1 b2 b3 c1 c2 c3 z hz y)
    rcases z with _ | _
    · clear hz
      by_cases e1 : a1 = b1
      · subst e1
        by_cases e2 : a2 = b2
        · subst e2
          have e3 : a3 ≠ b3 := fun e => NE.out ⟨rfl, rfl, e⟩
          have t3 : (a3 == b3) = false := by simpa using e3
          go_upto_region 3 with (fail)
          go_region_held3 (fun y => y.cell? ⟨s, 0, none⟩ = some (.int .i64 a1) ∧ y.cell? ⟨s, 1, none⟩ = some (.int .u64 a2) ∧ y.cell? ⟨s, 2, none⟩ = some (.int .i64 a3) ∧
                y.cell? ⟨s + 1, 0, none⟩ = some (.int .i64 a1) ∧ y.cell? ⟨s + 1, 1, none⟩ = some (.int .u64 a2) ∧ y.cell? ⟨s + 1, 2, none⟩ = some (.int .i64 b3) ∧
                y.cell? ⟨s + 1 + 1, 0, none⟩ = some (.int .i64 c1) ∧ y.cell? ⟨s + 1 + 1, 1, none⟩ = some (.int .u64 c2) ∧ y.cell? ⟨s + 1 + 1, 2, none⟩ = some (.int .i64 c3))
            (first
              | exact H2.out.sx
              | exact H1.out.sx
              | exact HD.out.sx)
            (first
              | (go_at_call 7; with_reducible refine (AB.out _).mono ?_; rintro e z2 ⟨rfl, hb1⟩; have H2 := hid (H1.out.below hb1); clear hb1)
              | (go_at_call 7; with_reducible refine (BA.out _).mono ?_; rintro e z2 ⟨rfl, hb1⟩; have H2 := hid (H1.out.below hb1); clear hb1)
              | (go_at_call 7; with_reducible refine (AB.out _).mono ?_; rintro e z1 ⟨rfl, hb1⟩; have H1 := hid (HD.out.below hb1); clear hb1)
              | (go_at_call 7; with_reducible refine (BA.out _).mono ?_; rintro e z1 ⟨rfl, hb1⟩; have H1 := hid (HD.out.below hb1); clear hb1))
          all_goals
            obtain ⟨k1, k2, k3, k4, k5, k6, k7, k8, k9⟩ := H2.out.sx
            go_wp2_with fail
            refine (RF.out _).mono ?_
            rintro e z3 ⟨rfl, hb3⟩
            have H3 := hid (H2.out.below hb3)
            clear hb3 k1 k2 k3 k4 k5 k6 k7 k8 k9
            obtain ⟨k1, k2, k3, k4, k5, k6, k7, k8, k9⟩ := H3.out.sx
            clear NE
            go_wp2_with fail
            refine (BC.out _).mono ?_
            rintro e z4 ⟨rfl, hb4⟩
            have H4 := hid (H3.out.below hb4)
            clear hb4
            go_wp2
            all_goals
              go_ret
              exact ⟨rfl, by rw [← HS.out]; exact H4.out.o⟩
        · have t2 : (a2 == b2) = false := by simpa using e2
          go_upto_region 3 with (fail)
          go_region_held3 (fun y => y.cell? ⟨s, 0, none⟩ = some (.int .i64 a1) ∧ y.cell? ⟨s, 1, none⟩ = some (.int .u64 a2) ∧ y.cell? ⟨s, 2, none⟩ = some (.int .i64 a3) ∧
                y.cell? ⟨s + 1, 0, none⟩ = some (.int .i64 a1) ∧ y.cell? ⟨s + 1, 1, none⟩ = some (.int .u64 b2) ∧ y.cell? ⟨s + 1, 2, none⟩ = some (.int .i64 b3) ∧
                y.cell? ⟨s + 1 + 1, 0, none⟩ = some (.int .i64 c1) ∧ y.cell? ⟨s + 1 + 1, 1, none⟩ = some (.int .u64 c2) ∧ y.cell? ⟨s + 1 + 1, 2, none⟩ = some (.int .i64 c3))
            (first
              | exact H2.out.sx
              | exact H1.out.sx
              | exact HD.out.sx)
            (first
              | (go_at_call 7; with_reducible refine (AB.out _).mono ?_; rintro e z2 ⟨rfl, hb1⟩; have H2 := hid (H1.out.below hb1); clear hb1)
              | (go_at_call 7; with_reducible refine (BA.out _).mono ?_; rintro e z2 ⟨rfl, hb1⟩; have H2 := hid (H1.out.below hb1); clear hb1)
              | (go_at_call 7; with_reducible refine (AB.out _).mono ?_; rintro e z1 ⟨rfl, hb1⟩; have H1 := hid (HD.out.below hb1); clear hb1)
              | (go_at_call 7; with_reducible refine (BA.out _).mono ?_; rintro e z1 ⟨rfl, hb1⟩; have H1 := hid (HD.out.below hb1); clear hb1))
          all_goals
            obtain ⟨k1, k2, k3, k4, k5, k6, k7, k8, k9⟩ := H2.out.sx
            go_wp2_with fail
            refine (RF.out _).mono ?_
            rintro e z3 ⟨rfl, hb3⟩
            have H3 := hid (H2.out.below hb3)
            clear hb3 k1 k2 k3 k4 k5 k6 k7 k8 k9
            obtain ⟨k1, k2, k3, k4, k5, k6, k7, k8, k9⟩ := H3.out.sx
            clear NE
            go_wp2_with fail
            refine (BC.out _).mono ?_
            rintro e z4 ⟨rfl, hb4⟩
            have H4 := hid (H3.out.below hb4)
            clear hb4
            go_wp2
            all_goals
              go_ret
              exact ⟨rfl, by rw [← HS.out]; exact H4.out.o⟩
      · have t1 : (a1 == b1) = false := by simpa using e1
        go_upto_region 3 with (fail)
        go_region_held3 (fun y => y.cell? ⟨s, 0, none⟩ = some (.int .i64 a1) ∧ y.cell? ⟨s, 1, none⟩ = some (.int .u64 a2) ∧ y.cell? ⟨s, 2, none⟩ = some (.int .i64 a3) ∧
              y.cell? ⟨s + 1, 0, none⟩ = some (.int .i64 b1) ∧ y.cell? ⟨s + 1, 1, none⟩ = some (.int .u64 b2) ∧ y.cell? ⟨s + 1, 2, none⟩ = some (.int .i64 b3) ∧
              y.cell? ⟨s + 1 + 1, 0, none⟩ = some (.int .i64 c1) ∧ y.cell? ⟨s + 1 + 1, 1, none⟩ = some (.int .u64 c2) ∧ y.cell? ⟨s + 1 + 1, 2, none⟩ = some (.int .i64 c3))
          (first
            | exact H2.out.sx
            | exact H1.out.sx
            | exact HD.out.sx)
          (first
            | (go_at_call 7; with_reducible refine (AB.out _).mono ?_; rintro e z2 ⟨rfl, hb1⟩; have H2 := hid (H1.out.below hb1); clear hb1)
            | (go_at_call 7; with_reducible refine (BA.out _).mono ?_; rintro e z2 ⟨rfl, hb1⟩; have H2 := hid (H1.out.below hb1); clear hb1)
            | (go_at_call 7; with_reducible refine (AB.out _).mono ?_; rintro e z1 ⟨rfl, hb1⟩; have H1 := hid (HD.out.below hb1); clear hb1)
            | (go_at_call 7; with_reducible refine (BA.out _).mono ?_; rintro e z1 ⟨rfl, hb1⟩; have H1 := hid (HD.out.below hb1); clear hb1))
        all_goals
          obtain ⟨k1, k2, k3, k4, k5, k6, k7, k8, k9⟩ := H2.out.sx
          go_wp2_with fail
          refine (RF.out _).mono ?_
          rintro e z3 ⟨rfl, hb3⟩
          have H3 := hid (H2.out.below hb3)
          clear hb3 k1 k2 k3 k4 k5 k6 k7 k8 k9
          obtain ⟨k1, k2, k3, k4, k5, k6, k7, k8, k9⟩ := H3.out.sx
          clear NE
          go_wp2_with fail
          refine (BC.out _).mono ?_
          rintro e z4 ⟨rfl, hb4⟩
          have H4 := hid (H3.out.below hb4)
          clear hb4
          go_wp2
          all_goals
            go_ret
            exact ⟨rfl, by rw [← HS.out]; exact H4.out.o⟩
    · have AC := hid (fun (y : World) => ahead_r a1 a2 a3 c1 c2 c3 true (ahead_tr a1 a2 a3 b1 b2 b3 c1 c2 c3 HP.out hz) y)
      clear hz
      by_cases e1 : a1 = b1
      · subst e1
        by_cases e2 : a2 = b2
        · subst e2
          have e3 : a3 ≠ b3 := fun e => NE.out ⟨rfl, rfl, e⟩
          have t3 : (a3 == b3) = false := by simpa using e3
          go_upto_region 3 with (fail)
          go_region_held3 (fun y => y.cell? ⟨s, 0, none⟩ = some (.int .i64 a1) ∧ y.cell? ⟨s, 1, none⟩ = some (.int .u64 a2) ∧ y.cell? ⟨s, 2, none⟩ = some (.int .i64 a3) ∧
                y.cell? ⟨s + 1, 0, none⟩ = some (.int .i64 a1) ∧ y.cell? ⟨s + 1, 1, none⟩ = some (.int .u64 a2) ∧ y.cell? ⟨s + 1, 2, none⟩ = some (.int .i64 b3) ∧
                y.cell? ⟨s + 1 + 1, 0, none⟩ = some (.int .i64 c1) ∧ y.cell? ⟨s + 1 + 1, 1, none⟩ = some (.int .u64 c2) ∧ y.cell? ⟨s + 1 + 1, 2, none⟩ = some (.int .i64 c3))
            (first
              | exact H2.out.sx
              | exact H1.out.sx
              | exact HD.out.sx)
            (first
              | (go_at_call 7; with_reducible refine (AB.out _).mono ?_; rintro e z2 ⟨rfl, hb1⟩; have H2 := hid (H1.out.below hb1); clear hb1)
              | (go_at_call 7; with_reducible refine (BA.out _).mono ?_; rintro e z2 ⟨rfl, hb1⟩; have H2 := hid (H1.out.below hb1); clear hb1)
              | (go_at_call 7; with_reducible refine (AB.out _).mono ?_; rintro e z1 ⟨rfl, hb1⟩; have H1 := hid (HD.out.below hb1); clear hb1)
              | (go_at_call 7; with_reducible refine (BA.out _).mono ?_; rintro e z1 ⟨rfl, hb1⟩; have H1 := hid (HD.out.below hb1); clear hb1))
          all_goals
            obtain ⟨k1, k2, k3, k4, k5, k6, k7, k8, k9⟩ := H2.out.sx
            go_wp2_with fail
            refine (RF.out _).mono ?_
            rintro e z3 ⟨rfl, hb3⟩
            have H3 := hid (H2.out.below hb3)
            clear hb3 k1 k2 k3 k4 k5 k6 k7 k8 k9
            obtain ⟨k1, k2, k3, k4, k5, k6, k7, k8, k9⟩ := H3.out.sx
            clear NE
            go_wp2_with fail
            refine (BC.out _).mono ?_
            rintro e z4 ⟨rfl, hb4⟩
            have H4 := hid (H3.out.below hb4)
            clear hb4 k1 k2 k3 k4 k5 k6 k7 k8 k9
            obtain ⟨k1, k2, k3, k4, k5, k6, k7, k8, k9⟩ := H4.out.sx
            go_wp2_with fail
            refine (AC.out _).mono ?_
            rintro e z5 ⟨rfl, hb5⟩
            have H5 := hid (H4.out.below hb5)
            clear hb5
            go_wp2
            all_goals
              go_ret
              exact ⟨rfl, by rw [← HS.out]; exact H5.out.o⟩
        · have t2 : (a2 == b2) = false := by simpa using e2
          go_upto_region 3 with (fail)
          go_region_held3 (fun y => y.cell? ⟨s, 0, none⟩ = some (.int .i64 a1) ∧ y.cell? ⟨s, 1, none⟩ = some (.int .u64 a2) ∧ y.cell? ⟨s, 2, none⟩ = some (.int .i64 a3) ∧
                y.cell? ⟨s + 1, 0, none⟩ = some (.int .i64 a1) ∧ y.cell? ⟨s + 1, 1, none⟩ = some (.int .u64 b2) ∧ y.cell? ⟨s + 1, 2, none⟩ = some (.int .i64 b3) ∧
                y.cell? ⟨s + 1 + 1, 0, none⟩ = some (.int .i64 c1) ∧ y.cell? ⟨s + 1 + 1, 1, none⟩ = some (.int .u64 c2) ∧ y.cell? ⟨s + 1 + 1, 2, none⟩ = some (.int .i64 c3))
            (first
              | exact H2.out.sx
              | exact H1.out.sx
              | exact HD.out.sx)
            (first
              | (go_at_call 7; with_reducible refine (AB.out _).mono ?_; rintro e z2 ⟨rfl, hb1⟩; have H2 := hid (H1.out.below hb1); clear hb1)
              | (go_at_call 7; with_reducible refine (BA.out _).mono ?_; rintro e z2 ⟨rfl, hb1⟩; have H2 := hid (H1.out.below hb1); clear hb1)
              | (go_at_call 7; with_reducible refine (AB.out _).mono ?_; rintro e z1 ⟨rfl, hb1⟩; have H1 := hid (HD.out.below hb1); clear hb1)
              | (go_at_call 7; with_reducible refine (BA.out _).mono ?_; rintro e z1 ⟨rfl, hb1⟩; have H1 := hid (HD.out.below hb1); clear hb1))
          all_goals
            obtain ⟨k1, k2, k3, k4, k5, k6, k7, k8, k9⟩ := H2.out.sx
            go_wp2_with fail
            refine (RF.out _).mono ?_
            rintro e z3 ⟨rfl, hb3⟩
            have H3 := hid (H2.out.below hb3)
            clear hb3 k1 k2 k3 k4 k5 k6 k7 k8 k9
            obtain ⟨k1, k2, k3, k4, k5, k6, k7, k8, k9⟩ := H3.out.sx
            clear NE
            go_wp2_with fail
            refine (BC.out _).mono ?_
            rintro e z4 ⟨rfl, hb4⟩
            have H4 := hid (H3.out.below hb4)
            clear hb4 k1 k2 k3 k4 k5 k6 k7 k8 k9
            obtain ⟨k1, k2, k3, k4, k5, k6, k7, k8, k9⟩ := H4.out.sx
            go_wp2_with fail
            refine (AC.out _).mono ?_
            rintro e z5 ⟨rfl, hb5⟩
            have H5 := hid (H4.out.below hb5)
            clear hb5
            go_wp2
            all_goals
              go_ret
              exact ⟨rfl, by rw [← HS.out]; exact H5.out.o⟩
      · have t1 : (a1 == b1) = false := by simpa using e1
        go_upto_region 3 with (fail)
        go_region_held3 (fun y => y.cell? ⟨s, 0, none⟩ = some (.int .i64 a1) ∧ y.cell? ⟨s, 1, none⟩ = some (.int .u64 a2) ∧ y.cell? ⟨s, 2, none⟩ = some (.int .i64 a3) ∧
              y.cell? ⟨s + 1, 0, none⟩ = some (.int .i64 b1) ∧ y.cell? ⟨s + 1, 1, none⟩ = some (.int .u64 b2) ∧ y.cell? ⟨s + 1, 2, none⟩ = some (.int .i64 b3) ∧
              y.cell? ⟨s + 1 + 1, 0, none⟩ = some (.int .i64 c1) ∧ y.cell? ⟨s + 1 + 1, 1, none⟩ = some (.int .u64 c2) ∧ y.cell? ⟨s + 1 + 1, 2, none⟩ = some (.int .i64 c3))
          (first
            | exact H2.out.sx
            | exact H1.out.sx
            | exact HD.out.sx)
          (first
            | (go_at_call 7; with_reducible refine (AB.out _).mono ?_; rintro e z2 ⟨rfl, hb1⟩; have H2 := hid (H1.out.below hb1); clear hb1)
            | (go_at_call 7; with_reducible refine (BA.out _).mono ?_; rintro e z2 ⟨rfl, hb1⟩; have H2 := hid (H1.out.below hb1); clear hb1)
            | (go_at_call 7; with_reducible refine (AB.out _).mono ?_; rintro e z1 ⟨rfl, hb1⟩; have H1 := hid (HD.out.below hb1); clear hb1)
            | (go_at_call 7; with_reducible refine (BA.out _).mono ?_; rintro e z1 ⟨rfl, hb1⟩; have H1 := hid (HD.out.below hb1); clear hb1))
        all_goals
          obtain ⟨k1, k2, k3, k4, k5, k6, k7, k8, k9⟩ := H2.out.sx
          go_wp2_with fail
          refine (RF.out _).mono ?_
          rintro e z3 ⟨rfl, hb3⟩
          have H3 := hid (H2.out.below hb3)
          clear hb3 k1 k2 k3 k4 k5 k6 k7 k8 k9
          obtain ⟨k1, k2, k3, k4, k5, k6, k7, k8, k9⟩ := H3.out.sx
          clear NE
          go_wp2_with fail
          refine (BC.out _).mono ?_
          rintro e z4 ⟨rfl, hb4⟩
          have H4 := hid (H3.out.below hb4)
          clear hb4 k1 k2 k3 k4 k5 k6 k7 k8 k9
          obtain ⟨k1, k2, k3, k4, k5, k6, k7, k8, k9⟩ := H4.out.sx
          go_wp2_with fail
          refine (AC.out _).mono ?_
          rintro e z5 ⟨rfl, hb5⟩
          have H5 := hid (H4.out.below hb5)
          clear hb5
          go_wp2
          all_goals
            go_ret
            exact ⟨rfl, by rw [← HS.out]; exact H5.out.o⟩
end Go.Proofs.Ytnmhnfhjnnlihaa.heapAhead
