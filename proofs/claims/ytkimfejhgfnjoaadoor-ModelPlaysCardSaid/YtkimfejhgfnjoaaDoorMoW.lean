/- hostlerref17.Wrong of any event (written by wip/tools/genmow.py). -/
import Derived.Test.YtkimfejhgfnjoaaDoorMoR
namespace Go.Proofs.YtkimfejhgfnjoaaDoor
open Go.RowKit
set_option linter.unusedVariables false
set_option linter.unusedSimpArgs false
set_option maxRecDepth 20000
theorem wr_fin {w w0 w1 w2 : World} (h1 : Below w.heap.size w w1) (h2 : Below w1.heap.size w1 w2) : Below w.heap.size w w2 := h1.trans (h2.mono h1.size)
set_option maxHeartbeats 16000000 in
theorem rwrong_any (w : World) (P G : Int) (K : Nat) (vl : Value) (es : List Ev) (k g m p v : Int) (h : RdE w vl es) (hl : es.length ≤ 1000) (hK : K ≤ 1000) :
    Calls Tryd.prog 6 #[.int .i64 P, .int .i64 K, .int .i64 G, vl, .agg #[.int .i64 k, .int .i64 g, .int .i64 m, .int .i64 p, .int .i64 v]] w fun e w' => e = .returned (.int .i64 (wrL P K G K es k g m p v)) ∧ Below w.heap.size w w' := by
  have BW := hid ((Below.refl w.heap.size w).alloc (Nat.le_refl _) (.cells #[.int .i64 k, .int .i64 g, .int .i64 m, .int .i64 p, .int .i64 v] 33))
  have hbx := heap_alloc_new w (.cells #[.int .i64 k, .int .i64 g, .int .i64 m, .int .i64 p, .int .i64 v] 33)
  have BX : Hid (∀ w2, Below (w.alloc (.cells #[.int .i64 k, .int .i64 g, .int .i64 m, .int .i64 p, .int .i64 v] 33)).heap.size (w.alloc (.cells #[.int .i64 k, .int .i64 g, .int .i64 m, .int .i64 p, .int .i64 v] 33)) w2 → w2.cell? ⟨w.heap.size, 0, none⟩ = some (.int .i64 k) ∧ w2.cell? ⟨w.heap.size, 1, none⟩ = some (.int .i64 g) ∧ w2.cell? ⟨w.heap.size, 2, none⟩ = some (.int .i64 m) ∧ w2.cell? ⟨w.heap.size, 3, none⟩ = some (.int .i64 p) ∧ w2.cell? ⟨w.heap.size, 4, none⟩ = some (.int .i64 v)) :=
    hid (fun w2 hb => ev5q ((hb.block _ (Array.getElem?_eq_some_iff.1 hbx).1).trans hbx))
  have RT := hid (fun w => rright_any k g m p v w)
  have ST := hid (fun w2 (hb : Below w.heap.size w w2) => rstat_any w2 vl es g (h.below hb) hl)
  have RU := hid (fun w2 (hb : Below w.heap.size w w2) => rruns_any w2 vl es m (h.below hb) hl)
  have US := hid (fun w2 (hb : Below w.heap.size w w2) => rused_any w2 vl es K p (h.below hb) hl hK)
  have SP := hid (fun w2 => rsteps_any k w2)
  obtain ⟨s0, s6⟩ := statL_ok es g
  obtain ⟨W, hW⟩ : ∃ W, W = wrL P K G K es k g m p v := ⟨_, rfl⟩
  rw [← hW]
  unfold wrL shapeL at hW
  generalize statL es g = s at *
  generalize runsL es m = rr at *
  generalize usedL es K p = ub at *
  generalize evFrom k = fr at *
  generalize evTo k = tt at *
  generalize evIs k = ei at *
  have B0 := hid (Below.refl (w.alloc (.cells #[.int .i64 k, .int .i64 g, .int .i64 m, .int .i64 p, .int .i64 v] 33)).heap.size (w.alloc (.cells #[.int .i64 k, .int .i64 g, .int .i64 m, .int .i64 p, .int .i64 v] 33)))
  clear hbx h
  rcases hr : evRight k g m p v with _ | _
  · rw [hr] at RT hW
    have HW : Hid (W = 0) := hid (by simpa using hW)
    clear hW hr ST RU US SP
    go_enter Tryd.func6, Tryd.ntmps6
    obtain ⟨c0, c1, c2, c3, c4⟩ := BX.out _ B0.out
    go_wp2_with fail
    refine (RT.out _).mono ?_
    rintro e w2 ⟨rfl, hb⟩
    have B1 := hid (B0.out.trans (hb.mono B0.out.size))
    clear hb B0 c0 c1 c2 c3 c4
    have B0 := hid B1.out
    clear B1
    obtain ⟨c0, c1, c2, c3, c4⟩ := BX.out _ B0.out
    go_wp2
    go_ret
    exact ⟨(congrArg (fun x : Int => Ending.returned (Value.int .i64 x)) HW.out.symm), (BW.out.trans (B0.out.mono BW.out.size))⟩
  · obtain ⟨⟨k0, k8⟩, m0, p0⟩ := ev_rng hr
    rw [hr] at RT hW
    clear hr
    rcases (show (G ≤ g) ∨ (¬ G ≤ g ∧ (K : Int) ≤ m) ∨ (¬ G ≤ g ∧ ¬ (K : Int) ≤ m ∧ P ≤ p) ∨ (¬ G ≤ g ∧ ¬ (K : Int) ≤ m ∧ ¬ P ≤ p ∧ 1 < k ∧ m < 0) ∨ (¬ G ≤ g ∧ ¬ (K : Int) ≤ m ∧ ¬ P ≤ p ∧ 1 < k ∧ ¬ m < 0 ∧ p < 0) ∨ (¬ G ≤ g ∧ ¬ (K : Int) ≤ m ∧ ¬ P ≤ p ∧ (k ≤ 1 ∨ (¬ m < 0 ∧ ¬ p < 0))) by omega) with t0 | ⟨t0, t1⟩ | ⟨t0, t1, t2⟩ | ⟨t0, t1, t2, t3, t4⟩ | ⟨t0, t1, t2, t3, t4, t5⟩ | ⟨t0, t1, t2, t3⟩
    · have HW : Hid (W = 0) := hid (by have d : decide (g < G) = false := decide_eq_false (by omega); simpa [d] using hW)
      clear hW ST RU US SP
      go_enter Tryd.func6, Tryd.ntmps6
      obtain ⟨c0, c1, c2, c3, c4⟩ := BX.out _ B0.out
      go_wp2_with fail
      refine (RT.out _).mono ?_
      rintro e w2 ⟨rfl, hb⟩
      have B1 := hid (B0.out.trans (hb.mono B0.out.size))
      clear hb B0 c0 c1 c2 c3 c4
      have B0 := hid B1.out
      clear B1
      obtain ⟨c0, c1, c2, c3, c4⟩ := BX.out _ B0.out
      go_wp2
      go_ret
      exact ⟨(congrArg (fun x : Int => Ending.returned (Value.int .i64 x)) HW.out.symm), (BW.out.trans (B0.out.mono BW.out.size))⟩
    · have HW : Hid (W = 0) := hid (by have d : decide (m < (K : Int)) = false := decide_eq_false (by omega); simpa [d] using hW)
      clear hW ST RU US SP
      go_enter Tryd.func6, Tryd.ntmps6
      obtain ⟨c0, c1, c2, c3, c4⟩ := BX.out _ B0.out
      go_wp2_with fail
      refine (RT.out _).mono ?_
      rintro e w2 ⟨rfl, hb⟩
      have B1 := hid (B0.out.trans (hb.mono B0.out.size))
      clear hb B0 c0 c1 c2 c3 c4
      have B0 := hid B1.out
      clear B1
      obtain ⟨c0, c1, c2, c3, c4⟩ := BX.out _ B0.out
      go_wp2
      go_ret
      exact ⟨(congrArg (fun x : Int => Ending.returned (Value.int .i64 x)) HW.out.symm), (BW.out.trans (B0.out.mono BW.out.size))⟩
    · have HW : Hid (W = 0) := hid (by have d : decide (p < P) = false := decide_eq_false (by omega); simpa [d] using hW)
      clear hW ST RU US SP
      go_enter Tryd.func6, Tryd.ntmps6
      obtain ⟨c0, c1, c2, c3, c4⟩ := BX.out _ B0.out
      go_wp2_with fail
      refine (RT.out _).mono ?_
      rintro e w2 ⟨rfl, hb⟩
      have B1 := hid (B0.out.trans (hb.mono B0.out.size))
      clear hb B0 c0 c1 c2 c3 c4
      have B0 := hid B1.out
      clear B1
      obtain ⟨c0, c1, c2, c3, c4⟩ := BX.out _ B0.out
      go_wp2
      go_ret
      exact ⟨(congrArg (fun x : Int => Ending.returned (Value.int .i64 x)) HW.out.symm), (BW.out.trans (B0.out.mono BW.out.size))⟩
    · have HW : Hid (W = 0) := hid (by have d : decide (m < 0) = true := decide_eq_true (by omega); have d2 : decide (1 < k) = true := decide_eq_true (by omega); simpa [d, d2] using hW)
      clear hW ST RU US SP
      go_enter Tryd.func6, Tryd.ntmps6
      obtain ⟨c0, c1, c2, c3, c4⟩ := BX.out _ B0.out
      go_wp2_with fail
      refine (RT.out _).mono ?_
      rintro e w2 ⟨rfl, hb⟩
      have B1 := hid (B0.out.trans (hb.mono B0.out.size))
      clear hb B0 c0 c1 c2 c3 c4
      have B0 := hid B1.out
      clear B1
      obtain ⟨c0, c1, c2, c3, c4⟩ := BX.out _ B0.out
      go_wp2
      go_ret
      exact ⟨(congrArg (fun x : Int => Ending.returned (Value.int .i64 x)) HW.out.symm), (BW.out.trans (B0.out.mono BW.out.size))⟩
    · have HW : Hid (W = 0) := hid (by have d : decide (p < 0) = true := decide_eq_true (by omega); have d2 : decide (1 < k) = true := decide_eq_true (by omega); simpa [d, d2] using hW)
      clear hW ST RU US SP
      go_enter Tryd.func6, Tryd.ntmps6
      obtain ⟨c0, c1, c2, c3, c4⟩ := BX.out _ B0.out
      go_wp2_with fail
      refine (RT.out _).mono ?_
      rintro e w2 ⟨rfl, hb⟩
      have B1 := hid (B0.out.trans (hb.mono B0.out.size))
      clear hb B0 c0 c1 c2 c3 c4
      have B0 := hid B1.out
      clear B1
      obtain ⟨c0, c1, c2, c3, c4⟩ := BX.out _ B0.out
      go_wp2
      go_ret
      exact ⟨(congrArg (fun x : Int => Ending.returned (Value.int .i64 x)) HW.out.symm), (BW.out.trans (B0.out.mono BW.out.size))⟩
    · have hS : (decide (g < G) && (decide (m < (K : Int)) && (decide (p < P) && !(decide (1 < k) && (decide (m < 0) || decide (p < 0)))))) = true := by
        rw [decide_eq_true (show g < G by omega), decide_eq_true (show m < (K : Int) by omega), decide_eq_true (show p < P by omega)]
        rcases t3 with t3 | ⟨t3, t4⟩
        · rw [decide_eq_false (show ¬ 1 < k by omega)]; rfl
        · rw [decide_eq_false t3, decide_eq_false t4]; simp
      rw [hS, Bool.true_and, if_neg (show ¬ (true = false) by decide)] at hW
      clear hS
      rcases (show k = 1 ∨ k = 0 ∨ k = 2 ∨ 3 ≤ k by omega) with rfl | rfl | rfl | k3
      · rw [if_pos rfl] at hW
        clear t3
        rcases (show s < 3 ∨ (¬ s < 3 ∧ s = 6) ∨ (¬ s < 3 ∧ s ≠ 6) by omega) with u0 | ⟨u0, u1⟩ | ⟨u0, u1⟩
        · have HW : Hid (W = 1) := hid (by rw [decide_eq_true u0] at hW; simpa using hW)
          clear hW RU US
          go_enter Tryd.func6, Tryd.ntmps6
          obtain ⟨c0, c1, c2, c3, c4⟩ := BX.out _ B0.out
          go_wp2_with fail
          refine (RT.out _).mono ?_
          rintro e w2 ⟨rfl, hb⟩
          have B1 := hid (B0.out.trans (hb.mono B0.out.size))
          clear hb B0 c0 c1 c2 c3 c4
          have B0 := hid B1.out
          clear B1
          obtain ⟨c0, c1, c2, c3, c4⟩ := BX.out _ B0.out
          go_wp2_with fail
          refine (ST.out _ (BW.out.trans (B0.out.mono BW.out.size))).mono ?_
          rintro e w2 ⟨rfl, hb⟩
          have B1 := hid (B0.out.trans (hb.mono B0.out.size))
          clear hb B0 c0 c1 c2 c3 c4
          have B0 := hid B1.out
          clear B1
          obtain ⟨c0, c1, c2, c3, c4⟩ := BX.out _ B0.out
          go_wp2_with fail
          refine (SP.out _).mono ?_
          rintro e w2 ⟨rfl, rfl⟩
          clear c0 c1 c2 c3 c4
          obtain ⟨c0, c1, c2, c3, c4⟩ := BX.out _ B0.out
          go_wp2
          go_ret
          exact ⟨(congrArg (fun x : Int => Ending.returned (Value.int .i64 x)) HW.out.symm), (BW.out.trans (B0.out.mono BW.out.size))⟩
        · have HW : Hid (W = 1) := hid (by rw [u1] at hW; simpa [stLegal] using hW)
          have u6 : IntKind.u64.wrap s = s := by rw [u1]; rfl
          have LG : Hid (∀ w, Calls Tryd.prog 19 #[.int .u64 s, .int .u64 1] w fun e w' => e = .returned (.bool false) ∧ w = w') := hid (fun w => by have := rlegal_any s 1 w; rw [show stLegal s 1 = false by rw [u1]; rfl] at this; exact this)
          clear hW RU US u1
          go_enter Tryd.func6, Tryd.ntmps6
          obtain ⟨c0, c1, c2, c3, c4⟩ := BX.out _ B0.out
          go_wp2_with fail
          refine (RT.out _).mono ?_
          rintro e w2 ⟨rfl, hb⟩
          have B1 := hid (B0.out.trans (hb.mono B0.out.size))
          clear hb B0 c0 c1 c2 c3 c4
          have B0 := hid B1.out
          clear B1
          obtain ⟨c0, c1, c2, c3, c4⟩ := BX.out _ B0.out
          go_wp2_with fail
          refine (ST.out _ (BW.out.trans (B0.out.mono BW.out.size))).mono ?_
          rintro e w2 ⟨rfl, hb⟩
          have B1 := hid (B0.out.trans (hb.mono B0.out.size))
          clear hb B0 c0 c1 c2 c3 c4
          have B0 := hid B1.out
          clear B1
          obtain ⟨c0, c1, c2, c3, c4⟩ := BX.out _ B0.out
          go_wp2_with fail
          refine (SP.out _).mono ?_
          rintro e w2 ⟨rfl, rfl⟩
          clear c0 c1 c2 c3 c4
          obtain ⟨c0, c1, c2, c3, c4⟩ := BX.out _ B0.out
          go_wp2_with fail
          refine (LG.out _).mono ?_
          rintro e w2 ⟨rfl, rfl⟩
          clear c0 c1 c2 c3 c4
          obtain ⟨c0, c1, c2, c3, c4⟩ := BX.out _ B0.out
          go_wp2
          go_ret
          exact ⟨(congrArg (fun x : Int => Ending.returned (Value.int .i64 x)) HW.out.symm), (BW.out.trans (B0.out.mono BW.out.size))⟩
        · have lg : stLegal s 1 = true := by
            unfold stLegal
            rw [if_pos rfl, decide_eq_true (show 2 ≤ s by omega), decide_eq_true (show s ≤ 5 by omega)]; simp
          have HW : Hid (W = -1) := hid (by rw [lg, decide_eq_false u0] at hW; simpa using hW)
          have u6 : IntKind.u64.wrap s = s := by
            have hb : IntKind.u64.bits = 64 := rfl
            have hs : IntKind.u64.signed = false := rfl
            simp [IntKind.wrap, hb, hs]; omega
          have LG : Hid (∀ w, Calls Tryd.prog 19 #[.int .u64 s, .int .u64 1] w fun e w' => e = .returned (.bool true) ∧ w = w') := hid (fun w => by have := rlegal_any s 1 w; rw [lg] at this; exact this)
          clear hW RU US lg u1
          go_enter Tryd.func6, Tryd.ntmps6
          obtain ⟨c0, c1, c2, c3, c4⟩ := BX.out _ B0.out
          go_wp2_with fail
          refine (RT.out _).mono ?_
          rintro e w2 ⟨rfl, hb⟩
          have B1 := hid (B0.out.trans (hb.mono B0.out.size))
          clear hb B0 c0 c1 c2 c3 c4
          have B0 := hid B1.out
          clear B1
          obtain ⟨c0, c1, c2, c3, c4⟩ := BX.out _ B0.out
          go_wp2_with fail
          refine (ST.out _ (BW.out.trans (B0.out.mono BW.out.size))).mono ?_
          rintro e w2 ⟨rfl, hb⟩
          have B1 := hid (B0.out.trans (hb.mono B0.out.size))
          clear hb B0 c0 c1 c2 c3 c4
          have B0 := hid B1.out
          clear B1
          obtain ⟨c0, c1, c2, c3, c4⟩ := BX.out _ B0.out
          go_wp2_with fail
          refine (SP.out _).mono ?_
          rintro e w2 ⟨rfl, rfl⟩
          clear c0 c1 c2 c3 c4
          obtain ⟨c0, c1, c2, c3, c4⟩ := BX.out _ B0.out
          go_wp2_with fail
          refine (LG.out _).mono ?_
          rintro e w2 ⟨rfl, rfl⟩
          clear c0 c1 c2 c3 c4
          obtain ⟨c0, c1, c2, c3, c4⟩ := BX.out _ B0.out
          go_wp2
          go_ret
          exact ⟨(congrArg (fun x : Int => Ending.returned (Value.int .i64 x)) HW.out.symm), (BW.out.trans (B0.out.mono BW.out.size))⟩
      · rw [if_neg (by omega)] at hW
        clear t3
        by_cases u0 : s = fr
        · have HW : Hid (W = -1) := hid (by rw [if_neg (fun hh => hh u0), if_pos rfl] at hW; exact hW)
          subst u0
          clear hW RU US
          go_enter Tryd.func6, Tryd.ntmps6
          obtain ⟨c0, c1, c2, c3, c4⟩ := BX.out _ B0.out
          go_wp2_with fail
          refine (RT.out _).mono ?_
          rintro e w2 ⟨rfl, hb⟩
          have B1 := hid (B0.out.trans (hb.mono B0.out.size))
          clear hb B0 c0 c1 c2 c3 c4
          have B0 := hid B1.out
          clear B1
          obtain ⟨c0, c1, c2, c3, c4⟩ := BX.out _ B0.out
          go_wp2_with fail
          refine (ST.out _ (BW.out.trans (B0.out.mono BW.out.size))).mono ?_
          rintro e w2 ⟨rfl, hb⟩
          have B1 := hid (B0.out.trans (hb.mono B0.out.size))
          clear hb B0 c0 c1 c2 c3 c4
          have B0 := hid B1.out
          clear B1
          obtain ⟨c0, c1, c2, c3, c4⟩ := BX.out _ B0.out
          go_wp2_with fail
          refine (SP.out _).mono ?_
          rintro e w2 ⟨rfl, rfl⟩
          clear c0 c1 c2 c3 c4
          obtain ⟨c0, c1, c2, c3, c4⟩ := BX.out _ B0.out
          go_wp2
          go_ret
          exact ⟨(congrArg (fun x : Int => Ending.returned (Value.int .i64 x)) HW.out.symm), (BW.out.trans (B0.out.mono BW.out.size))⟩
        · have HW : Hid (W = 1) := hid (by rw [if_pos u0] at hW; exact hW)
          have u1 : (s == fr) = false := by simpa using u0
          clear hW RU US
          go_enter Tryd.func6, Tryd.ntmps6
          obtain ⟨c0, c1, c2, c3, c4⟩ := BX.out _ B0.out
          go_wp2_with fail
          refine (RT.out _).mono ?_
          rintro e w2 ⟨rfl, hb⟩
          have B1 := hid (B0.out.trans (hb.mono B0.out.size))
          clear hb B0 c0 c1 c2 c3 c4
          have B0 := hid B1.out
          clear B1
          obtain ⟨c0, c1, c2, c3, c4⟩ := BX.out _ B0.out
          go_wp2_with fail
          refine (ST.out _ (BW.out.trans (B0.out.mono BW.out.size))).mono ?_
          rintro e w2 ⟨rfl, hb⟩
          have B1 := hid (B0.out.trans (hb.mono B0.out.size))
          clear hb B0 c0 c1 c2 c3 c4
          have B0 := hid B1.out
          clear B1
          obtain ⟨c0, c1, c2, c3, c4⟩ := BX.out _ B0.out
          go_wp2_with fail
          refine (SP.out _).mono ?_
          rintro e w2 ⟨rfl, rfl⟩
          clear c0 c1 c2 c3 c4
          obtain ⟨c0, c1, c2, c3, c4⟩ := BX.out _ B0.out
          go_wp2
          go_ret
          exact ⟨(congrArg (fun x : Int => Ending.returned (Value.int .i64 x)) HW.out.symm), (BW.out.trans (B0.out.mono BW.out.size))⟩
      · rw [if_neg (by omega)] at hW
        obtain ⟨t4, t5⟩ : ¬ m < 0 ∧ ¬ p < 0 := by omega
        clear t3
        by_cases u0 : s = fr
        · rw [if_neg (fun hh => hh u0), if_neg (by omega), if_pos rfl] at hW
          subst u0
          unfold runsV at RU
          rcases rr with _ | ⟨x, y⟩
          · simp only [Option.getD_none, Option.isSome_none] at RU
            rcases ub with _ | _
            · have HW : Hid (W = -1) := hid (by simpa using hW)
              clear hW
              go_enter Tryd.func6, Tryd.ntmps6
              obtain ⟨c0, c1, c2, c3, c4⟩ := BX.out _ B0.out
              go_wp2_with fail
              refine (RT.out _).mono ?_
              rintro e w2 ⟨rfl, hb⟩
              have B1 := hid (B0.out.trans (hb.mono B0.out.size))
              clear hb B0 c0 c1 c2 c3 c4
              have B0 := hid B1.out
              clear B1
              obtain ⟨c0, c1, c2, c3, c4⟩ := BX.out _ B0.out
              go_wp2_with fail
              refine (ST.out _ (BW.out.trans (B0.out.mono BW.out.size))).mono ?_
              rintro e w2 ⟨rfl, hb⟩
              have B1 := hid (B0.out.trans (hb.mono B0.out.size))
              clear hb B0 c0 c1 c2 c3 c4
              have B0 := hid B1.out
              clear B1
              obtain ⟨c0, c1, c2, c3, c4⟩ := BX.out _ B0.out
              go_wp2_with fail
              refine (SP.out _).mono ?_
              rintro e w2 ⟨rfl, rfl⟩
              clear c0 c1 c2 c3 c4
              obtain ⟨c0, c1, c2, c3, c4⟩ := BX.out _ B0.out
              go_wp2_with fail
              refine (RU.out _ (BW.out.trans (B0.out.mono BW.out.size))).mono ?_
              rintro e w2 ⟨rfl, hb⟩
              have B1 := hid (B0.out.trans (hb.mono B0.out.size))
              clear hb B0 c0 c1 c2 c3 c4
              have B0 := hid B1.out
              clear B1
              obtain ⟨c0, c1, c2, c3, c4⟩ := BX.out _ B0.out
              go_wp2_with fail
              refine (US.out _ (BW.out.trans (B0.out.mono BW.out.size))).mono ?_
              rintro e w2 ⟨rfl, hb⟩
              have B1 := hid (B0.out.trans (hb.mono B0.out.size))
              clear hb B0 c0 c1 c2 c3 c4
              have B0 := hid B1.out
              clear B1
              obtain ⟨c0, c1, c2, c3, c4⟩ := BX.out _ B0.out
              go_wp2
              go_ret
              exact ⟨(congrArg (fun x : Int => Ending.returned (Value.int .i64 x)) HW.out.symm), (BW.out.trans (B0.out.mono BW.out.size))⟩
            · have HW : Hid (W = 2) := hid (by simpa using hW)
              clear hW
              go_enter Tryd.func6, Tryd.ntmps6
              obtain ⟨c0, c1, c2, c3, c4⟩ := BX.out _ B0.out
              go_wp2_with fail
              refine (RT.out _).mono ?_
              rintro e w2 ⟨rfl, hb⟩
              have B1 := hid (B0.out.trans (hb.mono B0.out.size))
              clear hb B0 c0 c1 c2 c3 c4
              have B0 := hid B1.out
              clear B1
              obtain ⟨c0, c1, c2, c3, c4⟩ := BX.out _ B0.out
              go_wp2_with fail
              refine (ST.out _ (BW.out.trans (B0.out.mono BW.out.size))).mono ?_
              rintro e w2 ⟨rfl, hb⟩
              have B1 := hid (B0.out.trans (hb.mono B0.out.size))
              clear hb B0 c0 c1 c2 c3 c4
              have B0 := hid B1.out
              clear B1
              obtain ⟨c0, c1, c2, c3, c4⟩ := BX.out _ B0.out
              go_wp2_with fail
              refine (SP.out _).mono ?_
              rintro e w2 ⟨rfl, rfl⟩
              clear c0 c1 c2 c3 c4
              obtain ⟨c0, c1, c2, c3, c4⟩ := BX.out _ B0.out
              go_wp2_with fail
              refine (RU.out _ (BW.out.trans (B0.out.mono BW.out.size))).mono ?_
              rintro e w2 ⟨rfl, hb⟩
              have B1 := hid (B0.out.trans (hb.mono B0.out.size))
              clear hb B0 c0 c1 c2 c3 c4
              have B0 := hid B1.out
              clear B1
              obtain ⟨c0, c1, c2, c3, c4⟩ := BX.out _ B0.out
              go_wp2_with fail
              refine (US.out _ (BW.out.trans (B0.out.mono BW.out.size))).mono ?_
              rintro e w2 ⟨rfl, hb⟩
              have B1 := hid (B0.out.trans (hb.mono B0.out.size))
              clear hb B0 c0 c1 c2 c3 c4
              have B0 := hid B1.out
              clear B1
              obtain ⟨c0, c1, c2, c3, c4⟩ := BX.out _ B0.out
              go_wp2
              go_ret
              exact ⟨(congrArg (fun x : Int => Ending.returned (Value.int .i64 x)) HW.out.symm), (BW.out.trans (B0.out.mono BW.out.size))⟩
          · simp only [Option.getD_some, Option.isSome_some] at RU
            have HW : Hid (W = 2) := hid (by simpa using hW)
            clear hW US
            go_enter Tryd.func6, Tryd.ntmps6
            obtain ⟨c0, c1, c2, c3, c4⟩ := BX.out _ B0.out
            go_wp2_with fail
            refine (RT.out _).mono ?_
            rintro e w2 ⟨rfl, hb⟩
            have B1 := hid (B0.out.trans (hb.mono B0.out.size))
            clear hb B0 c0 c1 c2 c3 c4
            have B0 := hid B1.out
            clear B1
            obtain ⟨c0, c1, c2, c3, c4⟩ := BX.out _ B0.out
            go_wp2_with fail
            refine (ST.out _ (BW.out.trans (B0.out.mono BW.out.size))).mono ?_
            rintro e w2 ⟨rfl, hb⟩
            have B1 := hid (B0.out.trans (hb.mono B0.out.size))
            clear hb B0 c0 c1 c2 c3 c4
            have B0 := hid B1.out
            clear B1
            obtain ⟨c0, c1, c2, c3, c4⟩ := BX.out _ B0.out
            go_wp2_with fail
            refine (SP.out _).mono ?_
            rintro e w2 ⟨rfl, rfl⟩
            clear c0 c1 c2 c3 c4
            obtain ⟨c0, c1, c2, c3, c4⟩ := BX.out _ B0.out
            go_wp2_with fail
            refine (RU.out _ (BW.out.trans (B0.out.mono BW.out.size))).mono ?_
            rintro e w2 ⟨rfl, hb⟩
            have B1 := hid (B0.out.trans (hb.mono B0.out.size))
            clear hb B0 c0 c1 c2 c3 c4
            have B0 := hid B1.out
            clear B1
            obtain ⟨c0, c1, c2, c3, c4⟩ := BX.out _ B0.out
            go_wp2
            go_ret
            exact ⟨(congrArg (fun x : Int => Ending.returned (Value.int .i64 x)) HW.out.symm), (BW.out.trans (B0.out.mono BW.out.size))⟩
        · have HW : Hid (W = 1) := hid (by rw [if_pos u0] at hW; exact hW)
          have u1 : (s == fr) = false := by simpa using u0
          clear hW RU US
          go_enter Tryd.func6, Tryd.ntmps6
          obtain ⟨c0, c1, c2, c3, c4⟩ := BX.out _ B0.out
          go_wp2_with fail
          refine (RT.out _).mono ?_
          rintro e w2 ⟨rfl, hb⟩
          have B1 := hid (B0.out.trans (hb.mono B0.out.size))
          clear hb B0 c0 c1 c2 c3 c4
          have B0 := hid B1.out
          clear B1
          obtain ⟨c0, c1, c2, c3, c4⟩ := BX.out _ B0.out
          go_wp2_with fail
          refine (ST.out _ (BW.out.trans (B0.out.mono BW.out.size))).mono ?_
          rintro e w2 ⟨rfl, hb⟩
          have B1 := hid (B0.out.trans (hb.mono B0.out.size))
          clear hb B0 c0 c1 c2 c3 c4
          have B0 := hid B1.out
          clear B1
          obtain ⟨c0, c1, c2, c3, c4⟩ := BX.out _ B0.out
          go_wp2_with fail
          refine (SP.out _).mono ?_
          rintro e w2 ⟨rfl, rfl⟩
          clear c0 c1 c2 c3 c4
          obtain ⟨c0, c1, c2, c3, c4⟩ := BX.out _ B0.out
          go_wp2
          go_ret
          exact ⟨(congrArg (fun x : Int => Ending.returned (Value.int .i64 x)) HW.out.symm), (BW.out.trans (B0.out.mono BW.out.size))⟩
      · rw [if_neg (by omega)] at hW
        obtain ⟨t4, t5⟩ : ¬ m < 0 ∧ ¬ p < 0 := by omega
        clear t3
        have f1 : (k == 1) = false := by simpa using (show ¬ k = 1 by omega)
        have f0 : (k == 0) = false := by simpa using (show ¬ k = 0 by omega)
        have f2 : (k == 2) = false := by simpa using (show ¬ k = 2 by omega)
        have f3 : 1 < k := by omega
        by_cases u0 : s = fr
        · rw [if_neg (fun hh => hh u0), if_neg (by omega), if_neg (by omega)] at hW
          subst u0
          unfold runsV at RU
          rcases rr with _ | ⟨x, y⟩
          · simp only [Option.getD_none, Option.isSome_none] at RU
            have HW : Hid (W = 3) := hid (by simpa using hW)
            clear hW US
            go_enter Tryd.func6, Tryd.ntmps6
            obtain ⟨c0, c1, c2, c3, c4⟩ := BX.out _ B0.out
            go_wp2_with fail
            refine (RT.out _).mono ?_
            rintro e w2 ⟨rfl, hb⟩
            have B1 := hid (B0.out.trans (hb.mono B0.out.size))
            clear hb B0 c0 c1 c2 c3 c4
            have B0 := hid B1.out
            clear B1
            obtain ⟨c0, c1, c2, c3, c4⟩ := BX.out _ B0.out
            go_wp2_with fail
            refine (ST.out _ (BW.out.trans (B0.out.mono BW.out.size))).mono ?_
            rintro e w2 ⟨rfl, hb⟩
            have B1 := hid (B0.out.trans (hb.mono B0.out.size))
            clear hb B0 c0 c1 c2 c3 c4
            have B0 := hid B1.out
            clear B1
            obtain ⟨c0, c1, c2, c3, c4⟩ := BX.out _ B0.out
            go_wp2_with fail
            refine (SP.out _).mono ?_
            rintro e w2 ⟨rfl, rfl⟩
            clear c0 c1 c2 c3 c4
            obtain ⟨c0, c1, c2, c3, c4⟩ := BX.out _ B0.out
            go_wp2_with fail
            refine (RU.out _ (BW.out.trans (B0.out.mono BW.out.size))).mono ?_
            rintro e w2 ⟨rfl, hb⟩
            have B1 := hid (B0.out.trans (hb.mono B0.out.size))
            clear hb B0 c0 c1 c2 c3 c4
            have B0 := hid B1.out
            clear B1
            obtain ⟨c0, c1, c2, c3, c4⟩ := BX.out _ B0.out
            go_wp2
            go_ret
            exact ⟨(congrArg (fun x : Int => Ending.returned (Value.int .i64 x)) HW.out.symm), (BW.out.trans (B0.out.mono BW.out.size))⟩
          · simp only [Option.getD_some, Option.isSome_some] at RU
            by_cases u1 : x = g
            · subst u1
              by_cases u2 : y = p
              · subst u2
                have HW : Hid (W = -1) := hid (by simpa using hW)
                clear hW US
                go_enter Tryd.func6, Tryd.ntmps6
                obtain ⟨c0, c1, c2, c3, c4⟩ := BX.out _ B0.out
                go_wp2_with fail
                refine (RT.out _).mono ?_
                rintro e w2 ⟨rfl, hb⟩
                have B1 := hid (B0.out.trans (hb.mono B0.out.size))
                clear hb B0 c0 c1 c2 c3 c4
                have B0 := hid B1.out
                clear B1
                obtain ⟨c0, c1, c2, c3, c4⟩ := BX.out _ B0.out
                go_wp2_with fail
                refine (ST.out _ (BW.out.trans (B0.out.mono BW.out.size))).mono ?_
                rintro e w2 ⟨rfl, hb⟩
                have B1 := hid (B0.out.trans (hb.mono B0.out.size))
                clear hb B0 c0 c1 c2 c3 c4
                have B0 := hid B1.out
                clear B1
                obtain ⟨c0, c1, c2, c3, c4⟩ := BX.out _ B0.out
                go_wp2_with fail
                refine (SP.out _).mono ?_
                rintro e w2 ⟨rfl, rfl⟩
                clear c0 c1 c2 c3 c4
                obtain ⟨c0, c1, c2, c3, c4⟩ := BX.out _ B0.out
                go_wp2_with fail
                refine (RU.out _ (BW.out.trans (B0.out.mono BW.out.size))).mono ?_
                rintro e w2 ⟨rfl, hb⟩
                have B1 := hid (B0.out.trans (hb.mono B0.out.size))
                clear hb B0 c0 c1 c2 c3 c4
                have B0 := hid B1.out
                clear B1
                obtain ⟨c0, c1, c2, c3, c4⟩ := BX.out _ B0.out
                go_wp2
                go_ret
                exact ⟨(congrArg (fun x : Int => Ending.returned (Value.int .i64 x)) HW.out.symm), (BW.out.trans (B0.out.mono BW.out.size))⟩
              · have HW : Hid (W = 3) := hid (by simpa [u2] using hW)
                have u3 : (y == p) = false := by simpa using u2
                clear hW US
                go_enter Tryd.func6, Tryd.ntmps6
                obtain ⟨c0, c1, c2, c3, c4⟩ := BX.out _ B0.out
                go_wp2_with fail
                refine (RT.out _).mono ?_
                rintro e w2 ⟨rfl, hb⟩
                have B1 := hid (B0.out.trans (hb.mono B0.out.size))
                clear hb B0 c0 c1 c2 c3 c4
                have B0 := hid B1.out
                clear B1
                obtain ⟨c0, c1, c2, c3, c4⟩ := BX.out _ B0.out
                go_wp2_with fail
                refine (ST.out _ (BW.out.trans (B0.out.mono BW.out.size))).mono ?_
                rintro e w2 ⟨rfl, hb⟩
                have B1 := hid (B0.out.trans (hb.mono B0.out.size))
                clear hb B0 c0 c1 c2 c3 c4
                have B0 := hid B1.out
                clear B1
                obtain ⟨c0, c1, c2, c3, c4⟩ := BX.out _ B0.out
                go_wp2_with fail
                refine (SP.out _).mono ?_
                rintro e w2 ⟨rfl, rfl⟩
                clear c0 c1 c2 c3 c4
                obtain ⟨c0, c1, c2, c3, c4⟩ := BX.out _ B0.out
                go_wp2_with fail
                refine (RU.out _ (BW.out.trans (B0.out.mono BW.out.size))).mono ?_
                rintro e w2 ⟨rfl, hb⟩
                have B1 := hid (B0.out.trans (hb.mono B0.out.size))
                clear hb B0 c0 c1 c2 c3 c4
                have B0 := hid B1.out
                clear B1
                obtain ⟨c0, c1, c2, c3, c4⟩ := BX.out _ B0.out
                go_wp2
                go_ret
                exact ⟨(congrArg (fun x : Int => Ending.returned (Value.int .i64 x)) HW.out.symm), (BW.out.trans (B0.out.mono BW.out.size))⟩
            · have HW : Hid (W = 3) := hid (by simpa [u1] using hW)
              have u3 : (x == g) = false := by simpa using u1
              clear hW US
              go_enter Tryd.func6, Tryd.ntmps6
              obtain ⟨c0, c1, c2, c3, c4⟩ := BX.out _ B0.out
              go_wp2_with fail
              refine (RT.out _).mono ?_
              rintro e w2 ⟨rfl, hb⟩
              have B1 := hid (B0.out.trans (hb.mono B0.out.size))
              clear hb B0 c0 c1 c2 c3 c4
              have B0 := hid B1.out
              clear B1
              obtain ⟨c0, c1, c2, c3, c4⟩ := BX.out _ B0.out
              go_wp2_with fail
              refine (ST.out _ (BW.out.trans (B0.out.mono BW.out.size))).mono ?_
              rintro e w2 ⟨rfl, hb⟩
              have B1 := hid (B0.out.trans (hb.mono B0.out.size))
              clear hb B0 c0 c1 c2 c3 c4
              have B0 := hid B1.out
              clear B1
              obtain ⟨c0, c1, c2, c3, c4⟩ := BX.out _ B0.out
              go_wp2_with fail
              refine (SP.out _).mono ?_
              rintro e w2 ⟨rfl, rfl⟩
              clear c0 c1 c2 c3 c4
              obtain ⟨c0, c1, c2, c3, c4⟩ := BX.out _ B0.out
              go_wp2_with fail
              refine (RU.out _ (BW.out.trans (B0.out.mono BW.out.size))).mono ?_
              rintro e w2 ⟨rfl, hb⟩
              have B1 := hid (B0.out.trans (hb.mono B0.out.size))
              clear hb B0 c0 c1 c2 c3 c4
              have B0 := hid B1.out
              clear B1
              obtain ⟨c0, c1, c2, c3, c4⟩ := BX.out _ B0.out
              go_wp2
              go_ret
              exact ⟨(congrArg (fun x : Int => Ending.returned (Value.int .i64 x)) HW.out.symm), (BW.out.trans (B0.out.mono BW.out.size))⟩
        · have HW : Hid (W = 1) := hid (by rw [if_pos u0] at hW; exact hW)
          have u1 : (s == fr) = false := by simpa using u0
          clear hW RU US
          go_enter Tryd.func6, Tryd.ntmps6
          obtain ⟨c0, c1, c2, c3, c4⟩ := BX.out _ B0.out
          go_wp2_with fail
          refine (RT.out _).mono ?_
          rintro e w2 ⟨rfl, hb⟩
          have B1 := hid (B0.out.trans (hb.mono B0.out.size))
          clear hb B0 c0 c1 c2 c3 c4
          have B0 := hid B1.out
          clear B1
          obtain ⟨c0, c1, c2, c3, c4⟩ := BX.out _ B0.out
          go_wp2_with fail
          refine (ST.out _ (BW.out.trans (B0.out.mono BW.out.size))).mono ?_
          rintro e w2 ⟨rfl, hb⟩
          have B1 := hid (B0.out.trans (hb.mono B0.out.size))
          clear hb B0 c0 c1 c2 c3 c4
          have B0 := hid B1.out
          clear B1
          obtain ⟨c0, c1, c2, c3, c4⟩ := BX.out _ B0.out
          go_wp2_with fail
          refine (SP.out _).mono ?_
          rintro e w2 ⟨rfl, rfl⟩
          clear c0 c1 c2 c3 c4
          obtain ⟨c0, c1, c2, c3, c4⟩ := BX.out _ B0.out
          go_wp2
          go_ret
          exact ⟨(congrArg (fun x : Int => Ending.returned (Value.int .i64 x)) HW.out.symm), (BW.out.trans (B0.out.mono BW.out.size))⟩
end Go.Proofs.YtkimfejhgfnjoaaDoor
