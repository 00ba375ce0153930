/- The walk of the statement WorldConfigs: the law answers true and turns nothing that was there. Written by wip/tools/genwc.py. -/
import Derived.Test.YtfpkgkjmpcoppaaGreatDoorPre2
import Derived.Test.YtfpkgkjmpcoppaaGreatDoorLives20
import Derived.Test.YtfpkgkjmpcoppaaGreatDoorWcS
import Derived.Test.YtfpkgkjmpcoppaaGreatDoorBnd
import Derived.OpenShut
import Derived.Deep.RegionHeld3
namespace Go.Proofs.YtfpkgkjmpcoppaaGreatDoor.worldConfigs
open Go.RowKit
set_option linter.unusedVariables false
set_option linter.unusedSimpArgs false
set_option maxRecDepth 20000
theorem fld_0 (a : Option Addr) (n k : Nat) (w : World) : (Instr.field 43 (.agg (mS (.slice a n k))) 0).run Tryz.prog w = .ok (.int .i64 1) w := by
  first | rfl | kernel_rfl | (unfold mS; go_simp)
theorem fld_1 (a : Option Addr) (n k : Nat) (w : World) : (Instr.field 43 (.agg (mS (.slice a n k))) 1).run Tryz.prog w = .ok (.int .i64 0) w := by
  first | rfl | kernel_rfl | (unfold mS; go_simp)
theorem eq_cfw (a b c : Int) (w : World) : (Op.equalIn 10000 24 (.agg #[.int .i64 a, .int .i64 b, .int .i64 c]) (.agg #[.int .i64 a, .int .i64 b, .int .i64 c])).run Tryz.prog w = .ok true w := by
  have u1 := Tryz.underlying3
  have hS : Tryz.prog.underlying 24 = some (.struct (Tryz.prog.fieldsOf 24)) := by kernel_rfl
  have hp : Tryz.prog.stoodInHeld 24 = false := by kernel_rfl
  rw [show (10000 : Nat) = 9999 + 1 from rfl, run_equalIn_agg w 9999 24 _ _ hS hp]
  simp only [Program.fieldsOf, Tryz.underlying24]
  go_simp
set_option maxHeartbeats 2000000 in
theorem walk_no (a0 a1 a2 : Int) (w : World) (LV : Hid (Calls Tryz.prog 8 #[] w fun e w' => e = .returned (.bool true) ∧ Below w.heap.size w w')) (h : ¬ OkC a0 a1 a2) :
    Calls Tryz.prog 3 #[.int .i64 a0, .int .i64 a1, .int .i64 a2] w fun e w' => e = .returned (.bool true) ∧ Below w.heap.size w w' := by
  have NN := hid (fun y => wnew_no a0 a1 a2 h y)
  by_cases h1 : 1 ≤ a0
  · by_cases h2 : a0 ≤ 64
    · by_cases h3 : a0 ≤ a1
      · by_cases h4 : a1 ≤ 128
        · by_cases h5 : 1 ≤ a2
          · have h6 : ¬ a2 ≤ 4096 := fun h6 => h ⟨h1, h2, h3, h4, h5, h6⟩
            clear h
            go_enter Tryz.func3, Tryz.ntmps3
            go_wp2_with fail
            refine LV.out.mono ?_
            rintro e w2 ⟨rfl, hb⟩
            have B2 := hid hb
            clear hb LV
            go_wp2_with fail
            refine (NN.out _).mono ?_
            rintro e w3 ⟨rfl, hb⟩
            have B3 := hid (B2.out.trans (((bla w2 (.cells #[.int .i64 a0, .int .i64 a1, .int .i64 a2] 24)).trans (hb.mono (by simp))).mono B2.out.size))
            clear hb NN B2
            go_wp2
            go_ret
            exact ⟨rfl, B3.out⟩
          · clear h
            go_enter Tryz.func3, Tryz.ntmps3
            go_wp2_with fail
            refine LV.out.mono ?_
            rintro e w2 ⟨rfl, hb⟩
            have B2 := hid hb
            clear hb LV
            go_wp2_with fail
            refine (NN.out _).mono ?_
            rintro e w3 ⟨rfl, hb⟩
            have B3 := hid (B2.out.trans (((bla w2 (.cells #[.int .i64 a0, .int .i64 a1, .int .i64 a2] 24)).trans (hb.mono (by simp))).mono B2.out.size))
            clear hb NN B2
            go_wp2
            go_ret
            exact ⟨rfl, B3.out⟩
        · clear h
          go_enter Tryz.func3, Tryz.ntmps3
          go_wp2_with fail
          refine LV.out.mono ?_
          rintro e w2 ⟨rfl, hb⟩
          have B2 := hid hb
          clear hb LV
          go_wp2_with fail
          refine (NN.out _).mono ?_
          rintro e w3 ⟨rfl, hb⟩
          have B3 := hid (B2.out.trans (((bla w2 (.cells #[.int .i64 a0, .int .i64 a1, .int .i64 a2] 24)).trans (hb.mono (by simp))).mono B2.out.size))
          clear hb NN B2
          go_wp2
          go_ret
          exact ⟨rfl, B3.out⟩
      · clear h
        go_enter Tryz.func3, Tryz.ntmps3
        go_wp2_with fail
        refine LV.out.mono ?_
        rintro e w2 ⟨rfl, hb⟩
        have B2 := hid hb
        clear hb LV
        go_wp2_with fail
        refine (NN.out _).mono ?_
        rintro e w3 ⟨rfl, hb⟩
        have B3 := hid (B2.out.trans (((bla w2 (.cells #[.int .i64 a0, .int .i64 a1, .int .i64 a2] 24)).trans (hb.mono (by simp))).mono B2.out.size))
        clear hb NN B2
        go_wp2
        go_ret
        exact ⟨rfl, B3.out⟩
    · clear h
      go_enter Tryz.func3, Tryz.ntmps3
      go_wp2_with fail
      refine LV.out.mono ?_
      rintro e w2 ⟨rfl, hb⟩
      have B2 := hid hb
      clear hb LV
      go_wp2_with fail
      refine (NN.out _).mono ?_
      rintro e w3 ⟨rfl, hb⟩
      have B3 := hid (B2.out.trans (((bla w2 (.cells #[.int .i64 a0, .int .i64 a1, .int .i64 a2] 24)).trans (hb.mono (by simp))).mono B2.out.size))
      clear hb NN B2
      go_wp2
      go_ret
      exact ⟨rfl, B3.out⟩
  · clear h
    go_enter Tryz.func3, Tryz.ntmps3
    go_wp2_with fail
    refine LV.out.mono ?_
    rintro e w2 ⟨rfl, hb⟩
    have B2 := hid hb
    clear hb LV
    go_wp2_with fail
    refine (NN.out _).mono ?_
    rintro e w3 ⟨rfl, hb⟩
    have B3 := hid (B2.out.trans (((bla w2 (.cells #[.int .i64 a0, .int .i64 a1, .int .i64 a2] 24)).trans (hb.mono (by simp))).mono B2.out.size))
    clear hb NN B2
    go_wp2
    go_ret
    exact ⟨rfl, B3.out⟩
set_option maxHeartbeats 8000000 in
theorem walk_yes (P M : Nat) (a0 a1 G : Int) (hp : (P : Int) = a0) (hm : (M : Int) = a1) (w : World) (LV : Hid (Calls Tryz.prog 8 #[] w fun e w' => e = .returned (.bool true) ∧ Below w.heap.size w w')) (T : Tb w) (hok : OkC P M G) :
    Calls Tryz.prog 3 #[.int .i64 a0, .int .i64 a1, .int .i64 G] w fun e w' => e = .returned (.bool true) ∧ Below w.heap.size w w' := by
  have hok' := hid hok
  have HP := hid (And.intro hp hm)
  have hok2 := hok
  rw [hp, hm] at hok2
  obtain ⟨h1, h2, h3, h4, h5, h6⟩ := hok2
  have NW := hid (fun (y : World) (hb : Below w.heap.size w y) => (show Calls Tryz.prog 9 #[.agg #[.int .i64 a0, .int .i64 a1, .int .i64 G]] y fun e w' => ∃ x, e = .returned (.tuple #[.pointer (some ⟨x, 0, none⟩), .int .i64 0]) ∧ Nw0 y P M G x w' from by
    have h := wnew_tb P M G hok'.out y (T.at hb)
    simp only [Int.toNat_natCast] at h
    rw [hp, hm] at h
    exact h))
  have TL := hid T.d.lt
  clear T hok
  go_enter Tryz.func3, Tryz.ntmps3
  go_wp2_with fail
  refine LV.out.mono ?_
  rintro e w2 ⟨rfl, hb⟩
  have B2 := hid hb
  clear hb LV
  go_upto_region 4 with (fail)
  obtain ⟨E, hE⟩ : ∃ E, E = w2.heap.size := ⟨_, rfl⟩
  obtain ⟨w3, hw3⟩ : ∃ w3, w3 = w2.alloc (.cells #[.int .i64 a0, .int .i64 a1, .int .i64 G] 24) := ⟨_, rfl⟩
  have B3 := hid (show Below w.heap.size w w3 by rw [hw3]; exact B2.out.trans ((bla w2 _).mono B2.out.size))
  have X3 := hid (show w3.heap[E]? = some (.cells #[.int .i64 a0, .int .i64 a1, .int .i64 G] 24 (0, 0)) by rw [hw3, hE]; exact heap_alloc_new w2 _)
  rw [← hw3, ← hE]
  clear hw3 hE B2
  have k0 : w3.cell? ⟨E, 0, none⟩ = some (.int .i64 a0) := blk_cell X3.out rfl
  have k1 : w3.cell? ⟨E, 1, none⟩ = some (.int .i64 a1) := blk_cell X3.out rfl
  have k2 : w3.cell? ⟨E, 2, none⟩ = some (.int .i64 G) := blk_cell X3.out rfl
  go_wp2_with fail
  refine (NW.out _ B3.out).mono ?_
  rintro e w4 ⟨x, rfl, hN⟩
  obtain ⟨HQ, hHQ⟩ : ∃ HQ : Nat → World → Prop, HQ = fun c y => Rw w P M G E x c y := ⟨_, rfl⟩
  obtain ⟨HJ, hHJ⟩ : ∃ HJ : Nat → Nat → World → Prop, HJ = fun c i y => Ri w P M G E x c i y := ⟨_, rfl⟩
  have H4 : HQ 1 w4 := by rw [hHQ]; exact rw_new hok'.out hN B3.out (by rw [hp, hm]; exact X3.out) TL.out
  clear hN B3 X3 NW TL k0 k1 k2
  have QS := hid (show ∀ c y, HQ c y → y.cell? ⟨E, 0, none⟩ = some (.int .i64 a0) ∧ y.cell? ⟨E, 1, none⟩ = some (.int .i64 a1) ∧ y.cell? ⟨E, 2, none⟩ = some (.int .i64 G) from fun c y hy => by rw [hHQ] at hy; rw [← hp, ← hm]; exact hy.cf)
  have QD : HQ 1 w4.drew := by rw [hHQ] at H4 ⊢; exact H4.below (Quiet.below ⟨1, rfl⟩ _)
  have QE := hid (show ∀ c y, HQ c y → Below w.heap.size w y from fun c y hy => by rw [hHQ] at hy; exact hy.1)
  have CC := hid (show ∀ c y, HQ c y → Calls Tryz.prog 10 #[.pointer (some ⟨x, 0, none⟩)] y fun e y' => e = .returned (.agg #[.int .i64 a0, .int .i64 a1, .int .i64 G]) ∧ HQ c y' from fun c y hy => by rw [hHQ] at hy ⊢; rw [← hp, ← hm]; exact rConfig hy)
  have CS := hid (show ∀ c y, HQ c y → c < 50 → Calls Tryz.prog 11 #[.pointer (some ⟨x, 0, none⟩), .int .i64 0] y fun e y' => e = .returned (.int .u64 1) ∧ HQ (c + 1) y' from fun c y hy hc => by rw [hHQ] at hy ⊢; exact rStat0 hy (by omega) (by omega) (by omega) (by omega) (by omega))
  have CE := hid (show ∀ c y, HQ c y → Calls Tryz.prog 12 #[.pointer (some ⟨x, 0, none⟩)] y fun e y' => ∃ a n, e = .returned (.slice a 1 n) ∧ HQ c y' from fun c y hy => by rw [hHQ] at hy ⊢; exact rEvents hy)
  have CG := hid (show ∀ c y, HQ c y → Calls Tryz.prog 13 #[.pointer (some ⟨x, 0, none⟩)] y fun e y' => ∃ a n, e = .returned (.slice a 1 n) ∧ HQ c y' from fun c y hy => by rw [hHQ] at hy ⊢; exact rGlobal hy)
  have CM := hid (show ∀ c y, HQ c y → Calls Tryz.prog 14 #[.pointer (some ⟨x, 0, none⟩), .int .i64 0] y fun e y' => ∃ a n k, e = .returned (.agg (mS (.slice a n k))) ∧ HQ c y' from fun c y hy => by rw [hHQ] at hy ⊢; exact rMach hy (by omega))
  have CN := hid (show ∀ c y, HQ c y → c < 50 → Calls Tryz.prog 15 #[.pointer (some ⟨x, 0, none⟩)] y fun e y' => e = .returned (.int .u64 0) ∧ HQ (c + 1) y' from fun c y hy hc => by rw [hHQ] at hy ⊢; exact rSpin hy (by omega) (by omega) (by omega) (by omega) (by omega))
  have CI9 := hid (show ∀ c y, HQ c y → Calls Tryz.prog 16 #[.pointer (some ⟨x, 0, none⟩)] y fun e y' => ∃ i, e = .returned (.pointer (some ⟨i, 0, none⟩)) ∧ HJ c i y' from fun c y hy => by rw [hHQ] at hy; rw [hHJ]; exact rIdle hy (by omega) (by omega))
  have CC9 := hid (show ∀ c i y, HJ c i y → Calls Tryz.prog 17 #[.pointer (some ⟨i, 0, none⟩)] y fun e y' => e = .returned (.int .i64 ((M - 2 : Nat) : Int)) ∧ y' = y from fun c i y hy => by rw [hHJ] at hy; exact iCM hy)
  have CO9 := hid (show ∀ c i y, HJ c i y → Calls Tryz.prog 18 #[.pointer (some ⟨i, 0, none⟩)] y fun e y' => (∃ n, e = .returned (.tuple #[.int .i64 n, .bool (decide (1 < M))])) ∧ y' = y from fun c i y hy => by rw [hHJ] at hy; exact iPol hy)
  have CP9 := hid (show ∀ c i y, HJ c i y → Calls Tryz.prog 19 #[.pointer (some ⟨i, 0, none⟩)] y fun e y' => e = .returned (.int .i64 (a0 - 1)) ∧ y' = y from fun c i y hy => by rw [hHJ] at hy; rw [← hp]; exact iCP hy (by omega))
  have JQ := hid (show ∀ c i y, HJ c i y → HQ c y from fun c i y hy => by rw [hHJ] at hy; rw [hHQ]; exact hy.1)
  have CX9 := hid (show ∀ c y, HQ c y → Calls Tryz.prog 11 #[.pointer (some ⟨x, 0, none⟩), .int .i64 G] y fun e y' => e = .returned (.int .u64 0) ∧ HQ c y' from fun c y hy => by rw [hHQ] at hy ⊢; exact rStatG hy (by omega))
  have CA9 := hid (show ∀ c y, HQ c y → Calls Tryz.prog 20 #[.pointer (some ⟨x, 0, none⟩), .int .i64 a1] y fun e y' => e = .returned (.bool false) ∧ HQ c y' from fun c y hy => by rw [hHQ] at hy ⊢; rw [← hm]; exact rAsleep hy)
  have CR9 := hid (show ∀ c y, HQ c y → Calls Tryz.prog 21 #[.pointer (some ⟨x, 0, none⟩), .int .i64 a0] y fun e y' => e = .returned (.slice none 0 0) ∧ y' = y from fun c y hy => by rw [hHQ] at hy; rw [← hp]; exact rRing hy)
  have CLa := hid (show ∀ v, (v = if G = 1 then 1 else 0) → ∀ c y, HQ c y → c < 50 → Calls Tryz.prog 11 #[.pointer (some ⟨x, 0, none⟩), .int .i64 (G - 1)] y fun e y' => e = .returned (.int .u64 v) ∧ HQ (c + 1) y' from fun v hv c y hy hc => by rw [hHQ] at hy ⊢; exact rStatL hy v (by omega) (by omega) (by omega) (by omega) hv (by omega))
  clear hHQ hHJ H4
  have EQ6 := eq_cfw a0 a1 G
  have FL0 := fld_0
  have FL1 := fld_1
  have HN := hid (And.intro h1 (And.intro h2 (And.intro h3 (And.intro h4 (And.intro h5 h6)))))
  obtain ⟨S0, hS0⟩ : ∃ S0 : Int, S0 = ((M - 2 : Nat) : Int) := ⟨_, rfl⟩
  rw [← hS0] at CC9
  have HS0 := hid hS0
  clear hS0 hp hm
  have d := QS.out _ _ QD
  obtain ⟨d0, d1, d2⟩ := d
  go_wp2_with fail
  clear h1 h2 h3 h4 h5 h6
  go_region_held3 (fun y => y.cell? ⟨E, 0, none⟩ = some (.int .i64 a0) ∧ y.cell? ⟨E, 1, none⟩ = some (.int .i64 a1) ∧ y.cell? ⟨E, 2, none⟩ = some (.int .i64 G))
    (first
      | with_reducible exact QS.out _ _ (by assumption))
    (first
      | (go_at_call 10; (with_reducible refine (CC.out _ _ (by assumption)).mono ?_); rintro e y ⟨rfl, HL1⟩)
      | (go_at_call 11; (with_reducible refine (CS.out _ _ (by assumption) (by omega)).mono ?_); rintro e y ⟨rfl, HL2⟩)
      | (go_at_call 12; (with_reducible refine (CE.out _ _ (by assumption)).mono ?_); rintro e y ⟨a5, n5, rfl, HL3⟩)
      | (go_at_call 13; (with_reducible refine (CG.out _ _ (by assumption)).mono ?_); rintro e y ⟨a6, n6, rfl, HL4⟩)
      | (go_at_call 14; (with_reducible refine (CM.out _ _ (by assumption)).mono ?_); rintro e y ⟨a7, n7, k7, rfl, HL5⟩)
      | (go_at_call 15; (with_reducible refine (CN.out _ _ (by assumption) (by omega)).mono ?_); rintro e y ⟨rfl, HL6⟩))
  all_goals
    have HY : HQ 3 y := by assumption
    have hc : 3 < 50 := by omega
    have HY := hid HY
    clear CC CE CG CM CN
    go_wp2_with fail
    refine (CI9.out _ _ HY.out).mono ?_
    rintro e y2 ⟨i, rfl, HI⟩
    have HI := hid HI
    have HR := hid (JQ.out _ _ _ HI.out)
    clear HY CI9 JQ
    go_wp2_with fail
    refine (CC9.out _ _ _ HI.out).mono ?_
    rintro e y3 ⟨rfl, hy3⟩
    subst y3
    have g1 : IntKind.i64.wrap (G - 1) = G - 1 := IntWalk.i64_in _ (by have := HN.out; omega)
    have p1 : IntKind.i64.wrap (a0 - 1) = a0 - 1 := IntWalk.i64_in _ (by have := HN.out; omega)
    have m1 : IntKind.i64.wrap (a1 - 1) = a1 - 1 := IntWalk.i64_in _ (by have := HN.out; omega)
    by_cases hM : 1 < M
    · have s1 : IntKind.i64.wrap (S0 + 1) = a1 - 1 := by rw [show S0 + 1 = a1 - 1 by have := HP.out; have := HS0.out; omega]; exact m1
      rw [decide_eq_true hM] at CO9
      go_wp2_with fail
      refine (CO9.out _ _ _ HI.out).mono ?_
      rintro e y3 ⟨⟨n, rfl⟩, hy3⟩
      subst y3
      clear CC9 CO9
      by_cases hG : G = 1
      · subst hG
        have CL9 := CS
        clear CLa g1
        go_wp2_with fail
        refine (CP9.out _ _ _ HI.out).mono ?_
        rintro e y4 ⟨rfl, hy4⟩
        subst y4
        go_wp2_with fail
        refine (CL9.out _ _ HR.out hc).mono ?_
        rintro e y5 ⟨rfl, H5⟩
        have H5 := hid H5
        go_wp2_with fail
        refine (CX9.out _ _ H5.out).mono ?_
        rintro e y6 ⟨rfl, H6⟩
        have H6 := hid H6
        go_wp2_with fail
        refine (CA9.out _ _ H6.out).mono ?_
        rintro e y7 ⟨rfl, H7⟩
        have H7 := hid H7
        go_wp2_with fail
        refine (CR9.out _ _ H7.out).mono ?_
        rintro e y8 ⟨rfl, hy8⟩
        subst y8
        go_wp2_with fail
        refine (gturns _ _).mono ?_
        rintro e y9 ⟨rfl, hy9⟩
        subst y9
        have FN := hid (QE.out _ _ H7.out)
        clear H5 H6 H7 HR HI CP9 CL9 CX9 CA9 CR9 QE
        go_wp2
        go_ret
        exact ⟨rfl, FN.out⟩
      · have CL9 := hid (CLa.out 0 (by rw [if_neg hG]))
        have z1 : 1 ≤ G - 1 := by have := HN.out; omega
        clear CLa CS
        go_wp2_with fail
        refine (CP9.out _ _ _ HI.out).mono ?_
        rintro e y4 ⟨rfl, hy4⟩
        subst y4
        go_wp2_with fail
        refine (CL9.out _ _ HR.out hc).mono ?_
        rintro e y5 ⟨rfl, H5⟩
        have H5 := hid H5
        go_wp2_with fail
        refine (CX9.out _ _ H5.out).mono ?_
        rintro e y6 ⟨rfl, H6⟩
        have H6 := hid H6
        go_wp2_with fail
        refine (CA9.out _ _ H6.out).mono ?_
        rintro e y7 ⟨rfl, H7⟩
        have H7 := hid H7
        go_wp2_with fail
        refine (CR9.out _ _ H7.out).mono ?_
        rintro e y8 ⟨rfl, hy8⟩
        subst y8
        go_wp2_with fail
        refine (gturns _ _).mono ?_
        rintro e y9 ⟨rfl, hy9⟩
        subst y9
        have FN := hid (QE.out _ _ H7.out)
        clear H5 H6 H7 HR HI CP9 CL9 CX9 CA9 CR9 QE
        go_wp2
        go_ret
        exact ⟨rfl, FN.out⟩
    · have s1 : a1 - 1 = 0 := by have := HN.out; have := HP.out; omega
      have s0 : S0 = 0 := by have := HS0.out; omega
      rw [decide_eq_false hM] at CO9
      subst s0
      go_wp2_with fail
      refine (CO9.out _ _ _ HI.out).mono ?_
      rintro e y3 ⟨⟨n, rfl⟩, hy3⟩
      subst y3
      clear CC9 CO9
      by_cases hG : G = 1
      · subst hG
        have CL9 := CS
        clear CLa g1
        go_wp2_with fail
        refine (CP9.out _ _ _ HI.out).mono ?_
        rintro e y4 ⟨rfl, hy4⟩
        subst y4
        go_wp2_with fail
        refine (CL9.out _ _ HR.out hc).mono ?_
        rintro e y5 ⟨rfl, H5⟩
        have H5 := hid H5
        go_wp2_with fail
        refine (CX9.out _ _ H5.out).mono ?_
        rintro e y6 ⟨rfl, H6⟩
        have H6 := hid H6
        go_wp2_with fail
        refine (CA9.out _ _ H6.out).mono ?_
        rintro e y7 ⟨rfl, H7⟩
        have H7 := hid H7
        go_wp2_with fail
        refine (CR9.out _ _ H7.out).mono ?_
        rintro e y8 ⟨rfl, hy8⟩
        subst y8
        go_wp2_with fail
        refine (gturns _ _).mono ?_
        rintro e y9 ⟨rfl, hy9⟩
        subst y9
        have FN := hid (QE.out _ _ H7.out)
        clear H5 H6 H7 HR HI CP9 CL9 CX9 CA9 CR9 QE
        go_wp2
        go_ret
        exact ⟨rfl, FN.out⟩
      · have CL9 := hid (CLa.out 0 (by rw [if_neg hG]))
        have z1 : 1 ≤ G - 1 := by have := HN.out; omega
        clear CLa CS
        go_wp2_with fail
        refine (CP9.out _ _ _ HI.out).mono ?_
        rintro e y4 ⟨rfl, hy4⟩
        subst y4
        go_wp2_with fail
        refine (CL9.out _ _ HR.out hc).mono ?_
        rintro e y5 ⟨rfl, H5⟩
        have H5 := hid H5
        go_wp2_with fail
        refine (CX9.out _ _ H5.out).mono ?_
        rintro e y6 ⟨rfl, H6⟩
        have H6 := hid H6
        go_wp2_with fail
        refine (CA9.out _ _ H6.out).mono ?_
        rintro e y7 ⟨rfl, H7⟩
        have H7 := hid H7
        go_wp2_with fail
        refine (CR9.out _ _ H7.out).mono ?_
        rintro e y8 ⟨rfl, hy8⟩
        subst y8
        go_wp2_with fail
        refine (gturns _ _).mono ?_
        rintro e y9 ⟨rfl, hy9⟩
        subst y9
        have FN := hid (QE.out _ _ H7.out)
        clear H5 H6 H7 HR HI CP9 CL9 CX9 CA9 CR9 QE
        go_wp2
        go_ret
        exact ⟨rfl, FN.out⟩
theorem walk (a0 a1 a2 : Int) (w : World) (w0 : (Lit.int .i64 a0).wf = true) (w1 : (Lit.int .i64 a1).wf = true) (w2 : (Lit.int .i64 a2).wf = true) (T0 : DbTab w) (T2 : EvNames w) (T3 : EvSteps w) (T1 : MaPlaces w) :
    Calls Tryz.prog 3 #[.int .i64 a0, .int .i64 a1, .int .i64 a2] w fun e w' => e = .returned (.bool true) ∧ Below w.heap.size w w' := by
  have LV := hid (lives20 w T1 T2 T3 T1.lt T2.lt T3.lt)
  by_cases hok : OkC a0 a1 a2
  · have hok' := hok
    obtain ⟨h1, h2, h3, h4, h5, h6⟩ := hok'
    obtain ⟨P, rfl⟩ : ∃ P : Nat, a0 = P := ⟨a0.toNat, by omega⟩
    obtain ⟨M, rfl⟩ : ∃ M : Nat, a1 = M := ⟨a1.toNat, by omega⟩
    exact walk_yes P M _ _ a2 rfl rfl w LV ⟨T0, T2, T3⟩ hok
  · exact walk_no a0 a1 a2 w LV hok
end Go.Proofs.YtfpkgkjmpcoppaaGreatDoor.worldConfigs
