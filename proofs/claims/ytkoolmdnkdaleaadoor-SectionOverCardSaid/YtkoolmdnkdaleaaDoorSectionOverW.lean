/- The walk of the statement SectionOver: the law answers true and turns nothing that was there. -/
import Derived.Test.YtkoolmdnkdaleaaDoorSect3
import Derived.OpenShut
namespace Go.Proofs.YtkoolmdnkdaleaaDoor.sectionOver
open Go.RowKit
set_option linter.unusedVariables false
set_option linter.unusedSimpArgs false

set_option maxHeartbeats 8000000 in
set_option maxRecDepth 100000 in
theorem walk (a0 a1 : Int) (w : World) (w0 : (Lit.int .i64 a0).wf = true) (w1 : (Lit.int .u64 a1).wf = true) (T1 : WdTab w) :
    Calls Tryd.prog 6 #[.int .i64 a0, .int .u64 a1] w fun e w' => e = .returned (.bool true) ∧ Below w.heap.size w w' := by
  have HT := hid T1
  have hb1 := bounds_u64 w1
  have HF := hid (show inU a1 from ⟨hb1.1, by have := hb1.2; omega⟩)
  clear T1 w0 w1 hb1
  go_enter Tryd.func6, Tryd.ntmps6
  go_wp2_with fail
  refine (lives18 _ HT.out).mono ?_
  rintro e wl ⟨rfl, hbl⟩
  have BL := hid hbl
  clear hbl
  go_wp2_with fail
  refine (new_z 8 8 rfl _).mono ?_
  rintro e w1 ⟨b, g, xs, rfl, hm1, hl1, hz1, hb1, hg1, hB1⟩
  have HL := hid hl1
  have BB := hid (BL.out.trans (hB1.mono BL.out.size))
  have HBG := hid (⟨Nat.le_trans BL.out.size hb1, Nat.le_trans BL.out.size hg1⟩ : w.heap.size ≤ b ∧ w.heap.size ≤ g)
  have T1 := hid (HT.out.at BB.out)
  have M1 := hid hm1
  have t0 := T1.out.c0
  have t1 := T1.out.c1
  clear hm1 hl1 hz1 hb1 hg1 hB1
  go_wp2_with fail
  refine (store_in b g xs 0 2 a1 _ M1.out (by omega) (by omega) (by have := HL.out; omega)).mono ?_
  rintro e w2 ⟨rfl, hm2, ho2⟩
  have BB2 := hid (BB.out.trans (ho2.below HBG.out.1 HBG.out.2 BB.out.size))
  have T2 := hid (HT.out.at BB2.out)
  have M2 := hid hm2
  clear hm2 ho2 t0 t1
  have t0 := T2.out.c0
  have t1 := T2.out.c1
  go_wp2_with fail
  refine (store_in b g _ 1 5 a1 _ M2.out (by omega) (by omega) (by have := HL.out; simp; omega)).mono ?_
  rintro e w3 ⟨rfl, hm3, ho3⟩
  have BB3 := hid (BB2.out.trans (ho3.below HBG.out.1 HBG.out.2 BB2.out.size))
  have ME := hid (show Me w w3 b g ((xs.set 2 a1).set 5 a1) 2 from ⟨⟨2, by omega, hm3⟩, by simp [HL.out], BB3.out, HBG.out.1, HBG.out.2, HT.out.at BB3.out, HT.out.lt⟩)
  have HX := hid (show ((xs.set 2 a1).set 5 a1).getD 2 0 = a1 ∧ ((xs.set 2 a1).set 5 a1).getD 5 0 = a1 from
    ⟨by rw [getD_set_ne (by decide), getD_set_eq (by have := HL.out; omega)], getD_set_eq (by have := HL.out; simp; omega)⟩)
  clear hm3 ho3 t0 t1
  go_wp2_with fail
  refine (lock18 _ ME.out.T).mono ?_
  rintro e w4 ⟨rfl, hb4⟩
  have B4 := hid hb4
  clear hb4
  go_wp2_with fail
  refine (begin_any 2 5 _).mono ?_
  rintro e w5 ⟨rfl, hb5⟩
  have B5 := hid (B4.out.trans (hb5.mono B4.out.size))
  clear hb5
  have hmf : ∀ (fn : Fn) (first cap : Array Value) (w : World), (Instr.makeFunc fn first cap).run Tryd.prog w = .ok (.func fn first cap) w := fun _ _ _ _ => rfl
  go_wp2_with fail
  obtain ⟨w6, hw6⟩ : ∃ w6, w6 = w5.alloc (.cells #[.int .i64 2, .int .i64 5, .int .i64 0, .int .u64 0, .int .i64 0] 29) := ⟨_, rfl⟩
  obtain ⟨s, hs⟩ : ∃ s, s = w5.heap.size := ⟨_, rfl⟩
  rw [← hw6, ← hs]
  have NEW := hid (al_new ME.out B5.out hw6 HX.out.1 HX.out.2)
  rw [← hs] at NEW
  have s6 : w6.heap.size = s + 1 := by rw [hw6, hs]; simp
  obtain ⟨w7, hw7⟩ : ∃ w7, w7 = w6.alloc (.cells #[.int .i64 0] 3) := ⟨_, rfl⟩
  obtain ⟨d, hd⟩ : ∃ d, d = s + 1 := ⟨_, rfl⟩
  rw [← hw7, ← hd]
  have hb67 : Below w6.heap.size w6 w7 := by rw [hw7]; exact (Below.refl _ _).alloc (Nat.le_refl _) _
  have A0 := hid (NEW.out.1.kept (hb67.block _ NEW.out.1.lt) rfl rfl)
  have M0 := hid (NEW.out.2.1.below hb67)
  have HS := hid (⟨NEW.out.2.2.1, NEW.out.2.2.2.1, NEW.out.2.2.2.2.1⟩ : s ≠ b ∧ s ≠ g ∧ w.heap.size ≤ s)
  have O0 := hid (show Oc w w7 d 0 from ⟨by rw [hw7, hd, ← s6]; exact Deep.blk_alloc_new _ _, by rw [hd]; have := HS.out.2.2; omega⟩)
  have HD := hid (show d ≠ s ∧ d ≠ b ∧ d ≠ g from by
    obtain ⟨c, _, hm⟩ := NEW.out.2.1.m
    have := hm.sb; have := hm.sg
    omega)
  obtain ⟨ys, hys⟩ : ∃ ys, ys = (xs.set 2 a1).set 5 a1 := ⟨_, rfl⟩
  rw [← hys] at A0 M0
  clear hw6 hs NEW s6 hw7 hd hb67 hys hmf B4 B5 ME HX BB3 M2 M1 T1 T2 BB BB2
  go_loopw [26] (fun i wr => ∃ (n q : Nat) (xs : List Int), n ≤ 4 ∧ q ≤ 2 + 2 * n ∧ i = .int .i64 n ∧ Hid (Al wr s 2 5 a1 n xs) ∧ Hid (Me w wr b g xs q) ∧ Hid (Oc w wr d n)) (fun i _ => 4 - (intOf i).toNat)
  case atStart => exact ⟨0, 2, ys, by omega, by omega, rfl, A0, M0, O0⟩
  case round =>
    clear A0 M0 O0 ys HL xs
    obtain ⟨n, q, xs, hn, hq, rfl, A, M, O⟩ := hrel
    obtain ⟨wo, rfl⟩ : ∃ wo : World, wo = wr := ⟨_, rfl⟩
    by_cases h4 : n < 4
    · have ST := hid (ostep A.out M.out O.out h4 HS.out.2.2 HS.out.1 HS.out.2.1 HD.out.1 HD.out.2.1 HD.out.2.2 (by omega) (by omega) (by omega) (by omega) (by omega) (by omega) HF.out)
      obtain ⟨r, hr⟩ : ∃ r, r = decide (3 ≤ n) := ⟨_, rfl⟩
      have HR := hid hr
      clear hr
      go_wp2_with fail
      refine ST.out.mono ?_
      rintro e w5 ⟨xs', he, hA, hM, hO⟩
      rw [← HR.out] at he
      obtain rfl := he
      have A2 := hid hA
      have M2 := hid hM
      have O2 := hid hO
      clear hA hM ST hO
      go_wp2
      go_roundw
      case rel => exact ⟨n + 1, q + 2, xs', by omega, by omega, by go_num, A2, M2, O2⟩
      case measure => simp [intOf]; omega
    · have HN4 := hid (show n = 4 by omega)
      rw [HN4.out] at A O
      obtain ⟨c, hc, hm⟩ := M.out.m
      have MM := hid hm
      have hcb : c ≤ 100 := by omega
      obtain ⟨tk, hsc, _⟩ := A.out.c
      have SC := hid hsc
      have hl := M.out.l
      have HLN := hid hl
      have k2 : wo.cell? ⟨s, 2, none⟩ = some (.int .i64 4) := A.out.st
      have k4 : wo.cell? ⟨d, 0, none⟩ = some (.int .i64 1) := cell_of_blk (i := 0) O.out.h rfl
      have CN := hid (count_any b g xs c wo MM.out)
      have SO := hid (fun dv => step_over dv SC.out MM.out)
      have t0 := M.out.T.c0
      have t1 := M.out.T.c1
      obtain ⟨v, hv⟩ : ∃ v, v = U (a1 + 1) := ⟨_, rfl⟩
      have HX := hid (show xs.getD 2 0 = v ∧ xs.getD 5 0 = v from ⟨A.out.hn.trans hv.symm, A.out.hs.trans hv.symm⟩)
      have e1 : IntKind.u64.wrap (a1 + 1) = v := hv.symm
      have tv : (v != v) = false := by simp
      have tc : ((c : Int) != c) = false := by simp
      have BO := hid M.out.B
      clear hc hm hsc hl hv hq
      go_wp2_with fail
      refine CN.out.mono ?_
      rintro e w5 ⟨rfl, rfl⟩
      go_wp2_with fail
      refine (SO.out _).mono ?_
      rintro e w5 ⟨rfl, rfl⟩
      go_wp2_with fail
      refine CN.out.mono ?_
      rintro e w5 ⟨rfl, rfl⟩
      go_wp2_with fail
      refine (load_v b g xs c 2 v _ MM.out (by omega) (by omega) (by have := HLN.out; omega) HX.out.1).mono ?_
      rintro e w6 ⟨rfl, hm6, ho6⟩
      have M6 := hid hm6
      have S6 := hid (SC.out.kept (ho6.block s SC.out.lt HS.out.1 HS.out.2.1))
      have O6 := hid (O.out.kept (m := 4) (ho6.block d O.out.lt HD.out.2.1 HD.out.2.2) rfl)
      have B6 := hid (BO.out.trans (ho6.below M.out.hb M.out.hg BO.out.size))
      have T6 := hid (HT.out.at B6.out)
      clear hm6 ho6 k2 k4 t0 t1 CN SO
      have t1 := T6.out.c1
      go_wp2_with fail
      refine (load_v b g xs (c + 1) 5 v _ M6.out (by omega) (by omega) (by have := HLN.out; omega) HX.out.2).mono ?_
      rintro e w7 ⟨rfl, hm7, ho7⟩
      have M7 := hid hm7
      have S7 := hid (S6.out.kept (ho7.block s S6.out.lt HS.out.1 HS.out.2.1))
      have O7 := hid (O6.out.kept (m := 4) (ho7.block d O6.out.lt HD.out.2.1 HD.out.2.2) rfl)
      have B7 := hid (B6.out.trans (ho7.below M.out.hb M.out.hg B6.out.size))
      clear hm7 ho7 t1
      by_cases hin : 0 ≤ a0 ∧ a0 < 4
      · have i1 := hin.1
        have i2 := hin.2
        clear hin
        go_wp2
        go_ret
        exact ⟨rfl, B7.out⟩
      · have k2 := S7.out.c2
        have kf := S7.out.fz 2
        rw [Nat.zero_add] at k2
        obtain ⟨w8, hw8⟩ : ∃ w8, w8 = w7.setCell ⟨s, 2, none⟩ (.int .i64 a0) := ⟨_, rfl⟩
        have S8 := hid (show Sct w8 s 0 2 5 a0 tk 1 by rw [hw8]; exact S7.out.stage a0)
        have M8 := hid (show Mem w8 b g xs (c + 1 + 1) by rw [hw8]; exact mem_set M7.out HS.out.1 HS.out.2.1)
        have O8 := hid (O7.out.kept (m := 4) (w' := w8) (by rw [hw8]; exact Below.heap_setCell _ _ _ _ HD.out.1) rfl)
        have B8 := hid (show Below w.heap.size w w8 by rw [hw8]; exact B7.out.setCell HS.out.2.2 (.int .i64 a0))
        have CN2 := hid (count_any b g xs (c + 1 + 1) w8 M8.out)
        rcases (show a0 < 0 ∨ 4 ≤ a0 by omega) with hnin | hnin
        · have h4a : ¬ a0 = 4 := by omega
          go_wp2_with fail
          rw [← hw8]
          clear hw8 k2 kf
          have t4 : (a0 == 4) = false := by rw [beq_eq_false_iff_ne]; exact h4a
          have SN := hid (fun dv => step_none (b := b) dv a0 S8.out (by omega))
          have k5 := S8.out.c2
          have k6 : w8.cell? ⟨d, 0, none⟩ = some (.int .i64 1) := cell_of_blk (i := 0) O8.out.h rfl
          have te : (a0 == a0) = true := by simp
          have tc2 : (((c + 1 + 1 : Nat) : Int) == ((c + 1 + 1 : Nat) : Int)) = true := by simp
          clear h4a
          refine CN2.out.mono ?_
          rintro e w9 ⟨rfl, rfl⟩
          go_wp2_with fail
          refine (SN.out _).mono ?_
          rintro e w9 ⟨rfl, rfl⟩
          go_wp2_with fail
          refine CN2.out.mono ?_
          rintro e w9 ⟨rfl, rfl⟩
          go_wp2
          go_ret
          exact ⟨rfl, B8.out⟩
        · have hnn : 0 ≤ a0 := by omega
          go_wp2_with fail
          rw [← hw8]
          clear hw8 k2 kf
          by_cases h4a : a0 = 4
          · have t4 : (a0 == 4) = true := by rw [beq_iff_eq]; omega
            have SN := hid (fun dv => step_over (b := b) dv (by have := S8.out; rw [h4a] at this; exact this) M8.out)
            have k5 := S8.out.c2
            have k6 : w8.cell? ⟨d, 0, none⟩ = some (.int .i64 1) := cell_of_blk (i := 0) O8.out.h rfl
            have te : (a0 == a0) = true := by simp
            have tc2 : (((c + 1 + 1 : Nat) : Int) == ((c + 1 + 1 : Nat) : Int)) = true := by simp
            clear h4a
            refine CN2.out.mono ?_
            rintro e w9 ⟨rfl, rfl⟩
            go_wp2_with fail
            refine (SN.out _).mono ?_
            rintro e w9 ⟨rfl, rfl⟩
            go_wp2_with fail
            refine CN2.out.mono ?_
            rintro e w9 ⟨rfl, rfl⟩
            go_wp2
            go_ret
            exact ⟨rfl, B8.out⟩
          · have t4 : (a0 == 4) = false := by rw [beq_eq_false_iff_ne]; exact h4a
            have SN := hid (fun dv => step_none (b := b) dv a0 S8.out (by omega))
            have k5 := S8.out.c2
            have k6 : w8.cell? ⟨d, 0, none⟩ = some (.int .i64 1) := cell_of_blk (i := 0) O8.out.h rfl
            have te : (a0 == a0) = true := by simp
            have tc2 : (((c + 1 + 1 : Nat) : Int) == ((c + 1 + 1 : Nat) : Int)) = true := by simp
            clear h4a
            refine CN2.out.mono ?_
            rintro e w9 ⟨rfl, rfl⟩
            go_wp2_with fail
            refine (SN.out _).mono ?_
            rintro e w9 ⟨rfl, rfl⟩
            go_wp2_with fail
            refine CN2.out.mono ?_
            rintro e w9 ⟨rfl, rfl⟩
            go_wp2
            go_ret
            exact ⟨rfl, B8.out⟩
end Go.Proofs.YtkoolmdnkdaleaaDoor.sectionOver
