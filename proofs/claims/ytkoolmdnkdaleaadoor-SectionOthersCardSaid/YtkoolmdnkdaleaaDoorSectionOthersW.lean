/- The walk of the statement SectionOthers: the law answers true and turns nothing that was there. -/
import Derived.Test.YtkoolmdnkdaleaaDoorSect2
import Derived.OpenShut
namespace Go.Proofs.YtkoolmdnkdaleaaDoor.sectionOthers
open Go.RowKit
set_option linter.unusedVariables false
set_option linter.unusedSimpArgs false

set_option maxHeartbeats 8000000 in
theorem walk (a0 : Int) (w : World) (w0 : (Lit.int .u8 a0).wf = true) (T1 : WdTab w) :
    Calls Tryd.prog 4 #[.int .u8 a0] w fun e w' => e = .returned (.bool true) ∧ Below w.heap.size w w' := by
  have HT := hid T1
  have hb0 := bounds_u8 w0
  have h0 := hb0.1
  have h1 := hb0.2
  obtain ⟨N, hN⟩ : ∃ N : Nat, a0 % 4 = N := ⟨(a0 % 4).toNat, by omega⟩
  have hN4 : N ≤ 3 := by omega
  clear T1 w0 hb0
  have HF := hid (show inU 0 by unfold inU; omega)
  go_enter Tryd.func4, Tryd.ntmps4
  go_wp2_with fail
  refine (lives18 _ HT.out).mono ?_
  rintro e wl ⟨rfl, hbl⟩
  have BL := hid hbl
  clear hbl
  go_wp2_with fail
  refine (new_z 8 8 rfl _).mono ?_
  rintro e w1 ⟨b, g, xs, rfl, hm1, hl1, hz1, hb1, hg1, hB1⟩
  have M1 := hid (show Me w w1 b g xs 0 from ⟨⟨0, by omega, hm1⟩, hl1, BL.out.trans (hB1.mono BL.out.size), Nat.le_trans BL.out.size hb1, Nat.le_trans BL.out.size hg1, HT.out.at (BL.out.trans (hB1.mono BL.out.size)), HT.out.lt⟩)
  have HZ := hid hz1
  clear hm1 hl1 hz1 hb1 hg1 hB1
  go_wp2_with fail
  refine (lock18 _ M1.out.T).mono ?_
  rintro e w2 ⟨rfl, hb2⟩
  have B2 := hid hb2
  clear hb2
  go_wp2_with fail
  refine (begin_any 2 5 _).mono ?_
  rintro e w3 ⟨rfl, hb3⟩
  have B3 := hid (B2.out.trans (hb3.mono B2.out.size))
  clear hb3
  go_wp2_with fail
  obtain ⟨w4, hw4⟩ : ∃ w4, w4 = w3.alloc (.cells #[.int .i64 2, .int .i64 5, .int .i64 0, .int .u64 0, .int .i64 0] 29) := ⟨_, rfl⟩
  obtain ⟨s, hs⟩ : ∃ s, s = w3.heap.size := ⟨_, rfl⟩
  rw [← hw4, ← hs]
  have NEW := hid (al_new M1.out B3.out hw4 (HZ.out _) (HZ.out _))
  rw [← hs] at NEW
  have A0 := hid NEW.out.1
  have M0 := hid NEW.out.2.1
  have HS := hid (⟨NEW.out.2.2.1, NEW.out.2.2.2.1, NEW.out.2.2.2.2.1⟩ : s ≠ b ∧ s ≠ g ∧ w.heap.size ≤ s)
  clear hw4 hs NEW M1 B2 B3
  simp only [hN]
  clear hN
  go_loopw [15] (fun i wr => ∃ (n q : Nat) (xs : List Int), n ≤ N ∧ q ≤ 2 * n ∧ i = .int .i64 n ∧ Hid (Al wr s 2 5 0 n xs) ∧ Hid (xs.getD 0 0 = 0 ∧ xs.getD 1 0 = 0) ∧ Hid (Me w wr b g xs q)) (fun i _ => N - (intOf i).toNat)
  case atStart => exact ⟨0, 0, xs, by omega, by omega, rfl, A0, ⟨HZ.out _, HZ.out _⟩, M0⟩
  case round =>
    clear A0 M0 HZ xs
    obtain ⟨n, q, xs, hn, hq, rfl, A, Z, M⟩ := hrel
    obtain ⟨wo, rfl⟩ : ∃ wo : World, wo = wr := ⟨_, rfl⟩
    by_cases h4 : n < N
    · have ST := hid (astep A.out M.out HS.out.2.2 HS.out.1 HS.out.2.1 (by omega) (by omega) (by omega) (by omega) (by omega) (by omega) HF.out)
      obtain ⟨r, hr⟩ : ∃ r, r = decide (3 ≤ n) := ⟨_, rfl⟩
      have HR := hid hr
      clear hr
      go_wp2_with fail
      refine ST.out.mono ?_
      rintro e w5 ⟨xs', he, hA, hM, hZ, _⟩
      rw [← HR.out] at he
      obtain rfl := he
      rw [show min (n + 1) 4 = n + 1 by omega] at hA
      have A2 := hid hA
      have M2 := hid hM
      have Z2 := hid (show xs'.getD 0 0 = 0 ∧ xs'.getD 1 0 = 0 from ⟨(hZ 0 (by decide) (by decide)).trans Z.out.1, (hZ 1 (by decide) (by decide)).trans Z.out.2⟩)
      clear hA hM ST hZ
      go_wp2
      go_roundw
      case rel => exact ⟨n + 1, q + 2, xs', by omega, by omega, by go_num, A2, Z2, M2⟩
      case measure => simp [intOf]; omega
    · obtain rfl : n = N := by omega
      go_wp2_with fail
      refine (begin_any 0 1 _).mono ?_
      rintro e w6 ⟨rfl, hb6⟩
      have B6 := hid hb6
      clear hb6
      go_wp2_with fail
      obtain ⟨w7, hw7⟩ : ∃ w7, w7 = w6.alloc (.cells #[.int .i64 0, .int .i64 1, .int .i64 0, .int .u64 0, .int .i64 0] 29) := ⟨_, rfl⟩
      obtain ⟨s2, hs2⟩ : ∃ s2, s2 = w6.heap.size := ⟨_, rfl⟩
      rw [← hw7, ← hs2]
      have NEW := hid (al_new M.out B6.out hw7 Z.out.1 Z.out.2)
      rw [← hs2] at NEW
      have C0 := hid NEW.out.1
      have M0 := hid NEW.out.2.1
      have A0 := hid (A.out.kept (NEW.out.2.2.2.2.2.block _ A.out.lt) rfl rfl)
      have HS2 := hid (⟨NEW.out.2.2.1, NEW.out.2.2.2.1, NEW.out.2.2.2.2.1, by have := B6.out.size; have := A.out.lt; omega⟩ : s2 ≠ b ∧ s2 ≠ g ∧ w.heap.size ≤ s2 ∧ s2 ≠ s)
      clear hw7 hs2 NEW B6 A M Z
      go_loopw [22] (fun i wr => ∃ (m q : Nat) (xs : List Int), m ≤ 4 ∧ q ≤ 100 + 2 * m ∧ i = .int .i64 m ∧ Hid (Al wr s 2 5 0 n xs) ∧ Hid (Al wr s2 0 1 0 m xs) ∧ Hid (Me w wr b g xs q)) (fun i _ => 4 - (intOf i).toNat)
      case atStart => exact ⟨0, q, xs, by omega, by omega, rfl, A0, C0, M0⟩
      case round =>
        clear A0 C0 M0 xs hq q
        obtain ⟨m, q, xs, hm, hq, rfl, A, C, M⟩ := hrel
        obtain ⟨wi, rfl⟩ : ∃ wi : World, wi = wr := ⟨_, rfl⟩
        by_cases hm4 : m < 4
        · have ST := hid (astep C.out M.out HS2.out.2.2.1 HS2.out.1 HS2.out.2.1 (by omega) (by omega) (by omega) (by omega) (by omega) (by omega) HF.out)
          by_cases h3 : m = 3
          · have t : ((m : Int) == 3) = true := by rw [beq_iff_eq]; omega
            have HR := hid (show decide (3 ≤ m) = true by rw [decide_eq_true_eq]; omega)
            clear h3
            go_wp2_with fail
            refine ST.out.mono ?_
            rintro e w8 ⟨xs', he, hA, hM, hZ, ho⟩
            rw [HR.out] at he
            obtain rfl := he
            rw [show min (m + 1) 4 = m + 1 by omega] at hA
            have C2 := hid hA
            have M2 := hid hM
            have A2 := hid (A.out.kept (ho.block _ A.out.lt (Ne.symm HS2.out.2.2.2) HS.out.1 HS.out.2.1) (hZ 2 (by decide) (by decide)) (hZ 5 (by decide) (by decide)))
            clear hA hM ST hZ ho
            go_wp2
            go_roundw
            case rel => exact ⟨m + 1, q + 2, xs', by omega, by omega, by go_num, A2, C2, M2⟩
            case measure => simp [intOf]; omega
          · have t : ((m : Int) == 3) = false := by rw [beq_eq_false_iff_ne]; omega
            have HR := hid (show decide (3 ≤ m) = false by rw [decide_eq_false_iff_not]; omega)
            clear h3
            go_wp2_with fail
            refine ST.out.mono ?_
            rintro e w8 ⟨xs', he, hA, hM, hZ, ho⟩
            rw [HR.out] at he
            obtain rfl := he
            rw [show min (m + 1) 4 = m + 1 by omega] at hA
            have C2 := hid hA
            have M2 := hid hM
            have A2 := hid (A.out.kept (ho.block _ A.out.lt (Ne.symm HS2.out.2.2.2) HS.out.1 HS.out.2.1) (hZ 2 (by decide) (by decide)) (hZ 5 (by decide) (by decide)))
            clear hA hM ST hZ ho
            go_wp2
            go_roundw
            case rel => exact ⟨m + 1, q + 2, xs', by omega, by omega, by go_num, A2, C2, M2⟩
            case measure => simp [intOf]; omega
        · have HM4 := hid (show m = 4 by omega)
          rw [HM4.out] at C
          obtain ⟨m4, hm4e⟩ : ∃ m4 : Nat, m4 = m := ⟨_, rfl⟩
          rw [← hm4e] at hm hm4 hq ⊢
          clear hm4e HM4
          have hq2 : q ≤ 200 := by omega
          clear hq
          go_wp2_with fail
          go_loopw [31] (fun i wr => ∃ (m q : Nat) (xs : List Int), m ≤ 4 ∧ q ≤ 200 + 2 * m ∧ i = .int .i64 m ∧ Hid (Al wr s 2 5 0 (min (n + m) 4) xs) ∧ Hid (Al wr s2 0 1 0 4 xs) ∧ Hid (Me w wr b g xs q)) (fun i _ => 4 - (intOf i).toNat)
          case atStart => exact ⟨0, q, xs, by omega, by omega, rfl, by rw [show min (n + 0) 4 = n by omega]; exact A, C, M⟩
          case round =>
            clear A C M xs hq2 q
            obtain ⟨m, q, xs, hm, hq, rfl, A, C, M⟩ := hrel
            obtain ⟨wj, rfl⟩ : ∃ wj : World, wj = wr := ⟨_, rfl⟩
            by_cases hm4 : m < 4
            · have ST := hid (astep A.out M.out HS.out.2.2 HS.out.1 HS.out.2.1 (by omega) (by omega) (by omega) (by omega) (by omega) (by omega) HF.out)
              obtain ⟨r, hr⟩ : ∃ r, r = decide (3 ≤ min (n + m) 4) := ⟨_, rfl⟩
              have HR := hid hr
              clear hr
              go_wp2_with fail
              refine ST.out.mono ?_
              rintro e w8 ⟨xs', he, hA, hM, hZ, ho⟩
              rw [← HR.out] at he
              obtain rfl := he
              rw [show min (min (n + m) 4 + 1) 4 = min (n + (m + 1)) 4 by omega] at hA
              have A2 := hid hA
              have M2 := hid hM
              have C2 := hid (C.out.kept (ho.block _ C.out.lt HS2.out.2.2.2 HS2.out.1 HS2.out.2.1) (hZ 0 (by decide) (by decide)) (hZ 1 (by decide) (by decide)))
              clear hA hM ST hZ ho
              go_wp2
              go_roundw
              case rel => exact ⟨m + 1, q + 2, xs', by omega, by omega, by go_num, A2, C2, M2⟩
              case measure => simp [intOf]; omega
            · obtain rfl : m = 4 := by omega
              have e4 : min (n + 4) 4 = 4 := by omega
              rw [e4] at A
              have c1 : wj.cell? ⟨s, 2, none⟩ = some (.int .i64 4) := A.out.st
              have c2 : wj.cell? ⟨s, 4, none⟩ = some (.int .i64 1) := A.out.tm
              have c3 : wj.cell? ⟨s2, 4, none⟩ = some (.int .i64 1) := C.out.tm
              clear e4
              go_wp2
              go_ret
              exact ⟨rfl, M.out.B⟩
end Go.Proofs.YtkoolmdnkdaleaaDoor.sectionOthers
