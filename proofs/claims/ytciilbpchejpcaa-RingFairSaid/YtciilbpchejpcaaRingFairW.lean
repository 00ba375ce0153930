/- The walk of the statement RingFair: the law answers true and turns nothing that was there. -/
import Derived.Test.YtciilbpchejpcaaLives06
import Derived.OpenShut
namespace Go.Proofs.Ytciilbpchejpcaa.ringFair
open Go.RowKit
set_option linter.unusedVariables false
set_option linter.unusedSimpArgs false
/-- The row behind c takes of it: first what is left of the old ones, then new ones. -/
def Fair (k c : Nat) (xs : List Int) : Prop := xs.length = k ∧ ∀ t, t < k → (c + t < k → xs.getD t 0 = ((c + t + 1 : Nat) : Int)) ∧ (k ≤ c + t → 1000 ≤ xs.getD t 0 ∧ xs.getD t 0 ≤ 100000)
theorem fair_start (k : Nat) : Fair k 0 (row6L 1 k) := by
  refine ⟨row6_length _ _, fun t ht => ⟨fun _ => ?_, fun h => by omega⟩⟩
  simp [row6L, ht]
  omega
theorem fair_pop {k c : Nat} {x nx : Int} {xt : List Int} (h : Fair k c (x :: xt)) (hn : 1000 ≤ nx) (hn2 : nx ≤ 100000) : (c < k → x = ((c + 1 : Nat) : Int)) ∧ (k ≤ c → 1000 ≤ x ∧ x ≤ 100000) ∧ Fair k (c + 1) (xt ++ [nx]) := by
  have hl := h.1
  rw [List.length_cons] at hl
  have h0 := h.2 0 (by omega)
  refine ⟨fun hc => by simpa using h0.1 (by omega), fun hc => by simpa using h0.2 (by omega), by rw [List.length_append]; simpa using hl, fun t ht => ?_⟩
  by_cases e : t < xt.length
  · have h1 := h.2 (t + 1) (by omega)
    rw [List.getD_cons_succ] at h1
    have e1 : (xt ++ [nx]).getD t 0 = xt.getD t 0 := by simp [List.getElem?_append_left e]
    rw [e1]
    exact ⟨fun hc => by rw [h1.1 (by omega)]; congr 1; omega, fun hc => h1.2 (by omega)⟩
  · have et : t = xt.length := by omega
    have e1 : (xt ++ [nx]).getD t 0 = nx := by subst et; simp
    rw [e1]
    exact ⟨fun hc => by omega, fun _ => ⟨hn, hn2⟩⟩

set_option maxHeartbeats 4000000 in
theorem walk (a0 : Int) (w : World) (w0 : (Lit.int .u8 a0).wf = true) :
    Calls Try.prog 10 #[.int .u8 a0] w fun e w' => e = .returned (.bool true) ∧ Below w.heap.size w w' := by
  have hb8 := bounds_u8 w0
  have h0 := hb8.1
  have h1 := hb8.2
  obtain ⟨k, hk⟩ : ∃ k : Nat, a0 % 40 = k := ⟨(a0 % 40).toNat, by omega⟩
  have hk1 : k ≤ 39 := by omega
  have HK := hid hk
  have RW := hid (fun w => row6 1 k (by omega) (by omega) (by omega) w)
  clear w0 hb8 hk
  go_enter Try.func10, Try.ntmps10
  go_wp2_with fail
  refine (lives6 _).mono ?_
  rintro e w1 ⟨rfl, hb1⟩
  have hs1 := hb1.size
  go_wp2_with fail
  refine (new_r _).mono ?_
  rintro e w2 ⟨p, rfl, hr2, hp, hb2⟩
  have R2 := hid hr2
  have hp' : w.heap.size ≤ p := by omega
  have hs2 := hb2.size
  have B2 : Below w.heap.size w w2 := hb1.trans (hb2.mono hs1)
  clear hr2 hb2 hb1
  go_wp2_with fail
  rw [HK.out]
  refine (RW.out _).mono ?_
  rintro e w3 ⟨v3, rfl, ho3, hb3⟩
  have R3 := hid (R2.out.below hb3)
  have hplt := R2.out.lt
  have HS3 := hid (ho3.stay (p := p) (r := none) hplt (fun q hq => by cases hq))
  have hs3 := hb3.size
  have B3 : Below w.heap.size w w3 := B2.trans (hb3.mono (by omega))
  have HF0 := hid (fair_start k)
  have HLR := hid (row6_length 1 k)
  obtain ⟨ys, hys⟩ : ∃ ys, ys = row6L 1 k := ⟨_, rfl⟩
  rw [← hys] at HS3 HF0 HLR
  obtain ⟨va, vc, rfl⟩ := ho3.reads_n (row6_length 1 k)
  clear ho3 hb3 hys
  go_wp2_with fail
  refine (putall_r p [] ys _ 0 false 0 _ R3.out HS3.out (by have := HLR.out; omega)).mono ?_
  rintro e w4 ⟨v4, rfl, ho4, hr4, hx4⟩
  have hd : ys.drop (256 - ([] : List Int).length) = [] := List.drop_eq_nil_of_le (by have := HLR.out; simp; omega)
  have ht : ([] : List Int) ++ ys.take (256 - ([] : List Int).length) = ys := by rw [List.nil_append]; exact List.take_of_length_le (by have := HLR.out; simp; omega)
  rw [hd] at ho4
  rw [ht] at hr4
  obtain ⟨va4, vc4, rfl⟩ := ho4.reads_n (show ([] : List Int).length = 0 from rfl)
  have R4 := hid hr4
  have hs4 := hx4.size
  have B4 : Below w.heap.size w w4 := B3.trans (hx4.low hp' (by omega))
  clear ho4 hr4 hx4 hd ht
  go_wp2_with fail
  refine (ready_no p ys 0 0 1000 _ R4.out).mono ?_
  rintro e w5 ⟨v5, rfl, ho5, hr5, hx5⟩
  obtain ⟨va5, vm5, vc5, rfl⟩ := ho5.slice3
  have R5 := hid hr5
  have hs5 := hx5.size
  have B5 : Below w.heap.size w w5 := B4.trans (hx5.low hp' (by omega))
  clear ho5 hr5 hx5
  go_wp2_with fail
  by_cases hk0 : k = 0
  · subst hk0
    have hy0 : ys = [] := List.length_eq_zero_iff.1 HLR.out
    subst hy0
    rw [show (5 * ((0 : Nat) : Int)) = 0 from rfl, show ((0 : Int) + 5) = 5 from rfl, show ((0 : Nat) : Int) = 0 from rfl]
    go_loopw [5, 6, 28] (fun nx fd i wr => ∃ (j : Nat) (v : Int), j ≤ 5 ∧ 1000 ≤ v ∧ v ≤ 1000 + (j : Int) ∧ i = .int .i64 j ∧ nx = .int .i64 v ∧ fd = .int .i64 0 ∧ Hid (Rg wr p [] v true 0) ∧ w.heap.size ≤ wr.heap.size ∧ Below w.heap.size w wr)
      (fun _ _ i _ => 5 - (intOf i).toNat)
    case atStart => exact ⟨0, 1000, by omega, by omega, by omega, rfl, rfl, rfl, R5, by omega, B5⟩
    case round =>
      clear R5 B5
      obtain ⟨j, v, hj, hv1, hv2, rfl, rfl, rfl, R, hsz, hbr⟩ := hrel
      have hv3 : v ≤ 2000 := by omega
      have HV := hid hv2
      clear hv2
      by_cases hlt : j < 5
      · go_wp2_with fail
        refine (get_last p _ 0 _ R.out).mono ?_
        rintro e w6 ⟨rfl, hr6, hx6⟩
        have R6 := hid hr6
        have hs6 := hx6.size
        have B6 := hbr.trans (hx6.low hp' (by omega))
        clear hr6 hx6
        go_wp2_with fail
        refine (ready_no p [] 0 0 (v + 1) _ R6.out).mono ?_
        rintro e w7 ⟨v7, rfl, ho7, hr7, hx7⟩
        obtain ⟨va7, vm7, vc7, rfl⟩ := ho7.slice3
        have R7 := hid hr7
        have hs7 := hx7.size
        have B7 := B6.trans (hx7.low hp' (by omega))
        clear ho7 hr7 hx7
        go_wp2
        go_roundw
        case rel => exact ⟨j + 1, v + 1, by omega, by omega, by have := HV.out; omega, by go_num, rfl, rfl, R7, by omega, B7⟩
        case measure => simp [intOf]; omega
      · go_wp2
        go_ret
        exact ⟨rfl, hbr⟩
  · have hk0' : 0 < k := by omega
    clear hk0
    go_loopw [5, 6, 28] (fun nx fd i wr => ∃ (j c s f : Nat) (v : Int) (xs : List Int), 1000 ≤ v ∧ v ≤ 1000 + (j : Int) ∧ j ≤ 5 * k + 5 ∧ j = 5 * c + s ∧ s ≤ 4 ∧ Hid (f = min c k) ∧ f ≤ k ∧ i = .int .i64 j ∧ nx = .int .i64 v ∧ fd = .int .i64 f ∧ Hid (Fair k c xs) ∧ Hid (Rg wr p xs v true s) ∧ w.heap.size ≤ wr.heap.size ∧ Below w.heap.size w wr)
      (fun _ _ i _ => 5 * k + 5 - (intOf i).toNat)
    case atStart => exact ⟨0, 0, 0, 0, 1000, ys, by omega, by omega, by omega, by omega, by omega, hid (by omega), by omega, rfl, rfl, rfl, HF0, R5, by omega, B5⟩
    case round =>
      clear R5 B5 HF0
      obtain ⟨j, c, s, f, v, xs, hv1, hv2, hj, hjc, hs, HFM, hfk, rfl, rfl, rfl, HF, R, hsz, hbr⟩ := hrel
      have HJC := hid hjc
      have hjb : j ≤ 200 := by omega
      have hv3 : v ≤ 2000 := by omega
      have HV := hid hv2
      clear hv2
      by_cases hlt : j < 5 * k + 5
      · have hlti : (j : Int) < 5 * (k : Int) + 5 := by omega
        by_cases h4 : s < 4
        · clear hjc
          go_wp2_with fail
          refine (get_inherit p xs _ (s : Int) _ R.out (by have := HF.out.1; omega) (by omega) (by omega)).mono ?_
          rintro e w6 ⟨rfl, hr6, hx6⟩
          have R6 := hid hr6
          have hs6 := hx6.size
          have B6 := hbr.trans (hx6.low hp' (by omega))
          clear hr6 hx6
          go_wp2_with fail
          refine (ready_no p xs 0 ((s : Int) + 1) (v + 1) _ R6.out).mono ?_
          rintro e w7 ⟨v7, rfl, ho7, hr7, hx7⟩
          obtain ⟨va7, vm7, vc7, rfl⟩ := ho7.slice3
          have R7 := hid (show Rg w7 p xs (v + 1) true ((s + 1 : Nat) : Int) from hr7)
          have hs7 := hx7.size
          have B7 := B6.trans (hx7.low hp' (by omega))
          clear ho7 hr7 hx7
          go_wp2
          go_roundw
          case rel => exact ⟨j + 1, c, s + 1, f, v + 1, xs, by omega, by have := HV.out; omega, by omega, by have := HJC.out; omega, by omega, HFM, hfk, by go_num, rfl, rfl, HF, R7, by omega, B7⟩
          case measure => simp [intOf]; omega
        · have hs4 : s = 4 := by omega
          subst hs4
          rcases xs with _ | ⟨x, xt⟩
          · exfalso; have := HF.out.1; simp at this; omega
          · obtain ⟨p1, p2, p3⟩ := fair_pop (nx := v) HF.out (by omega) (by omega)
            have HF' := hid p3
            by_cases hck : c < k
            · have hx := p1 hck
              have hfc : f = c := by have := HFM.out; omega
              subst hfc
              subst hx
              have HFM' := hid (show f + 1 = min (f + 1) k by omega)
              have t2 : ¬ (5 * ((f : Int) + 1) ≤ (j : Int)) := by omega
              obtain ⟨g, hg⟩ : ∃ g : Int, g = ((f + 1 : Nat) : Int) := ⟨_, rfl⟩
              have R' := hid R.out
              rw [← hg] at R'
              have tg : g < 1000 := by omega
              have tne : (g != (f : Int) + 1) = false := by rw [hg]; simp
              clear p1 p2 p3 hjc h4 R HF hg
              go_wp2_with fail
              refine (get_row_yes p _ xt _ 4 _ R'.out (by omega)).mono ?_
              rintro e w6 ⟨rfl, hr6, hx6⟩
              have R6 := hid hr6
              have hs6 := hx6.size
              have B6 := hbr.trans (hx6.low hp' (by omega))
              clear hr6 hx6
              go_wp2_with fail
              refine (ready_no p _ 0 0 (v + 1) _ R6.out).mono ?_
              rintro e w7 ⟨v7, rfl, ho7, hr7, hx7⟩
              obtain ⟨va7, vm7, vc7, rfl⟩ := ho7.slice3
              have R7 := hid (show Rg w7 p (xt ++ [v]) (v + 1) true ((0 : Nat) : Int) from hr7)
              have hs7 := hx7.size
              have B7 := B6.trans (hx7.low hp' (by omega))
              clear ho7 hr7 hx7
              go_wp2
              go_roundw
              case rel => exact ⟨j + 1, f + 1, 0, f + 1, v + 1, _, by omega, by have := HV.out; omega, by omega, by have := HJC.out; omega, by omega, HFM', by omega, by go_num, rfl, by go_num, HF', R7, by omega, B7⟩
              case measure => simp [intOf]; omega
            · have hx := p2 (by omega)
              have hx1 := hx.1
              have hx2 := hx.2
              have HFM' := hid (show f = min (c + 1) k by have := HFM.out; omega)
              clear p1 p2 p3 hjc h4 HF hx
              go_wp2_with fail
              refine (get_row_yes p _ xt _ 4 _ R.out (by omega)).mono ?_
              rintro e w6 ⟨rfl, hr6, hx6⟩
              have R6 := hid hr6
              have hs6 := hx6.size
              have B6 := hbr.trans (hx6.low hp' (by omega))
              clear hr6 hx6
              go_wp2_with fail
              refine (ready_no p _ 0 0 (v + 1) _ R6.out).mono ?_
              rintro e w7 ⟨v7, rfl, ho7, hr7, hx7⟩
              obtain ⟨va7, vm7, vc7, rfl⟩ := ho7.slice3
              have R7 := hid (show Rg w7 p (xt ++ [v]) (v + 1) true ((0 : Nat) : Int) from hr7)
              have hs7 := hx7.size
              have B7 := B6.trans (hx7.low hp' (by omega))
              clear ho7 hr7 hx7
              go_wp2
              go_roundw
              case rel => exact ⟨j + 1, c + 1, 0, f, v + 1, _, by omega, by have := HV.out; omega, by omega, by have := HJC.out; omega, by omega, HFM', by omega, by go_num, rfl, rfl, HF', R7, by omega, B7⟩
              case measure => simp [intOf]; omega
      · have hfk' : f = k := by have := HFM.out; omega
        subst hfk'
        go_wp2
        go_ret
        exact ⟨rfl, hbr⟩
end Go.Proofs.Ytciilbpchejpcaa.ringFair
