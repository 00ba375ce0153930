/- The walk of the statement RingHalves: the law answers true and turns nothing that was there. -/
import Derived.Test.YtciilbpchejpcaaLives06
import Derived.OpenShut
namespace Go.Proofs.Ytciilbpchejpcaa.ringHalves
open Go.RowKit
set_option linter.unusedVariables false
set_option linter.unusedSimpArgs false
theorem row6_take (f : Int) (n m : Nat) (h : m ≤ n) : (row6L f n).take m = row6L f m := by
  simp only [row6L, ← List.map_take, List.take_range, Nat.min_eq_left h]
theorem row6_drop (f : Int) (n m : Nat) : (row6L f (m + n)).drop m = row6L (f + m) n := by
  apply List.ext_getElem?
  intro i
  rw [List.getElem?_drop]
  by_cases hi : i < n
  · simp [row6L, hi, Int.add_assoc]
  · rw [List.getElem?_eq_none (by rw [row6_length]; omega), List.getElem?_eq_none (by rw [row6_length]; omega)]
theorem reads_pre {w : World} {a : Option Addr} {n c : Nat} {xs : List Int} (h : Reads w (.slice a n c) xs) {k : Nat} (hk : k ≤ xs.length) : Reads w (.slice a k c) (xs.take k) := by
  obtain ⟨a', c', he, _⟩ := id h
  simp only [Value.slice.injEq] at he
  rw [he.2.1] at h
  exact reads_take h hk
theorem cap_of {w : World} {a : Option Addr} {n c : Nat} {xs : List Int} (h : Reads w (.slice a n c) xs) : n ≤ c ∧ c ≤ 9223372036854775807 := by
  obtain ⟨a', c', he, hcap, _⟩ := h
  simp only [Value.slice.injEq] at he
  have h1 := hcap.1
  have h2 := hcap.2.1
  unfold maxLen at h2
  omega

set_option maxHeartbeats 8000000 in
theorem walk_no (a0 : Int) (w : World) (w0 : (Lit.int .u16 a0).wf = true) :
    Calls Try.prog 11 #[.int .u16 a0, .bool false] w fun e w' => e = .returned (.bool true) ∧ Below w.heap.size w w' := by
  have hb16 := bounds_u16 w0
  have h0 := hb16.1
  have h1 := hb16.2
  obtain ⟨k, hk⟩ : ∃ k : Nat, a0 % 257 = k := ⟨(a0 % 257).toNat, by omega⟩
  have hk1 : k ≤ 256 := by omega
  have HK := hid hk
  have RW := hid (fun w => row6 0 k (by omega) (by omega) (by omega) w)
  clear w0 hb16 hk
  go_enter Try.func11, Try.ntmps11
  go_wp2_with fail
  refine (lives6 _).mono ?_
  rintro e w1 ⟨rfl, hb1⟩
  have hs1 := hb1.size
  go_wp2_with fail
  refine (new_r _).mono ?_
  rintro e w2 ⟨p, rfl, hr2, hp, hb2⟩
  have R2 := hid hr2
  have hp' : w.heap.size ≤ p := by omega
  have hs2 := hb2.size
  have B2 : Below w.heap.size w w2 := hb1.trans (hb2.mono hs1)
  have hplt := hr2.lt
  clear hr2 hb2 hb1
  go_wp2_with fail
  rw [HK.out]
  refine (RW.out _).mono ?_
  rintro e w3 ⟨v3, rfl, ho3, hb3⟩
  have R3 := hid (R2.out.below hb3)
  have HS3 := hid (ho3.stay (p := p) (r := none) hplt (fun q hq => by cases hq))
  have hs3 := hb3.size
  have B3 : Below w.heap.size w w3 := B2.trans (hb3.mono (by omega))
  obtain ⟨va, vc, rfl⟩ := ho3.reads_n (row6_length 0 k)
  obtain ⟨ys, hys⟩ : ∃ ys, ys = row6L 0 k := ⟨_, rfl⟩
  have HYS := hid hys
  have HYL := hid (show ys.length = k by rw [hys, row6_length])
  rw [← hys] at HS3
  clear ho3 hb3 hys RW
  go_wp2_with fail
  refine (putall_r p [] ys _ 0 false 0 _ R3.out HS3.out (by have := HYL.out; omega)).mono ?_
  rintro e w4 ⟨v4, rfl, ho4, hr4, hx4⟩
  have ht : ([] : List Int) ++ ys.take (256 - ([] : List Int).length) = ys := by rw [List.nil_append]; exact List.take_of_length_le (by have := HYL.out; simp; omega)
  rw [ht] at hr4
  obtain ⟨va4, vm4, vc4, rfl⟩ := ho4.slice3
  have R4 := hid hr4
  have hs4 := hx4.size
  have B4 : Below w.heap.size w w4 := B3.trans (hx4.low hp' (by omega))
  clear ho4 hr4 hx4 ht
  go_wp2_with fail
  obtain ⟨w5, hw5⟩ : ∃ w5, w5 = w4 := ⟨_, rfl⟩
  have R5 := hid (show Rg w5 p ys 0 false 0 by rw [hw5]; exact R4.out)
  have hs5 : w4.heap.size ≤ w5.heap.size := by rw [hw5]; exact Nat.le_refl _
  have B5 : Below w.heap.size w w5 := by rw [hw5]; exact B4
  rw [← hw5]
  clear hw5
  by_cases hk0 : k = 0
  · subst hk0
    have hy0 : ys = [] := List.length_eq_zero_iff.1 HYL.out
    subst hy0
    refine (steal_none p 0 0 _ R5.out).mono ?_
    rintro e w6 ⟨v6, rfl, ho6, hr6, hx6⟩
    obtain ⟨va6, vc6, rfl⟩ := ho6.reads_n (show ([] : List Int).length = 0 from rfl)
    have R6 := hid hr6
    have B6 : Below w.heap.size w w6 := B5.trans (hx6.low hp' (by omega))
    have LR := hid (len_r p [] _ false 0 _ R6.out 0 (by simp))
    clear ho6 hr6 hx6
    go_wp2_with fail
    refine LR.out.mono ?_
    rintro e w7 ⟨rfl, rfl⟩
    go_wp2
    go_ret
    exact ⟨rfl, B6⟩
  · have hk0' : 0 < k := by omega
    obtain ⟨h, hh⟩ : ∃ h : Nat, h = (k + 1) / 2 := ⟨_, rfl⟩
    obtain ⟨q, hq⟩ : ∃ q : Nat, q = k / 2 := ⟨_, rfl⟩
    have hhk : h + q = k := by omega
    have e1 : (ys.length + 1) / 2 = h := by rw [HYL.out]; exact hh.symm
    have e2 : ys.take h = row6L 0 h := by rw [HYS.out, row6_take _ _ _ (by omega)]
    have e3 : ys.drop h = row6L h q := by
      rw [HYS.out, ← hhk, row6_drop]; simp
    have ST := hid (steal_row p ys 0 false 0 _ R5.out (by have := HYL.out; omega))
    rw [e1, e2, e3] at ST
    have hh1 : ((k : Int) + 1) / 2 = h := by omega
    have hq1 : (k : Int) / 2 = q := by omega
    have hhb : h ≤ 128 := by omega
    have hqb : q ≤ 128 := by omega
    obtain ⟨l, hl⟩ : ∃ l : Nat, l = (allL (row6L h q) 0 false).length := ⟨_, rfl⟩
    have hl2 : l = q + 0 := by rw [hl]; simp [allL, row6_length]
    have HT := hid (show (allL (row6L h q) 0 false).take q = row6L h q by simp only [allL]; rw [if_neg (by simp)]; exact List.take_of_length_le (by rw [row6_length]; omega))
    have HL := hid hl.symm
    have HH := hid hh1
    have HQ := hid hq1
    have RWh := hid (fun w => row6 0 h (by omega) (by omega) (by omega) w)
    have RWq := hid (fun w => row6 (h : Int) q (by omega) (by omega) (by omega) w)
    have HLB := hid (show q ≤ l ∧ l ≤ 129 by omega)
    have LN := hid (fun w H => len_r p (row6L h q) 0 false 0 w H (l : Int) (by rw [row6_length, hl2]; simp))
    clear e1 e2 e3 hh hq hl hl2 hhk HYS HYL hk0 h0 h1 hh1 hq1
    refine ST.out.mono ?_
    rintro e w6 ⟨v6, rfl, ho6, hr6, hx6⟩
    obtain ⟨va6, vc6, rfl⟩ := ho6.reads_n (row6_length 0 h)
    have R6 := hid hr6
    have RD6 := hid ho6.reads
    have hs6 := hx6.size
    have B6 : Below w.heap.size w w6 := B5.trans (hx6.low hp' (by omega))
    have tk0 : ((k : Int) == 0) = false := beq_eq_false_iff_ne.2 (by omega)
    clear ho6 hr6 hx6
    go_wp2_with fail
    refine (next_r p _ _ _ _ _ R6.out).mono ?_
    rintro e w7 ⟨rfl, hq7⟩
    have R7 := hid (R6.out.quiet hq7)
    have RD7 := hid (RD6.out.of_below (hq7.below _))
    have B7 := B6.trans (hq7.below _)
    have hs7 : w6.heap.size ≤ w7.heap.size := by rw [hq7.heap]; omega
    clear hq7
    go_wp2_with fail
    refine (list_r p _ _ _ _ _ R7.out).mono ?_
    rintro e w8 ⟨v8, rfl, ho8, hb8⟩
    have R8 := hid (R7.out.below hb8)
    have RD8 := hid (RD7.out.of_below hb8)
    have B8 : Below w.heap.size w w8 := B7.trans (hb8.mono (by omega))
    have hs8 := hb8.size
    obtain ⟨va8, vc8, rfl⟩ := ho8.reads_n HL.out
    have RL8 := hid ho8.reads
    clear ho8 hb8
    go_wp2_with fail
    rw [HH.out]
    refine (RWh.out _).mono ?_
    rintro e w9 ⟨v9, rfl, ho9, hb9⟩
    have R9 := hid (R8.out.below hb9)
    have RD9 := hid (RD8.out.of_below hb9)
    have RL9 := hid (RL8.out.of_below hb9)
    have B9 : Below w.heap.size w w9 := B8.trans (hb9.mono (by omega))
    have hs9 := hb9.size
    have RO9 := hid ho9.reads
    obtain ⟨va9, vc9, rfl⟩ := ho9.reads_n (row6_length 0 h)
    clear ho9 hb9
    go_wp2_with fail
    refine (same_any _ _ (row6L 0 h) (row6L 0 h) true (by simp) _ RD9.out RO9.out (by rw [row6_length]; omega) (by rw [row6_length]; omega)).mono ?_
    rintro e w10 ⟨rfl, hq10⟩
    have R10 := hid ((R9.out.quiet hq10).quiet (w' := w10.drew) ⟨1, rfl⟩)
    have RL10 := hid ((RL9.out.of_below (hq10.below _)).of_below (w' := w10.drew) (Quiet.below ⟨1, rfl⟩ _))
    have B10 := (B9.trans (hq10.below _)).trans (Quiet.below ⟨1, rfl⟩ _ : Below w.heap.size w10 w10.drew)
    have hs10 : w9.heap.size ≤ w10.drew.heap.size := by rw [show w10.drew.heap = w10.heap from rfl, hq10.heap]; omega
    have LP := hid (reads_pre RL10.out (k := q) (by have := HL.out; have := HLB.out; omega))
    rw [HT.out] at LP
    have hcap := (cap_of RL10.out).1
    have hcm := (cap_of RL10.out).2
    have hqc : (q : Int) ≤ (vc8 : Int) := by have := HLB.out; omega
    have hq0 : (0 : Int) ≤ (q : Int) := by omega
    have hq1 := HQ.out
    have hh1 := HH.out
    have u1 : IntKind.i64.wrap ((k : Int) + 1) = (k : Int) + 1 := IntWalk.i64_in _ (by omega)
    have u2 : IntKind.i64.wrap ((q : Int)) = (q : Int) := IntWalk.i64_in _ (by omega)
    have u3 : IntKind.i64.wrap ((h : Int)) = (h : Int) := IntWalk.i64_in _ (by omega)
    have u4 : ((k : Int)).tdiv 2 = q := by rw [Int.tdiv_eq_ediv_of_nonneg (by omega)]; exact HQ.out
    have u5 : ((k : Int) + 1).tdiv 2 = h := by rw [Int.tdiv_eq_ediv_of_nonneg (by omega)]; exact HH.out
    clear hq10
    go_wp2_with fail
    go_region_with (first
      | (go_at_call 37; refine (RWq.out _).mono ?_; rintro e w11 ⟨v11, rfl, ho11, hb11⟩; have LD11 := hid (LP.out.of_below hb11); have RO11 := hid ho11.reads; have R11 := hid (R10.out.below hb11); have HB11 := hid hb11; obtain ⟨va11, vc11, rfl⟩ := ho11.reads_n (row6_length (h : Int) q); clear ho11 hb11)
      | (go_at_call 25; refine (same_any _ _ (row6L (h : Int) q) (row6L (h : Int) q) true (by simp) _ LD11.out RO11.out (by rw [row6_length]; omega) (by rw [row6_length]; omega)).mono ?_; rintro e w12 ⟨rfl, hq12⟩; have R12 := hid (R11.out.quiet hq12); have HQ12 := hid hq12; clear hq12)
      | (go_at_call 39; refine (LN.out _ R12.out).mono ?_; rintro e w13 ⟨rfl, rfl⟩))
    all_goals
      go_wp2
      go_ret
      exact ⟨rfl, (B10.trans (HB11.out.mono (by omega))).trans (HQ12.out.below _)⟩

set_option maxHeartbeats 8000000 in
theorem walk_yes (a0 : Int) (w : World) (w0 : (Lit.int .u16 a0).wf = true) :
    Calls Try.prog 11 #[.int .u16 a0, .bool true] w fun e w' => e = .returned (.bool true) ∧ Below w.heap.size w w' := by
  have hb16 := bounds_u16 w0
  have h0 := hb16.1
  have h1 := hb16.2
  obtain ⟨k, hk⟩ : ∃ k : Nat, a0 % 257 = k := ⟨(a0 % 257).toNat, by omega⟩
  have hk1 : k ≤ 256 := by omega
  have HK := hid hk
  have RW := hid (fun w => row6 0 k (by omega) (by omega) (by omega) w)
  clear w0 hb16 hk
  go_enter Try.func11, Try.ntmps11
  go_wp2_with fail
  refine (lives6 _).mono ?_
  rintro e w1 ⟨rfl, hb1⟩
  have hs1 := hb1.size
  go_wp2_with fail
  refine (new_r _).mono ?_
  rintro e w2 ⟨p, rfl, hr2, hp, hb2⟩
  have R2 := hid hr2
  have hp' : w.heap.size ≤ p := by omega
  have hs2 := hb2.size
  have B2 : Below w.heap.size w w2 := hb1.trans (hb2.mono hs1)
  have hplt := hr2.lt
  clear hr2 hb2 hb1
  go_wp2_with fail
  rw [HK.out]
  refine (RW.out _).mono ?_
  rintro e w3 ⟨v3, rfl, ho3, hb3⟩
  have R3 := hid (R2.out.below hb3)
  have HS3 := hid (ho3.stay (p := p) (r := none) hplt (fun q hq => by cases hq))
  have hs3 := hb3.size
  have B3 : Below w.heap.size w w3 := B2.trans (hb3.mono (by omega))
  obtain ⟨va, vc, rfl⟩ := ho3.reads_n (row6_length 0 k)
  obtain ⟨ys, hys⟩ : ∃ ys, ys = row6L 0 k := ⟨_, rfl⟩
  have HYS := hid hys
  have HYL := hid (show ys.length = k by rw [hys, row6_length])
  rw [← hys] at HS3
  clear ho3 hb3 hys RW
  go_wp2_with fail
  refine (putall_r p [] ys _ 0 false 0 _ R3.out HS3.out (by have := HYL.out; omega)).mono ?_
  rintro e w4 ⟨v4, rfl, ho4, hr4, hx4⟩
  have ht : ([] : List Int) ++ ys.take (256 - ([] : List Int).length) = ys := by rw [List.nil_append]; exact List.take_of_length_le (by have := HYL.out; simp; omega)
  rw [ht] at hr4
  obtain ⟨va4, vm4, vc4, rfl⟩ := ho4.slice3
  have R4 := hid hr4
  have hs4 := hx4.size
  have B4 : Below w.heap.size w w4 := B3.trans (hx4.low hp' (by omega))
  clear ho4 hr4 hx4 ht
  go_wp2_with fail
  refine (ready_no p ys 0 0 9999 _ R4.out).mono ?_
  rintro e w5 ⟨v5, rfl, ho5, hr5, hx5⟩
  obtain ⟨va5, vm5, vc5, rfl⟩ := ho5.slice3
  have R5 := hid hr5
  have hs5 := hx5.size
  have B5 : Below w.heap.size w w5 := B4.trans (hx5.low hp' (by omega))
  clear ho5 hr5 hx5
  go_wp2_with fail
  by_cases hk0 : k = 0
  · subst hk0
    have hy0 : ys = [] := List.length_eq_zero_iff.1 HYL.out
    subst hy0
    refine (steal_next p 9999 0 _ R5.out).mono ?_
    rintro e w6 ⟨v6, rfl, ho6, hr6, hx6⟩
    obtain ⟨va6, vc6, rfl⟩ := ho6.reads_n (show ([9999] : List Int).length = 1 from rfl)
    have R6 := hid hr6
    have B6 : Below w.heap.size w w6 := B5.trans (hx6.low hp' (by omega))
    obtain ⟨a1', c1', he1, _, hrd⟩ := ho6.reads
    simp only [Value.slice.injEq] at he1
    obtain ⟨g, o, h2, h3, h4⟩ := hrd (by simp)
    have hva : va6 = some ⟨g, o, none⟩ := by rw [he1.1, h2]
    clear he1 h2
    subst hva
    have hc1 := h4 0 (by simp)
    simp at hc1
    clear hrd h4
    have LR := hid (len_r p [] _ false 0 _ R6.out 0 (by simp))
    clear ho6 hr6 hx6
    go_wp2_with fail
    refine LR.out.mono ?_
    rintro e w7 ⟨rfl, rfl⟩
    go_wp2
    go_ret
    exact ⟨rfl, B6⟩
  · have hk0' : 0 < k := by omega
    obtain ⟨h, hh⟩ : ∃ h : Nat, h = (k + 1) / 2 := ⟨_, rfl⟩
    obtain ⟨q, hq⟩ : ∃ q : Nat, q = k / 2 := ⟨_, rfl⟩
    have hhk : h + q = k := by omega
    have e1 : (ys.length + 1) / 2 = h := by rw [HYL.out]; exact hh.symm
    have e2 : ys.take h = row6L 0 h := by rw [HYS.out, row6_take _ _ _ (by omega)]
    have e3 : ys.drop h = row6L h q := by
      rw [HYS.out, ← hhk, row6_drop]; simp
    have ST := hid (steal_row p ys 9999 true 0 _ R5.out (by have := HYL.out; omega))
    rw [e1, e2, e3] at ST
    have hh1 : ((k : Int) + 1) / 2 = h := by omega
    have hq1 : (k : Int) / 2 = q := by omega
    have hhb : h ≤ 128 := by omega
    have hqb : q ≤ 128 := by omega
    obtain ⟨l, hl⟩ : ∃ l : Nat, l = (allL (row6L h q) 9999 true).length := ⟨_, rfl⟩
    have hl2 : l = q + 1 := by rw [hl]; simp [allL, row6_length]
    have HT := hid (show (allL (row6L h q) 9999 true).take q = row6L h q by simp only [allL]; rw [if_pos trivial, List.take_left' (row6_length _ _)])
    have HL := hid hl.symm
    have HH := hid hh1
    have HQ := hid hq1
    have RWh := hid (fun w => row6 0 h (by omega) (by omega) (by omega) w)
    have RWq := hid (fun w => row6 (h : Int) q (by omega) (by omega) (by omega) w)
    have HLB := hid (show q ≤ l ∧ l ≤ 129 by omega)
    have LN := hid (fun w H => len_r p (row6L h q) 9999 true 0 w H (l : Int) (by rw [row6_length, hl2]; simp))
    clear e1 e2 e3 hh hq hl hl2 hhk HYS HYL hk0 h0 h1 hh1 hq1
    refine ST.out.mono ?_
    rintro e w6 ⟨v6, rfl, ho6, hr6, hx6⟩
    obtain ⟨va6, vc6, rfl⟩ := ho6.reads_n (row6_length 0 h)
    have R6 := hid hr6
    have RD6 := hid ho6.reads
    have hs6 := hx6.size
    have B6 : Below w.heap.size w w6 := B5.trans (hx6.low hp' (by omega))
    have tk0 : ((k : Int) == 0) = false := beq_eq_false_iff_ne.2 (by omega)
    clear ho6 hr6 hx6
    go_wp2_with fail
    refine (next_r p _ _ _ _ _ R6.out).mono ?_
    rintro e w7 ⟨rfl, hq7⟩
    have R7 := hid (R6.out.quiet hq7)
    have RD7 := hid (RD6.out.of_below (hq7.below _))
    have B7 := B6.trans (hq7.below _)
    have hs7 : w6.heap.size ≤ w7.heap.size := by rw [hq7.heap]; omega
    clear hq7
    go_wp2_with fail
    refine (list_r p _ _ _ _ _ R7.out).mono ?_
    rintro e w8 ⟨v8, rfl, ho8, hb8⟩
    have R8 := hid (R7.out.below hb8)
    have RD8 := hid (RD7.out.of_below hb8)
    have B8 : Below w.heap.size w w8 := B7.trans (hb8.mono (by omega))
    have hs8 := hb8.size
    obtain ⟨va8, vc8, rfl⟩ := ho8.reads_n HL.out
    have RL8 := hid ho8.reads
    clear ho8 hb8
    go_wp2_with fail
    rw [HH.out]
    refine (RWh.out _).mono ?_
    rintro e w9 ⟨v9, rfl, ho9, hb9⟩
    have R9 := hid (R8.out.below hb9)
    have RD9 := hid (RD8.out.of_below hb9)
    have RL9 := hid (RL8.out.of_below hb9)
    have B9 : Below w.heap.size w w9 := B8.trans (hb9.mono (by omega))
    have hs9 := hb9.size
    have RO9 := hid ho9.reads
    obtain ⟨va9, vc9, rfl⟩ := ho9.reads_n (row6_length 0 h)
    clear ho9 hb9
    go_wp2_with fail
    refine (same_any _ _ (row6L 0 h) (row6L 0 h) true (by simp) _ RD9.out RO9.out (by rw [row6_length]; omega) (by rw [row6_length]; omega)).mono ?_
    rintro e w10 ⟨rfl, hq10⟩
    have R10 := hid ((R9.out.quiet hq10).quiet (w' := w10.drew) ⟨1, rfl⟩)
    have RL10 := hid ((RL9.out.of_below (hq10.below _)).of_below (w' := w10.drew) (Quiet.below ⟨1, rfl⟩ _))
    have B10 := (B9.trans (hq10.below _)).trans (Quiet.below ⟨1, rfl⟩ _ : Below w.heap.size w10 w10.drew)
    have hs10 : w9.heap.size ≤ w10.drew.heap.size := by rw [show w10.drew.heap = w10.heap from rfl, hq10.heap]; omega
    have LP := hid (reads_pre RL10.out (k := q) (by have := HL.out; have := HLB.out; omega))
    rw [HT.out] at LP
    have hcap := (cap_of RL10.out).1
    have hcm := (cap_of RL10.out).2
    have hqc : (q : Int) ≤ (vc8 : Int) := by have := HLB.out; omega
    have hq0 : (0 : Int) ≤ (q : Int) := by omega
    have hq1 := HQ.out
    have hh1 := HH.out
    have u1 : IntKind.i64.wrap ((k : Int) + 1) = (k : Int) + 1 := IntWalk.i64_in _ (by omega)
    have u2 : IntKind.i64.wrap ((q : Int)) = (q : Int) := IntWalk.i64_in _ (by omega)
    have u3 : IntKind.i64.wrap ((h : Int)) = (h : Int) := IntWalk.i64_in _ (by omega)
    have u4 : ((k : Int)).tdiv 2 = q := by rw [Int.tdiv_eq_ediv_of_nonneg (by omega)]; exact HQ.out
    have u5 : ((k : Int) + 1).tdiv 2 = h := by rw [Int.tdiv_eq_ediv_of_nonneg (by omega)]; exact HH.out
    clear hq10
    go_wp2_with fail
    go_region_with (first
      | (go_at_call 37; refine (RWq.out _).mono ?_; rintro e w11 ⟨v11, rfl, ho11, hb11⟩; have LD11 := hid (LP.out.of_below hb11); have RO11 := hid ho11.reads; have R11 := hid (R10.out.below hb11); have HB11 := hid hb11; obtain ⟨va11, vc11, rfl⟩ := ho11.reads_n (row6_length (h : Int) q); clear ho11 hb11)
      | (go_at_call 25; refine (same_any _ _ (row6L (h : Int) q) (row6L (h : Int) q) true (by simp) _ LD11.out RO11.out (by rw [row6_length]; omega) (by rw [row6_length]; omega)).mono ?_; rintro e w12 ⟨rfl, hq12⟩; have R12 := hid (R11.out.quiet hq12); have HQ12 := hid hq12; clear hq12)
      | (go_at_call 39; refine (LN.out _ R12.out).mono ?_; rintro e w13 ⟨rfl, rfl⟩))
    all_goals
      go_wp2
      go_ret
      exact ⟨rfl, (B10.trans (HB11.out.mono (by omega))).trans (HQ12.out.below _)⟩

theorem walk (a0 : Int) (a1 : Bool) (w : World) (w0 : (Lit.int .u16 a0).wf = true) :
    Calls Try.prog 11 #[.int .u16 a0, .bool a1] w fun e w' => e = .returned (.bool true) ∧ Below w.heap.size w w' := by
  cases a1
  · exact walk_no a0 w w0
  · exact walk_yes a0 w w0
end Go.Proofs.Ytciilbpchejpcaa.ringHalves
