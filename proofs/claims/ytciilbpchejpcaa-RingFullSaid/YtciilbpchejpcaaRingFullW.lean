/- The walk of the statement RingFull: the law answers true and turns nothing that was there. -/
import Derived.Test.YtciilbpchejpcaaLives06
import Derived.OpenShut
namespace Go.Proofs.Ytciilbpchejpcaa.ringFull
open Go.RowKit
set_option linter.unusedVariables false
set_option linter.unusedSimpArgs false
theorem row6_take (f : Int) (n m : Nat) (h : m ≤ n) : (row6L f n).take m = row6L f m := by
  simp only [row6L, ← List.map_take, List.take_range, Nat.min_eq_left h]
theorem row6_drop (f : Int) (n m : Nat) : (row6L f (m + n)).drop m = row6L (f + m) n := by
  apply List.ext_getElem?
  intro i
  rw [List.getElem?_drop]
  by_cases hi : i < n
  · simp [row6L, hi, Int.add_assoc]
  · rw [List.getElem?_eq_none (by rw [row6_length]; omega), List.getElem?_eq_none (by rw [row6_length]; omega)]
theorem stay_built (w : World) (xs : List Int) (cs : Array Value) (h : cs = (xs.map (Value.int .i64)).toArray) (hl : xs.length ≤ maxLen) {p : Nat} (hp : p < w.heap.size) : Stay (w.alloc (.cells cs 3)) p none (.slice (some ⟨w.heap.size, 0, none⟩) xs.length xs.length) xs :=
  ⟨reads_built w xs cs h hl, fun g off n c he _ => by
    simp only [Value.slice.injEq, Option.some.injEq, Addr.mk.injEq] at he
    exact ⟨by omega, by simp⟩⟩
/-- The first ones of a slice that reads as numbers. -/
theorem reads_pre {w : World} {a : Option Addr} {n c : Nat} {xs : List Int} (h : Reads w (.slice a n c) xs) {k : Nat} (hk : k ≤ xs.length) : Reads w (.slice a k c) (xs.take k) := by
  obtain ⟨a', c', he, _⟩ := id h
  simp only [Value.slice.injEq] at he
  rw [he.2.1] at h
  exact reads_take h hk
theorem cap_of {w : World} {a : Option Addr} {n c : Nat} {xs : List Int} (h : Reads w (.slice a n c) xs) : n ≤ c ∧ c ≤ 9223372036854775807 := by
  obtain ⟨a', c', he, hcap, _⟩ := h
  simp only [Value.slice.injEq] at he
  have h1 := hcap.1
  have h2 := hcap.2.1
  unfold maxLen at h2
  omega

set_option maxHeartbeats 8000000 in
theorem walk (a0 a1 : Int) (w : World) (w0 : (Lit.int .i64 a0).wf = true) (w1 : (Lit.int .u16 a1).wf = true) :
    Calls Try.prog 7 #[.int .i64 a0, .int .u16 a1] w fun e w' => e = .returned (.bool true) ∧ Below w.heap.size w w' := by
  have hb16 := bounds_u16 w1
  have h0 := hb16.1
  have h1 := hb16.2
  obtain ⟨k, hk⟩ : ∃ k : Nat, a1 % 200 = k := ⟨(a1 % 200).toNat, by omega⟩
  have hk1 : k ≤ 199 := by omega
  have HK := hid hk
  have RW1 := hid (fun w => row6 1000 k (by omega) (by omega) (by omega) w)
  clear w0 w1 hb16 hk
  go_enter Try.func7, Try.ntmps7
  go_wp2_with fail
  refine (lives6 _).mono ?_
  rintro e w1 ⟨rfl, hb1⟩
  have hs1 := hb1.size
  go_wp2_with fail
  refine (new_r _).mono ?_
  rintro e w2 ⟨p, rfl, hr2, hp, hb2⟩
  have R2 := hid hr2
  have hp' : w.heap.size ≤ p := by omega
  have hs2 := hb2.size
  have B2 : Below w.heap.size w w2 := hb1.trans (hb2.mono hs1)
  have hplt := hr2.lt
  clear hr2 hb2 hb1
  go_wp2_with fail
  refine (row6 0 256 (by omega) (by omega) (by omega) _).mono ?_
  rintro e w3 ⟨v3, rfl, ho3, hb3⟩
  have R3 := hid (R2.out.below hb3)
  have HS3 := hid (ho3.stay (p := p) (r := none) hplt (fun q hq => by cases hq))
  have hs3 := hb3.size
  have B3 : Below w.heap.size w w3 := B2.trans (hb3.mono (by omega))
  obtain ⟨va, vc, rfl⟩ := ho3.reads_n (row6_length 0 256)
  clear ho3 hb3
  go_wp2_with fail
  refine (putall_r p [] (row6L 0 256) _ 0 false 0 _ R3.out HS3.out (by rw [row6_length]; omega)).mono ?_
  rintro e w4 ⟨v4, rfl, ho4, hr4, hx4⟩
  have hd : (row6L 0 256).drop (256 - ([] : List Int).length) = [] := List.drop_eq_nil_of_le (by rw [row6_length]; simp)
  have ht : ([] : List Int) ++ (row6L 0 256).take (256 - ([] : List Int).length) = row6L 0 256 := by rw [List.nil_append]; exact List.take_of_length_le (by rw [row6_length]; simp)
  rw [hd] at ho4
  rw [ht] at hr4
  obtain ⟨va4, vc4, rfl⟩ := ho4.reads_n (show ([] : List Int).length = 0 from rfl)
  have R4 := hid hr4
  have hs4 := hx4.size
  have B4 : Below w.heap.size w w4 := B3.trans (hx4.low hp' (by omega))
  clear ho4 hr4 hx4 hd ht
  go_wp2_with fail
  have hba := (Below.refl w4.heap.size w4).alloc (Nat.le_refl _) (.cells (([9, 8] : List Int).map (Value.int .i64)).toArray 3)
  have R4a := hid (R4.out.below hba)
  have hza := hba.size
  have B4a : Below w.heap.size w _ := B4.trans (hba.mono (by omega))
  clear hba
  refine (putall_r p (row6L 0 256) [9, 8] _ 0 false 0 _ R4a.out (stay_built w4 [9, 8] _ rfl (by unfold maxLen; simp) (by omega)) (by simp)).mono ?_
  rintro e w5 ⟨v5, rfl, ho5, hr5, hx5⟩
  have hd : ([9, 8] : List Int).drop (256 - (row6L 0 256).length) = [9, 8] := by rw [row6_length]; rfl
  have ht : row6L 0 256 ++ ([9, 8] : List Int).take (256 - (row6L 0 256).length) = row6L 0 256 := by rw [row6_length]; simp
  rw [hd] at ho5
  rw [ht] at hr5
  obtain ⟨va5, vc5, rfl⟩ := ho5.reads_n (show ([9, 8] : List Int).length = 2 from rfl)
  have RD5 := hid ho5.reads
  have R5 := hid hr5
  have hs5 := hx5.size
  have B5 : Below w.heap.size w w5 := B4a.trans (hx5.low hp' (by omega))
  clear ho5 hr5 hx5 hd ht
  go_wp2_with fail
  have hba := (Below.refl w5.heap.size w5).alloc (Nat.le_refl _) (.cells (([9, 8] : List Int).map (Value.int .i64)).toArray 3)
  have R5a := hid (R5.out.below hba)
  have RD5a := hid (RD5.out.of_below hba)
  have hzb := hba.size
  have B5a : Below w.heap.size w _ := B5.trans (hba.mono (by omega))
  clear hba
  refine (same_any _ _ [9, 8] [9, 8] true (by simp) _ RD5a.out (reads_built w5 [9, 8] _ rfl (by unfold maxLen; simp)) (by simp) (by simp)).mono ?_
  rintro e w6 ⟨rfl, hq6⟩
  have R6 := hid (R5a.out.quiet hq6)
  have B6 := B5a.trans (hq6.below _)
  have hs6 : w5.heap.size ≤ w6.heap.size := by rw [hq6.heap]; omega
  clear hq6
  go_wp2_with fail
  refine (put_r p (row6L 0 256) 0 false 0 a0 _ R6.out).mono ?_
  rintro e w7 ⟨v7, rfl, ho7, hr7, hx7⟩
  have e1 : putT (row6L 0 256) a0 = row6L 0 128 ++ [a0] := by
    unfold putT
    rw [if_neg (by rw [row6_length]; omega), row6_take _ _ _ (by omega)]
  have e2 : putL (row6L 0 256) a0 = row6L 128 128 := by
    unfold putL
    rw [if_neg (by rw [row6_length]; omega)]
    exact row6_drop 0 128 128
  rw [e1] at ho7
  rw [e2] at hr7
  obtain ⟨va7, vc7, rfl⟩ := ho7.reads_n (show (row6L 0 128 ++ [a0]).length = 129 by rw [List.length_append, row6_length]; rfl)
  have R7 := hid hr7
  have HV7 := hid ho7.reads
  have hs7 := hx7.size
  have B7 : Below w.heap.size w w7 := B6.trans (hx7.low hp' (by omega))
  clear ho7 hr7 hx7 e1 e2
  go_wp2_with fail
  have R7d := hid (R7.out.quiet (w' := w7.drew) ⟨1, rfl⟩)
  have HV7d := hid (HV7.out.of_below (w' := w7.drew) (Quiet.below ⟨1, rfl⟩ _))
  obtain ⟨a', c', he, hcap, hrd⟩ := HV7d.out
  have hl129 : (row6L 0 128 ++ [a0]).length = 129 := by rw [List.length_append, row6_length]; rfl
  simp only [Value.slice.injEq] at he
  obtain ⟨g, o, h2, h3, h4⟩ := hrd (by omega)
  have he1 := he.1
  have hcc := hcap.1
  rw [h2] at he1
  rw [← he.2.2, hl129] at hcc
  have hcm := hcap.2.1
  rw [← he.2.2] at hcm
  unfold maxLen at hcm
  have hcm2 := hcm
  have cl7 := h4 128 (by omega)
  have e128 : (row6L 0 128 ++ [a0]).getD 128 0 = a0 := by
    rw [List.getD_eq_getElem?_getD, List.getElem?_append_right (by rw [row6_length]; omega), row6_length]; rfl
  rw [e128] at cl7
  have hg7 : g < w7.drew.heap.size := h3
  have HP := hid (fun W (h : Reads W (.slice (some ⟨g, o, none⟩) 129 vc7) (row6L 0 128 ++ [a0])) => by
    have := reads_pre h (k := 128) (by rw [hl129]; omega)
    rwa [List.take_left' (row6_length 0 128)] at this : ∀ W, Reads W (.slice (some ⟨g, o, none⟩) 129 vc7) (row6L 0 128 ++ [a0]) → Reads W (.slice (some ⟨g, o, none⟩) 128 vc7) (row6L 0 128))
  clear he hrd h4 h2 hl129 hcap e128 h3
  subst he1
  have hd7 : w.heap.size ≤ w7.drew.heap.size := by simp; omega
  go_region_with (first
    | (go_at_call 37; refine (row6 0 128 (by omega) (by omega) (by omega) _).mono ?_; rintro e w8 ⟨v8, rfl, ho8, hb8⟩; have cl8 : w8.cell? ⟨g, o + 128, none⟩ = some (.int .i64 a0) := (hb8.cell (p := ⟨g, o + 128, none⟩) hg7).trans cl7; have RD8 := hid ho8.reads; have LD8 := hid (HP.out _ (HV7d.out.of_below hb8)); have R8 := hid (R7d.out.below hb8); have HB8 := hid hb8; obtain ⟨va8, vc8, rfl⟩ := ho8.reads_n (row6_length 0 128); clear ho8 hb8)
    | (go_at_call 25; refine (same_any _ _ (row6L 0 128) (row6L 0 128) true (by simp) _ LD8.out RD8.out (by rw [row6_length]; omega) (by rw [row6_length]; omega)).mono ?_; rintro e w9 ⟨rfl, hq9⟩; have cl9 : w9.cell? ⟨g, o + 128, none⟩ = some (.int .i64 a0) := (hq9.cell _).trans cl8; have R9 := hid (R8.out.quiet hq9); have HQ9 := hid hq9; clear hq9)
    | (go_at_call 39; refine (len_r p _ 0 false 0 _ R9.out 128 (by rw [row6_length]; rfl)).mono ?_; rintro e w10 ⟨rfl, rfl⟩))
  all_goals
    have B9 := hid (((B7.trans ((Quiet.below ⟨1, rfl⟩ _ : Below w.heap.size w7 w7.drew))).trans (HB8.out.mono hd7)).trans (HQ9.out.below _))
    have hs9 := B9.out.size
    have hp9 := R9.out.lt
    clear HB8 HQ9 RD8 LD8 R8 HP HV7d R7d HV7 R7 cl7 cl8 cl9 R2 R3 R4 R5 R6 R4a R5a RD5 RD5a HS3
    go_wp2_with fail
    rw [HK.out]
    refine (RW1.out _).mono ?_
    rintro e w11 ⟨v11, rfl, ho11, hb11⟩
    obtain ⟨ys, hys⟩ : ∃ ys, ys = row6L 1000 k := ⟨_, rfl⟩
    have HYL := hid (show ys.length = k by rw [hys, row6_length])
    rw [← hys] at ho11
    have R11 := hid (R9.out.below hb11)
    have HS11 := hid (ho11.stay (p := p) (r := none) (by have := R9.out.lt; omega) (fun q hq => by cases hq))
    have hs11 := hb11.size
    have B11 := hid (B9.out.trans (hb11.mono (by omega)))
    obtain ⟨va11, vc11, rfl⟩ := ho11.reads_n HYL.out
    clear ho11 hb11 hys R9
    go_wp2_with fail
    refine (putall_r p (row6L 128 128) ys _ 0 false 0 _ R11.out HS11.out (by have := HYL.out; omega)).mono ?_
    rintro e w12 ⟨v12, rfl, ho12, hr12, hx12⟩
    rw [row6_length] at ho12 hr12
    have HR12 := hid hr12
    have B12 := hid (B11.out.trans (hx12.low hp' (by omega)))
    have hs12 := hx12.size
    obtain ⟨m, hm⟩ : ∃ m, m = (ys.drop (256 - 128)).length := ⟨_, rfl⟩
    obtain ⟨va12, vc12, rfl⟩ := ho12.reads_n hm.symm
    have hmk : m = k - 128 := by rw [hm, List.length_drop, HYL.out]
    obtain ⟨zs, hzs⟩ : ∃ zs, zs = ys.take (256 - 128) := ⟨_, rfl⟩
    have hzl : zs.length = min 128 k := by rw [hzs, List.length_take, HYL.out]
    rw [← hzs] at HR12
    obtain ⟨XS, hXS⟩ : ∃ XS, XS = row6L 128 128 ++ zs := ⟨_, rfl⟩
    rw [← hXS] at HR12
    obtain ⟨l, hl⟩ : ∃ l, l = XS.length := ⟨_, rfl⟩
    have hl2 : l = 128 + min 128 k := by rw [hl, hXS, List.length_append, row6_length, hzl]
    have hl128 : 128 ≤ l := by omega
    have HT := hid (show XS.take 128 = row6L 128 128 by rw [hXS, List.take_left' (row6_length _ _)])
    have HL := hid hl.symm
    have HZL := hid hzl
    have hB12 : w.heap.size ≤ w12.drew.heap.size := by simp; omega
    have RD := hid (HR12.out.quiet (w' := w12.drew) ⟨1, rfl⟩)
    have hmb : m ≤ 199 := by omega
    have HMK := hid hmk
    have HL2 := hid hl2
    have hlb : l ≤ 256 := by omega
    clear ho12 hr12 hx12 hm hzs hXS hl hzl HR12 R11 HS11 HYL HZL RW1 hmk hl2
    obtain ⟨j, hj⟩ : ∃ j : Nat, j = min 128 k := ⟨_, rfl⟩
    have hjl : l = 128 + j := by have := HL2.out; omega
    have hjb : j ≤ 128 := by omega
    have hmx : (if (128 : Int) < (k : Int) then (k : Int) - 128 else 0) = (m : Int) := by have := HMK.out; split <;> omega
    have hmn : (if (128 : Int) < (k : Int) then 128 else (k : Int)) = (j : Int) := by split <;> omega
    have hwr : IntKind.i64.wrap ((k : Int) - 128) = (k : Int) - 128 := IntWalk.i64_in _ (by omega)
    have hwr2 : IntKind.i64.wrap (128 + (j : Int)) = 128 + (j : Int) := IntWalk.i64_in _ (by omega)
    have HL2 := hid hjl
    clear h1 hj hjl
    go_wp2_with fail
    go_region_with (first
      | (go_at_call 39; refine (len_r p _ 0 false 0 _ RD.out (128 + (j : Int)) (by rw [HL.out]; have := HL2.out; simp; omega)).mono ?_; rintro e w13 ⟨rfl, rfl⟩)
      | (go_at_call 40; refine (list_r p XS 0 false 0 _ RD.out).mono ?_; rintro e w14 ⟨v14, rfl, ho14, hb14⟩; have LD14 := hid (fun a c (h : Reads w14 (.slice a l c) XS) => (by have := reads_pre h (k := 128) (by have := HL.out; omega); rwa [HT.out] at this : Reads w14 (.slice a 128 c) (row6L 128 128))); obtain ⟨va14, vc14, rfl⟩ := ho14.reads_n HL.out; have LE14 := hid (LD14.out _ _ ho14.reads); have hcc : (128 : Int) ≤ (vc14 : Int) := (by have := (cap_of LE14.out).1; omega); have hcm14 : (vc14 : Int) ≤ 9223372036854775807 := (by have := (cap_of LE14.out).2; omega); have HB14 := hid hb14; clear ho14 hb14 LD14)
      | (go_at_call 37; refine (row6 128 128 (by omega) (by omega) (by omega) _).mono ?_; rintro e w15 ⟨v15, rfl, ho15, hb15⟩; have LD15 := hid (LE14.out.of_below hb15); have RD15 := hid ho15.reads; have HB15 := hid hb15; have hz14 := HB14.out.size; obtain ⟨va15, vc15, rfl⟩ := ho15.reads_n (row6_length 128 128); clear ho15 hb15)
      | (go_at_call 25; refine (same_any _ _ (row6L 128 128) (row6L 128 128) true (by simp) _ LD15.out RD15.out (by rw [row6_length]; omega) (by rw [row6_length]; omega)).mono ?_; rintro e w16 ⟨rfl, hq16⟩; have HQ16 := hid hq16; clear hq16))
    all_goals
      go_wp2
      go_ret
      exact ⟨rfl, (((B12.out.trans (Quiet.below ⟨1, rfl⟩ _ : Below w.heap.size w12 w12.drew)).trans (HB14.out.mono hB12)).trans (HB15.out.mono (by omega))).trans (HQ16.out.below _)⟩
end Go.Proofs.Ytciilbpchejpcaa.ringFull
