/- The walk of the statement StatusCounts: the law answers true and turns nothing that was there. -/
import Derived.Test.YtpmldcnmnadgaaaDoorCounts
import Derived.Deep.CutRange
namespace Go.Proofs.YtpmldcnmnadgaaaDoor.statusCounts
open Go.RowKit
set_option linter.unusedVariables false
set_option linter.unusedSimpArgs false

theorem Cs.countv {w0 w : World} {b g tb K c : Nat} {xs : List Int} (h : Cs w0 b g tb K xs c w) (hc : c ≤ 900000000) (hK : K ≤ 20) (s : Int) (hs : 0 ≤ s) (v : Int) (hv : v = (cn xs s K : Nat)) :
    Calls Tryd.prog 10 #[.agg #[.int .i64 0, .int .i64 K], .pointer (some ⟨b, 0, none⟩), .int .u64 s] w fun e w' => e = .returned (.int .i64 v) ∧ Cs w0 b g tb K xs (c + K) w' := by
  subst hv; exact h.count hc hK s hs
/-- How many accesses at most, as a word that the walk doesn't open. -/
def Bd (c k : Nat) : Prop := c ≤ 400 * k
def Bd2 (c k : Nat) : Prop := c ≤ 400 * k + 200
theorem Bd.lt {c k : Nat} (h : Bd c k) (hk : k ≤ 60) : c ≤ 24000 := by unfold Bd at h; omega
theorem Bd2.lt {c k : Nat} (h : Bd2 c k) (hk : k ≤ 60) : c ≤ 25000 := by unfold Bd2 at h; omega
/-- What the drawn region asks of a world. -/
def Sx (tb K : Nat) (w : World) : Prop := w.cell? ⟨tb, 0, none⟩ = some (.int .i64 0) ∧ w.cell? ⟨tb, 1, none⟩ = some (.int .i64 K)
theorem Cs.sx {w0 w : World} {b g tb K c : Nat} {xs : List Int} (h : Cs w0 b g tb K xs c w) : Sx tb K w := ⟨h.c0, h.c1⟩

set_option maxRecDepth 100000 in
set_option maxHeartbeats 16000000 in
theorem walk (a0 : Int) (a1 : Option Addr) (len1 cap1 : Nat) (z1 : List Int) (w : World) (w0 : (Lit.int .u8 a0).wf = true) (w1 : IsRow .u16 w a1 len1 cap1 z1) (T1 : StSteps w) :
    Calls Tryd.prog 3 #[.int .u8 a0, .slice a1 len1 cap1] w fun e w' => e = .returned (.bool true) ∧ Below w.heap.size w w' := by
  have HT := hid T1
  have hg0 := T1.lt
  have hb0 := bounds_u8 w0
  clear T1 w0
  by_cases hlen : (60 : Int) < len1
  · clear w1
    go_enter Tryd.func3, Tryd.ntmps3
    go_wp2_with fail
    refine (lives14 _ HT.out).mono ?_
    rintro e w2 ⟨rfl, rfl⟩
    go_wp2_with fail
    refine (lives14 _ HT.out).mono ?_
    rintro e w3 ⟨rfl, rfl⟩
    go_wp2
    go_ret
    exact ⟨rfl, Below.refl _ _⟩
  · have hlen' : len1 ≤ 60 := by omega
    have W0 := hid w1
    obtain ⟨q, hq⟩ : ∃ q, q = a0 % 20 := ⟨_, rfl⟩
    obtain ⟨K, hK⟩ : ∃ K : Nat, (K : Int) = 1 + q := ⟨(1 + q).toNat, by omega⟩
    have hK1 : 1 ≤ K := by omega
    have hK20 : K ≤ 20 := by omega
    have m1 : a0.tmod 20 = q := by rw [Int.tmod_eq_emod_of_nonneg (by omega), hq]
    have u1 : IntKind.u8.wrap q = q := IntWalk.u8_in _ (by omega)
    have u2 : IntKind.i64.wrap q = q := IntWalk.i64_in _ (by omega)
    have u3 : IntKind.i64.wrap (1 + q) = K := by rw [hK]; exact IntWalk.i64_in _ (by omega)
    clear w1 hq hK
    go_enter Tryd.func3, Tryd.ntmps3
    go_wp2_with fail
    refine (lives14 _ HT.out).mono ?_
    rintro e w2 ⟨rfl, rfl⟩
    go_wp2_with fail
    refine (new_ex K K (by omega) _).mono ?_
    rintro e w3 ⟨b, g, rfl, hm, hb, hg, hb3⟩
    have sb := hm.sb
    have sg := hm.sg
    have hs3 := hb3.size
    have C0 : Hid (Cs w b g w3.heap.size K (List.replicate K 0) 0 (w3.alloc (.cells #[.int .i64 0, .int .i64 K] 27))) :=
      ⟨hm.alloc _, Deep.blk_alloc_new _ _, HT.out.at (hb3.alloc hs3 _), hb3.alloc hs3 _, by simp, fun i hi => by simp [List.getElem?_replicate, hi], hb, hg, by omega, by omega, hg0⟩
    clear hm hb3 m1 u1 u2 u3
    go_wp2_with fail
    obtain ⟨tb, htb⟩ : ∃ tb, tb = w3.heap.size := ⟨_, rfl⟩
    rw [← htb] at C0 ⊢
    clear htb sb sg hs3
    go_loopw [36] (fun i wr => ∃ (k : Nat) (xs : List Int) (c : Nat), k ≤ len1 ∧ i = .int .i64 k ∧ Bd c k ∧ Hid (Cs w b g tb K xs c wr))
      (fun i _ => len1 - (intOf i).toNat)
    case atStart => exact ⟨0, _, 0, by omega, rfl, Nat.zero_le _, C0⟩
    case round =>
      clear C0
      obtain ⟨k, xs, c, hk, rfl, HCK, HC⟩ := hrel
      by_cases hlt : k < len1
      · rcases W0.out.open with h | ⟨bx, off, rfl, hzl, hwf, hcell⟩
        · omega
        obtain ⟨x, hx⟩ : ∃ x, x = z1.getD k 0 := ⟨_, rfl⟩
        have cx := hcell wr HC.out.B k hlt
        have bx8 := bounds_u16 (hwf (z1.getD k 0) (by rw [List.getD_eq_getElem?_getD, List.getElem?_eq_getElem (by omega), Option.getD_some]; exact List.getElem_mem _))
        rw [← hx] at cx bx8
        have x0 := bx8.1
        have x1 := bx8.2
        obtain ⟨j, hj⟩ : ∃ j : Nat, (j : Int) = x % K := ⟨(x % K).toNat, by have := Int.emod_nonneg x (show (K : Int) ≠ 0 by omega); omega⟩
        have hjK : j < K := by have := Int.emod_lt_of_pos x (show (0 : Int) < K by omega); omega
        obtain ⟨d, hd⟩ : ∃ d, d = x / 32 := ⟨_, rfl⟩
        obtain ⟨t, ht⟩ : ∃ t, t = d % 7 := ⟨_, rfl⟩
        have t0 : 0 ≤ t := by omega
        have t6 : t ≤ 6 := by omega
        have n1 : IntKind.i64.wrap x = x := IntWalk.i64_in _ (by omega)
        have n2 : x.tmod (K : Int) = j := by rw [Int.tmod_eq_emod_of_nonneg (by omega), hj]
        have n3 : IntKind.i64.wrap (j : Int) = j := IntWalk.i64_in _ (by omega)
        have n4 : x.tdiv 32 = d := by rw [Int.tdiv_eq_ediv_of_nonneg (by omega), hd]
        have n5 : IntKind.u16.wrap d = d := IntWalk.u16_in _ (by omega)
        have n6 : d.tmod 7 = t := by rw [Int.tmod_eq_emod_of_nonneg (by omega), ht]
        have n7 : IntKind.u16.wrap t = t := IntWalk.u16_in _ (by omega)
        have n8 : IntKind.u64.wrap t = t := IntWalk.u64_in _ (by omega)
        have k0 : (K : Int) ≠ 0 := by omega
        have k00 : ((K : Int) == 0) = false := beq_eq_false_iff_ne.2 k0
        have c0 := HC.out.c0
        have c1 := HC.out.c1
        clear hx hj hd ht hcell hwf bx8
        go_wp2_with fail
        have huv := HC.out.v j hjK
        refine (HC.out.of (by have := HCK.lt (by omega); omega) j hjK hK20).mono ?_
        rintro e y1 ⟨rfl, hc1⟩
        have HU := hid (show xs.getD j 0 = xs.getD j 0 from rfl)
        have SINK := hid True.intro
        obtain ⟨u, hu⟩ : ∃ u, u = xs.getD j 0 := ⟨_, rfl⟩
        rw [← hu] at huv ⊢
        have u0 := huv.1
        have u7 := huv.2
        have HUV := hid hu
        have HC1 := hid hc1
        clear hc1 c0 c1 cx HC huv hu HU n1 n2 n3 n4 n5 n6 n7 n8 k00
        have c0 := HC1.out.c0
        have c1 := HC1.out.c1
        have HD := hid HC1.out.drew
        obtain ⟨A, hA⟩ : ∃ A, A = cn xs t K := ⟨_, rfl⟩
        obtain ⟨Bc, hBc⟩ : ∃ Bc, Bc = cn xs u K := ⟨_, rfl⟩
        have hA20 : A ≤ K := by rw [hA]; exact cntF_le _ _ _
        have hB20 : Bc ≤ K := by rw [hBc]; exact cntF_le _ _ _
        have HA := hid hA
        have HBc := hid hBc
        clear hA hBc
        have CT0 := hid (Cs.countv HC1.out.drew (by have := HCK.lt (by omega); omega) hK20 t t0 (A : Int) (by rw [HA.out]))
        have CU0 := hid (Cs.countv HC1.out.drew (by have := HCK.lt (by omega); omega) hK20 u u0 (Bc : Int) (by rw [HBc.out]))
        have CT1 := hid (fun y (h : Cs w b g tb K xs (c + 1 + K) y) => Cs.countv h (by have := HCK.lt (by omega); omega) hK20 t t0 (A : Int) (by rw [HA.out]))
        have CU1 := hid (fun y (h : Cs w b g tb K xs (c + 1 + K) y) => Cs.countv h (by have := HCK.lt (by omega); omega) hK20 u u0 (Bc : Int) (by rw [HBc.out]))
        go_upto_region 11 with (fail)
        go_region_held3 (fun w' => w'.cell? ⟨tb, 0, none⟩ = some (.int .i64 0) ∧ w'.cell? ⟨tb, 1, none⟩ = some (.int .i64 K))
          (first
            | exact H4.out.sx
            | exact H2.out.sx
            | exact H3.out.sx
            | exact HD.out.sx)
          (first
            | (go_at_call 10; with_reducible refine (CT0.out).mono ?_; rintro e y2 ⟨rfl, hc2⟩; have H2 := hid hc2; clear hc2)
            | (go_at_call 10; with_reducible refine (CT1.out _ H3.out).mono ?_; rintro e y3 ⟨rfl, hc3⟩; have H4 := hid hc3; clear hc3)
            | (go_at_call 10; with_reducible refine (CU0.out).mono ?_; rintro e y2 ⟨rfl, hc2⟩; have H3 := hid hc2; clear hc2)
            | (go_at_call 10; with_reducible refine (CU1.out _ H2.out).mono ?_; rintro e y3 ⟨rfl, hc3⟩; have H4 := hid hc3; clear hc3))
        all_goals
          have c0 := H4.out.c0
          have c1 := H4.out.c1
          clear CT0 CU0 CT1 CU1 HD HC1
          by_cases hlg : stLegal u t = true
          · have hlb := legal_b hlg u0 (by omega)
            have hne := hlb.2.2.2
            have hjl : j < xs.length := by rw [H4.out.len]; exact hjK
            have E1 := hid (show cn (xs.set j t) t K = A + 1 by
              have e := cn_set (fun i => xs.getD i 0) (fun i => (xs.set j t).getD i 0) t j t (set_getD xs j t hjl) K
              rw [if_neg (by rw [← HUV.out]; omega), if_pos ⟨hjK, rfl⟩] at e
              rw [HA.out]; exact e)
            have E2 := hid (show cn (xs.set j t) u K + 1 = Bc by
              have e := cn_set (fun i => xs.getD i 0) (fun i => (xs.set j t).getD i 0) u j t (set_getD xs j t hjl) K
              rw [if_pos ⟨hjK, by rw [← HUV.out]⟩, if_neg (by omega)] at e
              rw [HBc.out]; exact e)
            have MV := hid (Cs.move H4.out (by have := HCK.lt (by omega); omega) j hjK hK20 t t0 (by rw [← HUV.out]; exact hlg))
            rw [← HUV.out] at MV
            have hB1 : 1 ≤ Bc := by have := E2.out; omega
            have hwA : IntKind.i64.wrap ((A : Int) + 1) = (A : Int) + 1 := IntWalk.i64_in _ (by omega)
            have hwB : IntKind.i64.wrap ((Bc : Int) - 1) = (Bc : Int) - 1 := IntWalk.i64_in _ (by omega)
            clear hlg hlb hjl hne
            go_wp2_with fail
            refine MV.out.mono ?_
            rintro e y5 ⟨rfl, hc5⟩
            have HC5 := hid hc5
            clear hc5 MV H4 c0 c1
            have c0 := HC5.out.c0
            have c1 := HC5.out.c1
            have v1 := hid (HC5.out.countv (by have := HCK.lt (by omega); omega) hK20 t t0 ((A : Int) + 1) (by have := E1.out; omega))
            go_wp2_with fail
            refine v1.out.mono ?_
            rintro e y6 ⟨rfl, hc6⟩
            have HC6 := hid hc6
            have d0 := HC6.out.c0
            have d1 := HC6.out.c1
            clear hc6 HC5 v1 c0 c1
            have v2 := hid (HC6.out.countv (by have := HCK.lt (by omega); omega) hK20 u u0 ((Bc : Int) - 1) (by have := E2.out; omega))
            go_wp2_with fail
            refine v2.out.mono ?_
            rintro e y7 ⟨rfl, hc7⟩
            have HC7 := hid hc7
            clear hc7 HC6 v2 d0 d1
            have CB : Bd2 (c + 1 + K + K + 1 + K + K) k := by have := HCK; unfold Bd at this; unfold Bd2; omega
            generalize c + 1 + K + K + 1 + K + K = cc at HC7 CB
            obtain ⟨zs, hzs⟩ : ∃ zs, zs = xs.set j t := ⟨_, rfl⟩
            rw [← hzs] at HC7
            clear hzs SINK E1 E2 hwA hwB hB1 HA HBc HUV
            go_wp2_with fail
            go_loopw [16, 97] (fun al i wq => ∃ s : Nat, s ≤ 7 ∧ al = .int .i64 (sumC zs K s : Nat) ∧ i = .int .u64 s ∧ Hid (Cs w b g tb K zs (cc + K * s) wq))
              (fun _ i _ => 7 - (intOf i).toNat)
            case atStart => exact ⟨0, by omega, rfl, rfl, hid (by simpa using HC7.out)⟩
            case round =>
              clear HC7
              obtain ⟨s, hs, rfl, rfl, HQ⟩ := hrel
              by_cases hs7 : s < 7
              · have e0 := HQ.out.c0
                have e1 := HQ.out.c1
                have hq1 : K * s ≤ 140 := by have : K * s ≤ 20 * 7 := Nat.mul_le_mul hK20 hs; omega
                have hsl := sumC_le zs K s
                have hcl := cntF_le (fun i => zs.getD i 0) (s : Int) K
                have hnx := hid (show sumC zs K (s + 1) = sumC zs K s + cn zs s K from rfl)
                have CT := hid (HQ.out.count (by have := CB.lt (by omega); omega) hK20 (s : Int) (by omega))
                have hsu : (s : Int) < 7 := by omega
                have hcl2 : cn zs s K ≤ K := hcl
                generalize hsq : sumC zs K s = sq at hsl hnx ⊢
                generalize cn zs s K = ct at hcl2 hnx CT
                have hwa : IntKind.i64.wrap ((sq : Int) + ct) = (sq : Int) + ct := IntWalk.i64_in _ (by omega)
                have hws : IntKind.u64.wrap ((s : Int) + 1) = (s : Int) + 1 := IntWalk.u64_in _ (by omega)
                clear hsq hsl hcl HQ
                go_wp2_with fail
                refine CT.out.mono ?_
                rintro e y8 ⟨rfl, hc8⟩
                have HC8 := hid (show Cs w b g tb K zs (cc + K * (s + 1)) y8 by rw [Nat.mul_succ, ← Nat.add_assoc]; exact hc8)
                have HV := hid (show ((sq : Int) + ct) = ((sumC zs K (s + 1) : Nat) : Int) by rw [hnx.out]; omega)
                clear hc8 e0 e1 CT
                go_wp2
                go_roundw
                case rel => exact ⟨s + 1, by omega, by rw [← HV.out], by go_num, HC8⟩
                case measure => simp [intOf]; omega
              · obtain rfl : s = 7 := by omega
                have hall := sumC_all zs K HQ.out.v
                rw [hall]
                have hk2 : Bd (cc + K * 7) (k + 1) := by have := CB; unfold Bd2 at this; unfold Bd; omega
                have HQ2 := hid HQ.out
                have HQB := hid HQ.out.B
                have hwk : IntKind.i64.wrap ((k : Int) + 1) = (k : Int) + 1 := IntWalk.i64_in _ (by omega)
                clear hall HQ
                go_wp2
                go_roundw
                case rel => exact ⟨k + 1, zs, cc + K * 7, by omega, by go_num, hk2, HQ2⟩
                case measure => simp [intOf]; omega
          · have MV := hid (Cs.stay H4.out (by have := HCK.lt (by omega); omega) j hjK hK20 t t0 (by rw [← HUV.out]; simpa using hlg))
            rw [← HUV.out] at MV
            clear hlg
            go_wp2_with fail
            refine MV.out.mono ?_
            rintro e y5 ⟨rfl, hc5⟩
            have HC5 := hid hc5
            clear hc5 MV H4 c0 c1
            have c0 := HC5.out.c0
            have c1 := HC5.out.c1
            have v1 := hid (HC5.out.countv (by have := HCK.lt (by omega); omega) hK20 u u0 (Bc : Int) (by rw [HBc.out]))
            go_wp2_with fail
            refine v1.out.mono ?_
            rintro e y7 ⟨rfl, hc7⟩
            have HC7 := hid hc7
            clear hc7 HC5 v1 c0 c1
            have CB : Bd2 (c + 1 + K + K + K) k := by have := HCK; unfold Bd at this; unfold Bd2; omega
            generalize c + 1 + K + K + K = cc at HC7 CB
            obtain ⟨zs, hzs⟩ : ∃ zs, zs = xs := ⟨_, rfl⟩
            rw [← hzs] at HC7
            clear hzs SINK HA HBc HUV
            go_wp2_with fail
            go_loopw [16, 97] (fun al i wq => ∃ s : Nat, s ≤ 7 ∧ al = .int .i64 (sumC zs K s : Nat) ∧ i = .int .u64 s ∧ Hid (Cs w b g tb K zs (cc + K * s) wq))
              (fun _ i _ => 7 - (intOf i).toNat)
            case atStart => exact ⟨0, by omega, rfl, rfl, hid (by simpa using HC7.out)⟩
            case round =>
              clear HC7
              obtain ⟨s, hs, rfl, rfl, HQ⟩ := hrel
              by_cases hs7 : s < 7
              · have e0 := HQ.out.c0
                have e1 := HQ.out.c1
                have hq1 : K * s ≤ 140 := by have : K * s ≤ 20 * 7 := Nat.mul_le_mul hK20 hs; omega
                have hsl := sumC_le zs K s
                have hcl := cntF_le (fun i => zs.getD i 0) (s : Int) K
                have hnx := hid (show sumC zs K (s + 1) = sumC zs K s + cn zs s K from rfl)
                have CT := hid (HQ.out.count (by have := CB.lt (by omega); omega) hK20 (s : Int) (by omega))
                have hsu : (s : Int) < 7 := by omega
                have hcl2 : cn zs s K ≤ K := hcl
                generalize hsq : sumC zs K s = sq at hsl hnx ⊢
                generalize cn zs s K = ct at hcl2 hnx CT
                have hwa : IntKind.i64.wrap ((sq : Int) + ct) = (sq : Int) + ct := IntWalk.i64_in _ (by omega)
                have hws : IntKind.u64.wrap ((s : Int) + 1) = (s : Int) + 1 := IntWalk.u64_in _ (by omega)
                clear hsq hsl hcl HQ
                go_wp2_with fail
                refine CT.out.mono ?_
                rintro e y8 ⟨rfl, hc8⟩
                have HC8 := hid (show Cs w b g tb K zs (cc + K * (s + 1)) y8 by rw [Nat.mul_succ, ← Nat.add_assoc]; exact hc8)
                have HV := hid (show ((sq : Int) + ct) = ((sumC zs K (s + 1) : Nat) : Int) by rw [hnx.out]; omega)
                clear hc8 e0 e1 CT
                go_wp2
                go_roundw
                case rel => exact ⟨s + 1, by omega, by rw [← HV.out], by go_num, HC8⟩
                case measure => simp [intOf]; omega
              · obtain rfl : s = 7 := by omega
                have hall := sumC_all zs K HQ.out.v
                rw [hall]
                have hk2 : Bd (cc + K * 7) (k + 1) := by have := CB; unfold Bd2 at this; unfold Bd; omega
                have HQ2 := hid HQ.out
                have HQB := hid HQ.out.B
                have hwk : IntKind.i64.wrap ((k : Int) + 1) = (k : Int) + 1 := IntWalk.i64_in _ (by omega)
                clear hall HQ
                go_wp2
                go_roundw
                case rel => exact ⟨k + 1, zs, cc + K * 7, by omega, by go_num, hk2, HQ2⟩
                case measure => simp [intOf]; omega
      · obtain rfl : k = len1 := by omega
        have c0 := HC.out.c0
        have c1 := HC.out.c1
        have v7 := hid (Cs.countv HC.out (by have := HCK.lt (by omega); omega) hK20 7 (by omega) (0 : Int) (by rw [cn_seven _ _ (fun i hi => (HC.out.v i hi).2)]; rfl))
        go_wp2_with fail
        refine v7.out.mono ?_
        rintro e y ⟨rfl, hcy⟩
        have HB := hid hcy.B
        clear hcy
        go_wp2
        go_ret
        exact ⟨rfl, HB.out⟩
end Go.Proofs.YtpmldcnmnadgaaaDoor.statusCounts
