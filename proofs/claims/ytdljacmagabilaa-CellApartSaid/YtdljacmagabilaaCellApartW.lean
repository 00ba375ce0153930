/- The walk of the statement CellApart: the law answers true and turns nothing that was there. -/
import Derived.Test.YtdljacmagabilaaLives01
import Derived.Test.YtdljacmagabilaaWorlds
import Derived.Test.YtdljacmagabilaaWraps
import Derived.OpenShut
namespace Go.Proofs.Ytdljacmagabilaa.cellApart
open Go.RowKit
set_option linter.unusedVariables false
/-- The first k numbers, and zeros behind. -/
def Fill (zs : List Int) (n k : Nat) : List Int := zs.take k ++ List.replicate (n - k) 0
theorem Fill_length (zs : List Int) (n k : Nat) (h : k ≤ n) (hn : n ≤ zs.length) : (Fill zs n k).length = n := by
  unfold Fill; simp; omega
theorem Fill_step (zs : List Int) (n k : Nat) (h : k < n) (hn : n ≤ zs.length) : putAt (Fill zs n k) k (zs.getD k 0) = Fill zs n (k + 1) := by
  unfold putAt
  rw [if_pos ⟨by omega, by rw [Fill_length _ _ _ (by omega) hn]; omega⟩]
  unfold Fill
  obtain ⟨m, hm⟩ : ∃ m, n - k = m + 1 := ⟨n - k - 1, by omega⟩
  have h2 : n - (k + 1) = m := by omega
  rw [hm, h2, List.replicate_succ, Int.toNat_natCast]
  have hl : (zs.take k).length = k := by simp; omega
  rw [List.set_append_right _ _ (by omega), hl, Nat.sub_self, List.set_cons_zero]
  have hk : k < zs.length := by omega
  have e : zs.getD k 0 = zs[k] := by simp [hk]
  rw [e, List.take_succ_eq_append_getElem hk, List.append_assoc]
  rfl
theorem Fill_all (zs : List Int) (n : Nat) (hn : n ≤ zs.length) : Fill zs n n = zs.take n := by unfold Fill; simp
theorem take_getD (zs : List Int) (n j : Nat) (hj : j < n) (hn : n ≤ zs.length) : (zs.take n).getD j 0 = zs.getD j 0 := by
  simp [hj]

theorem rng_of {x : Int} (h : (Lit.int .u64 x).wf = true) : 0 ≤ x ∧ x ≤ 18446744073709551615 := bounds_u64 h
theorem rng_getAt {Z : List Int} (h : ∀ n ∈ Z, 0 ≤ n ∧ n ≤ 18446744073709551615) (i : Int) : 0 ≤ getAt Z i ∧ getAt Z i ≤ 18446744073709551615 := by
  unfold getAt
  split
  · rename_i hi
    rw [List.getD_eq_getElem?_getD, List.getElem?_eq_getElem (by omega : i.toNat < Z.length), Option.getD_some]
    exact h _ (List.getElem_mem _)
  · omega
theorem rng_putAt {Z : List Int} (h : ∀ n ∈ Z, 0 ≤ n ∧ n ≤ 18446744073709551615) (i x : Int) (hx : 0 ≤ x ∧ x ≤ 18446744073709551615) : ∀ n ∈ putAt Z i x, 0 ≤ n ∧ n ≤ 18446744073709551615 := by
  intro n hn
  unfold putAt at hn
  split at hn
  · rcases List.mem_or_eq_of_mem_set hn with h' | h'
    · exact h n h'
    · rw [h']; exact hx
  · exact h n hn
theorem getAt_nat (Z : List Int) (j : Nat) (h : j < Z.length) : getAt Z (j : Int) = Z.getD j 0 := by
  unfold getAt; rw [if_pos ⟨by omega, by omega⟩]; rfl
theorem getAt_put_same (Z : List Int) (i x : Int) (h : 0 ≤ i ∧ i < Z.length) : getAt (putAt Z i x) i = x := by
  unfold getAt; rw [putAt_length, if_pos h]; unfold putAt; rw [if_pos h, getD_set_eq (by omega)]
theorem getAt_put_other (Z : List Int) (i j x : Int) (h : j ≠ i) : getAt (putAt Z i x) j = getAt Z j := by
  unfold getAt; rw [putAt_length]
  split
  · unfold putAt
    split
    · rw [getD_set_ne (by omega)]
    · rfl
  · rfl
theorem put_eq (Z : List Int) (i x : Int) (h : ¬ (0 ≤ i ∧ i < Z.length)) : putAt Z i x = Z := by unfold putAt; rw [if_neg h]
theorem put_eq' (Z : List Int) (i x : Int) (h : 0 ≤ i ∧ i < Z.length) (hx : Z.getD i.toNat 0 = x) : putAt Z i x = Z := by
  unfold putAt; rw [if_pos h]
  subst hx
  apply List.ext_getElem (by simp)
  intro j h1 h2
  rw [List.getElem_set]
  split
  · rename_i he; subst he; simp [List.getD_eq_getElem?_getD, h2]
  · rfl
theorem put_ne (Z : List Int) (i x : Int) (h : 0 ≤ i ∧ i < Z.length) (hx : Z.getD i.toNat 0 ≠ x) : putAt Z i x ≠ Z := by
  intro e
  have h1 := getAt_put_same Z i x h
  rw [e] at h1
  unfold getAt at h1
  rw [if_pos h] at h1
  exact hx h1

theorem ne_succ (v : Int) (h : 0 ≤ v ∧ v ≤ 18446744073709551615) : v ≠ IntKind.u64.wrap (v + 1) := by
  rw [u64_wrap]; omega

set_option maxRecDepth 100000 in
set_option maxHeartbeats 4000000 in
theorem walk (a0 : Option Addr) (len0 cap0 : Nat) (z0 : List Int) (a1 a2 a3 : Int) (w : World) (w0 : IsRow .u64 w a0 len0 cap0 z0) (w1 : (Lit.int .i64 a1).wf = true) (w2 : (Lit.int .i64 a2).wf = true) (w3 : (Lit.int .u64 a3).wf = true) :
    Calls Try.prog 5 #[.slice a0 len0 cap0, .int .i64 a1, .int .i64 a2, .int .u64 a3] w fun e w' => e = .returned (.bool true) ∧ Below w.heap.size w w' := by
  by_cases hlen : (100 : Int) < len0
  · go_enter Try.func5, Try.ntmps5
    go_wp2_with fail
    refine (lives1 _).mono ?_
    rintro e w2 ⟨rfl, hb1⟩
    go_wp2_with fail
    refine (lives1 _).mono ?_
    rintro e w3 ⟨rfl, hb2⟩
    go_wp2
    go_ret
    exact ⟨rfl, hb1.trans (hb2.mono hb1.size)⟩
  · have hlen' : len0 ≤ 100 := by omega
    have hz : len0 ≤ z0.length := by
      rcases w0 with ⟨_, h, _⟩ | ⟨x, _, h1, _, h2, _⟩ <;> omega
    have hrz : ∀ n ∈ z0.take len0, 0 ≤ n ∧ n ≤ 18446744073709551615 := by
      intro n hn
      rcases w0 with ⟨_, _, _, h⟩ | ⟨x, _, h1, _, h2, _, h3⟩
      · rw [h] at hn; simp at hn
      · exact rng_of (h3 n (List.mem_of_mem_take hn))
    have HRZ := hid hrz
    have RX := hid (rng_of w3)
    have W0 := hid w0
    clear w0 w1 w2 w3 hrz
    go_enter Try.func5, Try.ntmps5
    go_wp2_with fail
    refine (lives1 _).mono ?_
    rintro e w2 ⟨rfl, hb1⟩
    have hs1 := hb1.size
    go_wp2_with fail
    refine (new_ex len0 len0 (by omega) _).mono ?_
    rintro e w3 ⟨b, g, rfl, hm, hb, hg, hb3⟩
    have hs3 := hb3.size
    have sb := hm.sb
    have sg := hm.sg
    have hne := hm.ne
    have hbl : Below w.heap.size w w3 := hb1.trans (hb3.mono hs1)
    go_wp2_with fail
    go_loopw [31] (fun i wr => ∃ (k c : Nat), k ≤ len0 ∧ i = .int .i64 k ∧ Mem wr b g (Fill z0 len0 k) c ∧ c ≤ k ∧ w3.heap.size ≤ wr.heap.size ∧ Below w.heap.size w wr)
      (fun i _ => len0 - (intOf i).toNat)
    case atStart => exact ⟨0, 0, by omega, rfl, by simpa [Fill] using hm, by omega, Nat.le_refl _, hbl⟩
    case round =>
      obtain ⟨k, c, hk, rfl, hmr, hc, hsz, hbr⟩ := hrel
      have hsr := hbr.size
      by_cases hlt : k < len0
      · obtain ⟨bx, off, rfl, hzl, hwf, hcell⟩ := W0.out.open.resolve_left (by omega)
        have hy := hcell _ hbr k hlt
        have hst := Fill_step z0 len0 k hlt hz
        obtain ⟨y, hye⟩ : ∃ y, y = z0.getD k 0 := ⟨_, rfl⟩
        rw [← hye] at hy hst
        have HST := hid hst
        clear hye hst hcell hwf
        go_wp2_with fail
        refine (store_gen b g _ _ k y _ hmr (by omega)).mono ?_
        rintro e w5 ⟨r, c', rfl, hm5, hc5, ho5⟩
        rw [HST.out] at hm5
        have hs5 := ho5.size
        go_wp2
        go_roundw
        case rel => exact ⟨k + 1, c', by omega, by go_num, hm5, by omega, by omega, hbr.trans (ho5.below (by omega) (by omega) (by omega))⟩
        case measure => simp [intOf]; omega
      · obtain rfl : k = len0 := by omega
        rw [Fill_all _ _ hz] at hmr
        go_wp2_with fail
        refine (copy_any b g _ _ _ hmr).mono ?_
        rintro e w5 ⟨b2, g2, rfl, hc5, hb5, hg5, hbel5⟩
        have hZl : (z0.take k).length = k := by simp; omega
        have hgm : ∀ j : Nat, getAt (putAt (z0.take k) a1 a3) (j : Int) = if (j : Int) = a1 then getAt (putAt (z0.take k) a1 a3) a1 else getAt (z0.take k) j := by
          intro j
          split
          · rename_i h; rw [h]
          · rename_i h; exact getAt_put_other _ _ _ _ h
        have hln : false = decide (putAt (z0.take k) a1 a3 = List.replicate (k + 1) 0) := by
          symm
          refine decide_eq_false fun h => ?_
          have := congrArg List.length h
          rw [putAt_length, hZl, List.length_replicate] at this
          omega
        have hk1 : ((k + 1 : Nat) : Int) = min (max ((k : Int) + 1) 0) 65536 := by
          rw [Int.max_eq_left (by omega), Int.min_eq_left (by omega)]; rfl
        have NW := hid (fun w => new_ex ((k : Int) + 1) (k + 1) hk1 w)
        clear hk1
        have hrzp := rng_putAt HRZ.out a1 a3 RX.out
        have hgs : (0 ≤ a1 ∧ a1 < (k : Int)) → getAt (putAt (z0.take k) a1 a3) a1 = a3 := fun h => getAt_put_same _ _ _ (by rw [hZl]; exact h)
        have hcase : ((0 ≤ a1 ∧ a1 < (k : Int)) ∧ ∃ sv, decide (putAt (z0.take k) a1 a3 = z0.take k) = sv ∧ ((z0.getD a1.toNat 0 != a3) = !sv)) ∨ ((a1 < 0 ∨ (k : Int) ≤ a1) ∧ decide (putAt (z0.take k) a1 a3 = z0.take k) = true) := by
          by_cases h : 0 ≤ a1 ∧ a1 < (k : Int)
          · refine .inl ⟨h, ?_⟩
            have h' : 0 ≤ a1 ∧ a1 < ((z0.take k).length : Int) := by rw [hZl]; exact h
            have e := take_getD z0 k a1.toNat (by omega) hz
            by_cases hx : z0.getD a1.toNat 0 = a3
            · exact ⟨true, decide_eq_true (put_eq' _ _ _ h' (by rw [e]; exact hx)), by simpa using hx⟩
            · exact ⟨false, decide_eq_false (put_ne _ _ _ h' (by rw [e]; exact hx)), by simpa using hx⟩
          · exact .inr ⟨by omega, decide_eq_true (put_eq _ _ _ (by rw [hZl]; exact h))⟩
        obtain ⟨Z', hZ'⟩ : ∃ Z', putAt (z0.take k) a1 a3 = Z' := ⟨_, rfl⟩
        rw [hZ'] at hgm hln hrzp hgs hcase
        have ZP := hid hZ'
        have LN := hid hln
        have RZ := hid hrzp
        have GS := hid hgs
        have GM0 := hid hgm
        clear hZ' hln hrzp hgs hgm hZl
        rcases hcase with ⟨hi, sv, hd, hv⟩ | ⟨hi, hd⟩
        · obtain ⟨bx, off, rfl, hzl, hwf, hcell⟩ := W0.out.open.resolve_left (by omega)
          obtain ⟨hi0, hi1⟩ := hi
          have GM : Hid (∀ j : Nat, j < k → getAt Z' (j : Int) = if (j : Int) = a1 then a3 else getAt (z0.take k) j) := by
            intro j _; rw [GM0.out j, GS.out ⟨hi0, hi1⟩]
          have S1 : Hid (sv = decide (Z' = z0.take k)) := hd.symm
          have S2 : Hid (sv = decide (z0.take k = Z')) := by
            have e : decide (z0.take k = Z') = decide (Z' = z0.take k) := by congr 1; exact propext eq_comm
            show sv = _
            rw [e]; exact hd.symm
          have hva := hcell _ (hbr.trans (hbel5.mono hsr)) a1.toNat (by omega)
          obtain ⟨va, hvae⟩ : ∃ y, y = z0.getD a1.toNat 0 := ⟨_, rfl⟩
          rw [← hvae] at hva hv
          clear hvae hcell hwf hd
          have hm5 : Mem w5 b g (z0.take k) c := hmr.below hbel5 hmr.sb hmr.sg
          have sb5 := hmr.sb
          have sg5 := hmr.sg
          have hs5 := hbel5.size
          have hbw5 : Below w.heap.size w w5 := hbr.trans (hbel5.mono hsr)
          have hne2 := hc5.ne
          have sb2 := hc5.sb
          have sg2 := hc5.sg
          go_wp2_with fail
          refine (store_gen b g _ _ a1 a3 _ hm5 (by omega)).mono ?_
          rintro e w6 ⟨r6, c6, rfl, hm6, hcc6, ho6⟩
          have hc6 := hc5.other ho6 (by omega) (by omega) (by omega) (by omega)
          have hs6 := ho6.size
          have hbw6 := hbw5.trans (ho6.below (by omega) (by omega) (by omega))
          rw [ZP.out] at hm6
          go_wp2_with fail
          refine (same_any b g b2 g2 Z' _ _ _ sv _ hm6 hc6 S1.out).mono ?_
          rintro e w7 ⟨rfl, hq7⟩
          have hm7 := hm6.quiet hq7
          have hc7 := hc6.quiet hq7
          go_wp2_with fail
          refine (same_any b2 g2 b g _ Z' _ _ sv _ hc7 hm7 S2.out).mono ?_
          rintro e w8 ⟨rfl, hq8⟩
          have hm8 := hm7.quiet hq8
          have hc8 := hc7.quiet hq8
          have hs8 : w8.heap.size = w6.heap.size := by rw [hq8.heap, hq7.heap]
          have hbw8 := hbw6.trans ((hq7.trans hq8).below _)
          go_wp2_with fail
          refine (copy_any b g _ _ _ hm8).mono ?_
          rintro e w9 ⟨b3, g3, rfl, hd9, hb9, hg9, hbel9⟩
          have hm9 := hm8.below hbel9 hm8.sb hm8.sg
          have hc9 := hc8.below hbel9 hc8.sb hc8.sg
          have hs9 := hbel9.size
          have hbw9 := hbw8.trans (hbel9.mono (by omega))
          go_wp2_with fail
          refine (same_any b g b3 g3 Z' _ _ _ true _ hm9 hd9 (by simp)).mono ?_
          rintro e w10 ⟨rfl, hq10⟩
          have hm10 := hm9.quiet hq10
          have hc10 := hc9.quiet hq10
          have hs10 : w10.heap.size = w9.heap.size := by rw [hq10.heap]
          have hbw10 := hbw9.trans (hq10.below _)
          go_wp2_with fail
          refine (NW.out _).mono ?_
          rintro e w11 ⟨b4, g4, rfl, hn11, hb11, hg11, hbel11⟩
          have hm11 := hm10.below hbel11 hm10.sb hm10.sg
          have hc11 := hc10.below hbel11 hc10.sb hc10.sg
          have hs11 := hbel11.size
          have hbw11 := hbw10.trans (hbel11.mono (by omega))
          go_wp2_with fail
          refine (same_any b g b4 g4 Z' _ _ _ false _ hm11 hn11 LN.out).mono ?_
          rintro e w12 ⟨rfl, hq12⟩
          have hm12 := hm11.quiet hq12
          have hc12 := hc11.quiet hq12
          have hs12 : w12.heap.size = w11.heap.size := by rw [hq12.heap]
          have hbw12 := hbw11.trans (hq12.below _)
          go_wp2_with fail
          go_loopw [92] (fun i wr => ∃ (j cm cc : Nat), j ≤ k ∧ i = .int .i64 j ∧ Mem wr b g Z' cm ∧ Mem wr b2 g2 (z0.take k) cc ∧ cm ≤ 300 + j ∧ cc ≤ 300 + j ∧ w.heap.size ≤ wr.heap.size ∧ Below w.heap.size w wr)
            (fun i _ => k - (intOf i).toNat)
          case atStart => exact ⟨0, _, _, by omega, rfl, hm12, hc12, by omega, by omega, by omega, hbw12⟩
          case round =>
            obtain ⟨j, cm, cc, hj, rfl, hmj, hcj, hcm, hcc, hszj, hbj⟩ := hrel
            by_cases hltj : j < k
            · obtain ⟨bx', off', hae, hzl, hwf, hcell⟩ := W0.out.open.resolve_left (by omega)
              simp only [Option.some.injEq, Addr.mk.injEq] at hae
              obtain ⟨rfl, rfl, _⟩ := hae
              have hy := hcell _ hbj j hltj
              have gc := getAt_nat (z0.take k) j (by simp; omega)
              rw [take_getD z0 k j hltj hz] at gc
              have gm := GM.out j hltj
              obtain ⟨y, hye⟩ : ∃ y, y = z0.getD j 0 := ⟨_, rfl⟩
              rw [← hye] at hy gc
              rw [gc] at gm
              have GC := hid gc
              clear hye hcell hwf gc
              by_cases hja : (j : Int) = a1
              · have tj : ((j : Int) == a1) = true := by simpa using hja
                rw [if_pos hja] at gm
                have GMJ := hid gm
                have LC := load_gen b2 g2 (z0.take k) cc j
                have LM := load_gen b g Z' cm j
                unfold LoadGen at LC LM
                rw [GC.out] at LC
                rw [GMJ.out] at LM
                clear gm hja
                go_wp2_with fail
                refine (LM _ hmj (by omega)).mono ?_
                rintro e w13 ⟨c13, rfl, hm13, hcc13, ho13⟩
                have hc13 := hcj.other ho13 (by omega) (by omega) (by omega) (by omega)
                have hs13 := ho13.size
                go_wp2_with fail
                refine (LC _ hc13 (by omega)).mono ?_
                rintro e w14 ⟨c14, rfl, hc14, hcc14, ho14⟩
                have hm14 := hm13.other ho14 (by omega) (by omega) (by omega) (by omega)
                have hs14 := ho14.size
                clear LC LM
                go_wp2
                go_roundw
                case rel => exact ⟨j + 1, c13, c14, by omega, by go_num, hm14, hc14, by omega, by omega, by omega, (hbj.trans (ho13.below (by omega) (by omega) (by omega))).trans (ho14.below (by omega) (by omega) (by omega))⟩
                case measure => simp [intOf]; omega
              · have tj : ((j : Int) == a1) = false := by simpa using hja
                rw [if_neg hja] at gm
                have GMJ := hid gm
                have LC := load_gen b2 g2 (z0.take k) cc j
                have LM := load_gen b g Z' cm j
                unfold LoadGen at LC LM
                rw [GC.out] at LC
                rw [GMJ.out] at LM
                clear gm hja
                go_wp2_with fail
                refine (LM _ hmj (by omega)).mono ?_
                rintro e w13 ⟨c13, rfl, hm13, hcc13, ho13⟩
                have hc13 := hcj.other ho13 (by omega) (by omega) (by omega) (by omega)
                have hs13 := ho13.size
                go_wp2_with fail
                refine (LC _ hc13 (by omega)).mono ?_
                rintro e w14 ⟨c14, rfl, hc14, hcc14, ho14⟩
                have hm14 := hm13.other ho14 (by omega) (by omega) (by omega) (by omega)
                have hs14 := ho14.size
                clear LC LM
                go_wp2
                go_roundw
                case rel => exact ⟨j + 1, c13, c14, by omega, by go_num, hm14, hc14, by omega, by omega, by omega, (hbj.trans (ho13.below (by omega) (by omega) (by omega))).trans (ho14.below (by omega) (by omega) (by omega))⟩
                case measure => simp [intOf]; omega
            · obtain ⟨u, hu⟩ : ∃ u, u = getAt Z' a2 := ⟨_, rfl⟩
              obtain ⟨v, hv⟩ : ∃ v, v = getAt (z0.take k) a2 := ⟨_, rfl⟩
              have hnu := ne_succ u (by rw [hu]; exact rng_getAt RZ.out a2)
              have LC := load_gen b2 g2 (z0.take k)
              have LM := load_gen b g Z'
              have SN := swap_not b g Z'
              unfold LoadGen at LC LM
              have HLC := hid (fun c w => LC c a2 w)
              have HLM := hid (fun c w => LM c a2 w)
              have HSN := hid (fun c w => SN c a2 (IntKind.u64.wrap (u + 1)) a3 w)
              rw [← hv] at HLC
              rw [← hu] at HLM HSN
              have HNU := hid hnu
              clear hnu LC LM SN hu hv
              go_wp2_with fail
              refine (HLC.out _ _ hcj (by omega)).mono ?_
              rintro e w13 ⟨c13, rfl, hc13, hcc13, ho13⟩
              have hm13 := hmj.other ho13 (by omega) (by omega) (by omega) (by omega)
              have hs13 := ho13.size
              go_wp2_with fail
              refine (HLM.out _ _ hm13 (by omega)).mono ?_
              rintro e w14 ⟨c14, rfl, hm14, hcc14, ho14⟩
              have hc14 := hc13.other ho14 (by omega) (by omega) (by omega) (by omega)
              have hs14 := ho14.size
              go_wp2_with fail
              refine (HSN.out _ _ hm14 (by omega) HNU.out).mono ?_
              rintro e w15 ⟨c15, rfl, hm15, hcc15, ho15⟩
              have hc15 := hc14.other ho15 (by omega) (by omega) (by omega) (by omega)
              have hs15 := ho15.size
              go_wp2_with fail
              refine (HLC.out _ _ hc15 (by omega)).mono ?_
              rintro e w16 ⟨c16, rfl, hc16, hcc16, ho16⟩
              go_wp2
              go_ret
              exact ⟨rfl, (((hbj.trans (ho13.below (by omega) (by omega) (by omega))).trans (ho14.below (by omega) (by omega) (by omega))).trans (ho15.below (by omega) (by omega) (by omega))).trans (ho16.below (by omega) (by omega) (by omega))⟩
        · have GM : Hid (∀ j : Nat, j < k → getAt Z' (j : Int) = if (j : Int) = a1 then a3 else getAt (z0.take k) j) := by
            intro j hj; rw [GM0.out j, if_neg (by omega), if_neg (by omega)]
          have S1 : Hid (true = decide (Z' = z0.take k)) := hd.symm
          have S2 : Hid (true = decide (z0.take k = Z')) := by
            have e : decide (z0.take k = Z') = decide (Z' = z0.take k) := by congr 1; exact propext eq_comm
            show true = _
            rw [e]; exact hd.symm
          clear hd
          rcases hi with hi | hi
          all_goals
            have hm5 : Mem w5 b g (z0.take k) c := hmr.below hbel5 hmr.sb hmr.sg
            have sb5 := hmr.sb
            have sg5 := hmr.sg
            have hs5 := hbel5.size
            have hbw5 : Below w.heap.size w w5 := hbr.trans (hbel5.mono hsr)
            have hne2 := hc5.ne
            have sb2 := hc5.sb
            have sg2 := hc5.sg
            go_wp2_with fail
            refine (store_gen b g _ _ a1 a3 _ hm5 (by omega)).mono ?_
            rintro e w6 ⟨r6, c6, rfl, hm6, hcc6, ho6⟩
            have hc6 := hc5.other ho6 (by omega) (by omega) (by omega) (by omega)
            have hs6 := ho6.size
            have hbw6 := hbw5.trans (ho6.below (by omega) (by omega) (by omega))
            rw [ZP.out] at hm6
            go_wp2_with fail
            refine (same_any b g b2 g2 Z' _ _ _ true _ hm6 hc6 S1.out).mono ?_
            rintro e w7 ⟨rfl, hq7⟩
            have hm7 := hm6.quiet hq7
            have hc7 := hc6.quiet hq7
            go_wp2_with fail
            refine (same_any b2 g2 b g _ Z' _ _ true _ hc7 hm7 S2.out).mono ?_
            rintro e w8 ⟨rfl, hq8⟩
            have hm8 := hm7.quiet hq8
            have hc8 := hc7.quiet hq8
            have hs8 : w8.heap.size = w6.heap.size := by rw [hq8.heap, hq7.heap]
            have hbw8 := hbw6.trans ((hq7.trans hq8).below _)
            go_wp2_with fail
            refine (copy_any b g _ _ _ hm8).mono ?_
            rintro e w9 ⟨b3, g3, rfl, hd9, hb9, hg9, hbel9⟩
            have hm9 := hm8.below hbel9 hm8.sb hm8.sg
            have hc9 := hc8.below hbel9 hc8.sb hc8.sg
            have hs9 := hbel9.size
            have hbw9 := hbw8.trans (hbel9.mono (by omega))
            go_wp2_with fail
            refine (same_any b g b3 g3 Z' _ _ _ true _ hm9 hd9 (by simp)).mono ?_
            rintro e w10 ⟨rfl, hq10⟩
            have hm10 := hm9.quiet hq10
            have hc10 := hc9.quiet hq10
            have hs10 : w10.heap.size = w9.heap.size := by rw [hq10.heap]
            have hbw10 := hbw9.trans (hq10.below _)
            go_wp2_with fail
            refine (NW.out _).mono ?_
            rintro e w11 ⟨b4, g4, rfl, hn11, hb11, hg11, hbel11⟩
            have hm11 := hm10.below hbel11 hm10.sb hm10.sg
            have hc11 := hc10.below hbel11 hc10.sb hc10.sg
            have hs11 := hbel11.size
            have hbw11 := hbw10.trans (hbel11.mono (by omega))
            go_wp2_with fail
            refine (same_any b g b4 g4 Z' _ _ _ false _ hm11 hn11 LN.out).mono ?_
            rintro e w12 ⟨rfl, hq12⟩
            have hm12 := hm11.quiet hq12
            have hc12 := hc11.quiet hq12
            have hs12 : w12.heap.size = w11.heap.size := by rw [hq12.heap]
            have hbw12 := hbw11.trans (hq12.below _)
            go_wp2_with fail
            go_loopw [92] (fun i wr => ∃ (j cm cc : Nat), j ≤ k ∧ i = .int .i64 j ∧ Mem wr b g Z' cm ∧ Mem wr b2 g2 (z0.take k) cc ∧ cm ≤ 300 + j ∧ cc ≤ 300 + j ∧ w.heap.size ≤ wr.heap.size ∧ Below w.heap.size w wr)
              (fun i _ => k - (intOf i).toNat)
            case atStart => exact ⟨0, _, _, by omega, rfl, hm12, hc12, by omega, by omega, by omega, hbw12⟩
            case round =>
              obtain ⟨j, cm, cc, hj, rfl, hmj, hcj, hcm, hcc, hszj, hbj⟩ := hrel
              by_cases hltj : j < k
              · obtain ⟨bx, off, rfl, hzl, hwf, hcell⟩ := W0.out.open.resolve_left (by omega)
                have hy := hcell _ hbj j hltj
                have gc := getAt_nat (z0.take k) j (by simp; omega)
                rw [take_getD z0 k j hltj hz] at gc
                have gm := GM.out j hltj
                obtain ⟨y, hye⟩ : ∃ y, y = z0.getD j 0 := ⟨_, rfl⟩
                rw [← hye] at hy gc
                rw [gc] at gm
                have GC := hid gc
                clear hye hcell hwf gc
                by_cases hja : (j : Int) = a1
                · have tj : ((j : Int) == a1) = true := by simpa using hja
                  rw [if_pos hja] at gm
                  have GMJ := hid gm
                  have LC := load_gen b2 g2 (z0.take k) cc j
                  have LM := load_gen b g Z' cm j
                  unfold LoadGen at LC LM
                  rw [GC.out] at LC
                  rw [GMJ.out] at LM
                  clear gm hja
                  go_wp2_with fail
                  refine (LM _ hmj (by omega)).mono ?_
                  rintro e w13 ⟨c13, rfl, hm13, hcc13, ho13⟩
                  have hc13 := hcj.other ho13 (by omega) (by omega) (by omega) (by omega)
                  have hs13 := ho13.size
                  go_wp2_with fail
                  refine (LC _ hc13 (by omega)).mono ?_
                  rintro e w14 ⟨c14, rfl, hc14, hcc14, ho14⟩
                  have hm14 := hm13.other ho14 (by omega) (by omega) (by omega) (by omega)
                  have hs14 := ho14.size
                  clear LC LM
                  go_wp2
                  go_roundw
                  case rel => exact ⟨j + 1, c13, c14, by omega, by go_num, hm14, hc14, by omega, by omega, by omega, (hbj.trans (ho13.below (by omega) (by omega) (by omega))).trans (ho14.below (by omega) (by omega) (by omega))⟩
                  case measure => simp [intOf]; omega
                · have tj : ((j : Int) == a1) = false := by simpa using hja
                  rw [if_neg hja] at gm
                  have GMJ := hid gm
                  have LC := load_gen b2 g2 (z0.take k) cc j
                  have LM := load_gen b g Z' cm j
                  unfold LoadGen at LC LM
                  rw [GC.out] at LC
                  rw [GMJ.out] at LM
                  clear gm hja
                  go_wp2_with fail
                  refine (LM _ hmj (by omega)).mono ?_
                  rintro e w13 ⟨c13, rfl, hm13, hcc13, ho13⟩
                  have hc13 := hcj.other ho13 (by omega) (by omega) (by omega) (by omega)
                  have hs13 := ho13.size
                  go_wp2_with fail
                  refine (LC _ hc13 (by omega)).mono ?_
                  rintro e w14 ⟨c14, rfl, hc14, hcc14, ho14⟩
                  have hm14 := hm13.other ho14 (by omega) (by omega) (by omega) (by omega)
                  have hs14 := ho14.size
                  clear LC LM
                  go_wp2
                  go_roundw
                  case rel => exact ⟨j + 1, c13, c14, by omega, by go_num, hm14, hc14, by omega, by omega, by omega, (hbj.trans (ho13.below (by omega) (by omega) (by omega))).trans (ho14.below (by omega) (by omega) (by omega))⟩
                  case measure => simp [intOf]; omega
              · obtain ⟨u, hu⟩ : ∃ u, u = getAt Z' a2 := ⟨_, rfl⟩
                obtain ⟨v, hv⟩ : ∃ v, v = getAt (z0.take k) a2 := ⟨_, rfl⟩
                have hnu := ne_succ u (by rw [hu]; exact rng_getAt RZ.out a2)
                have LC := load_gen b2 g2 (z0.take k)
                have LM := load_gen b g Z'
                have SN := swap_not b g Z'
                unfold LoadGen at LC LM
                have HLC := hid (fun c w => LC c a2 w)
                have HLM := hid (fun c w => LM c a2 w)
                have HSN := hid (fun c w => SN c a2 (IntKind.u64.wrap (u + 1)) a3 w)
                rw [← hv] at HLC
                rw [← hu] at HLM HSN
                have HNU := hid hnu
                clear hnu LC LM SN hu hv
                go_wp2_with fail
                refine (HLC.out _ _ hcj (by omega)).mono ?_
                rintro e w13 ⟨c13, rfl, hc13, hcc13, ho13⟩
                have hm13 := hmj.other ho13 (by omega) (by omega) (by omega) (by omega)
                have hs13 := ho13.size
                go_wp2_with fail
                refine (HLM.out _ _ hm13 (by omega)).mono ?_
                rintro e w14 ⟨c14, rfl, hm14, hcc14, ho14⟩
                have hc14 := hc13.other ho14 (by omega) (by omega) (by omega) (by omega)
                have hs14 := ho14.size
                go_wp2_with fail
                refine (HSN.out _ _ hm14 (by omega) HNU.out).mono ?_
                rintro e w15 ⟨c15, rfl, hm15, hcc15, ho15⟩
                have hc15 := hc14.other ho15 (by omega) (by omega) (by omega) (by omega)
                have hs15 := ho15.size
                go_wp2_with fail
                refine (HLC.out _ _ hc15 (by omega)).mono ?_
                rintro e w16 ⟨c16, rfl, hc16, hcc16, ho16⟩
                go_wp2
                go_ret
                exact ⟨rfl, (((hbj.trans (ho13.below (by omega) (by omega) (by omega))).trans (ho14.below (by omega) (by omega) (by omega))).trans (ho15.below (by omega) (by omega) (by omega))).trans (ho16.below (by omega) (by omega) (by omega))⟩
end Go.Proofs.Ytdljacmagabilaa.cellApart
