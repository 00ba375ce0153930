/- The walk of the statement ExploreApart: the law answers true and turns nothing that was there. -/
import Derived.Test.YtlahamkbkeckmaaGreatDoorPre1
import Derived.Test.YtlahamkbkeckmaaGreatDoorLives28
import Derived.Test.YtlahamkbkeckmaaGreatDoorApt
import Derived.OpenShut
namespace Go.Proofs.YtlahamkbkeckmaaGreatDoor.exploreApart
open Go.RowKit
set_option linter.unusedVariables false
set_option linter.unusedSimpArgs false
set_option maxRecDepth 20000

set_option maxHeartbeats 4000000 in
theorem walk (a0 a1 : Int) (w : World) (w0 : (Lit.int .u8 a0).wf = true) (w1 : (Lit.int .u8 a1).wf = true) (T2 : EvNames w) (T3 : EvSteps w) (T1 : MaPlaces w) :
    Calls Tryz.prog 3 #[.int .u8 a0, .int .u8 a1] w fun e w' => e = .returned (.bool true) ∧ Below w.heap.size w w' := by
  have b0 := bounds_u8 w0
  have b1 := bounds_u8 w1
  have l0 := b0.1
  have l1 := b0.2
  have m0 := b1.1
  have m1 := b1.2
  clear b0 b1 w0 w1
  obtain ⟨m, hm⟩ : ∃ m, 1 + a0 % 5 = m := ⟨_, rfl⟩
  obtain ⟨n, hn⟩ : ∃ n : Nat, a1 % 6 = n := ⟨(a1 % 6).toNat, by omega⟩
  have hm1 : 1 ≤ m := by omega
  have hm2 : m ≤ 5 := by omega
  have hn5 : n ≤ 5 := by omega
  have HM := hid hm
  have HN := hid hn
  clear hm hn
  have LV := hid (lives28 w T1 T2 T3 T1.lt T2.lt T3.lt)
  clear T1 T2 T3
  -- how many
  obtain ⟨c, hc⟩ : ∃ c : Nat, m ^ n = c := ⟨(m ^ n).toNat, by have : 0 < m ^ n := Int.pow_pos (by omega); omega⟩
  have hcle : (c : Int) ≤ 3125 := by
    have h1 : m ^ n ≤ (5 : Int) ^ n := by
      have : ∀ k : Nat, 0 ≤ m ^ k ∧ m ^ k ≤ (5 : Int) ^ k := fun k => by
        induction k with
        | zero => simp
        | succ k ih =>
          rw [Int.pow_succ, Int.pow_succ]
          exact ⟨Int.mul_nonneg ih.1 (by omega), Int.mul_le_mul ih.2 hm2 (by omega) (Int.le_trans ih.1 ih.2)⟩
      exact (this n).2
    have h2 : (5 : Int) ^ n ≤ 3125 := by
      match n, hn5 with
      | 0, _ => decide
      | 1, _ => decide
      | 2, _ => decide
      | 3, _ => decide
      | 4, _ => decide
      | 5, _ => decide
    omega
  have hcge : (1 : Int) ≤ c := by rw [← hc]; have : 0 < m ^ n := Int.pow_pos (by omega); omega
  have hec : ecnt m n = c := by
    by_cases h : m ≤ 1 ∨ (n : Int) = 0
    · unfold ecnt
      rw [if_neg (by omega), if_pos h, ← hc]
      rcases h with h | h
      · obtain rfl : m = 1 := by omega
        rw [Int.one_pow]
      · obtain rfl : n = 0 := by omega
        rw [Int.pow_zero]
    · rw [ecnt_small (by omega) (by omega) (by rw [Int.toNat_natCast, hc]; omega), Int.toNat_natCast, hc]
  have HEC := hid hec
  have HC := hid hc
  clear hec hc
  have b01 : ((n : Int)) ≤ 9223372036854775807 := by omega
  go_enter Tryz.func3, Tryz.ntmps3
  go_wp2_with fail
  refine LV.out.mono ?_
  rintro e w2 ⟨rfl, hb⟩
  have B2 := hid hb
  clear hb LV
  go_wp2_with fail
  rw [HM.out, HN.out]
  refine (ecount m n _ (by omega) b01).mono ?_
  rintro e w3 ⟨rfl, rfl⟩
  rw [HEC.out]
  have s2 := B2.out.size
  obtain ⟨g, hg⟩ : ∃ g, g = w3.heap.size := ⟨_, rfl⟩
  have K0 : Hid (MapK (w3.alloc (.map #[] 0)) g enc5 (fun _ => none) 0) := hid (by rw [hg]; exact MapK.new w3 enc5)
  have hmm : (Instr.makeMap 24 none).run Tryz.prog w3 = .ok (.map (some g)) (w3.alloc (.map #[] 0)) := by rw [hg]; rfl
  have B3 := hid (B2.out.alloc s2 (.map #[] 0))
  have sz3 : (w3.alloc (.map #[] 0)).heap.size = g + 1 := by simp [hg]
  have hgw : w.heap.size ≤ g := by omega
  clear B2 hg s2
  have c1 : decide ((4096 : Int) < (c : Int)) = false := decide_eq_false (by omega)
  go_wp2_with fail
  clear hmm
  generalize w3.alloc (.map #[] 0) = w4 at *
  go_loopw [40] (fun i wr => ∃ (k : Nat) (f : Five → Option Value), k ≤ c ∧ i = .int .i64 k ∧ Hid (MapK wr g enc5 f k) ∧ Hid (∀ a, (∀ t : Nat, t < k → a ≠ keyOf m n t) → f a = none) ∧ g < wr.heap.size ∧ Hid (Below w.heap.size w wr))
    (fun i _ => c - (intOf i).toNat)
  case atStart => exact ⟨0, _, by omega, rfl, K0, hid (fun _ _ => rfl), by omega, B3⟩
  case round =>
    clear K0 B3 sz3
    obtain ⟨k, f, hk, rfl, KM, FR, hgr, hbr⟩ := hrel
    by_cases hlt : k < c
    · have EO := hid (eorder m n k wr hm1 (by omega) (by omega) (by omega) (by rw [HEC.out]; omega) (by omega))
      go_wp2_with fail
      refine EO.out.mono ?_
      rintro e w5 ⟨v5, rfl, ho5, hb5⟩
      have B5 := hid (hbr.out.trans (hb5.mono hbr.out.size))
      have K5 := hid (KM.out.kept (hb5.block g hgr))
      have s5 := hb5.size
      have hrd := ho5.reads
      obtain ⟨va, vc, rfl, _, hr⟩ := hrd
      rw [edig_len] at hr ⊢
      have R5 := hid hr
      clear hr ho5 hb5 EO KM hbr
      obtain ⟨q, hq⟩ : ∃ q, q = w5.heap.size := ⟨_, rfl⟩
      have N6 : Hid ((w5.alloc (.cells #[.int .i64 0, .int .i64 0, .int .i64 0, .int .i64 0, .int .i64 0] 27)).heap[q]? = some (.cells (kr m n k 0) 27 (0, 0))) := hid (by rw [hq, kr_zero]; exact Deep.blk_alloc_new _ _)
      have B6 : Hid (Below q w5 (w5.alloc (.cells #[.int .i64 0, .int .i64 0, .int .i64 0, .int .i64 0, .int .i64 0] 27))) := hid (by rw [hq]; exact (Below.refl _ _).alloc (Nat.le_refl _) _)
      have s6 : (w5.alloc (.cells #[.int .i64 0, .int .i64 0, .int .i64 0, .int .i64 0, .int .i64 0] 27)).heap.size = q + 1 := by simp [hq]
      have HQ := hid hq
      go_wp2_with fail
      rw [← HQ.out]
      clear hq
      generalize w5.alloc (.cells #[.int .i64 0, .int .i64 0, .int .i64 0, .int .i64 0, .int .i64 0] 27) = w6 at *
      go_loopw [53] (fun i wr => ∃ j : Nat, j ≤ n ∧ i = .int .i64 j ∧ Hid (wr.heap[q]? = some (.cells (kr m n k j) 27 (0, 0))) ∧ wr.heap.size = q + 1 ∧ Hid (Below q w5 wr))
        (fun i _ => n - (intOf i).toNat)
      case atStart => exact ⟨0, by omega, rfl, N6, s6, B6⟩
      case round =>
        clear N6 s6 B6
        obtain ⟨j, hj, rfl, NR, sr, br⟩ := hrel
        by_cases hjn : j < n
        · obtain ⟨gx, off, rfl, hgl, hc⟩ := R5.out (by omega)
          have hx := (br.out.cell (p := ⟨gx, off + j, none⟩) (by rw [HQ.out]; exact hgl)).trans (hc j hjn)
          rw [edig_get hjn] at hx
          have hxr := edg_range m n k j hm1
          obtain ⟨x, hxe⟩ : ∃ x, x = edg m n k j := ⟨_, rfl⟩
          rw [← hxe] at hx hxr
          have hx0 := hxr.1
          have hx1 := hxr.2
          have hcl := kr_get m n k j j (by omega)
          have j0 := blk_cell NR.out hcl
          have f0 : wr.frozen? ⟨q, j, none⟩ = false := blk_free NR.out
          have j5 : (j : Int) < 5 := by omega
          have N2 := hid (show (wr.setCell ⟨q, j, none⟩ (.int .i64 x)).heap[q]? = some (.cells (kr m n k (j + 1)) 27 (0, 0)) from by
            refine blk_set _ NR.out ?_
            rw [hxe, kr_set _ _ _ _ (by omega)])
          have B2 := hid (br.out.setCell (p := ⟨q, j, none⟩) (Nat.le_refl _) (.int .i64 x))
          have s2 : (wr.setCell ⟨q, j, none⟩ (.int .i64 x)).heap.size = q + 1 := by simp [sr]
          clear NR br hxr hc hgl hxe hcl
          go_wp2_with fail
          go_roundw
          case rel => exact ⟨j + 1, by omega, by go_num, N2, s2, B2⟩
          case measure => simp [intOf]; omega
        · obtain rfl : j = n := by omega
          have K7 := K5.out.kept (br.out.block g (by rw [HQ.out]; have := K5.out.lt; omega))
          have KD : MapK wr.drew g enc5 f k := K7.kept rfl
          have hfr : f (keyOf m j k) = none := FR.out _ (fun t ht e => by
            have hp : ∀ u : Nat, u < c → (u : Int) < m ^ j := fun u hu => by rw [HC.out]; omega
            have := keyOf_inj hn5 hm1 (by omega) (by omega) (hp k hlt) (hp t (by omega)) e
            omega)
          obtain ⟨w8, sg, w9, E1, E2, E3, E4, K9, o9⟩ := fresh5 KD (keyOf m j k) hfr (.int .i64 1)
          have FR9 := hid (show ∀ a, (∀ t : Nat, t < k + 1 → a ≠ keyOf m j t) → updK f (keyOf m j k) (some (.int .i64 1)) a = none from fun a ha => by
            rw [updK_ne _ _ (ha k (by omega))]
            exact FR.out a (fun t ht => ha t (by omega)))
          have B9 := hid (B5.out.trans (((br.out.mono (show q ≥ w.heap.size by rw [HQ.out]; have := B5.out.size; omega)).trans (Quiet.below ⟨1, rfl⟩ _)).trans (o9.below (by omega) (by omega) (by have h1 := B5.out.size; have h2 := HQ.out; have h3 : wr.drew.heap.size = wr.heap.size := rfl; omega))))
          have S9 := hid o9.size
          have hgq : g < q := by rw [HQ.out]; exact K5.out.lt
          have KK := hid K9
          have y0 := blk_cell NR.out (kr_get m j k j 0 (by omega))
          have y1 := blk_cell NR.out (kr_get m j k j 1 (by omega))
          have y2 := blk_cell NR.out (kr_get m j k j 2 (by omega))
          have y3 := blk_cell NR.out (kr_get m j k j 3 (by omega))
          have y4 := blk_cell NR.out (kr_get m j k j 4 (by omega))
          rw [← kr_all] at E1 E2 E3
          unfold kr at E1 E2 E3
          generalize kg m j k j 0 = x0 at y0 E1 E2 E3
          generalize kg m j k j 1 = x1 at y1 E1 E2 E3
          generalize kg m j k j 2 = x2 at y2 E1 E2 E3
          generalize kg m j k j 3 = x3 at y3 E1 E2 E3
          generalize kg m j k j 4 = x4 at y4 E1 E2 E3
          clear KD K7 K5 B5 R5 NR br o9 K9 hfr FR HC HEC
          go_wp2_with fail
          go_region
          all_goals
            go_wp2
            go_roundw
            case rel => exact ⟨k + 1, _, by omega, by go_num, KK, FR9, (by have h1 := S9.out; have h2 : wr.drew.heap.size = wr.heap.size := rfl; omega), B9⟩
            case measure => simp [intOf]; omega
    · obtain rfl : k = c := by omega
      have L1 := fun ty => KM.out.len (P := Tryz.prog) Tryz.underlying24 ty
      have B := hbr
      clear KM FR hbr
      go_wp2
      go_ret
      exact ⟨rfl, B.out⟩
end Go.Proofs.YtlahamkbkeckmaaGreatDoor.exploreApart
