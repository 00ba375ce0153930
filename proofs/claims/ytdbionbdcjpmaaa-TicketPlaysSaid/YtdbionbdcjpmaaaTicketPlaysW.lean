/- The walk of the statement TicketPlays: the law answers true and turns nothing that was there. -/
import Derived.Test.YtdbionbdcjpmaaaPlays3b
import Derived.Deep.CutRange
import Derived.Deep.CutBlock
import Derived.Deep.QuietTactic
import Derived.BigQuiet
import Derived.Deep.RegionHeld3
import Derived.StillTailTactics
namespace Go.Proofs.Ytdbionbdcjpmaaa.ticketPlays
open Go.RowKit
set_option linter.unusedVariables false
set_option linter.unusedSimpArgs false

set_option maxRecDepth 100000 in
set_option maxHeartbeats 8000000 in
theorem walk (a0 : Int) (a1 : Option Addr) (len1 cap1 : Nat) (z1 : List Int) (w : World) (w0 : (Lit.int .u64 a0).wf = true) (w1 : IsRow .u8 w a1 len1 cap1 z1) :
    Calls Try.prog 4 #[.int .u64 a0, .slice a1 len1 cap1] w fun e w' => e = .returned (.bool true) ∧ Below w.heap.size w w' := by
  by_cases hlen : (60 : Int) < len1
  · go_enter Try.func4, Try.ntmps4
    go_wp2_with fail
    refine (lives3 _).mono ?_
    rintro e w2 ⟨rfl, hb1⟩
    go_wp2_with fail
    refine (lives3 _).mono ?_
    rintro e w3 ⟨rfl, hb2⟩
    go_wp2
    go_ret
    exact ⟨rfl, hb1.trans (hb2.mono hb1.size)⟩
  have hlen' : len1 ≤ 60 := by omega
  have W2 := hid w1
  have B0 := hid (inU_of w0)
  clear w0 w1
  obtain ⟨i0, hi, hz0, hz1, hz2⟩ := info_parts infoU64
  have HI := hid hi
  clear hi
  go_enter Try.func4, Try.ntmps4
  go_wp2_with fail
  refine (lives3 _).mono ?_
  rintro e w2 ⟨rfl, hb1⟩
  go_wp2_with fail
  refine (lock_any _ _).mono ?_
  rintro e w3 ⟨b, g, rfl, hm, hb, hg, hb3⟩
  have S0 : ∀ wr : World, wr = (w3.alloc (.cells #[.int .i64 4, .int .i64 2] 41)).alloc (.cells #[.int .u64 a0, .slice none 0 0] 45) → Hid (St w w3.heap.size b g [0, 0, T a0 0, 0, T a0 0, 0] (tk a0 0 0) (tk a0 0 0) (T a0 0) 2 (.slice none 0 0) (.slice none 0 0) wr) := by
    rintro wr rfl
    have hs1 := hb1.size
    have hs3 := hb3.size
    have hbl : Below w.heap.size w w3 := hb1.trans (hb3.mono hs1)
    rw [T_zero B0.out]
    exact ⟨(hm.alloc _).alloc _, by rw [tk_nil]; exact Offs.nil _ _ _, by rw [tk_nil]; exact Offs.nil _ _ _, by simp [Value.ownBlock],
      (Below.heap_alloc _ _ _ (by simp)).trans (Deep.blk_alloc_new _ _), by have := Deep.blk_alloc_new (w3.alloc (.cells #[.int .i64 4, .int .i64 2] 41)) (.cells #[.int .u64 a0, .slice none 0 0] 45); simpa using this, by simp,
      (hbl.alloc (by omega) _).alloc (by simp; omega) _, by omega, by omega, hm.sb, hm.sg⟩
  clear hm hb hg hb3 hb1
  go_wp2_with fail
  obtain ⟨N, hN⟩ : ∃ N, N = w3.heap.size := ⟨_, rfl⟩
  rw [← hN] at S0 ⊢
  clear hN
  go_loopw [8, 37] (fun va i wr => ∃ (k f n c : Nat) (vr : Value), k ≤ len1 ∧ i = .int .i64 k ∧ f ≤ n ∧ n ≤ k ∧ c ≤ 2 + 1000 * k ∧ Hid (St w N b g [0, 0, T a0 f, 0, T a0 n, 0] (tk a0 0 n) (tk a0 f n) (T a0 n) c va vr wr))
    (fun _ i _ => len1 - (intOf i).toNat)
  case atStart => exact ⟨0, 0, 0, 2, _, by omega, rfl, by omega, by omega, by omega, S0 _ rfl⟩
  case round =>
    clear S0
    obtain ⟨k, f, n, c, vr, hk, rfl, hf, hn, hc, S⟩ := hrel
    by_cases hlt : k < len1
    · obtain ⟨bx, off, rfl, hzl, hwf, hcellz⟩ := W2.out.open.resolve_left (by omega)
      have hx := hcellz _ S.out.bl k hlt
      have hr8 := range_u8 hwf k
      obtain ⟨x, hxe⟩ : ∃ x, x = z1.getD k 0 := ⟨_, rfl⟩
      rw [← hxe] at hx
      rw [← List.getD_eq_getElem?_getD, ← hxe] at hr8
      clear hxe hcellz hwf
      have x0 : 0 ≤ x := hr8.1
      have x1 : x ≤ 255 := hr8.2
      clear hr8
      obtain ⟨aa, ca, rfl⟩ := S.out.a.slice
      obtain ⟨ar, cr, rfl⟩ := S.out.r.slice
      simp only [tk_len, Nat.sub_zero] at S ⊢
      obtain ⟨m, hm⟩ : ∃ m, m = n - f := ⟨_, rfl⟩
      rw [← hm] at S
      have hm1 : m + f ≤ n := by omega
      have hm2 : n ≤ m + f := by omega
      have tl : (tk a0 f n).length = m := by rw [tk_len, hm]
      have TL := hid tl
      clear hm tl
      by_cases d0 : x % 3 = 0
      · have t0 : (x % 3 == 0) = true := by simp [d0]
        have L := S.out.l
        obtain ⟨⟨l0, l1, l2, l3⟩, l4, l5⟩ := L
        go_wp2_with fail
        refine (reftake (T a0 n) (N + 2) m cr ar (tk a0 f n) wr S.out.r (tk_one _ _ _) (by rw [TL.out]; omega)).mono ?_
        rintro e w5 ⟨a2, c2, he, ho2, hb2⟩
        rw [TL.out] at he ho2
        subst he
        rw [tk_snoc hf] at ho2
        have S5 := hid ((S.out.below hb2).alloc (.cells #[.int .u64 (U (T a0 n + 1)), .slice a2 (m + 1) c2] 45))
        have HAP := hid (show ∀ q, (Value.slice aa n ca).ownBlock = some q → (Value.slice a2 (m + 1) c2).ownBlock ≠ some q from fun q h1 h2 => by have e1 := S.out.a.lt q h1; have e2 := ho2.lt q h2; omega)
        have HR := hid ((ho2.mono (show N + 2 ≤ wr.heap.size from S.out.sz)).alloc (.cells #[.int .u64 (U (T a0 n + 1)), .slice a2 (m + 1) c2] 45))
        have S6 := hid (S5.out.setw (U (T a0 n + 1)) (.slice a2 (m + 1) c2) (tk a0 f (n + 1)) HR.out HAP.out)
        clear l0 l1 l2 l3 l4 l5 ho2 hb2 hx
        have L := S5.out.l
        obtain ⟨⟨l0, l1, l2, l3⟩, l4, l5⟩ := L
        clear S5 HAP HR S
        go_wp2_with fail
        clear l0 l1 l2 l3 l4 l5
        generalize ((w5.alloc (.cells #[.int .u64 (U (T a0 n + 1)), .slice a2 (m + 1) c2] 45)).setCell ⟨N + 1, 0, none⟩ (.int .u64 (U (T a0 n + 1)))).setCell ⟨N + 1, 1, none⟩ (.slice a2 (m + 1) c2) = w6 at *
        rw [T_succ] at S6
        refine (count_any b g _ c _ S6.out.m).mono ?_
        rintro e w' ⟨rfl, rfl⟩
        have L := S6.out.l
        obtain ⟨⟨l0, l1, l2, l3⟩, l4, l5⟩ := L
        go_wp2_with fail
        refine (takeK S6.out (by omega)).mono ?_
        rintro e w7 ⟨rfl, h7⟩
        have S7 := hid h7
        clear h7 l0 l1 l2 l3 l4 l5 S6
        have tne : (T a0 n != T a0 n) = false := by simp
        go_wp2_with fail
        refine (count_any b g _ (c + 1) _ S7.out.m).mono ?_
        rintro e w' ⟨rfl, rfl⟩
        go_wp2_with (at_builtin; refine wpList_append_offs rfl _ _ 26 rfl _ (N + 2) 30 i0 (.int .u64 0) 8 Try.underlying26 HI.out hz0 hz1 hz2 rfl _ _ rfl (S7.out.alloc _).a ⟨w7.heap.size, 0, none⟩ 1 (.int .u64 (T a0 n)) rfl ?c1 rfl ?c3 ?c4 ?c5 ?_)
        case c1 => exact cell_one_new _ _ _ 0 _ rfl
        case c3 => rw [tk_len]; unfold maxLen; omega
        case c4 => rw [tk_len]; omega
        case c5 => have := S7.out.sz; simp; omega
        intro v' w8 hx6 hg6 hat
        have S8 := hid ((S7.out.alloc _).appa hx6 hg6 (by rw [World.size_alloc]; exact hat))
        rw [tk_snoc (Nat.zero_le n)] at S8
        clear hx6 hg6 hat S7
        go_wp2
        go_roundw
        case rel => exact ⟨k + 1, f, n + 1, c + 1, _, by omega, by go_num, by omega, by omega, by omega, S8⟩
        case measure => simp [intOf]; omega
      · have t0 : (x % 3 == 0) = false := by simpa using d0
        by_cases n0 : n = 0
        · have tn : ((n : Int) == 0) = true := beq_iff_eq.2 (by omega)
          clear n0
          have L := S.out.l
          obtain ⟨⟨l0, l1, l2, l3⟩, l4, l5⟩ := L
          go_wp2_with fail
          clear tn
          refine (reftake (T a0 n) (N + 2) m cr ar (tk a0 f n) wr S.out.r (tk_one _ _ _) (by rw [TL.out]; omega)).mono ?_
          rintro e w5 ⟨a2, c2, he, ho2, hb2⟩
          rw [TL.out] at he ho2
          subst he
          rw [tk_snoc hf] at ho2
          have S5 := hid ((S.out.below hb2).alloc (.cells #[.int .u64 (U (T a0 n + 1)), .slice a2 (m + 1) c2] 45))
          have HAP := hid (show ∀ q, (Value.slice aa n ca).ownBlock = some q → (Value.slice a2 (m + 1) c2).ownBlock ≠ some q from fun q h1 h2 => by have e1 := S.out.a.lt q h1; have e2 := ho2.lt q h2; omega)
          have HR := hid ((ho2.mono (show N + 2 ≤ wr.heap.size from S.out.sz)).alloc (.cells #[.int .u64 (U (T a0 n + 1)), .slice a2 (m + 1) c2] 45))
          have S6 := hid (S5.out.setw (U (T a0 n + 1)) (.slice a2 (m + 1) c2) (tk a0 f (n + 1)) HR.out HAP.out)
          clear l0 l1 l2 l3 l4 l5 ho2 hb2 hx
          have L := S5.out.l
          obtain ⟨⟨l0, l1, l2, l3⟩, l4, l5⟩ := L
          clear S5 HAP HR S
          go_wp2_with fail
          clear l0 l1 l2 l3 l4 l5
          generalize ((w5.alloc (.cells #[.int .u64 (U (T a0 n + 1)), .slice a2 (m + 1) c2] 45)).setCell ⟨N + 1, 0, none⟩ (.int .u64 (U (T a0 n + 1)))).setCell ⟨N + 1, 1, none⟩ (.slice a2 (m + 1) c2) = w6 at *
          rw [T_succ] at S6
          refine (count_any b g _ c _ S6.out.m).mono ?_
          rintro e w' ⟨rfl, rfl⟩
          have L := S6.out.l
          obtain ⟨⟨l0, l1, l2, l3⟩, l4, l5⟩ := L
          go_wp2_with fail
          refine (takeK S6.out (by omega)).mono ?_
          rintro e w7 ⟨rfl, h7⟩
          have S7 := hid h7
          clear h7 l0 l1 l2 l3 l4 l5 S6
          have tne : (T a0 n != T a0 n) = false := by simp
          go_wp2_with fail
          refine (count_any b g _ (c + 1) _ S7.out.m).mono ?_
          rintro e w' ⟨rfl, rfl⟩
          go_wp2_with (at_builtin; refine wpList_append_offs rfl _ _ 26 rfl _ (N + 2) 30 i0 (.int .u64 0) 8 Try.underlying26 HI.out hz0 hz1 hz2 rfl _ _ rfl (S7.out.alloc _).a ⟨w7.heap.size, 0, none⟩ 1 (.int .u64 (T a0 n)) rfl ?c1 rfl ?c3 ?c4 ?c5 ?_)
          case c1 => exact cell_one_new _ _ _ 0 _ rfl
          case c3 => rw [tk_len]; unfold maxLen; omega
          case c4 => rw [tk_len]; omega
          case c5 => have := S7.out.sz; simp; omega
          intro v' w8 hx6 hg6 hat
          have S8 := hid ((S7.out.alloc _).appa hx6 hg6 (by rw [World.size_alloc]; exact hat))
          rw [tk_snoc (Nat.zero_le n)] at S8
          clear hx6 hg6 hat S7
          go_wp2
          go_roundw
          case rel => exact ⟨k + 1, f, n + 1, c + 1, _, by omega, by go_num, by omega, by omega, by omega, S8⟩
          case measure => simp [intOf]; omega
        · have tn : ((n : Int) == 0) = false := beq_eq_false_iff_ne.2 (by omega)
          have hnp : (0 : Int) < n := by omega
          have hq0 : 0 ≤ x / 3 := by omega
          have hq1 : x / 3 ≤ 85 := by omega
          have hi0 : 0 ≤ x / 3 % (n : Int) := Int.emod_nonneg _ (by omega)
          have hi1 : x / 3 % (n : Int) < n := Int.emod_lt_of_pos _ hnp
          obtain ⟨j, hj⟩ : ∃ j : Nat, (x / 3 % (n : Int)).toNat = j := ⟨_, rfl⟩
          have hjn : j < n := by omega
          have HA := S.out.a
          rw [tk_cons (show 0 < n by omega)] at HA
          obtain ⟨ga, oa, rfl, e1, hca, hcm, e2⟩ := HA.pos
          clear HA e1 e2
          have hcell : wr.cell? ⟨ga, oa + (x / 3 % (n : Int)).toNat, none⟩ = some (.int .u64 (T a0 j)) := by
            have := S.out.a.at j _ (tk_get (z := a0) (show j < n - 0 by omega))
            rw [hj]
            rwa [Nat.zero_add] at this
          have HJ := hid hj
          unfold maxLen at hcm
          clear n0 hj
          have L := S.out.l
          obtain ⟨⟨l0, l1, l2, l3⟩, l4, l5⟩ := L
          go_upto_region 17 with (fail)
          clear hcell hca hcm hi0 hi1 hq0 hq1 hnp tn t0 hx
          have hTn : T a0 j ≠ T a0 n := (T_ne a0 j n hjn (by omega)).symm
          have HTN := hid hTn
          clear hTn
          rcases Nat.eq_zero_or_pos m with hm0 | hm0
          · obtain rfl : m = 0 := hm0
            go_wp2_with fail
            refine (refheld_empty (T a0 n) (T a0 j) ar cr wr false (beq_eq_false_iff_ne.2 HTN.out)).mono ?_
            rintro e w5 ⟨rfl, hb5⟩
            have S5 := hid (S.out.below hb5)
            clear l0 l1 l2 l3 l4 l5 hb5 S
            have L := S5.out.l
            obtain ⟨⟨l0, l1, l2, l3⟩, l4, l5⟩ := L
            by_cases d1 : x % 3 = 1
            · have t1 : (x % 3 == 1) = true := by simp [d1]
              have t2 : (x % 3 == 2) = false := by simp [d1]
              clear d0 d1
              go_wp2_with fail
              clear l0 l1 l2 l3 l4 l5
              go_loopw [133] (fun i wr => i = .int .i64 0 ∧ Hid (St w N b g [0, 0, T a0 f, 0, T a0 n, 0] (tk a0 0 n) (tk a0 f n) (T a0 n) (c) (.slice (some ⟨ga, oa, none⟩) n ca) (.slice ar 0 cr) wr))
                (fun i _ => 0)
              case atStart => exact ⟨rfl, S5⟩
              case round =>
                obtain ⟨rfl, SR⟩ := hrel
                have L := SR.out.l
                obtain ⟨⟨l0, l1, l2, l3⟩, l4, l5⟩ := L
                have SD := hid SR.out.drew
                have BK := hid (busyK SD.out (by omega) (by omega) (by omega) false (decide_eq_false (by omega)))
                go_wp2_with fail
                go_region_held3 (fun w' => w'.cell? ⟨N, 0, none⟩ = some (.int .i64 4) ∧ w'.cell? ⟨N, 1, none⟩ = some (.int .i64 2) ∧ w'.cell? ⟨N + 1, 0, none⟩ = some (.int .u64 (T a0 n)) ∧ w'.cell? ⟨N + 1, 1, none⟩ = some (.slice ar 0 cr))
                  (first
                    | with_reducible exact SD.out.l.1
                    | with_reducible exact SB.out.l.1)
                  (first
                    | (go_at_call 23; with_reducible refine (BK.out).mono ?_; rintro e w9 ⟨rfl, h9⟩; have SB := hid h9; clear h9))
                all_goals
                  clear l0 l1 l2 l3 l4 l5
                  go_wp2
                  go_roundw
                  case rel => exact ⟨k + 1, f, n, (c) + 2, _, by omega, by go_num, by omega, by omega, by omega, SB⟩
                  case measure => simp [intOf]; omega
            · have t1 : (x % 3 == 1) = false := by simpa using d1
              have t2 : (x % 3 == 2) = true := by rw [beq_iff_eq]; omega
              clear d0 d1
              go_wp2_with fail
              clear l0 l1 l2 l3 l4 l5
              go_loopw [133] (fun i wr => i = .int .i64 0 ∧ Hid (St w N b g [0, 0, T a0 f, 0, T a0 n, 0] (tk a0 0 n) (tk a0 f n) (T a0 n) (c) (.slice (some ⟨ga, oa, none⟩) n ca) (.slice ar 0 cr) wr))
                (fun i _ => 0)
              case atStart => exact ⟨rfl, S5⟩
              case round =>
                obtain ⟨rfl, SR⟩ := hrel
                have L := SR.out.l
                obtain ⟨⟨l0, l1, l2, l3⟩, l4, l5⟩ := L
                have SD := hid SR.out.drew
                have BK := hid (busyK SD.out (by omega) (by omega) (by omega) false (decide_eq_false (by omega)))
                go_wp2_with fail
                go_region_held3 (fun w' => w'.cell? ⟨N, 0, none⟩ = some (.int .i64 4) ∧ w'.cell? ⟨N, 1, none⟩ = some (.int .i64 2) ∧ w'.cell? ⟨N + 1, 0, none⟩ = some (.int .u64 (T a0 n)) ∧ w'.cell? ⟨N + 1, 1, none⟩ = some (.slice ar 0 cr))
                  (first
                    | with_reducible exact SD.out.l.1
                    | with_reducible exact SB.out.l.1)
                  (first
                    | (go_at_call 23; with_reducible refine (BK.out).mono ?_; rintro e w9 ⟨rfl, h9⟩; have SB := hid h9; clear h9))
                all_goals
                  clear l0 l1 l2 l3 l4 l5
                  go_wp2
                  go_roundw
                  case rel => exact ⟨k + 1, f, n, (c) + 2, _, by omega, by go_num, by omega, by omega, by omega, SB⟩
                  case measure => simp [intOf]; omega
          · have hmz : (0 : Int) < m := by omega
            have hfn : f < n := by omega
            have HRW : Hid (Offs wr (N + 2) 30 (.slice ar m cr) (.int .u64 (T a0 f) :: tk a0 (f + 1) n)) := by rw [← tk_cons hfn]; exact hid S.out.r
            by_cases jf : j = f
            · obtain rfl : j = f := jf
              go_wp2_with fail
              refine (refheld_any (T a0 n) (T a0 j) (T a0 j) ar m cr (N + 2) _ wr HRW.out true (by simp)).mono ?_
              rintro e w5 ⟨rfl, hb5⟩
              have S5 := hid (S.out.below hb5)
              clear l0 l1 l2 l3 l4 l5 hb5 S HRW
              have L := S5.out.l
              obtain ⟨⟨l0, l1, l2, l3⟩, l4, l5⟩ := L
              by_cases d1 : x % 3 = 1
              · have t1 : (x % 3 == 1) = true := by simp [d1]
                have t2 : (x % 3 == 2) = false := by simp [d1]
                clear d0 d1
                have HHK := hid (heldK S5.out (by omega) j true (decide_eq_true rfl) (by omega) (by omega))
                go_wp2_with fail
                refine (HHK.out).mono ?_
                rintro e w6 ⟨rfl, h6⟩
                have S6 := hid h6
                clear h6 HHK l0 l1 l2 l3 l4 l5 S5
                have L := S6.out.l
                obtain ⟨⟨l0, l1, l2, l3⟩, l4, l5⟩ := L
                go_wp2_with fail
                clear l0 l1 l2 l3 l4 l5
                go_loopw [133] (fun i wr => ∃ (q c2 : Nat), q ≤ m ∧ i = .int .i64 q ∧ c2 ≤ c + 1 + 2 * q ∧ Hid (St w N b g [0, 0, T a0 j, 0, T a0 n, 0] (tk a0 0 n) (tk a0 j n) (T a0 n) c2 (.slice (some ⟨ga, oa, none⟩) n ca) (.slice ar m cr) wr))
                  (fun i _ => m - (intOf i).toNat)
                case atStart => exact ⟨0, c + 1, by omega, rfl, by omega, S6⟩
                case round =>
                  obtain ⟨q, c2, hq, rfl, hc2, SR⟩ := hrel
                  have L := SR.out.l
                  obtain ⟨⟨l0, l1, l2, l3⟩, l4, l5⟩ := L
                  by_cases hql : q < m
                  · have HR := SR.out.r
                    rw [tk_cons (show j < n by omega)] at HR
                    obtain ⟨gr, rr, rfl, e1, hcr, hcrm, e2⟩ := HR.pos
                    clear HR e1 e2
                    unfold maxLen at hcrm
                    have hcq := SR.out.r.at q _ (tk_get (z := a0) (show q < n - j by omega))
                    have hqq : ((q : Int) != q) = false := by simp
                    have HAK := hid (aheadK SR.out (by omega) q (by omega))
                    have q63 : (q : Int) ≤ 1000 := by omega
                    go_wp2_with fail
                    refine (HAK.out).mono ?_
                    rintro e w9 ⟨rfl, h9⟩
                    have S9 := hid h9
                    clear h9 HAK l0 l1 l2 l3 l4 l5 hcq
                    have L := S9.out.l
                    obtain ⟨⟨l0, l1, l2, l3⟩, l4, l5⟩ := L
                    by_cases q0 : q = 0
                    · have hq0' : ((q : Int) == 0) = true := beq_iff_eq.2 (by omega)
                      have HHK := hid (heldK S9.out (by omega) (j + q) true (decide_eq_true (by omega)) (by omega) (by omega))
                      clear q0
                      go_wp2_with fail
                      refine (HHK.out).mono ?_
                      rintro e w10 ⟨rfl, h10⟩
                      have S10 := hid h10
                      clear h10 HHK l0 l1 l2 l3 l4 l5
                      go_wp2
                      go_roundw
                      case rel => exact ⟨q + 1, c2 + 1 + 1, by omega, by go_num, by omega, S10⟩
                      case measure => simp [intOf]; omega
                    · have hq0' : ((q : Int) == 0) = false := beq_eq_false_iff_ne.2 (by omega)
                      have HHK := hid (heldK S9.out (by omega) (j + q) false (decide_eq_false (by omega)) (by omega) (by omega))
                      clear q0
                      go_wp2_with fail
                      refine (HHK.out).mono ?_
                      rintro e w10 ⟨rfl, h10⟩
                      have S10 := hid h10
                      clear h10 HHK l0 l1 l2 l3 l4 l5
                      go_wp2
                      go_roundw
                      case rel => exact ⟨q + 1, c2 + 1 + 1, by omega, by go_num, by omega, S10⟩
                      case measure => simp [intOf]; omega
                  · have mz' : (0 : Int) < ((m : Nat) : Int) := by omega
                    have SD := hid SR.out.drew
                    have BK := hid (busyK SD.out (by omega) (by omega) (by omega) true (decide_eq_true (by omega)))
                    go_wp2_with fail
                    go_region_held3 (fun w' => w'.cell? ⟨N, 0, none⟩ = some (.int .i64 4) ∧ w'.cell? ⟨N, 1, none⟩ = some (.int .i64 2) ∧ w'.cell? ⟨N + 1, 0, none⟩ = some (.int .u64 (T a0 n)) ∧ w'.cell? ⟨N + 1, 1, none⟩ = some (.slice ar m cr))
                      (first
                        | with_reducible exact SD.out.l.1
                        | with_reducible exact SB.out.l.1)
                      (first
                        | (go_at_call 23; with_reducible refine (BK.out).mono ?_; rintro e w9 ⟨rfl, h9⟩; have SB := hid h9; clear h9))
                    all_goals
                      clear l0 l1 l2 l3 l4 l5
                      go_wp2
                      go_roundw
                      case rel => exact ⟨k + 1, j, n, c2 + 2, _, by omega, by go_num, by omega, by omega, by omega, SB⟩
                      case measure => simp [intOf]; omega
              · have t1 : (x % 3 == 1) = false := by simpa using d1
                have t2 : (x % 3 == 2) = true := by rw [beq_iff_eq]; omega
                clear d0 d1
                have HRW : Hid (Offs w5 (N + 2) 30 (.slice ar m cr) (.int .u64 (T a0 j) :: tk a0 (j + 1) n)) := by rw [← tk_cons hfn]; exact hid S5.out.r
                go_wp2_with fail
                refine (reffree_ok (T a0 n) (T a0 j) ar m cr (N + 2) _ w5 HRW.out).mono ?_
                rintro e w6 ⟨a2, c2', he, ho6, how, hb6⟩
                obtain ⟨m2, hm2'⟩ : ∃ m2, m2 = (tk a0 (j + 1) n).length := ⟨_, rfl⟩
                have hm21 : m2 + 1 ≤ m := by rw [hm2', tk_len]; omega
                have hm22 : m ≤ m2 + 1 := by rw [hm2', tk_len]; omega
                rw [← hm2'] at he ho6 how
                subst he
                have S6 := hid ((S5.out.below hb6).alloc (.cells #[.int .u64 (T a0 n), .slice a2 m2 c2'] 45))
                have HAP := hid (show ∀ q, (Value.slice (some ⟨ga, oa, none⟩) n ca).ownBlock = some q → (Value.slice a2 m2 c2').ownBlock ≠ some q from fun q h1 h2 => S5.out.ap q h1 (how.symm.trans h2))
                have S7 := hid (S6.out.setw (T a0 n) (.slice a2 m2 c2') (tk a0 (j + 1) n) (ho6.alloc _) HAP.out)
                clear l0 l1 l2 l3 l4 l5 ho6 hb6 how hm2' HRW S5 HAP
                have L := S6.out.l
                obtain ⟨⟨l0, l1, l2, l3⟩, l4, l5⟩ := L
                clear S6
                go_wp2_with fail
                clear l0 l1 l2 l3 l4 l5
                generalize ((w6.alloc (.cells #[.int .u64 (T a0 n), .slice a2 m2 c2'] 45)).setCell ⟨N + 1, 0, none⟩ (.int .u64 (T a0 n))).setCell ⟨N + 1, 1, none⟩ (.slice a2 m2 c2') = w7 at *
                refine (freeK S7.out (by omega)).mono ?_
                rintro e w8 ⟨rfl, h8⟩
                have S8 := hid h8
                clear h8 S7
                have L := S8.out.l
                obtain ⟨⟨l0, l1, l2, l3⟩, l4, l5⟩ := L
                rcases Nat.eq_zero_or_pos m2 with hz2 | hz2
                · obtain rfl : m2 = 0 := hz2
                  go_wp2_with fail
                  clear l0 l1 l2 l3 l4 l5
                  go_loopw [133] (fun i wr => i = .int .i64 0 ∧ Hid (St w N b g [0, 0, T a0 (j + 1), 0, T a0 n, 0] (tk a0 0 n) (tk a0 (j + 1) n) (T a0 n) (c + 2) (.slice (some ⟨ga, oa, none⟩) n ca) (.slice a2 0 c2') wr))
                    (fun i _ => 0)
                  case atStart => exact ⟨rfl, S8⟩
                  case round =>
                    obtain ⟨rfl, SR⟩ := hrel
                    have L := SR.out.l
                    obtain ⟨⟨l0, l1, l2, l3⟩, l4, l5⟩ := L
                    have SD := hid SR.out.drew
                    have BK := hid (busyK SD.out (by omega) (by omega) (by omega) false (decide_eq_false (by omega)))
                    go_wp2_with fail
                    go_region_held3 (fun w' => w'.cell? ⟨N, 0, none⟩ = some (.int .i64 4) ∧ w'.cell? ⟨N, 1, none⟩ = some (.int .i64 2) ∧ w'.cell? ⟨N + 1, 0, none⟩ = some (.int .u64 (T a0 n)) ∧ w'.cell? ⟨N + 1, 1, none⟩ = some (.slice a2 0 c2'))
                      (first
                        | with_reducible exact SD.out.l.1
                        | with_reducible exact SB.out.l.1)
                      (first
                        | (go_at_call 23; with_reducible refine (BK.out).mono ?_; rintro e w9 ⟨rfl, h9⟩; have SB := hid h9; clear h9))
                    all_goals
                      clear l0 l1 l2 l3 l4 l5
                      go_wp2
                      go_roundw
                      case rel => exact ⟨k + 1, (j + 1), n, (c + 2) + 2, _, by omega, by go_num, by omega, by omega, by omega, SB⟩
                      case measure => simp [intOf]; omega
                · have hmz2 : (0 : Int) < m2 := by omega
                  go_wp2_with fail
                  clear l0 l1 l2 l3 l4 l5
                  go_loopw [133] (fun i wr => ∃ (q c2 : Nat), q ≤ m2 ∧ i = .int .i64 q ∧ c2 ≤ c + 2 + 2 * q ∧ Hid (St w N b g [0, 0, T a0 (j + 1), 0, T a0 n, 0] (tk a0 0 n) (tk a0 (j + 1) n) (T a0 n) c2 (.slice (some ⟨ga, oa, none⟩) n ca) (.slice a2 m2 c2') wr))
                    (fun i _ => m2 - (intOf i).toNat)
                  case atStart => exact ⟨0, c + 2, by omega, rfl, by omega, S8⟩
                  case round =>
                    obtain ⟨q, c2, hq, rfl, hc2, SR⟩ := hrel
                    have L := SR.out.l
                    obtain ⟨⟨l0, l1, l2, l3⟩, l4, l5⟩ := L
                    by_cases hql : q < m2
                    · have HR := SR.out.r
                      rw [tk_cons (show (j + 1) < n by omega)] at HR
                      obtain ⟨gr, rr, rfl, e1, hcr, hcrm, e2⟩ := HR.pos
                      clear HR e1 e2
                      unfold maxLen at hcrm
                      have hcq := SR.out.r.at q _ (tk_get (z := a0) (show q < n - (j + 1) by omega))
                      have hqq : ((q : Int) != q) = false := by simp
                      have HAK := hid (aheadK SR.out (by omega) q (by omega))
                      have q63 : (q : Int) ≤ 1000 := by omega
                      go_wp2_with fail
                      refine (HAK.out).mono ?_
                      rintro e w9 ⟨rfl, h9⟩
                      have S9 := hid h9
                      clear h9 HAK l0 l1 l2 l3 l4 l5 hcq
                      have L := S9.out.l
                      obtain ⟨⟨l0, l1, l2, l3⟩, l4, l5⟩ := L
                      by_cases q0 : q = 0
                      · have hq0' : ((q : Int) == 0) = true := beq_iff_eq.2 (by omega)
                        have HHK := hid (heldK S9.out (by omega) ((j + 1) + q) true (decide_eq_true (by omega)) (by omega) (by omega))
                        clear q0
                        go_wp2_with fail
                        refine (HHK.out).mono ?_
                        rintro e w10 ⟨rfl, h10⟩
                        have S10 := hid h10
                        clear h10 HHK l0 l1 l2 l3 l4 l5
                        go_wp2
                        go_roundw
                        case rel => exact ⟨q + 1, c2 + 1 + 1, by omega, by go_num, by omega, S10⟩
                        case measure => simp [intOf]; omega
                      · have hq0' : ((q : Int) == 0) = false := beq_eq_false_iff_ne.2 (by omega)
                        have HHK := hid (heldK S9.out (by omega) ((j + 1) + q) false (decide_eq_false (by omega)) (by omega) (by omega))
                        clear q0
                        go_wp2_with fail
                        refine (HHK.out).mono ?_
                        rintro e w10 ⟨rfl, h10⟩
                        have S10 := hid h10
                        clear h10 HHK l0 l1 l2 l3 l4 l5
                        go_wp2
                        go_roundw
                        case rel => exact ⟨q + 1, c2 + 1 + 1, by omega, by go_num, by omega, S10⟩
                        case measure => simp [intOf]; omega
                    · have mz' : (0 : Int) < ((m2 : Nat) : Int) := by omega
                      have SD := hid SR.out.drew
                      have BK := hid (busyK SD.out (by omega) (by omega) (by omega) true (decide_eq_true (by omega)))
                      go_wp2_with fail
                      go_region_held3 (fun w' => w'.cell? ⟨N, 0, none⟩ = some (.int .i64 4) ∧ w'.cell? ⟨N, 1, none⟩ = some (.int .i64 2) ∧ w'.cell? ⟨N + 1, 0, none⟩ = some (.int .u64 (T a0 n)) ∧ w'.cell? ⟨N + 1, 1, none⟩ = some (.slice a2 m2 c2'))
                        (first
                          | with_reducible exact SD.out.l.1
                          | with_reducible exact SB.out.l.1)
                        (first
                          | (go_at_call 23; with_reducible refine (BK.out).mono ?_; rintro e w9 ⟨rfl, h9⟩; have SB := hid h9; clear h9))
                      all_goals
                        clear l0 l1 l2 l3 l4 l5
                        go_wp2
                        go_roundw
                        case rel => exact ⟨k + 1, (j + 1), n, c2 + 2, _, by omega, by go_num, by omega, by omega, by omega, SB⟩
                        case measure => simp [intOf]; omega
            · have hTf : (T a0 f == T a0 j) = false := by
                refine beq_eq_false_iff_ne.2 ?_
                rcases Nat.lt_or_gt_of_ne jf with h | h
                · exact T_ne a0 j f h (by omega)
                · exact (T_ne a0 f j h (by omega)).symm
              have HTF := hid hTf
              clear hTf
              go_wp2_with fail
              refine (refheld_any (T a0 n) (T a0 j) (T a0 f) ar m cr (N + 2) _ wr HRW.out false HTF.out).mono ?_
              rintro e w5 ⟨rfl, hb5⟩
              have S5 := hid (S.out.below hb5)
              clear l0 l1 l2 l3 l4 l5 hb5 S HRW
              have L := S5.out.l
              obtain ⟨⟨l0, l1, l2, l3⟩, l4, l5⟩ := L
              by_cases d1 : x % 3 = 1
              · have t1 : (x % 3 == 1) = true := by simp [d1]
                have t2 : (x % 3 == 2) = false := by simp [d1]
                clear d0 d1
                have HHK := hid (heldK S5.out (by omega) j false (decide_eq_false jf) (by omega) (by omega))
                go_wp2_with fail
                refine (HHK.out).mono ?_
                rintro e w6 ⟨rfl, h6⟩
                have S6 := hid h6
                clear h6 HHK l0 l1 l2 l3 l4 l5 S5
                have L := S6.out.l
                obtain ⟨⟨l0, l1, l2, l3⟩, l4, l5⟩ := L
                go_wp2_with fail
                clear l0 l1 l2 l3 l4 l5
                go_loopw [133] (fun i wr => ∃ (q c2 : Nat), q ≤ m ∧ i = .int .i64 q ∧ c2 ≤ c + 1 + 2 * q ∧ Hid (St w N b g [0, 0, T a0 f, 0, T a0 n, 0] (tk a0 0 n) (tk a0 f n) (T a0 n) c2 (.slice (some ⟨ga, oa, none⟩) n ca) (.slice ar m cr) wr))
                  (fun i _ => m - (intOf i).toNat)
                case atStart => exact ⟨0, c + 1, by omega, rfl, by omega, S6⟩
                case round =>
                  obtain ⟨q, c2, hq, rfl, hc2, SR⟩ := hrel
                  have L := SR.out.l
                  obtain ⟨⟨l0, l1, l2, l3⟩, l4, l5⟩ := L
                  by_cases hql : q < m
                  · have HR := SR.out.r
                    rw [tk_cons (show f < n by omega)] at HR
                    obtain ⟨gr, rr, rfl, e1, hcr, hcrm, e2⟩ := HR.pos
                    clear HR e1 e2
                    unfold maxLen at hcrm
                    have hcq := SR.out.r.at q _ (tk_get (z := a0) (show q < n - f by omega))
                    have hqq : ((q : Int) != q) = false := by simp
                    have HAK := hid (aheadK SR.out (by omega) q (by omega))
                    have q63 : (q : Int) ≤ 1000 := by omega
                    go_wp2_with fail
                    refine (HAK.out).mono ?_
                    rintro e w9 ⟨rfl, h9⟩
                    have S9 := hid h9
                    clear h9 HAK l0 l1 l2 l3 l4 l5 hcq
                    have L := S9.out.l
                    obtain ⟨⟨l0, l1, l2, l3⟩, l4, l5⟩ := L
                    by_cases q0 : q = 0
                    · have hq0' : ((q : Int) == 0) = true := beq_iff_eq.2 (by omega)
                      have HHK := hid (heldK S9.out (by omega) (f + q) true (decide_eq_true (by omega)) (by omega) (by omega))
                      clear q0
                      go_wp2_with fail
                      refine (HHK.out).mono ?_
                      rintro e w10 ⟨rfl, h10⟩
                      have S10 := hid h10
                      clear h10 HHK l0 l1 l2 l3 l4 l5
                      go_wp2
                      go_roundw
                      case rel => exact ⟨q + 1, c2 + 1 + 1, by omega, by go_num, by omega, S10⟩
                      case measure => simp [intOf]; omega
                    · have hq0' : ((q : Int) == 0) = false := beq_eq_false_iff_ne.2 (by omega)
                      have HHK := hid (heldK S9.out (by omega) (f + q) false (decide_eq_false (by omega)) (by omega) (by omega))
                      clear q0
                      go_wp2_with fail
                      refine (HHK.out).mono ?_
                      rintro e w10 ⟨rfl, h10⟩
                      have S10 := hid h10
                      clear h10 HHK l0 l1 l2 l3 l4 l5
                      go_wp2
                      go_roundw
                      case rel => exact ⟨q + 1, c2 + 1 + 1, by omega, by go_num, by omega, S10⟩
                      case measure => simp [intOf]; omega
                  · have mz' : (0 : Int) < ((m : Nat) : Int) := by omega
                    have SD := hid SR.out.drew
                    have BK := hid (busyK SD.out (by omega) (by omega) (by omega) true (decide_eq_true (by omega)))
                    go_wp2_with fail
                    go_region_held3 (fun w' => w'.cell? ⟨N, 0, none⟩ = some (.int .i64 4) ∧ w'.cell? ⟨N, 1, none⟩ = some (.int .i64 2) ∧ w'.cell? ⟨N + 1, 0, none⟩ = some (.int .u64 (T a0 n)) ∧ w'.cell? ⟨N + 1, 1, none⟩ = some (.slice ar m cr))
                      (first
                        | with_reducible exact SD.out.l.1
                        | with_reducible exact SB.out.l.1)
                      (first
                        | (go_at_call 23; with_reducible refine (BK.out).mono ?_; rintro e w9 ⟨rfl, h9⟩; have SB := hid h9; clear h9))
                    all_goals
                      clear l0 l1 l2 l3 l4 l5
                      go_wp2
                      go_roundw
                      case rel => exact ⟨k + 1, f, n, c2 + 2, _, by omega, by go_num, by omega, by omega, by omega, SB⟩
                      case measure => simp [intOf]; omega
              · have t1 : (x % 3 == 1) = false := by simpa using d1
                have t2 : (x % 3 == 2) = true := by rw [beq_iff_eq]; omega
                clear d0 d1
                have HRW : Hid (Offs w5 (N + 2) 30 (.slice ar m cr) (.int .u64 (T a0 f) :: tk a0 (f + 1) n)) := by rw [← tk_cons hfn]; exact hid S5.out.r
                go_wp2_with fail
                refine (reffree_nok (T a0 n) (T a0 j) (T a0 f) ar m cr (N + 2) _ w5 HRW.out (beq_eq_false_iff_ne.1 HTF.out)).mono ?_
                rintro e w6 ⟨rfl, hb6⟩
                have S6 := hid ((S5.out.below hb6).alloc (.cells #[.int .u64 (T a0 n), .slice ar m cr] 45))
                have S7 := hid (S6.out.setw (T a0 n) (.slice ar m cr) (tk a0 f n) S6.out.r S6.out.ap)
                clear l0 l1 l2 l3 l4 l5 hb6 HRW S5
                have L := S6.out.l
                obtain ⟨⟨l0, l1, l2, l3⟩, l4, l5⟩ := L
                clear S6
                go_wp2_with fail
                clear l0 l1 l2 l3 l4 l5
                generalize ((w6.alloc (.cells #[.int .u64 (T a0 n), .slice ar m cr] 45)).setCell ⟨N + 1, 0, none⟩ (.int .u64 (T a0 n))).setCell ⟨N + 1, 1, none⟩ (.slice ar m cr) = w7 at *
                refine (freeN S7.out (by omega) j jf (by omega) (by omega)).mono ?_
                rintro e w8 ⟨rfl, h8⟩
                have S8 := hid h8
                clear h8 S7
                have L := S8.out.l
                obtain ⟨⟨l0, l1, l2, l3⟩, l4, l5⟩ := L
                go_wp2_with fail
                clear l0 l1 l2 l3 l4 l5
                go_loopw [133] (fun i wr => ∃ (q c2 : Nat), q ≤ m ∧ i = .int .i64 q ∧ c2 ≤ c + 1 + 2 * q ∧ Hid (St w N b g [0, 0, T a0 f, 0, T a0 n, 0] (tk a0 0 n) (tk a0 f n) (T a0 n) c2 (.slice (some ⟨ga, oa, none⟩) n ca) (.slice ar m cr) wr))
                  (fun i _ => m - (intOf i).toNat)
                case atStart => exact ⟨0, c + 1, by omega, rfl, by omega, S8⟩
                case round =>
                  obtain ⟨q, c2, hq, rfl, hc2, SR⟩ := hrel
                  have L := SR.out.l
                  obtain ⟨⟨l0, l1, l2, l3⟩, l4, l5⟩ := L
                  by_cases hql : q < m
                  · have HR := SR.out.r
                    rw [tk_cons (show f < n by omega)] at HR
                    obtain ⟨gr, rr, rfl, e1, hcr, hcrm, e2⟩ := HR.pos
                    clear HR e1 e2
                    unfold maxLen at hcrm
                    have hcq := SR.out.r.at q _ (tk_get (z := a0) (show q < n - f by omega))
                    have hqq : ((q : Int) != q) = false := by simp
                    have HAK := hid (aheadK SR.out (by omega) q (by omega))
                    have q63 : (q : Int) ≤ 1000 := by omega
                    go_wp2_with fail
                    refine (HAK.out).mono ?_
                    rintro e w9 ⟨rfl, h9⟩
                    have S9 := hid h9
                    clear h9 HAK l0 l1 l2 l3 l4 l5 hcq
                    have L := S9.out.l
                    obtain ⟨⟨l0, l1, l2, l3⟩, l4, l5⟩ := L
                    by_cases q0 : q = 0
                    · have hq0' : ((q : Int) == 0) = true := beq_iff_eq.2 (by omega)
                      have HHK := hid (heldK S9.out (by omega) (f + q) true (decide_eq_true (by omega)) (by omega) (by omega))
                      clear q0
                      go_wp2_with fail
                      refine (HHK.out).mono ?_
                      rintro e w10 ⟨rfl, h10⟩
                      have S10 := hid h10
                      clear h10 HHK l0 l1 l2 l3 l4 l5
                      go_wp2
                      go_roundw
                      case rel => exact ⟨q + 1, c2 + 1 + 1, by omega, by go_num, by omega, S10⟩
                      case measure => simp [intOf]; omega
                    · have hq0' : ((q : Int) == 0) = false := beq_eq_false_iff_ne.2 (by omega)
                      have HHK := hid (heldK S9.out (by omega) (f + q) false (decide_eq_false (by omega)) (by omega) (by omega))
                      clear q0
                      go_wp2_with fail
                      refine (HHK.out).mono ?_
                      rintro e w10 ⟨rfl, h10⟩
                      have S10 := hid h10
                      clear h10 HHK l0 l1 l2 l3 l4 l5
                      go_wp2
                      go_roundw
                      case rel => exact ⟨q + 1, c2 + 1 + 1, by omega, by go_num, by omega, S10⟩
                      case measure => simp [intOf]; omega
                  · have mz' : (0 : Int) < ((m : Nat) : Int) := by omega
                    have SD := hid SR.out.drew
                    have BK := hid (busyK SD.out (by omega) (by omega) (by omega) true (decide_eq_true (by omega)))
                    go_wp2_with fail
                    go_region_held3 (fun w' => w'.cell? ⟨N, 0, none⟩ = some (.int .i64 4) ∧ w'.cell? ⟨N, 1, none⟩ = some (.int .i64 2) ∧ w'.cell? ⟨N + 1, 0, none⟩ = some (.int .u64 (T a0 n)) ∧ w'.cell? ⟨N + 1, 1, none⟩ = some (.slice ar m cr))
                      (first
                        | with_reducible exact SD.out.l.1
                        | with_reducible exact SB.out.l.1)
                      (first
                        | (go_at_call 23; with_reducible refine (BK.out).mono ?_; rintro e w9 ⟨rfl, h9⟩; have SB := hid h9; clear h9))
                    all_goals
                      clear l0 l1 l2 l3 l4 l5
                      go_wp2
                      go_roundw
                      case rel => exact ⟨k + 1, f, n, c2 + 2, _, by omega, by go_num, by omega, by omega, by omega, SB⟩
                      case measure => simp [intOf]; omega
    · obtain rfl : k = len1 := by omega
      have S1 := S
      go_wp2_with fail
      refine (loadK S1.out (by omega) 0 (by omega)).mono ?_
      rintro e w4 ⟨rfl, h4⟩
      have S2 := hid h4
      clear h4 S1 S
      go_wp2_with fail
      refine (loadK S2.out (by omega) 1 (by omega)).mono ?_
      rintro e w5 ⟨rfl, h5⟩
      have S3 := hid h5
      clear h5 S2
      go_wp2_with fail
      refine (loadK S3.out (by omega) 3 (by omega)).mono ?_
      rintro e w6 ⟨rfl, h6⟩
      have S4 := hid h6
      clear h6 S3
      go_wp2_with fail
      refine (loadK S4.out (by omega) 5 (by omega)).mono ?_
      rintro e w7 ⟨rfl, h7⟩
      have S5 := hid h7
      clear h7 S4
      go_wp2
      go_ret
      exact ⟨rfl, S5.out.bl⟩
end Go.Proofs.Ytdbionbdcjpmaaa.ticketPlays
