/- The walk of the statement TicketOrder: the law answers true and turns nothing that was there. -/
import Derived.Test.YtdljacmagabilaaRows64
import Derived.OpenShut
import Derived.Deep.RegionWith
namespace Go.Proofs.Ytdljacmagabilaa.ticketOrder
open Go.RowKit
set_option linter.unusedVariables false

set_option maxRecDepth 100000 in
set_option maxHeartbeats 8000000 in
theorem walk (a0 a1 : Int) (a2 : Option Addr) (len2 cap2 : Nat) (z2 : List Int) (w : World) (w0 : (Lit.int .u64 a0).wf = true) (w1 : (Lit.int .u8 a1).wf = true) (w2 : IsRow .u8 w a2 len2 cap2 z2) :
    Calls Try.prog 10 #[.int .u64 a0, .int .u8 a1, .slice a2 len2 cap2] w fun e w' => e = .returned (.bool true) ∧ Below w.heap.size w w' := by
  by_cases hlen : (200 : Int) < len2
  · go_enter Try.func10, Try.ntmps10
    go_wp2_with fail
    refine (lives3 _).mono ?_
    rintro e w2 ⟨rfl, hb1⟩
    go_wp2_with fail
    refine (lives3 _).mono ?_
    rintro e w3 ⟨rfl, hb2⟩
    go_wp2
    go_ret
    exact ⟨rfl, hb1.trans (hb2.mono hb1.size)⟩
  have hlen' : len2 ≤ 200 := by omega
  have W2 := hid w2
  have b0 := inU_of w0
  have b1 := bounds_u8 w1
  have l0 := b1.1
  have l1 := b1.2
  have B0 := hid b0
  clear b0 b1 w0 w1 w2
  obtain ⟨i0, hi, hz0, hz1, hz2⟩ := info_parts infoU64
  go_enter Try.func10, Try.ntmps10
  go_wp2_with fail
  refine (lives3 _).mono ?_
  rintro e w2 ⟨rfl, hb1⟩
  go_wp2_with fail
  refine (lock_any _ _).mono ?_
  rintro e w3 ⟨b, g, rfl, hm, hb, hg, hb3⟩
  have sb := hm.sb
  have sg := hm.sg
  have hs1 := hb1.size
  have hs3 := hb3.size
  have hbl : Below w.heap.size w w3 := hb1.trans (hb3.mono hs1)
  have N0 := hid (Deep.blk_alloc_new w3 (.cells #[.int .i64 4, .int .i64 2] 49))
  have hm' : Mem (w3.alloc (.cells #[.int .i64 4, .int .i64 2] 49)) b g [0, 0, T a0 0, 0, T a0 0, 0] 2 := by rw [T_zero B0.out]; exact hm.alloc _
  have hn9 : 0 ≤ a1 % 20 := by omega
  have hn8 : a1 % 20 ≤ 19 := by omega
  obtain ⟨n, hn⟩ : ∃ n : Nat, a1 % 20 = n := ⟨(a1 % 20).toNat, by omega⟩
  have HN := hid hn
  go_wp2_with fail
  rw [HN.out]
  have hnn : n ≤ 19 := by omega
  clear hn hn9 hn8
  go_loopw [9, 30] (fun v i wr => ∃ (k : Nat), k ≤ n ∧ i = .int .i64 k ∧ wr.ownsRow (w3.heap.size + 1) 22 1 v k (tickets a0 k) ∧ Mem wr b g [0, 0, T a0 0, 0, T a0 k, 0] (2 + k) ∧ Hid (wr.heap[w3.heap.size]? = some (.cells #[.int .i64 4, .int .i64 2] 49 (0, 0))) ∧ w3.heap.size + 1 ≤ wr.heap.size ∧ Below w.heap.size w wr)
    (fun _ i _ => n - (intOf i).toNat)
  case atStart => exact ⟨0, by omega, rfl, World.ownsRow_nil _ _ _ _, hm', N0, by simp, hbl.alloc (by omega) _⟩
  case round =>
    obtain ⟨k, hk, rfl, hown, hmr, hnr, hszr, hbr⟩ := hrel
    have hsr := hbr.size
    by_cases hlt : k < n
    · have j0 := cell_of_blk (i := 0) hnr.out rfl
      have j1 := cell_of_blk (i := 1) hnr.out rfl
      go_wp2_with fail
      refine (take_in b g _ _ 4 2 _ hmr (by omega) (by omega) (by simp) (T a0 k) (by simp) (T_inU _ _)).mono ?_
      rintro e w5 ⟨rfl, hm5, ho5⟩
      rw [T_succ] at hm5
      have n5 := ho5.keep hnr.out (by omega) (by omega)
      have hs5 := ho5.size
      have hown5 := owns_only hown ho5 (by omega) (by omega)
      clear j0 j1
      go_wp2_with (at_builtin; refine wpList_append_own _ rfl _ _ 23 rfl (w3.heap.size + 1) 22 i0 (.int .u64 0) 1 8 Try.underlying23 hi hz0 hz1 hz2 rfl (by decide) _ _ _ rfl (hown5.alloc _) ⟨w5.heap.size, 0, none⟩ 1 1 [.int .u64 (T a0 k)] rfl rfl ?c1 ?c2 ?c3 ?c4 ?c5 ?_)
      case c1 => exact cell_one_new _ _ _
      case c2 => intro u hu; simp at hu; subst hu; rfl
      case c3 => unfold maxLen; omega
      case c4 => omega
      case c5 => simp; omega
      intro v' w6 hown6 hgrow _
      rw [← tickets_succ] at hown6
      have hlt6 := hown5.lt
      have hm6 : Mem w6 b g _ _ := mem_grown (hm5.alloc _) hgrow (fun q hq => by have := hlt6 q hq; omega)
      have n6 : w6.heap[w3.heap.size]? = some (.cells #[.int .i64 4, .int .i64 2] 49 (0, 0)) := by
        rw [hgrow.block _ (by simp; omega) (fun h => by have := hlt6 _ h.symm; omega), Below.heap_alloc _ _ _ (by omega)]; exact n5
      have hb6 : Below w.heap.size w w6 := ((hbr.trans (ho5.below (by omega) (by omega) (by omega))).alloc (by omega) _).grown hgrow (by simp; omega) (fun q hq => by have := hlt6 q hq; omega)
      have hs6 : w3.heap.size + 1 ≤ w6.heap.size := by have := hgrow.size; simp at this; omega
      clear hown5 hown hgrow hlt6
      go_wp2
      go_roundw
      case rel => exact ⟨k + 1, by omega, by go_num, hown6, hm6, n6, hs6, hb6⟩
      case measure => simp [intOf]; omega
    · obtain rfl : k = n := by omega
      obtain ⟨va, vc, rfl⟩ := owns_slice hown
      go_wp2_with fail
      go_loopw [10, 41] (fun dn i wr => ∃ (q d c : Nat), q ≤ len2 ∧ i = .int .i64 q ∧ d ≤ k ∧ dn = .int .i64 d ∧ wr.ownsRow (w3.heap.size + 1) 22 1 (.slice va k vc) k (tickets a0 k) ∧ Mem wr b g [0, 0, T a0 d, 0, T a0 k, 0] c ∧ c ≤ 100 + 3 * q ∧ Hid (wr.heap[w3.heap.size]? = some (.cells #[.int .i64 4, .int .i64 2] 49 (0, 0))) ∧ w3.heap.size + 1 ≤ wr.heap.size ∧ Below w.heap.size w wr)
        (fun _ i _ => len2 - (intOf i).toNat)
      case atStart => exact ⟨0, 0, 2 + k, by omega, rfl, by omega, rfl, hown, hmr, by omega, hnr, hszr, hbr⟩
      case round =>
        obtain ⟨q, d, c, hq, rfl, hdk, rfl, hown6, hm6, hc6, hn6, hsz6, hb6⟩ := hrel
        have hs6 := hb6.size
        by_cases hltq : q < len2
        · obtain ⟨bx, off, rfl, hzl, hwf, hcellz⟩ := W2.out.open.resolve_left (by omega)
          have hx := hcellz _ hb6 q hltq
          have hr8 := range_u8 hwf q
          obtain ⟨x, hxe⟩ : ∃ x, x = z2.getD q 0 := ⟨_, rfl⟩
          rw [← hxe] at hx
          rw [← List.getD_eq_getElem?_getD, ← hxe] at hr8
          clear hxe hcellz hwf
          have x0 : 0 ≤ x := hr8.1
          have x1 : x ≤ 255 := hr8.2
          clear hr8
          by_cases hdk' : d < k
          · have tne : ((d : Int) == (k : Int)) = false := beq_eq_false_iff_ne.2 (by omega)
            have hkz : ((k : Int) == 0) = false := beq_eq_false_iff_ne.2 (by omega)
            have hkp : (0 : Int) < k := by omega
            have hi0 : 0 ≤ x % (k : Int) := Int.emod_nonneg _ (by omega)
            have hi1 : x % (k : Int) < k := Int.emod_lt_of_pos _ hkp
            go_wp2_with fail
            obtain ⟨i, hie⟩ : ∃ i : Nat, x % (k : Int) = i := ⟨(x % (k : Int)).toNat, by omega⟩
            rw [hie] at hi1 ⊢
            have hik : i < k := by omega
            clear hie hi0 hi1 hkz hkp
            obtain ⟨gq, rfl⟩ := owns_pos hown6 (by omega)
            have hcell := (hown6.cellAt i (by omega)).trans (tickets_get a0 k i hik)
            have j0 := cell_of_blk (i := 0) hn6.out rfl
            have j1 := cell_of_blk (i := 1) hn6.out rfl
            by_cases hid' : i = d
            · subst hid'
              go_region_with (go_at_call 33; (refine (held_in b g _ _ 4 2 _ _ (Mem.drew hm6) (by omega) (by omega) (by simp) (T a0 i) (by simp) true (by simp) (T_inU _ _) (T_inU _ _)).mono ?_); rintro e w8 ⟨rfl, hm8, ho8⟩; have n8 := keep_drew ho8 hn6.out (by omega) (by omega); have k0 := cell_of_blk (i := 0) n8 rfl; have k1 := cell_of_blk (i := 1) n8 rfl; have hown8 := owns_only hown6 (only_drew ho8) (by omega) (by omega); have hcell8 := (hown8.cellAt i (by omega)).trans (tickets_get a0 k i hik))
              all_goals
                clear j0 j1 hcell
                go_wp2_with fail
                go_region_with (go_at_call 34; (refine (free_yes b g _ _ 4 2 _ _ (Mem.drew hm8) (by omega) (by omega) (by simp) (by simp) (T_inU _ _)).mono ?_); rintro e w9 ⟨rfl, hm9, ho9⟩)
                all_goals
                  have ho := (only_drew ho8).trans (only_drew ho9)
                  have hsz := ho.size
                  have hm9' : Mem w9 b g [0, 0, T a0 (i + 1), 0, T a0 k, 0] (c + 1 + 2) := by rw [← T_succ]; exact hm9
                  have n9 := hid (keep_drew ho9 n8 (by omega) (by omega))
                  clear k0 k1 n8 hcell8
                  go_wp2
                  go_roundw
                  case rel => exact ⟨q + 1, i + 1, c + 1 + 2, by omega, by go_num, by omega, by go_num, owns_only hown6 ho (by omega) (by omega), hm9', by omega, n9, by omega, hb6.trans (ho.below (by omega) (by omega) (by omega))⟩
                  case measure => simp [intOf]; omega
            · have hie' : ((i : Int) == (d : Int)) = false := beq_eq_false_iff_ne.2 (by omega)
              have hTne : T a0 i ≠ T a0 d := by
                rcases Nat.lt_or_gt_of_ne hid' with h | h
                · exact (T_ne a0 i d h (by omega)).symm
                · exact T_ne a0 d i h (by omega)
              have HTN := hid hTne
              clear hTne
              go_region_with (go_at_call 33; (refine (held_in b g _ _ 4 2 _ _ (Mem.drew hm6) (by omega) (by omega) (by simp) (T a0 d) (by simp) false (decide_eq_false HTN.out) (T_inU _ _) (T_inU _ _)).mono ?_); rintro e w8 ⟨rfl, hm8, ho8⟩; have n8 := keep_drew ho8 hn6.out (by omega) (by omega); have k0 := cell_of_blk (i := 0) n8 rfl; have k1 := cell_of_blk (i := 1) n8 rfl; have hown8 := owns_only hown6 (only_drew ho8) (by omega) (by omega); have hcell8 := (hown8.cellAt i (by omega)).trans (tickets_get a0 k i hik))
              all_goals
                clear j0 j1 hcell
                go_wp2_with fail
                go_region_with (go_at_call 34; (refine (free_no b g _ _ 4 2 _ _ (Mem.drew hm8) (by omega) (by omega) (by simp) (T a0 d) (by simp) HTN.out (T_inU _ _) (T_inU _ _)).mono ?_); rintro e w9 ⟨rfl, hm9, ho9⟩)
                all_goals
                  have ho := (only_drew ho8).trans (only_drew ho9)
                  have hsz := ho.size
                  have n9 := hid (keep_drew ho9 n8 (by omega) (by omega))
                  clear k0 k1 n8 hcell8
                  go_wp2
                  go_roundw
                  case rel => exact ⟨q + 1, d, c + 1 + 1, by omega, by go_num, by omega, rfl, owns_only hown6 ho (by omega) (by omega), hm9, by omega, n9, by omega, hb6.trans (ho.below (by omega) (by omega) (by omega))⟩
                  case measure => simp [intOf]; omega
          · have hdk0 : d = k := by omega
            have teq : ((d : Int) == (k : Int)) = true := beq_iff_eq.2 (by omega)
            clear hdk0
            go_wp2_with fail
            go_loopw [10] (fun dn wr => ∃ (d c : Nat), d ≤ k ∧ dn = .int .i64 d ∧ wr.ownsRow (w3.heap.size + 1) 22 1 (.slice va k vc) k (tickets a0 k) ∧ Mem wr b g [0, 0, T a0 d, 0, T a0 k, 0] c ∧ c ≤ 1000 + 3 * d ∧ Hid (wr.heap[w3.heap.size]? = some (.cells #[.int .i64 4, .int .i64 2] 49 (0, 0))) ∧ w3.heap.size + 1 ≤ wr.heap.size ∧ Below w.heap.size w wr)
              (fun dn _ => k - (intOf dn).toNat)
            case atStart => exact ⟨d, c, hdk, rfl, hown6, hm6, by omega, hn6, hsz6, hb6⟩
            case round =>
              obtain ⟨d, c, hd, rfl, hown7, hm7, hc7, hn7, hsz7, hb7⟩ := hrel
              have hs7 := hb7.size
              have j0 := cell_of_blk (i := 0) hn7.out rfl
              have j1 := cell_of_blk (i := 1) hn7.out rfl
              by_cases hlt3 : d < k
              · obtain ⟨gq, rfl⟩ := owns_pos hown7 (by omega)
                have hcell := (hown7.cellAt d (by omega)).trans (tickets_get a0 k d hlt3)
                go_wp2_with fail
                go_region_with (first
                  | (go_at_call 34; (with_reducible refine (free_yes b g _ _ 4 2 _ _ hm8 (by omega) (by omega) L8.out V8.out (T_inU _ _)).mono ?_); rintro e w9 ⟨rfl, hm9, ho9⟩)
                  | (go_at_call 33; (refine (held_in b g _ _ 4 2 _ _ (Mem.drew hm7) (by omega) (by omega) (by simp) (T a0 d) (by simp) true (by simp) (T_inU _ _) (T_inU _ _)).mono ?_); rintro e w8 ⟨rfl, hm8, ho8⟩; have n8 := keep_drew ho8 hn7.out (by omega) (by omega); have k0 := cell_of_blk (i := 0) n8 rfl; have k1 := cell_of_blk (i := 1) n8 rfl; have hown8 := owns_only hown7 (only_drew ho8) (by omega) (by omega); have hcell8 := (hown8.cellAt d (by omega)).trans (tickets_get a0 k d hlt3); have L8 : Hid ((2 : Int) < (([0, 0, T a0 d, 0, T a0 k, 0] : List Int).length : Int)) := hid (by simp); have V8 : Hid (([0, 0, T a0 d, 0, T a0 k, 0] : List Int).getD (2 : Int).toNat 0 = T a0 d) := hid (by simp)))
                all_goals
                  have ho := (only_drew ho8).trans ho9
                  have hsz := ho.size
                  have hm9' : Mem w9 b g [0, 0, T a0 (d + 1), 0, T a0 k, 0] (c + 1 + 2) := by rw [← T_succ]; exact hm9
                  have n9 := hid (ho9.keep n8 (by omega) (by omega))
                  clear k0 k1 n8 hcell8 hcell j0 j1
                  go_wp2
                  go_roundw
                  case rel => exact ⟨d + 1, c + 1 + 2, by omega, by go_num, owns_only hown7 ho (by omega) (by omega), hm9', by omega, n9, by omega, hb7.trans (ho.below (by omega) (by omega) (by omega))⟩
                  case measure => simp [intOf]; omega
              · obtain rfl : d = k := by omega
                go_wp2_with fail
                refine (busy_in b g _ _ 4 2 _ hm7 (by omega) (by omega) (by simp) (by omega) (by simp) (T a0 d) (T a0 d) (by simp) (by simp) false (by simp)).mono ?_
                rintro e w10 ⟨rfl, hm10, ho10⟩
                go_wp2
                go_ret
                exact ⟨rfl, hb7.trans (ho10.below (by omega) (by omega) (by omega))⟩
        · go_wp2_with fail
          go_loopw [10] (fun dn wr => ∃ (d c : Nat), d ≤ k ∧ dn = .int .i64 d ∧ wr.ownsRow (w3.heap.size + 1) 22 1 (.slice va k vc) k (tickets a0 k) ∧ Mem wr b g [0, 0, T a0 d, 0, T a0 k, 0] c ∧ c ≤ 1000 + 3 * d ∧ Hid (wr.heap[w3.heap.size]? = some (.cells #[.int .i64 4, .int .i64 2] 49 (0, 0))) ∧ w3.heap.size + 1 ≤ wr.heap.size ∧ Below w.heap.size w wr)
            (fun dn _ => k - (intOf dn).toNat)
          case atStart => exact ⟨d, c, hdk, rfl, hown6, hm6, by omega, hn6, hsz6, hb6⟩
          case round =>
            obtain ⟨d, c, hd, rfl, hown7, hm7, hc7, hn7, hsz7, hb7⟩ := hrel
            have hs7 := hb7.size
            have j0 := cell_of_blk (i := 0) hn7.out rfl
            have j1 := cell_of_blk (i := 1) hn7.out rfl
            by_cases hlt3 : d < k
            · obtain ⟨gq, rfl⟩ := owns_pos hown7 (by omega)
              have hcell := (hown7.cellAt d (by omega)).trans (tickets_get a0 k d hlt3)
              go_wp2_with fail
              go_region_with (first
                | (go_at_call 34; (with_reducible refine (free_yes b g _ _ 4 2 _ _ hm8 (by omega) (by omega) L8.out V8.out (T_inU _ _)).mono ?_); rintro e w9 ⟨rfl, hm9, ho9⟩)
                | (go_at_call 33; (refine (held_in b g _ _ 4 2 _ _ (Mem.drew hm7) (by omega) (by omega) (by simp) (T a0 d) (by simp) true (by simp) (T_inU _ _) (T_inU _ _)).mono ?_); rintro e w8 ⟨rfl, hm8, ho8⟩; have n8 := keep_drew ho8 hn7.out (by omega) (by omega); have k0 := cell_of_blk (i := 0) n8 rfl; have k1 := cell_of_blk (i := 1) n8 rfl; have hown8 := owns_only hown7 (only_drew ho8) (by omega) (by omega); have hcell8 := (hown8.cellAt d (by omega)).trans (tickets_get a0 k d hlt3); have L8 : Hid ((2 : Int) < (([0, 0, T a0 d, 0, T a0 k, 0] : List Int).length : Int)) := hid (by simp); have V8 : Hid (([0, 0, T a0 d, 0, T a0 k, 0] : List Int).getD (2 : Int).toNat 0 = T a0 d) := hid (by simp)))
              all_goals
                have ho := (only_drew ho8).trans ho9
                have hsz := ho.size
                have hm9' : Mem w9 b g [0, 0, T a0 (d + 1), 0, T a0 k, 0] (c + 1 + 2) := by rw [← T_succ]; exact hm9
                have n9 := hid (ho9.keep n8 (by omega) (by omega))
                clear k0 k1 n8 hcell8 hcell j0 j1
                go_wp2
                go_roundw
                case rel => exact ⟨d + 1, c + 1 + 2, by omega, by go_num, owns_only hown7 ho (by omega) (by omega), hm9', by omega, n9, by omega, hb7.trans (ho.below (by omega) (by omega) (by omega))⟩
                case measure => simp [intOf]; omega
            · obtain rfl : d = k := by omega
              go_wp2_with fail
              refine (busy_in b g _ _ 4 2 _ hm7 (by omega) (by omega) (by simp) (by omega) (by simp) (T a0 d) (T a0 d) (by simp) (by simp) false (by simp)).mono ?_
              rintro e w10 ⟨rfl, hm10, ho10⟩
              go_wp2
              go_ret
              exact ⟨rfl, hb7.trans (ho10.below (by omega) (by omega) (by omega))⟩
end Go.Proofs.Ytdljacmagabilaa.ticketOrder
