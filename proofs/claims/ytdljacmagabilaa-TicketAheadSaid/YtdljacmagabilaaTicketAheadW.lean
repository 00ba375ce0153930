/- The walk of the statement TicketAhead: the law answers true and turns nothing that was there. -/
import Derived.Test.YtdljacmagabilaaRows64
import Derived.OpenShut
namespace Go.Proofs.Ytdljacmagabilaa.ticketAhead
open Go.RowKit
set_option linter.unusedVariables false

set_option maxHeartbeats 2000000 in
theorem walk (a0 a1 : Int) (w : World) (w0 : (Lit.int .u64 a0).wf = true) (w1 : (Lit.int .u8 a1).wf = true) :
    Calls Try.prog 8 #[.int .u64 a0, .int .u8 a1] w fun e w' => e = .returned (.bool true) ∧ Below w.heap.size w w' := by
  have b0 := inU_of w0
  have b1 := bounds_u8 w1
  have l0 := b1.1
  have l1 := b1.2
  have B0 := hid b0
  clear b0 b1 w0 w1
  obtain ⟨i0, hi, hz0, hz1, hz2⟩ := info_parts infoU64
  go_enter Try.func8, Try.ntmps8
  go_wp2_with fail
  refine (lives3 _).mono ?_
  rintro e w2 ⟨rfl, hb1⟩
  go_wp2_with fail
  refine (lock_any _ _).mono ?_
  rintro e w3 ⟨b, g, rfl, hm, hb, hg, hb3⟩
  have sb := hm.sb
  have sg := hm.sg
  have hs1 := hb1.size
  have hs3 := hb3.size
  have hbl : Below w.heap.size w w3 := hb1.trans (hb3.mono hs1)
  have N0 := hid (Deep.blk_alloc_new w3 (.cells #[.int .i64 4, .int .i64 2] 49))
  have hm' : Mem (w3.alloc (.cells #[.int .i64 4, .int .i64 2] 49)) b g [0, 0, T a0 0, 0, T a0 0, 0] 2 := by rw [T_zero B0.out]; exact hm.alloc _
  have hn9 : 0 ≤ a1 % 30 := by omega
  have hn8 : a1 % 30 ≤ 29 := by omega
  obtain ⟨n, hn⟩ : ∃ n : Nat, a1 % 30 = n := ⟨(a1 % 30).toNat, by omega⟩
  have HN := hid hn
  go_wp2_with fail
  rw [HN.out]
  have hnn : n ≤ 29 := by omega
  clear hn hn9 hn8
  go_loopw [8, 23] (fun v i wr => ∃ (k : Nat), k ≤ n ∧ i = .int .i64 k ∧ wr.ownsRow (w3.heap.size + 1) 22 1 v k (tickets a0 k) ∧ Mem wr b g [0, 0, T a0 0, 0, T a0 k, 0] (2 + k) ∧ Hid (wr.heap[w3.heap.size]? = some (.cells #[.int .i64 4, .int .i64 2] 49 (0, 0))) ∧ w3.heap.size + 1 ≤ wr.heap.size ∧ Below w.heap.size w wr)
    (fun _ i _ => n - (intOf i).toNat)
  case atStart => exact ⟨0, by omega, rfl, World.ownsRow_nil _ _ _ _, hm', N0, by simp, hbl.alloc (by omega) _⟩
  case round =>
    obtain ⟨k, hk, rfl, hown, hmr, hnr, hszr, hbr⟩ := hrel
    have hsr := hbr.size
    by_cases hlt : k < n
    · have j0 := cell_of_blk (i := 0) hnr.out rfl
      have j1 := cell_of_blk (i := 1) hnr.out rfl
      go_wp2_with fail
      refine (take_in b g _ _ 4 2 _ hmr (by omega) (by omega) (by simp) (T a0 k) (by simp) (T_inU _ _)).mono ?_
      rintro e w5 ⟨rfl, hm5, ho5⟩
      rw [T_succ] at hm5
      have n5 := ho5.keep hnr.out (by omega) (by omega)
      have hs5 := ho5.size
      have hown5 := owns_only hown ho5 (by omega) (by omega)
      clear j0 j1
      go_wp2_with (at_builtin; refine wpList_append_own _ rfl _ _ 23 rfl (w3.heap.size + 1) 22 i0 (.int .u64 0) 1 8 Try.underlying23 hi hz0 hz1 hz2 rfl (by decide) _ _ _ rfl (hown5.alloc _) ⟨w5.heap.size, 0, none⟩ 1 1 [.int .u64 (T a0 k)] rfl rfl ?c1 ?c2 ?c3 ?c4 ?c5 ?_)
      case c1 => exact cell_one_new _ _ _
      case c2 => intro u hu; simp at hu; subst hu; rfl
      case c3 => unfold maxLen; omega
      case c4 => omega
      case c5 => simp; omega
      intro v' w6 hown6 hgrow _
      rw [← tickets_succ] at hown6
      have hlt6 := hown5.lt
      have hm6 : Mem w6 b g _ _ := mem_grown (hm5.alloc _) hgrow (fun q hq => by have := hlt6 q hq; omega)
      have n6 : w6.heap[w3.heap.size]? = some (.cells #[.int .i64 4, .int .i64 2] 49 (0, 0)) := by
        rw [hgrow.block _ (by simp; omega) (fun h => by have := hlt6 _ h.symm; omega), Below.heap_alloc _ _ _ (by omega)]; exact n5
      have hb6 : Below w.heap.size w w6 := ((hbr.trans (ho5.below (by omega) (by omega) (by omega))).alloc (by omega) _).grown hgrow (by simp; omega) (fun q hq => by have := hlt6 q hq; omega)
      have hs6 : w3.heap.size + 1 ≤ w6.heap.size := by have := hgrow.size; simp at this; omega
      clear hown5 hown hgrow hlt6
      go_wp2
      go_roundw
      case rel => exact ⟨k + 1, by omega, by go_num, hown6, hm6, n6, hs6, hb6⟩
      case measure => simp [intOf]; omega
    · obtain rfl : k = n := by omega
      have j0 := cell_of_blk (i := 0) hnr.out rfl
      have j1 := cell_of_blk (i := 1) hnr.out rfl
      go_wp2_with fail
      refine (take_in b g _ _ 4 2 _ hmr (by omega) (by omega) (by simp) (T a0 k) (by simp) (T_inU _ _)).mono ?_
      rintro e w5 ⟨rfl, hm5, ho5⟩
      rw [T_succ] at hm5
      have n5 := ho5.keep hnr.out (by omega) (by omega)
      have hs5 := ho5.size
      have hown5 := owns_only hown ho5 (by omega) (by omega)
      have hb5 : Below w.heap.size w w5 := hbr.trans (ho5.below (by omega) (by omega) (by omega))
      have N5 := hid n5
      clear j0 j1 n5 hown
      obtain ⟨va, vc, rfl⟩ := owns_slice hown5
      go_wp2_with fail
      go_loopw [37] (fun i wr => ∃ (j c : Nat), j ≤ k ∧ i = .int .i64 j ∧ wr.ownsRow (w3.heap.size + 1) 22 1 (.slice va k vc) k (tickets a0 k) ∧ Mem wr b g [0, 0, T a0 j, 0, T a0 (k + 1), 0] c ∧ c ≤ 100 + 5 * j ∧ Hid (wr.heap[w3.heap.size]? = some (.cells #[.int .i64 4, .int .i64 2] 49 (0, 0))) ∧ w3.heap.size + 1 ≤ wr.heap.size ∧ Below w.heap.size w wr)
        (fun i _ => k - (intOf i).toNat)
      case atStart => exact ⟨0, 2 + k + 1, by omega, rfl, hown5, hm5, by omega, N5, by omega, hb5⟩
      case round =>
        obtain ⟨j, c, hj, rfl, hown6, hm6, hc6, hn6, hsz6, hb6⟩ := hrel
        have hs6 := hb6.size
        have j0 := cell_of_blk (i := 0) hn6.out rfl
        have j1 := cell_of_blk (i := 1) hn6.out rfl
        by_cases hlt2 : j < k
        · obtain ⟨gq, rfl⟩ := owns_pos hown6 (by omega)
          have hcell := (hown6.cellAt j (by omega)).trans (tickets_get a0 k j hlt2)
          have hA := T_sub a0 j k (by omega) (by omega)
          have hne := T_ne a0 j k hlt2 (by omega)
          have HA := hid hA
          have HNE := hid hne
          clear hA hne
          go_wp2_with fail
          refine (ahead_in b g _ _ 4 2 _ _ hm6 (by omega) (by omega) (by simp) (T a0 j) (by simp)).mono ?_
          rintro e w7 ⟨rfl, hm7, ho7⟩
          rw [HA.out]
          have n7 := ho7.keep hn6.out (by omega) (by omega)
          have k0 := cell_of_blk (i := 0) n7 rfl
          have k1 := cell_of_blk (i := 1) n7 rfl
          clear j0 j1
          go_wp2_with fail
          refine (held_in b g _ _ 4 2 _ _ hm7 (by omega) (by omega) (by simp) (T a0 j) (by simp) false (decide_eq_false HNE.out) (T_inU _ _) (T_inU _ _)).mono ?_
          rintro e w8 ⟨rfl, hm8, ho8⟩
          have n8 := ho8.keep n7 (by omega) (by omega)
          have j0 := cell_of_blk (i := 0) n8 rfl
          have j1 := cell_of_blk (i := 1) n8 rfl
          clear k0 k1 n7
          go_wp2_with fail
          refine (free_no b g _ _ 4 2 _ _ hm8 (by omega) (by omega) (by simp) (T a0 j) (by simp) HNE.out (T_inU _ _) (T_inU _ _)).mono ?_
          rintro e w9 ⟨rfl, hm9, ho9⟩
          have n9 := ho9.keep n8 (by omega) (by omega)
          have k0 := cell_of_blk (i := 0) n9 rfl
          have k1 := cell_of_blk (i := 1) n9 rfl
          clear j0 j1 n8
          go_wp2_with fail
          refine (free_yes b g _ _ 4 2 _ _ hm9 (by omega) (by omega) (by simp) (by simp) (T_inU _ _)).mono ?_
          rintro e w10 ⟨rfl, hm10, ho10⟩
          rw [T_succ] at hm10
          have n10 := hid (ho10.keep n9 (by omega) (by omega))
          have ho := ((ho7.trans ho8).trans ho9).trans ho10
          have hsz := ho.size
          clear k0 k1 n9
          go_wp2
          go_roundw
          case rel => exact ⟨j + 1, c + 1 + 1 + 1 + 2, by omega, by go_num, owns_only hown6 ho (by omega) (by omega), hm10, by omega, n10, by omega, hb6.trans (ho.below (by omega) (by omega) (by omega))⟩
          case measure => simp [intOf]; omega
        · obtain rfl : j = k := by omega
          have hA := T_sub a0 j j (by omega) (by omega)
          rw [Nat.sub_self] at hA
          have HA := hid hA
          clear hA
          go_wp2_with fail
          refine (ahead_in b g _ _ 4 2 _ _ hm6 (by omega) (by omega) (by simp) (T a0 j) (by simp)).mono ?_
          rintro e w7 ⟨rfl, hm7, ho7⟩
          rw [HA.out]
          have n7 := ho7.keep hn6.out (by omega) (by omega)
          have k0 := cell_of_blk (i := 0) n7 rfl
          have k1 := cell_of_blk (i := 1) n7 rfl
          clear j0 j1
          go_wp2_with fail
          refine (held_in b g _ _ 4 2 _ _ hm7 (by omega) (by omega) (by simp) (T a0 j) (by simp) true (by simp) (T_inU _ _) (T_inU _ _)).mono ?_
          rintro e w8 ⟨rfl, hm8, ho8⟩
          have n8 := ho8.keep n7 (by omega) (by omega)
          have j0 := cell_of_blk (i := 0) n8 rfl
          have j1 := cell_of_blk (i := 1) n8 rfl
          clear k0 k1 n7
          go_wp2_with fail
          refine (free_yes b g _ _ 4 2 _ _ hm8 (by omega) (by omega) (by simp) (by simp) (T_inU _ _)).mono ?_
          rintro e w9 ⟨rfl, hm9, ho9⟩
          rw [T_succ] at hm9
          have n9 := ho9.keep n8 (by omega) (by omega)
          have k0 := cell_of_blk (i := 0) n9 rfl
          have k1 := cell_of_blk (i := 1) n9 rfl
          clear j0 j1 n8
          go_wp2_with fail
          refine (busy_in b g _ _ 4 2 _ hm9 (by omega) (by omega) (by simp) (by omega) (by simp) (T a0 (j + 1)) (T a0 (j + 1)) (by simp) (by simp) false (by simp)).mono ?_
          rintro e w10 ⟨rfl, hm10, ho10⟩
          have ho := ((ho7.trans ho8).trans ho9).trans ho10
          go_wp2
          go_ret
          exact ⟨rfl, hb6.trans (ho.below (by omega) (by omega) (by omega))⟩
end Go.Proofs.Ytdljacmagabilaa.ticketAhead
