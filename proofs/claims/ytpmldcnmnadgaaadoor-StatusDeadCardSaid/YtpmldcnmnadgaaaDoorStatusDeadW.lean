/- The walk of the statement StatusDead: the law answers true and turns nothing that was there. -/
import Derived.Test.YtpmldcnmnadgaaaDoorTable
namespace Go.Proofs.YtpmldcnmnadgaaaDoor.statusDead
open Go.RowKit
set_option linter.unusedVariables false
set_option linter.unusedSimpArgs false
/-- One of two cases. -/
def Two (a b : Prop) : Prop := a ∨ b
theorem legal_b {u t : Int} (h : stLegal u t = true) (h0 : 0 ≤ u) (h1 : u ≤ 6) : u ≤ 5 ∧ 1 ≤ t ∧ t ≤ 6 := by
  unfold stLegal at h
  split at h
  · simp at h; omega
  · split at h
    · simp at h; omega
    · simp at h; omega

set_option maxHeartbeats 8000000 in
theorem walk (a0 : Option Addr) (len0 cap0 : Nat) (z0 : List Int) (w : World) (w0 : IsRow .u8 w a0 len0 cap0 z0) (T1 : StSteps w) :
    Calls Tryd.prog 5 #[.slice a0 len0 cap0] w fun e w' => e = .returned (.bool true) ∧ Below w.heap.size w w' := by
  have HT := hid T1
  have hg0 := T1.lt
  clear T1
  by_cases hlen : (60 : Int) < len0
  · clear w0
    go_enter Tryd.func5, Tryd.ntmps5
    go_wp2_with fail
    refine (lives14 _ HT.out).mono ?_
    rintro e w2 ⟨rfl, rfl⟩
    go_wp2_with fail
    refine (lives14 _ HT.out).mono ?_
    rintro e w3 ⟨rfl, rfl⟩
    go_wp2
    go_ret
    exact ⟨rfl, Below.refl _ _⟩
  · have hlen' : len0 ≤ 60 := by omega
    have W0 := hid w0
    clear w0
    go_enter Tryd.func5, Tryd.ntmps5
    go_wp2_with fail
    refine (lives14 _ HT.out).mono ?_
    rintro e w2 ⟨rfl, rfl⟩
    go_wp2_with fail
    refine (new_ex 1 1 rfl _).mono ?_
    rintro e w3 ⟨b, g, rfl, hm, hb, hg, hb3⟩
    have sb := hm.sb
    have sg := hm.sg
    have hs3 := hb3.size
    have n0 := hid (show (w3.alloc (.cells #[.int .i64 0, .int .i64 1] 27)).heap[w3.heap.size]? = some (.cells #[.int .i64 0, .int .i64 1] 27 (0, 0)) from Deep.blk_alloc_new _ _)
    have M0 := hid (hm.alloc (.cells #[.int .i64 0, .int .i64 1] 27))
    have B0 := hid (hb3.alloc hs3 (.cells #[.int .i64 0, .int .i64 1] 27))
    have T0 := hid (HT.out.at B0.out)
    clear hm hb3
    go_wp2_with fail
    go_loopw [5, 6, 24] (fun was dead i wr => ∃ (k c : Nat) (u : Int) (d : Bool), k ≤ len0 ∧ was = .int .u64 u ∧ dead = .bool d ∧ i = .int .i64 k ∧ 0 ≤ u ∧ u ≤ 6 ∧ Two (u = 6 ∧ d = true) (u ≤ 5 ∧ d = false) ∧ Hid (Mem wr b g [u] c) ∧ c ≤ 2 * k ∧ Hid (wr.heap[w3.heap.size]? = some (.cells #[.int .i64 0, .int .i64 1] 27 (0, 0))) ∧ Hid (StSteps wr) ∧ w.heap.size ≤ wr.heap.size ∧ Below w.heap.size w wr)
      (fun _ _ i _ => len0 - (intOf i).toNat)
    case atStart => exact ⟨0, 0, 0, false, by omega, rfl, rfl, rfl, by omega, by omega, .inr ⟨by omega, rfl⟩, M0, by omega, n0, T0, by simp; omega, B0.out⟩
    case round =>
      clear n0 M0 B0 T0
      obtain ⟨k, c, u, d, hk, rfl, rfl, rfl, hu0, hu6, hd, HM, hc, HN, HS, hsz, hbr⟩ := hrel
      by_cases hlt : k < len0
      · rcases W0.out.open with h | ⟨bx, off, rfl, hzl, hwf, hcell⟩
        · omega
        obtain ⟨x, hx⟩ : ∃ x, x = z0.getD k 0 := ⟨_, rfl⟩
        have cx := hcell wr hbr k hlt
        have bx8 := bounds_u8 (hwf (z0.getD k 0) (by rw [List.getD_eq_getElem?_getD, List.getElem?_eq_getElem (by omega), Option.getD_some]; exact List.getElem_mem _))
        rw [← hx] at cx bx8
        have x0 := bx8.1
        have x1 := bx8.2
        obtain ⟨t, ht⟩ : ∃ t, t = x % 8 := ⟨_, rfl⟩
        have t0 : 0 ≤ t := by omega
        have t7 : t ≤ 7 := by omega
        have m1 : x.tmod 8 = t := by rw [Int.tmod_eq_emod_of_nonneg (by omega), ht]
        have u1 : IntKind.u8.wrap t = t := IntWalk.u8_in _ (by omega)
        have u2 : IntKind.u64.wrap t = t := IntWalk.u64_in _ (by omega)
        have j0 := cell_of_blk (i := 0) HN.out rfl
        have j1 := cell_of_blk (i := 1) HN.out rfl
        clear hx ht hcell hwf bx8
        by_cases hlg : stLegal u t = true
        · obtain ⟨l1, l2, l3⟩ := legal_b hlg hu0 hu6
          obtain rfl : d = false := by rcases hd with h | h; omega; exact h.2
          have HL := hid hlg
          clear hlg hd
          go_wp2_with fail
          refine (tmove_yes b g [u] c 0 1 0 u t _ HS.out HM.out (by omega) (by omega) (by omega) (by omega) (by simp) hu0 t0 HL.out hu6 l3 (by simp)).mono ?_
          rintro e w5 ⟨rfl, hm5, ho5⟩
          have HM5 := hid (show Mem w5 b g [t] (c + 1) by simpa using hm5)
          have HN5 := hid (ho5.keep HN.out (by omega) (by omega))
          have HS5 := hid (HS.out.only ho5 (by omega) (by omega))
          have hb5 : Below w.heap.size w w5 := hbr.trans (ho5.below (by omega) (by omega) hsz)
          have hs5 : w.heap.size ≤ w5.heap.size := hb5.size
          clear j0 j1 cx hm5 ho5 HM HN HS hbr hsz
          have j0 := cell_of_blk (i := 0) HN5.out rfl
          have j1 := cell_of_blk (i := 1) HN5.out rfl
          go_wp2_with fail
          refine (tof_in b g [t] (c + 1) 0 1 0 t _ HM5.out (by omega) (by omega) (by omega) (by omega) (by simp) (by simp) (by omega)).mono ?_
          rintro e w6 ⟨rfl, hm6, ho6⟩
          have HM6 := hid hm6
          have HN6 := hid (ho6.keep HN5.out (by omega) (by omega))
          have HS6 := hid (HS5.out.only ho6 (by omega) (by omega))
          have hb6 : Below w.heap.size w w6 := hb5.trans (ho6.below (by omega) (by omega) hs5)
          have hs6 : w.heap.size ≤ w6.heap.size := hb6.size
          clear j0 j1 hm6 ho6 HM5 HN5 HS5 hb5 hs5
          have q0 : (t == 0) = false := beq_eq_false_iff_ne.2 (by omega)
          by_cases h6 : t = 6
          · subst h6
            go_wp2
            go_roundw
            case rel => exact ⟨k + 1, c + 2, 6, true, by omega, rfl, rfl, by go_num, by omega, by omega, .inl ⟨rfl, rfl⟩, HM6, by omega, HN6, HS6, hs6, hb6⟩
            case measure => simp [intOf]; omega
          · have q6 : (t == 6) = false := beq_eq_false_iff_ne.2 h6
            go_wp2
            go_roundw
            case rel => exact ⟨k + 1, c + 2, t, false, by omega, rfl, rfl, by go_num, by omega, by omega, .inr ⟨by omega, rfl⟩, HM6, by omega, HN6, HS6, hs6, hb6⟩
            case measure => simp [intOf]; omega
        · have HL := hid (show stLegal u t = false by simpa using hlg)
          clear hlg
          go_wp2_with fail
          refine (tmove_illegal b g [u] c 0 1 0 u t _ HS.out HM.out (by omega) (by omega) (by omega) (by omega) (by simp) hu0 t0 HL.out).mono ?_
          rintro e w5 ⟨rfl, hm5, ho5⟩
          have HM5 := hid hm5
          have HN5 := hid (ho5.keep HN.out (by omega) (by omega))
          have HS5 := hid (HS.out.only ho5 (by omega) (by omega))
          have hb5 : Below w.heap.size w w5 := hbr.trans (ho5.below (by omega) (by omega) hsz)
          have hs5 : w.heap.size ≤ w5.heap.size := hb5.size
          clear j0 j1 cx hm5 ho5 HM HN HS hbr hsz
          have j0 := cell_of_blk (i := 0) HN5.out rfl
          have j1 := cell_of_blk (i := 1) HN5.out rfl
          go_wp2_with fail
          refine (tof_in b g [u] c 0 1 0 u _ HM5.out (by omega) (by omega) (by omega) (by omega) (by simp) (by simp) (by omega)).mono ?_
          rintro e w6 ⟨rfl, hm6, ho6⟩
          have HM6 := hid hm6
          have HN6 := hid (ho6.keep HN5.out (by omega) (by omega))
          have HS6 := hid (HS5.out.only ho6 (by omega) (by omega))
          have hb6 : Below w.heap.size w w6 := hb5.trans (ho6.below (by omega) (by omega) hs5)
          have hs6 : w.heap.size ≤ w6.heap.size := hb6.size
          clear j0 j1 hm6 ho6 HM5 HN5 HS5 hb5 hs5
          rcases hd with ⟨rfl, rfl⟩ | ⟨h5, rfl⟩
          · go_wp2
            go_roundw
            case rel => exact ⟨k + 1, c + 1, 6, true, by omega, rfl, rfl, by go_num, by omega, by omega, .inl ⟨rfl, rfl⟩, HM6, by omega, HN6, HS6, hs6, hb6⟩
            case measure => simp [intOf]; omega
          · have q6 : (u == 6) = false := beq_eq_false_iff_ne.2 (by omega)
            go_wp2
            go_roundw
            case rel => exact ⟨k + 1, c + 1, u, false, by omega, rfl, rfl, by go_num, by omega, by omega, .inr ⟨h5, rfl⟩, HM6, by omega, HN6, HS6, hs6, hb6⟩
            case measure => simp [intOf]; omega
      · obtain rfl : k = len0 := by omega
        rcases hd with ⟨rfl, rfl⟩ | ⟨h5, rfl⟩
        · go_wp2
          go_ret
          exact ⟨rfl, hbr⟩
        · go_wp2
          go_ret
          exact ⟨rfl, hbr⟩
end Go.Proofs.YtpmldcnmnadgaaaDoor.statusDead
