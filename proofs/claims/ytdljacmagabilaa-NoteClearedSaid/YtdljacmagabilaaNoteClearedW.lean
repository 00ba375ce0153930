/- The walk of the statement NoteCleared: the law answers true and turns nothing that was there. -/
import Derived.Test.YtdljacmagabilaaLives04
import Derived.OpenShut
namespace Go.Proofs.Ytdljacmagabilaa.noteCleared
open Go.RowKit
set_option linter.unusedVariables false
/-- One of two cases. -/
def Two (a b : Prop) : Prop := a ∨ b

theorem late_min (u : Int) (hu : -9223372036854775808 ≤ u) (hu' : u ≤ 9223372036854775807) : lateB u (wrap64 (u - 1)) = true → u = -9223372036854775808 := by
  unfold lateB wrap64
  intro h
  simp only [Bool.and_eq_true, bne_iff_ne, decide_eq_true_eq] at h
  omega

set_option maxHeartbeats 1000000 in
theorem walk' (a0 a1 a2 r1 r2 : Int) (big : Bool) (w : World) (l0 : 0 ≤ a0) (l1 : a0 ≤ 255) (m0 : 0 ≤ a1) (m1 : a1 ≤ 255)
    (hr1 : r1 = if lateB a2 (wrap64 (a2 - 1)) then 2 else 0) (hr2 : r2 = if lateB a2 (-9223372036854775808) then 2 else 0) (hbig : decide (-9223372036854775808 < a2) = big) (hb2 : big = true → r1 = 0) :
    Calls Try.prog 12 #[.int .u8 a0, .int .u8 a1, .int .i64 a2] w fun e w' => e = .returned (.bool true) ∧ Below w.heap.size w w' := by
  have hrn : (r1 == 1) = false ∧ (r2 == 1) = false := by
    rw [hr1, hr2]; constructor <;> split <;> rfl
  have hb3 : big = true → (r1 != 0) = false := fun h => by rw [hb2 h]; rfl
  have HB3 := hid hb3
  clear hb3
  obtain ⟨hn1, hn2⟩ := hrn
  have HR1 := hid hr1
  have HR2 := hid hr2
  clear hr1 hr2 hb2
  go_enter Try.func12, Try.ntmps12
  go_wp2_with fail
  refine (lives4 _).mono ?_
  rintro e w2 ⟨rfl, hb1⟩
  go_wp2_with fail
  refine (new_ex 1 1 rfl _).mono ?_
  rintro e w3 ⟨b, g, rfl, hm, hb, hg, hb3'⟩
  have sb := hm.sb
  have sg := hm.sg
  have hs1 := hb1.size
  have hs3 := hb3'.size
  have hbl : Below w.heap.size w w3 := hb1.trans (hb3'.mono hs1)
  have n0 : (w3.alloc (.cells #[.int .i64 0, .int .i64 a2] 68)).heap[w3.heap.size]? = some (.cells #[.int .i64 0, .int .i64 a2] 68 (0, 0)) := Deep.blk_alloc_new _ _
  have N0 := hid n0
  clear n0
  go_wp2_with fail
  go_loopw [17] (fun i wr => ∃ (k c : Nat) (u : Int), (k : Int) ≤ a0 % 9 ∧ i = .int .u8 k ∧ Mem wr b g [u] c ∧ c ≤ k ∧ Hid (wr.heap[w3.heap.size]? = some (.cells #[.int .i64 0, .int .i64 a2] 68 (0, 0))) ∧ Below w.heap.size w wr)
    (fun i _ => (a0 % 9 - intOf i).toNat)
  case atStart => exact ⟨0, 0, 0, by simp; omega, rfl, hm.alloc _, by omega, N0, hbl.alloc (by omega) _⟩
  case round =>
    obtain ⟨k, c, u, hk, rfl, hmr, hc, hn, hbr⟩ := hrel
    have hsr := hbr.size
    by_cases hlt : (k : Int) < a0 % 9
    · by_cases hu : u = 0
      · subst hu
        go_wp2_with fail
        refine (wake_yes b g _ _ 0 _ hmr (by omega) (by omega) (by simp) (by simp)).mono ?_
        rintro e w5 ⟨rfl, hm5, ho5⟩
        go_wp2
        go_roundw
        case rel => exact ⟨k + 1, c + 1, 1, by omega, by go_num, hm5, by omega, ho5.keep hn.out (by omega) (by omega), hbr.trans (ho5.below (by omega) (by omega) (by omega))⟩
        case measure => simp [intOf]; omega
      · have HU := hid hu
        clear hu
        go_wp2_with fail
        refine (wake_no b g _ _ 0 _ hmr (by omega) (by omega) (by simp) (by simpa using HU.out)).mono ?_
        rintro e w5 ⟨rfl, hm5, ho5⟩
        go_wp2
        go_roundw
        case rel => exact ⟨k + 1, c + 1, u, by omega, by go_num, hm5, by omega, ho5.keep hn.out (by omega) (by omega), hbr.trans (ho5.below (by omega) (by omega) (by omega))⟩
        case measure => simp [intOf]; omega
    · go_wp2_with fail
      refine (clear_in b g _ _ 0 _ hmr (by omega) (by omega) (by simp)).mono ?_
      rintro e w5 ⟨rfl, hm5, ho5⟩
      have n5 := ho5.keep hn.out (by omega) (by omega)
      have j0 := cell_of_blk (i := 0) n5 rfl
      have j1 := cell_of_blk (i := 1) n5 rfl
      have hs5 := ho5.size
      go_wp2_with fail
      refine (step_other b g _ _ 0 _ _ _ hm5 (by omega) (by omega) (by simp) (by simp) r1 HR1.out).mono ?_
      rintro e w6 ⟨rfl, hm6, ho6⟩
      have N6 := hid (ho6.keep n5 (by omega) (by omega))
      have hs6 := ho6.size
      have hb6 : Below w.heap.size w w6 := hbr.trans ((ho5.trans ho6).below (by omega) (by omega) (by omega))
      clear n5 j0 j1
      cases big
      all_goals
        have hb4 := HB3.out
        simp only [reduceCtorEq, forall_const, false_implies] at hb4
        go_wp2_with fail
        go_loopw [41] (fun i wr => ∃ (k c : Nat) (u : Int), (k : Int) ≤ a1 % 9 ∧ i = .int .u8 k ∧ Two (k = 0 ∧ u = 0) (0 < k ∧ u = 1) ∧ Mem wr b g [u] c ∧ c ≤ 20 + k ∧ Hid (wr.heap[w3.heap.size]? = some (.cells #[.int .i64 0, .int .i64 a2] 68 (0, 0))) ∧ Below w.heap.size w wr)
          (fun i _ => (a1 % 9 - intOf i).toNat)
        case atStart => exact ⟨0, c + 2, 0, by simp; omega, rfl, .inl ⟨rfl, rfl⟩, by simpa using hm6, by omega, N6, hb6⟩
        case round =>
          obtain ⟨j, c2, q, hj, rfl, ht, hmr2, hc2, hn2, hbr2⟩ := hrel
          have hsr2 := hbr2.size
          by_cases hlt2 : (j : Int) < a1 % 9
          · rcases ht with ⟨h1, rfl⟩ | ⟨h1, rfl⟩
            · go_wp2_with fail
              refine (wake_yes b g _ _ 0 _ hmr2 (by omega) (by omega) (by simp) (by simp)).mono ?_
              rintro e w7 ⟨rfl, hm7, ho7⟩
              go_wp2
              go_roundw
              case rel => exact ⟨j + 1, c2 + 1, 1, by omega, by go_num, .inr ⟨by omega, rfl⟩, hm7, by omega, ho7.keep hn2.out (by omega) (by omega), hbr2.trans (ho7.below (by omega) (by omega) (by omega))⟩
              case measure => simp [intOf]; omega
            · go_wp2_with fail
              refine (wake_no b g _ _ 0 _ hmr2 (by omega) (by omega) (by simp) (by simp)).mono ?_
              rintro e w7 ⟨rfl, hm7, ho7⟩
              go_wp2
              go_roundw
              case rel => exact ⟨j + 1, c2 + 1, 1, by omega, by go_num, .inr ⟨by omega, rfl⟩, hm7, by omega, ho7.keep hn2.out (by omega) (by omega), hbr2.trans (ho7.below (by omega) (by omega) (by omega))⟩
              case measure => simp [intOf]; omega
          · have j0 := cell_of_blk (i := 0) hn2.out rfl
            have j1 := cell_of_blk (i := 1) hn2.out rfl
            by_cases cB : a1 % 9 ≤ 0
            · obtain ⟨h1, rfl⟩ : j = 0 ∧ q = 0 := by rcases ht with h | h <;> omega
              have hd : decide (0 < a1 % 9) = false := decide_eq_false (by omega)
              clear ht
              go_wp2_with fail
              refine (step_other b g _ _ 0 _ _ _ hmr2 (by omega) (by omega) (by simp) (by simp) r2 HR2.out).mono ?_
              rintro e w7 ⟨rfl, hm7, ho7⟩
              have hs7 := ho7.size
              go_wp2_with fail
              refine (is_in b g _ _ 0 0 _ hm7 (by omega) (by omega) (by simp) (by simp) false (by decide)).mono ?_
              rintro e w8 ⟨rfl, hm8, ho8⟩
              go_wp2
              go_ret
              exact ⟨rfl, hbr2.trans ((ho7.trans ho8).below (by omega) (by omega) (by omega))⟩
            · obtain ⟨h1, rfl⟩ : 0 < j ∧ q = 1 := by rcases ht with h | h <;> omega
              have hd : decide (0 < a1 % 9) = true := decide_eq_true (by omega)
              clear ht
              go_wp2_with fail
              refine (step_woken b g _ _ 0 _ _ _ hmr2 (by omega) (by omega) (by simp) (by simp)).mono ?_
              rintro e w7 ⟨rfl, hm7, ho7⟩
              have hs7 := ho7.size
              go_wp2_with fail
              refine (is_in b g _ _ 0 0 _ hm7 (by omega) (by omega) (by simp) (by simp) false (by decide)).mono ?_
              rintro e w8 ⟨rfl, hm8, ho8⟩
              go_wp2
              go_ret
              exact ⟨rfl, hbr2.trans ((ho7.trans ho8).below (by omega) (by omega) (by omega))⟩

theorem walk (a0 a1 a2 : Int) (w : World) (w0 : (Lit.int .u8 a0).wf = true) (w1 : (Lit.int .u8 a1).wf = true) (w2 : (Lit.int .i64 a2).wf = true) :
    Calls Try.prog 12 #[.int .u8 a0, .int .u8 a1, .int .i64 a2] w fun e w' => e = .returned (.bool true) ∧ Below w.heap.size w w' := by
  have h0 := bounds_u8 w0
  have h1 := bounds_u8 w1
  have h2 := bounds_i64 w2
  refine walk' a0 a1 a2 _ _ _ w h0.1 h0.2 h1.1 h1.2 rfl rfl rfl ?_
  intro h
  rw [decide_eq_true_eq] at h
  split
  · rename_i hl
    have := late_min a2 h2.1 h2.2 hl
    omega
  · rfl
end Go.Proofs.Ytdljacmagabilaa.noteCleared
