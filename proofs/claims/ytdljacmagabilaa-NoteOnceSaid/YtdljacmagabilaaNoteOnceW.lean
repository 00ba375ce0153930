/- The walk of the statement NoteOnce: the law answers true and turns nothing that was there. -/
import Derived.Test.YtdljacmagabilaaLives04
import Derived.OpenShut
namespace Go.Proofs.Ytdljacmagabilaa.noteOnce
open Go.RowKit
set_option linter.unusedVariables false
/-- One of two cases. -/
def Two (a b : Prop) : Prop := a ∨ b

set_option maxHeartbeats 1000000 in
theorem walk' (a0 a1 v : Int) (w : World) (l0 : 0 ≤ a0) (l1 : a0 ≤ 255) (m0 : 0 ≤ a1) (m1 : a1 ≤ 255)
    (hA : (a0 % 9 ≤ 0 ∧ v = 0) ∨ (0 < a0 % 9 ∧ v = 1)) :
    Calls Try.prog 14 #[.int .u8 a0, .int .u8 a1] w fun e w' => e = .returned (.bool true) ∧ Below w.heap.size w w' := by
  have hl : lateB 9223372036854775807 5 = false := by decide
  have HL := hid hl
  have HA := hid hA
  clear hl hA
  go_enter Try.func14, Try.ntmps14
  go_wp2_with fail
  refine (lives4 _).mono ?_
  rintro e w2 ⟨rfl, hb1⟩
  go_wp2_with fail
  refine (new_ex 1 1 rfl _).mono ?_
  rintro e w3 ⟨b, g, rfl, hm, hb, hg, hb3⟩
  have sb := hm.sb
  have sg := hm.sg
  have hs1 := hb1.size
  have hs3 := hb3.size
  have hbl : Below w.heap.size w w3 := hb1.trans (hb3.mono hs1)
  have n0 : (w3.alloc (.cells #[.int .i64 0, .int .i64 9223372036854775807] 68)).heap[w3.heap.size]? = some (.cells #[.int .i64 0, .int .i64 9223372036854775807] 68 (0, 0)) := Deep.blk_alloc_new _ _
  have N0 := hid n0
  clear n0
  go_wp2_with fail
  go_loopw [7, 16] (fun told i wr => ∃ (k c : Nat) (u : Int), (k : Int) ≤ a0 % 9 ∧ i = .int .u8 k ∧ told = .int .i64 u ∧ Two (k = 0 ∧ u = 0) (0 < k ∧ u = 1) ∧ Mem wr b g [u] c ∧ c ≤ k ∧ Hid (wr.heap[w3.heap.size]? = some (.cells #[.int .i64 0, .int .i64 9223372036854775807] 68 (0, 0))) ∧ Below w.heap.size w wr)
    (fun _ i _ => (a0 % 9 - intOf i).toNat)
  case atStart => exact ⟨0, 0, 0, by simp; omega, rfl, rfl, .inl ⟨rfl, rfl⟩, hm.alloc _, by omega, N0, hbl.alloc (by omega) _⟩
  case round =>
    obtain ⟨k, c, u, hk, rfl, rfl, ht, hmr, hc, hn, hbr⟩ := hrel
    have hsr := hbr.size
    by_cases hlt : (k : Int) < a0 % 9
    · rcases ht with ⟨h1, rfl⟩ | ⟨h1, rfl⟩
      · obtain rfl : k = 0 := h1
        go_wp2_with fail
        refine (wake_yes b g _ _ 0 _ hmr (by omega) (by omega) (by simp) (by simp)).mono ?_
        rintro e w5 ⟨rfl, hm5, ho5⟩
        go_wp2
        go_roundw
        case rel => exact ⟨1, c + 1, 1, by omega, by go_num, rfl, .inr ⟨by omega, rfl⟩, hm5, by omega, ho5.keep hn.out (by omega) (by omega), hbr.trans (ho5.below (by omega) (by omega) (by omega))⟩
        case measure => simp [intOf]; omega
      · go_wp2_with fail
        refine (wake_no b g _ _ 0 _ hmr (by omega) (by omega) (by simp) (by simp)).mono ?_
        rintro e w5 ⟨rfl, hm5, ho5⟩
        go_wp2
        go_roundw
        case rel => exact ⟨k + 1, c + 1, 1, by omega, by go_num, rfl, .inr ⟨by omega, rfl⟩, hm5, by omega, ho5.keep hn.out (by omega) (by omega), hbr.trans (ho5.below (by omega) (by omega) (by omega))⟩
        case measure => simp [intOf]; omega
    · have hu : u = v := by
        rcases ht with h | h <;> rcases HA.out with h' | h' <;> omega
      subst hu
      clear ht
      go_wp2_with fail
      go_loopw [8, 25] (fun wo i wr => ∃ (j c : Nat) (q y : Int), (j : Int) ≤ a1 % 9 ∧ i = .int .u8 j ∧ wo = .int .i64 y ∧ Two (j = 0 ∧ q = u ∧ y = 0) (0 < j ∧ q = 0 ∧ y = u) ∧ Mem wr b g [q] c ∧ c ≤ 10 + j ∧ Hid (wr.heap[w3.heap.size]? = some (.cells #[.int .i64 0, .int .i64 9223372036854775807] 68 (0, 0))) ∧ Below w.heap.size w wr)
        (fun _ i _ => (a1 % 9 - intOf i).toNat)
      case atStart => exact ⟨0, c, u, 0, by simp; omega, rfl, rfl, .inl ⟨rfl, rfl, rfl⟩, hmr, by omega, hn, hbr⟩
      case round =>
        obtain ⟨j, c2, q, y, hj, rfl, rfl, ht, hmr2, hc2, hn2, hbr2⟩ := hrel
        have hsr2 := hbr2.size
        by_cases hlt2 : (j : Int) < a1 % 9
        · have j0 := cell_of_blk (i := 0) hn2.out rfl
          have j1 := cell_of_blk (i := 1) hn2.out rfl
          by_cases hq : q = 1
          · have hyu : y = 0 ∧ u = 1 := by rcases ht with h | h <;> omega
            obtain ⟨rfl, rfl⟩ := hyu
            subst hq
            clear ht
            go_wp2_with fail
            refine (step_woken b g _ _ 0 _ 5 _ hmr2 (by omega) (by omega) (by simp) (by simp)).mono ?_
            rintro e w6 ⟨rfl, hm6, ho6⟩
            clear j0 j1
            go_wp2
            go_roundw
            case rel => exact ⟨j + 1, c2 + 1, 0, 1, by omega, by go_num, rfl, .inr ⟨by omega, rfl, rfl⟩, hm6, by omega, ho6.keep hn2.out (by omega) (by omega), hbr2.trans (ho6.below (by omega) (by omega) (by omega))⟩
            case measure => simp [intOf]; omega
          · have hq0 : q = 0 ∧ y = u := by
              rcases ht with h | h
              · rcases HA.out with h' | h' <;> omega
              · omega
            obtain ⟨rfl, rfl⟩ := hq0
            clear ht
            go_wp2_with fail
            refine (step_other b g _ _ 0 _ 5 _ hmr2 (by omega) (by omega) (by simp) (by simp) 0 (by rw [HL.out]; rfl)).mono ?_
            rintro e w6 ⟨rfl, hm6, ho6⟩
            clear j0 j1
            go_wp2
            go_roundw
            case rel => exact ⟨j + 1, c2 + 1, 0, y, by omega, by go_num, rfl, .inr ⟨by omega, rfl, rfl⟩, hm6, by omega, ho6.keep hn2.out (by omega) (by omega), hbr2.trans (ho6.below (by omega) (by omega) (by omega))⟩
            case measure => simp [intOf]; omega
        · by_cases cA : a0 % 9 ≤ 0
          · by_cases cB : a1 % 9 ≤ 0
            · obtain ⟨rfl, rfl, rfl⟩ : u = 0 ∧ y = 0 ∧ q = 0 := by rcases ht with h | h <;> rcases HA.out with h' | h' <;> omega
              clear ht
              go_wp2_with fail
              refine (wake_yes b g _ _ 0 _ hmr2 (by omega) (by omega) (by simp) (by simp)).mono ?_
              rintro e w7 ⟨rfl, hm7, ho7⟩
              go_wp2
              go_ret
              exact ⟨rfl, hbr2.trans (ho7.below (by omega) (by omega) (by omega))⟩
            · obtain ⟨rfl, rfl, rfl⟩ : u = 0 ∧ y = 0 ∧ q = 0 := by rcases ht with h | h <;> rcases HA.out with h' | h' <;> omega
              clear ht
              go_wp2_with fail
              refine (wake_yes b g _ _ 0 _ hmr2 (by omega) (by omega) (by simp) (by simp)).mono ?_
              rintro e w7 ⟨rfl, hm7, ho7⟩
              go_wp2
              go_ret
              exact ⟨rfl, hbr2.trans (ho7.below (by omega) (by omega) (by omega))⟩
          · by_cases cB : a1 % 9 ≤ 0
            · obtain ⟨rfl, rfl, rfl⟩ : u = 1 ∧ y = 0 ∧ q = 1 := by rcases ht with h | h <;> rcases HA.out with h' | h' <;> omega
              clear ht
              go_wp2_with fail
              refine (wake_no b g _ _ 0 _ hmr2 (by omega) (by omega) (by simp) (by simp)).mono ?_
              rintro e w7 ⟨rfl, hm7, ho7⟩
              have hd : decide (0 < a1 % 9) = false := decide_eq_false (by omega)
              go_wp2
              go_ret
              exact ⟨rfl, hbr2.trans (ho7.below (by omega) (by omega) (by omega))⟩
            · obtain ⟨rfl, rfl, rfl⟩ : u = 1 ∧ y = 1 ∧ q = 0 := by rcases ht with h | h <;> rcases HA.out with h' | h' <;> omega
              clear ht
              go_wp2_with fail
              refine (wake_yes b g _ _ 0 _ hmr2 (by omega) (by omega) (by simp) (by simp)).mono ?_
              rintro e w7 ⟨rfl, hm7, ho7⟩
              go_wp2
              go_ret
              exact ⟨rfl, hbr2.trans (ho7.below (by omega) (by omega) (by omega))⟩

theorem walk (a0 a1 : Int) (w : World) (w0 : (Lit.int .u8 a0).wf = true) (w1 : (Lit.int .u8 a1).wf = true) :
    Calls Try.prog 14 #[.int .u8 a0, .int .u8 a1] w fun e w' => e = .returned (.bool true) ∧ Below w.heap.size w w' := by
  have h0 := bounds_u8 w0
  have h1 := bounds_u8 w1
  exact walk' a0 a1 (if a0 % 9 ≤ 0 then 0 else 1) w h0.1 h0.2 h1.1 h1.2 (by split <;> omega)
end Go.Proofs.Ytdljacmagabilaa.noteOnce
