/- The walk of the statement NotePlays: the law answers true and turns nothing that was there. -/
import Derived.Test.YtdljacmagabilaaLives04
import Derived.Test.YtdljacmagabilaaStructs
namespace Go.Proofs.Ytdljacmagabilaa.notePlays
open Go.RowKit
set_option linter.unusedVariables false
/-- The document's answer of a step. -/
def want (s : Bool) (u now : Int) : Int := if s then 1 else if lateB u now then 2 else 0
theorem want_late {u now : Int} (h1 : u < 9223372036854775807) (h2 : u ≤ now) : want false u now = 2 := by
  have e : lateB u now = true := by
    unfold lateB; rw [Bool.and_eq_true, bne_iff_ne, decide_eq_true_eq]; exact ⟨by omega, h2⟩
  simp [want, e]
theorem want_not {u now : Int} (h : ¬(u < 9223372036854775807 ∧ u ≤ now)) (hu : u ≤ 9223372036854775807) : want false u now = 0 := by
  have e : lateB u now = false := by
    rw [← Bool.not_eq_true]; unfold lateB; rw [Bool.and_eq_true, bne_iff_ne, decide_eq_true_eq]; omega
  simp [want, e]
theorem ret_bi {x : Bool} {a b : Int} (h : b = a) : Ending.returned (.tuple #[.bool x, .int .i64 a]) = .returned (.tuple #[.bool x, .int .i64 b]) := by rw [h]
set_option maxHeartbeats 400000 in
theorem ref_step (s : Bool) (u now : Int) (w : World) (hu : u ≤ 9223372036854775807) :
    Calls Try.prog 44 #[.bool s, .int .i64 u, .int .i64 now] w fun e w' => e = .returned (.tuple #[.bool false, .int .i64 (want s u now)]) ∧ w = w' := by
  cases s
  · by_cases h1 : u < 9223372036854775807
    · by_cases h2 : u ≤ now
      all_goals
        go_enter Try.func44, Try.ntmps44
        go_wp2
        go_ret2
        first | (refine ⟨ret_bi (want_late ?_ ?_), rfl⟩ <;> omega) | (refine ⟨ret_bi (want_not ?_ ?_), rfl⟩ <;> omega)
    · go_enter Try.func44, Try.ntmps44
      go_wp2
      go_ret2
      refine ⟨ret_bi (want_not ?_ ?_), rfl⟩ <;> omega
  · go_enter Try.func44, Try.ntmps44
    go_wp2
    go_ret2
    exact ⟨rfl, rfl⟩
/-- A truth as a word. -/
def F (b : Bool) : Int := if b then 1 else 0

set_option maxHeartbeats 2000000 in
theorem walk (a0 : Int) (a1 : Option Addr) (len1 cap1 : Nat) (z1 : Nat → Nat → Int) (w : World) (w0 : (Lit.int .i64 a0).wf = true) (w1 : IsStructs [.u8, .i64] w a1 len1 cap1 z1) :
    Calls Try.prog 13 #[.int .i64 a0, .slice a1 len1 cap1] w fun e w' => e = .returned (.bool true) ∧ Below w.heap.size w w' := by
  have hu := (bounds_i64 w0).2
  have HU := hid hu
  clear w0 hu
  by_cases hlen : (60 : Int) < len1
  · go_enter Try.func13, Try.ntmps13
    go_wp2_with fail
    refine (lives4 _).mono ?_
    rintro e w2 ⟨rfl, hb1⟩
    go_wp2_with fail
    refine (lives4 _).mono ?_
    rintro e w3 ⟨rfl, hb2⟩
    go_wp2
    go_ret
    exact ⟨rfl, hb1.trans (hb2.mono hb1.size)⟩
  · have hlen' : len1 ≤ 60 := by omega
    have W1 := hid w1
    clear w1
    go_enter Try.func13, Try.ntmps13
    go_wp2_with fail
    refine (lives4 _).mono ?_
    rintro e w2 ⟨rfl, hb1⟩
    go_wp2_with fail
    refine (new_ex 3 3 rfl _).mono ?_
    rintro e w3 ⟨b, g, rfl, hm, hb, hg, hb3⟩
    have hs1 := hb1.size
    have hs3 := hb3.size
    have sb := hm.sb
    have sg := hm.sg
    have hbl : Below w.heap.size w w3 := hb1.trans (hb3.mono hs1)
    have N0 := hid (Deep.blk_alloc_new w3 (.cells #[.int .i64 1, .int .i64 a0] 68))
    go_wp2_with fail
    go_loopw [7, 26] (fun is i wr => ∃ (k c : Nat) (s : Bool), k ≤ len1 ∧ i = .int .i64 k ∧ is = .bool s ∧ Mem wr b g [0, F s, 0] c ∧ c ≤ k ∧ Hid (wr.heap[w3.heap.size]? = some (.cells #[.int .i64 1, .int .i64 a0] 68 (0, 0))) ∧ Below w.heap.size w wr)
      (fun _ i _ => len1 - (intOf i).toNat)
    case atStart => exact ⟨0, 0, false, by omega, rfl, rfl, hm.alloc _, by omega, N0, hbl.alloc (by omega) _⟩
    case round =>
      obtain ⟨k, c, s, hk, rfl, rfl, hmr, hc, hn, hbr⟩ := hrel
      have hsr := hbr.size
      have rb := hmr.sb
      have rg := hmr.sg
      have rn : w3.heap.size < wr.heap.size := by have := hn.out; rw [Array.getElem?_eq_some_iff] at this; exact this.1
      by_cases hlt : k < len1
      · obtain ⟨bx, off, rfl, hcell⟩ := W1.out.open (by omega) (by simp)
        obtain ⟨hx, hxw⟩ := hcell _ hbr k hlt 0 .u8 rfl
        obtain ⟨hy, hyw⟩ := hcell _ hbr k hlt 1 .i64 rfl
        have hr8 := bounds_u8 hxw
        obtain ⟨kd, hkd⟩ : ∃ x, x = z1 k 0 := ⟨_, rfl⟩
        obtain ⟨nw, hnw⟩ : ∃ x, x = z1 k 1 := ⟨_, rfl⟩
        rw [← hkd] at hx hr8
        rw [← hnw] at hy
        simp only [List.length_cons, List.length_nil, Nat.reduceAdd, Nat.add_zero] at hx hy
        have kd0 := hr8.1
        have kd1 := hr8.2
        clear hkd hnw hcell hxw hyw hr8
        rw [← Nat.add_assoc] at hy
        have MA := hid (hmr.alloc (.cells #[.int .u8 kd, .int .i64 nw] 75))
        have N1 := hid ((Below.heap_alloc wr (.cells #[.int .u8 kd, .int .i64 nw] 75) _ rn).trans hn.out)
        by_cases c2 : kd % 5 = 2
        · have t2 : (kd % 5 == 2) = true := by simpa using c2
          clear c2
          cases s
          · go_wp2_with fail
            refine (count_any _ _ _ _ _ MA.out).mono ?_
            rintro e w' ⟨rfl, rfl⟩
            go_wp2_with fail
            refine (wake_yes b g _ _ 1 _ MA.out (by omega) (by omega) (by simp) (by simp [F])).mono ?_
            rintro e w5 ⟨rfl, hm5, ho5⟩
            go_wp2_with fail
            refine (count_any _ _ _ _ _ hm5).mono ?_
            rintro e w' ⟨rfl, rfl⟩
            go_wp2
            go_roundw
            case rel => exact ⟨k + 1, c + 1, true, by omega, by go_num, rfl, hm5, by omega, ho5.keep N1.out (by omega) (by omega), (hbr.alloc (by omega) _).trans (ho5.below (by omega) (by omega) (by simp; omega))⟩
            case measure => simp [intOf]; omega
          · go_wp2_with fail
            refine (count_any _ _ _ _ _ MA.out).mono ?_
            rintro e w' ⟨rfl, rfl⟩
            go_wp2_with fail
            refine (wake_no b g _ _ 1 _ MA.out (by omega) (by omega) (by simp) (by simp [F])).mono ?_
            rintro e w5 ⟨rfl, hm5, ho5⟩
            go_wp2_with fail
            refine (count_any _ _ _ _ _ hm5).mono ?_
            rintro e w' ⟨rfl, rfl⟩
            go_wp2
            go_roundw
            case rel => exact ⟨k + 1, c + 1, true, by omega, by go_num, rfl, hm5, by omega, ho5.keep N1.out (by omega) (by omega), (hbr.alloc (by omega) _).trans (ho5.below (by omega) (by omega) (by simp; omega))⟩
            case measure => simp [intOf]; omega
        · have t2 : (kd % 5 == 2) = false := by simpa using c2
          by_cases c3 : kd % 5 = 3
          · have t3 : (kd % 5 == 3) = true := by simpa using c3
            clear c2 c3
            go_wp2_with fail
            refine (count_any _ _ _ _ _ MA.out).mono ?_
            rintro e w' ⟨rfl, rfl⟩
            go_wp2_with fail
            refine (clear_in b g _ _ 1 _ MA.out (by omega) (by omega) (by simp)).mono ?_
            rintro e w5 ⟨rfl, hm5, ho5⟩
            go_wp2_with fail
            refine (count_any _ _ _ _ _ hm5).mono ?_
            rintro e w' ⟨rfl, rfl⟩
            go_wp2
            go_roundw
            case rel => exact ⟨k + 1, c + 1, false, by omega, by go_num, rfl, hm5, by omega, ho5.keep N1.out (by omega) (by omega), (hbr.alloc (by omega) _).trans (ho5.below (by omega) (by omega) (by simp; omega))⟩
            case measure => simp [intOf]; omega
          · have t3 : (kd % 5 == 3) = false := by simpa using c3
            by_cases c4 : kd % 5 = 4
            · have t4 : (kd % 5 == 4) = true := by simpa using c4
              clear c2 c3 c4
              go_wp2_with fail
              refine (count_any _ _ _ _ _ MA.out).mono ?_
              rintro e w' ⟨rfl, rfl⟩
              go_wp2_with fail
              refine (is_in b g _ _ 1 (F s) _ MA.out (by omega) (by omega) (by simp) (by simp) s (by cases s <;> rfl)).mono ?_
              rintro e w5 ⟨rfl, hm5, ho5⟩
              go_wp2_with fail
              refine (count_any _ _ _ _ _ hm5).mono ?_
              rintro e w' ⟨rfl, rfl⟩
              go_wp2
              go_roundw
              case rel => exact ⟨k + 1, c + 1, s, by omega, by go_num, rfl, hm5, by omega, ho5.keep N1.out (by omega) (by omega), (hbr.alloc (by omega) _).trans (ho5.below (by omega) (by omega) (by simp; omega))⟩
              case measure => simp [intOf]; omega
            · have t4 : (kd % 5 == 4) = false := by simpa using c4
              clear c2 c3 c4
              have RS := hid (fun w => ref_step s a0 nw w HU.out)
              have L0 := cell_of_blk (i := 0) N1.out rfl
              have L1 := cell_of_blk (i := 1) N1.out rfl
              cases s
              · go_wp2_with fail
                refine (count_any _ _ _ _ _ MA.out).mono ?_
                rintro e w' ⟨rfl, rfl⟩
                go_wp2_with fail
                refine (RS.out _).mono ?_
                rintro e w' ⟨rfl, rfl⟩
                go_wp2_with fail
                refine (step_other b g _ _ 1 _ _ _ MA.out (by omega) (by omega) (by simp) (by simp [F]) (want false a0 nw) rfl).mono ?_
                rintro e w5 ⟨rfl, hm5, ho5⟩
                go_wp2_with fail
                refine (count_any _ _ _ _ _ hm5).mono ?_
                rintro e w' ⟨rfl, rfl⟩
                go_wp2
                go_roundw
                case rel => exact ⟨k + 1, c + 1, false, by omega, by go_num, rfl, hm5, by omega, ho5.keep N1.out (by omega) (by omega), (hbr.alloc (by omega) _).trans (ho5.below (by omega) (by omega) (by simp; omega))⟩
                case measure => simp [intOf]; omega
              · go_wp2_with fail
                refine (count_any _ _ _ _ _ MA.out).mono ?_
                rintro e w' ⟨rfl, rfl⟩
                go_wp2_with fail
                refine (RS.out _).mono ?_
                rintro e w' ⟨rfl, rfl⟩
                go_wp2_with fail
                refine (step_woken b g _ _ 1 _ _ _ MA.out (by omega) (by omega) (by simp) (by simp [F])).mono ?_
                rintro e w5 ⟨rfl, hm5, ho5⟩
                go_wp2_with fail
                refine (count_any _ _ _ _ _ hm5).mono ?_
                rintro e w' ⟨rfl, rfl⟩
                go_wp2
                go_roundw
                case rel => exact ⟨k + 1, c + 1, false, by omega, by go_num, rfl, hm5, by omega, ho5.keep N1.out (by omega) (by omega), (hbr.alloc (by omega) _).trans (ho5.below (by omega) (by omega) (by simp; omega))⟩
                case measure => simp [intOf]; omega
      · go_wp2_with fail
        refine (load_v b g _ _ 0 0 _ hmr (by omega) (by omega) (by simp) (by simp)).mono ?_
        rintro e w5 ⟨rfl, hm5, ho5⟩
        go_wp2_with fail
        refine (load_v b g _ _ 2 0 _ hm5 (by omega) (by omega) (by simp) (by simp)).mono ?_
        rintro e w6 ⟨rfl, hm6, ho6⟩
        have HF := hid (show (F s == 1) = s by cases s <;> rfl)
        go_wp2_with fail
        refine (load_v b g _ _ 1 (F s) _ hm6 (by omega) (by omega) (by simp) (by simp)).mono ?_
        rintro e w7 ⟨rfl, hm7, ho7⟩
        have hf := HF.out
        go_wp2
        go_ret
        exact ⟨rfl, hbr.trans (((ho5.trans ho6).trans ho7).below (by omega) (by omega) (by omega))⟩
end Go.Proofs.Ytdljacmagabilaa.notePlays
