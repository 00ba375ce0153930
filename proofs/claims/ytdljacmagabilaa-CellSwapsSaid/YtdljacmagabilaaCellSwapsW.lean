/- The walk of the statement CellSwaps: the law answers true and turns nothing that was there. -/
import Derived.Test.YtdljacmagabilaaLives01
namespace Go.Proofs.Ytdljacmagabilaa.cellSwaps
open Go.RowKit
set_option linter.unusedVariables false

set_option maxHeartbeats 1000000 in
theorem walk (a0 : Int) (a1 : Option Addr) (len1 cap1 : Nat) (z1 : List Int) (w : World) (w0 : (Lit.int .u64 a0).wf = true) (w1 : IsRow .u64 w a1 len1 cap1 z1) :
    Calls Try.prog 3 #[.int .u64 a0, .slice a1 len1 cap1] w fun e w' => e = .returned (.bool true) ∧ Below w.heap.size w w' := by
  by_cases hlen : (40 : Int) < len1
  · go_enter Try.func3, Try.ntmps3
    go_wp2_with fail
    refine (lives1 _).mono ?_
    rintro e w2 ⟨rfl, hb1⟩
    go_wp2_with fail
    refine (lives1 _).mono ?_
    rintro e w3 ⟨rfl, hb2⟩
    go_wp2
    go_ret
    exact ⟨rfl, hb1.trans (hb2.mono hb1.size)⟩
  · have hlen' : len1 ≤ 40 := by omega
    have W1 := hid w1
    clear w1 w0
    go_enter Try.func3, Try.ntmps3
    go_wp2_with fail
    refine (lives1 _).mono ?_
    rintro e w2 ⟨rfl, hb1⟩
    go_wp2_with fail
    refine (new_ex 1 1 rfl _).mono ?_
    rintro e w3 ⟨b, g, rfl, hm, hb, hg, hb3⟩
    have hs1 := hb1.size
    go_wp2_with fail
    refine (store_in _ _ _ _ 0 a0 _ hm (by omega) (by omega) (by simp)).mono ?_
    rintro e w4 ⟨rfl, hm4, ho4⟩
    have hbl : Below w.heap.size w w4 := (hb1.trans (hb3.mono hs1)).trans (ho4.below (by omega) (by omega) (by have := hb3.size; omega))
    go_wp2_with fail
    go_loopw [6, 24] (fun now i wr => ∃ (k c : Nat) (v : Int), k ≤ len1 ∧ i = .int .i64 k ∧ now = .int .u64 v ∧ Mem wr b g [v] c ∧ c ≤ 1 + 2 * k ∧ Below w.heap.size w wr)
      (fun _ i _ => len1 - (intOf i).toNat)
    case atStart => exact ⟨0, 1, a0, Nat.zero_le _, rfl, rfl, hm4, by omega, hbl⟩
    case round =>
      obtain ⟨k, c, v, hk, rfl, rfl, hmr, hcr, hbr⟩ := hrel
      by_cases hlt : k < len1
      · obtain ⟨bx, off, rfl, hzl, hwf, hcell⟩ := W1.out.open.resolve_left (by omega)
        have hx := hcell _ hbr k hlt
        obtain ⟨x, hxe⟩ : ∃ x, x = z1.getD k 0 := ⟨_, rfl⟩
        rw [← hxe] at hx
        clear hxe hcell hwf
        by_cases hv : v = a0
        · subst hv
          go_wp2_with fail
          refine (swap_yes _ _ _ _ 0 _ x _ hmr (by omega) (by omega) (by simp) (by simp)).mono ?_
          rintro e w5 ⟨rfl, hm5, ho5⟩
          go_wp2_with fail
          refine (load_in _ _ _ _ 0 _ hm5 (by omega) (by omega) (by simp)).mono ?_
          rintro e w6 ⟨rfl, hm6, ho6⟩
          go_wp2
          go_roundw
          case rel => exact ⟨k + 1, c + 2, x, by omega, by go_num, rfl, hm6, by omega, hbr.trans ((ho5.trans ho6).below (by omega) (by omega) (by have := hbr.size; omega))⟩
          case measure => simp [intOf]; omega
        · have hv' : (v == a0) = false := by simpa using hv
          go_wp2_with fail
          refine (swap_no _ _ _ _ 0 _ x _ hmr (by omega) (by omega) (by simp) (by simpa using hv)).mono ?_
          rintro e w5 ⟨rfl, hm5, ho5⟩
          go_wp2_with fail
          refine (load_in _ _ _ _ 0 _ hm5 (by omega) (by omega) (by simp)).mono ?_
          rintro e w6 ⟨rfl, hm6, ho6⟩
          go_wp2
          go_roundw
          case rel => exact ⟨k + 1, c + 2, v, by omega, by go_num, rfl, hm6, by omega, hbr.trans ((ho5.trans ho6).below (by omega) (by omega) (by have := hbr.size; omega))⟩
          case measure => simp [intOf]; omega
      · go_wp2
        go_ret
        exact ⟨rfl, hbr⟩

end Go.Proofs.Ytdljacmagabilaa.cellSwaps
