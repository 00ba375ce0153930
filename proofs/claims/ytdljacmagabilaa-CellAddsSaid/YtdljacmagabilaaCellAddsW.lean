/- The walk of the statement CellAdds: the law answers true and turns nothing that was there. -/
import Derived.Test.YtdljacmagabilaaLives01
import Derived.Test.YtdljacmagabilaaCell2
import Derived.Test.YtdljacmagabilaaWraps
namespace Go.Proofs.Ytdljacmagabilaa.cellAdds
open Go.RowKit
set_option linter.unusedVariables false

def S (zs : List Int) (k : Nat) : Int := (zs.take k).sum
theorem S_succ (zs : List Int) (k : Nat) (h : k < zs.length) : S zs (k + 1) = S zs k + zs.getD k 0 := by
  unfold S
  rw [List.take_succ_eq_append_getElem h, List.sum_append]
  simp [h]
def A (x : Int) : Int := IntKind.u64.wrap x
theorem A_add (x d : Int) : IntKind.u64.wrap (A x + IntKind.u64.wrap d) = A (x + d) := u64_add x d
theorem A_sub (x d : Int) : IntKind.u64.wrap (A x + IntKind.u64.wrap (wrap64 (-d))) = A (x - d) := by
  rw [wrap64_eq, u64_i64, A_add]; rfl

set_option maxHeartbeats 1000000 in
theorem walk (a0 : Option Addr) (len0 cap0 : Nat) (z0 : List Int) (w : World) (w0 : IsRow .i64 w a0 len0 cap0 z0) :
    Calls Try.prog 7 #[.slice a0 len0 cap0] w fun e w' => e = .returned (.bool true) ∧ Below w.heap.size w w' := by
  by_cases hlen : (60 : Int) < len0
  · go_enter Try.func7, Try.ntmps7
    go_wp2_with fail
    refine (lives1 _).mono ?_
    rintro e w2 ⟨rfl, hb1⟩
    go_wp2_with fail
    refine (lives1 _).mono ?_
    rintro e w3 ⟨rfl, hb2⟩
    go_wp2
    go_ret
    exact ⟨rfl, hb1.trans (hb2.mono hb1.size)⟩
  · have hlen' : len0 ≤ 60 := by omega
    have W0 := hid w0
    clear w0
    go_enter Try.func7, Try.ntmps7
    go_wp2_with fail
    refine (lives1 _).mono ?_
    rintro e w2 ⟨rfl, hb1⟩
    go_wp2_with fail
    refine (new_ex 1 1 rfl _).mono ?_
    rintro e w3 ⟨b, g, rfl, hm, hb, hg, hb3⟩
    have hs1 := hb1.size
    have hbl : Below w.heap.size w w3 := hb1.trans (hb3.mono hs1)
    have hs3 := hb3.size
    go_wp2_with fail
    go_loopw [4, 20] (fun sum i wr => ∃ (k : Nat), k ≤ len0 ∧ i = .int .i64 k ∧ sum = .int .u64 (A (S z0 k)) ∧ Mem wr b g [A (S z0 k)] k ∧ Below w.heap.size w wr)
      (fun _ i _ => len0 - (intOf i).toNat)
    case atStart => exact ⟨0, Nat.zero_le _, rfl, rfl, hm, hbl⟩
    case round =>
      obtain ⟨k, hk, rfl, rfl, hmr, hbr⟩ := hrel
      have hsr := hbr.size
      by_cases hlt : k < len0
      · obtain ⟨bx, off, rfl, hzl, hwf, hcell⟩ := W0.out.open.resolve_left (by omega)
        have hx := hcell _ hbr k hlt
        have hS := S_succ z0 k (by omega)
        obtain ⟨x, hxe⟩ : ∃ x, x = z0.getD k 0 := ⟨_, rfl⟩
        obtain ⟨s, hse⟩ : ∃ s, s = S z0 k := ⟨_, rfl⟩
        rw [← hxe] at hx
        rw [← hxe, ← hse] at hS
        rw [← hse] at hmr ⊢
        have HS := hid hS
        clear hxe hcell hwf hS hse
        have A1 := add_in b g [A s] k 0 x
        simp only [List.getD_cons_zero, Int.toNat_zero, List.set_cons_zero, A_add] at A1
        have Aw := A_add s x
        go_wp2_with fail
        refine (A1 _ hmr (by omega) (by omega) (by simp)).mono ?_
        rintro e w5 ⟨rfl, hm5, ho5⟩
        go_wp2
        go_roundw
        case rel => exact ⟨k + 1, by omega, by go_num, by rw [HS.out], by rw [HS.out]; exact hm5, hbr.trans (ho5.below (by omega) (by omega) (by omega))⟩
        case measure => simp [intOf]; omega
      · obtain rfl : k = len0 := by omega
        go_wp2_with fail
        go_loopw [36] (fun i wr => ∃ (j : Nat), j ≤ k ∧ i = .int .i64 j ∧ Mem wr b g [A (S z0 k - S z0 j)] (k + j) ∧ Below w.heap.size w wr)
          (fun i _ => k - (intOf i).toNat)
        case atStart => exact ⟨0, Nat.zero_le _, rfl, by simpa [S] using hmr, hbr⟩
        case round =>
          obtain ⟨j, hj, rfl, hmr2, hbr2⟩ := hrel
          have hsr2 := hbr2.size
          by_cases hlt2 : j < k
          · obtain ⟨bx, off, rfl, hzl, hwf, hcell⟩ := W0.out.open.resolve_left (by omega)
            have hx := hcell _ hbr2 j hlt2
            have hS := S_succ z0 j (by omega)
            obtain ⟨x, hxe⟩ : ∃ x, x = z0.getD j 0 := ⟨_, rfl⟩
            obtain ⟨s, hse⟩ : ∃ s, s = S z0 k - S z0 j := ⟨_, rfl⟩
            rw [← hxe] at hx
            rw [← hse] at hmr2
            have hS2 : S z0 k - S z0 (j + 1) = s - x := by rw [hse, hS, ← hxe]; omega
            have HS := hid hS2
            clear hxe hcell hwf hS hse hS2
            go_wp2_with fail
            have A1 := add_in b g [A s] (k + j) 0 (wrap64 (-x))
            simp only [List.getD_cons_zero, Int.toNat_zero, List.set_cons_zero, A_sub] at A1
            refine (A1 _ hmr2 (by omega) (by omega) (by simp)).mono ?_
            rintro e w5 ⟨rfl, hm5, ho5⟩
            go_wp2
            go_roundw
            case rel => exact ⟨j + 1, by omega, by go_num, by rw [HS.out]; exact hm5, hbr2.trans (ho5.below (by omega) (by omega) (by omega))⟩
            case measure => simp [intOf]; omega
          · obtain rfl : j = k := by omega
            rw [Int.sub_self] at hmr2
            have hEq : (((j : Int) + j + 1) == 2 * (j : Int) + 1) = true := by simp; omega
            go_wp2_with fail
            refine (load_in _ _ _ _ 0 _ hmr2 (by omega) (by omega) (by simp)).mono ?_
            rintro e w6 ⟨rfl, hm6, ho6⟩
            go_wp2_with fail
            refine (count_any _ _ _ _ _ hm6).mono ?_
            rintro e w7 ⟨rfl, rfl⟩
            go_wp2
            go_ret
            exact ⟨rfl, hbr2.trans (ho6.below (by omega) (by omega) (by omega))⟩

end Go.Proofs.Ytdljacmagabilaa.cellAdds
