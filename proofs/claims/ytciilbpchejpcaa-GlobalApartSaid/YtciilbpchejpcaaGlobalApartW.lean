/- The walk of the statement GlobalApart: the law answers true and turns nothing that was there. -/
import Derived.Test.YtciilbpchejpcaaGlobal3
import Derived.OpenShut
namespace Go.Proofs.Ytciilbpchejpcaa.globalApart
open Go.RowKit
set_option linter.unusedVariables false
set_option linter.unusedSimpArgs false

set_option maxHeartbeats 4000000 in
theorem walk (a0 : Option Addr) (len0 cap0 : Nat) (z0 : List Int) (a1 : Int) (w : World) (w0 : IsRow .i64 w a0 len0 cap0 z0) (w1 : (Lit.int .i64 a1).wf = true) :
    Calls Try.prog 12 #[.slice a0 len0 cap0, .int .i64 a1] w fun e w' => e = .returned (.bool true) ∧ Below w.heap.size w w' := by
  by_cases hlen : (60 : Int) < len0
  · go_enter Try.func12, Try.ntmps12
    go_wp2_with fail
    refine (lives7 _).mono ?_
    rintro e w2 ⟨rfl, hb1⟩
    go_wp2_with fail
    refine (lives7 _).mono ?_
    rintro e w3 ⟨rfl, hb2⟩
    go_wp2
    go_ret
    exact ⟨rfl, hb1.trans (hb2.mono hb1.size)⟩
  · have hlen' : len0 ≤ 60 := by omega
    obtain ⟨xs, hxs, hxl, hR⟩ := w0.reads
    subst hxl
    have HR := hid hR
    obtain ⟨P, hP⟩ : ∃ P, P = min (max a1 1) 64 := ⟨_, rfl⟩
    have NW := hid (fun w => qnew a1 P hP w)
    have R7 := hid (fun w => reads_built w [7] _ rfl (by simp [maxLen]))
    clear w0 hxs hR w1 hP
    go_enter Try.func12, Try.ntmps12
    go_wp2_with fail
    refine (lives7 _).mono ?_
    rintro e w2 ⟨rfl, hb1⟩
    have hs1 := hb1.size
    go_wp2_with fail
    refine (NW.out _).mono ?_
    rintro e w3 ⟨q, p, r, rfl, hqu, hq, hp, hr, hbel3⟩
    have HQ3 := hid hqu
    have HRk := hid hr
    have hs3 := hbel3.size
    have hbw3 : Below w.heap.size w w3 := hb1.trans (hbel3.mono hs1)
    clear hqu hr
    go_wp2_with fail
    refine (qput q p P r [] xs _ _ HQ3.out (HR.out _ hbw3) (by simp; omega)).mono ?_
    rintro e w4 ⟨rfl, r4, hb4, hon4, hr4⟩
    have HQ4 := hid (show Qu w4 q p P r4 xs from HQ3.out.after hon4 hb4 hr4)
    have hs4 := hon4.size
    have hbw4 : Below w.heap.size w w4 := hbw3.trans (hon4.below (by omega) (fun j hj => by have := HRk.out j hj; omega) (by omega))
    have HR4 := hid (fresh_ge (B := w.heap.size) (fun k hk => by have := HRk.out k hk; omega) hr4 (by omega))
    clear hb4 hr4
    go_wp2_with fail
    refine (qcopy q p P r4 xs _ HQ4.out).mono ?_
    rintro e w5 ⟨c, p5, r5, rfl, hqu5, hq5, hp5, hr5, hbel5⟩
    have HT5 := hid (Two.made HQ4.out hbel5 hqu5 hq5 hp5 hr5)
    have hs5 := hbel5.size
    have hbw5 : Below w.heap.size w w5 := hbw4.trans (hbel5.mono (by omega))
    have HR5 := hid (fun k hk => (by have := hr5 k hk; omega : w.heap.size ≤ k))
    clear hqu5 hr5
    obtain ⟨n, hn⟩ : ∃ n, n = xs.length := ⟨_, rfl⟩
    have hd0 : 0 ≤ (n : Int) / P := Int.ediv_nonneg (by omega) (by have := HQ4.out.lo; omega)
    obtain ⟨j, hj⟩ : ∃ j : Nat, (j : Int) = min (min ((n : Int) / P + 1) n) 128 := ⟨(min (min ((n : Int) / P + 1) n) 128).toNat, by omega⟩
    have T := hid (fun w h => qtake c p5 P r5 xs w h n hn.symm j hj)
    clear hj hd0 hn
    go_wp2_with fail
    refine (T.out _ HT5.out.b).mono ?_
    rintro e w6 ⟨v6, r6, rfl, ho6, hb6, hon6, hr6, hne6⟩
    have HT6 := hid ((HT5.out.swap).first hb6 hon6 hr6).swap
    have hs6 := hon6.size
    have hbw6 : Below w.heap.size w w6 := hbw5.trans (hon6.below (by omega) HR5.out (by omega))
    have HR6 := hid (fresh_ge HR5.out hr6 (by omega))
    obtain ⟨va6, vm6, vc6, rfl⟩ := ho6.slice3
    clear ho6 hb6 hne6 hr6
    go_wp2_with fail
    refine (qput c p5 P r6 _ [7] _ _ (HT6.out.below ((Below.refl _ _).alloc (Nat.le_refl _) _)).b (R7.out _) (by simp; omega)).mono ?_
    rintro e w7 ⟨rfl, r7, hb7, hon7, hr7⟩
    have HT7 := hid ((HT6.out.below ((Below.refl _ _).alloc (Nat.le_refl _) _)).swap.first hb7 hon7 hr7).swap
    have hs7 := hon7.size
    simp only [World.size_alloc] at hs7
    have hbw7 : Below w.heap.size w w7 := (hbw6.alloc (by omega) _).trans (hon7.below (by omega) HR6.out (by simp; omega))
    clear hb7 hr7 T
    have HQ7 := hid HT7.out.a
    go_wp2_with fail
    refine (qlist q p P r4 xs _ HQ7.out).mono ?_
    rintro e w8 ⟨v8, rfl, ho8, hbel8⟩
    have HQ8 := hid (HQ7.out.below hbel8)
    have hs8 := hbel8.size
    have hbw8 : Below w.heap.size w w8 := hbw7.trans (hbel8.mono (by omega))
    have RD8 := hid ho8.reads
    obtain ⟨va8, vm8, vc8, rfl⟩ := ho8.slice3
    clear ho8
    go_wp2_with fail
    refine (same_any _ (.slice a0 xs.length cap0) xs xs true (by simp) _ RD8.out (HR.out _ hbw8) (by omega) (by omega)).mono ?_
    rintro e w9 ⟨rfl, hq9⟩
    have HQ9 := hid (HQ8.out.quiet hq9)
    have hs9 : w8.heap.size ≤ w9.heap.size := by rw [hq9.heap]; omega
    have hbw9 := hbw8.trans (hq9.below _)
    clear hq9
    go_wp2_with fail
    refine (qcopy q p P r4 xs _ HQ9.out).mono ?_
    rintro e w10 ⟨d, p10, r10, rfl, hqu10, hq10, hp10, hr10, hbel10⟩
    have HT10 := hid (Two.made HQ9.out hbel10 hqu10 hq10 hp10 hr10)
    have hs10 := hbel10.size
    have hbw10 : Below w.heap.size w w10 := hbw9.trans (hbel10.mono (by omega))
    have HR10 := hid (fun k hk => (by have := hr10 k hk; omega : w.heap.size ≤ k))
    have HXX := hid (rfl : xs.length = xs.length)
    clear hqu10 hr10
    go_wp2_with fail
    go_loopw [43] (fun i wr => ∃ (k : Nat) (r r' : Option Nat), k ≤ xs.length ∧ i = .int .i64 k ∧ Hid (Two wr P q p r (xs.drop k) d p10 r' (xs.drop k)) ∧ Hid (∀ j, r = some j → w.heap.size ≤ j) ∧ Hid (∀ j, r' = some j → w.heap.size ≤ j) ∧ w.heap.size ≤ wr.heap.size ∧ Below w.heap.size w wr)
      (fun i _ => xs.length - (intOf i).toNat)
    case atStart => exact ⟨0, r4, r10, by omega, rfl, HT10, HR4, HR10, by omega, hbw10⟩
    case round =>
      obtain ⟨k, r, r', hk, rfl, HT, HRa, HRb, hsz, hbr⟩ := hrel
      by_cases hlt : k < xs.length
      · obtain ⟨x, hx⟩ : ∃ x, x = xs.getD k 0 := ⟨_, rfl⟩
        have hdr : xs.drop k = x :: xs.drop (k + 1) := by
          rw [hx, List.drop_eq_getElem_cons hlt]; simp [hlt]
        rw [hdr] at HT
        obtain ⟨a', c', he, _, hrd⟩ := HR.out _ hbr
        obtain ⟨g, off, rfl, _, hcell⟩ := hrd (by omega)
        have hc := hcell k hlt
        simp only [Value.slice.injEq] at he
        obtain ⟨rfl, -, rfl⟩ := he
        rw [← hx] at hc
        clear hx hdr hcell hrd
        have O1 := hid (fun r w h => one_cons q p P r x (xs.drop (k + 1)) w h)
        have O2 := hid (fun r w h => one_cons d p10 P r x (xs.drop (k + 1)) w h)
        go_wp2_with fail
        refine (O1.out _ _ HT.out.a).mono ?_
        rintro e w11 ⟨rfl, r11, hb11, hon11, hr11⟩
        have HT11 := hid (HT.out.first hb11 hon11 hr11)
        have HR11 := hid (fresh_ge HRa.out hr11 hsz)
        have hs11 := hon11.size
        have hbw11 : Below w.heap.size w w11 := hbr.trans (hon11.below (by omega) HRa.out hsz)
        clear hb11 hr11
        go_wp2_with fail
        refine (O2.out _ _ HT11.out.b).mono ?_
        rintro e w12 ⟨rfl, r12, hb12, hon12, hr12⟩
        have HT12 := hid (HT11.out.swap.first hb12 hon12 hr12).swap
        have HR12 := hid (fresh_ge HRb.out hr12 (by omega))
        have hs12 := hon12.size
        have hbw12 : Below w.heap.size w w12 := hbw11.trans (hon12.below (by omega) HRb.out (by omega))
        clear hb12 hr12
        go_wp2
        go_roundw
        case rel => exact ⟨k + 1, r11, r12, by omega, by go_num, HT12, HR11, HR12, by omega, hbw12⟩
        case measure => simp [intOf]; omega
      · have hkx : k = xs.length := by omega
        have hdr : xs.drop k = [] := by rw [hkx]; simp
        rw [hdr] at HT
        have L := hid (fun r w h => qlen q p P r [] w h)
        have S := hid (fun r w h => share_any d p10 P r [] w h 0 rfl 0 (by simp; omega))
        clear hdr hkx
        go_wp2_with fail
        refine (L.out _ _ HT.out.a).mono ?_
        rintro e w11 ⟨rfl, hq11⟩
        have HT11 := hid (HT.out.quiet hq11)
        go_wp2_with fail
        refine (S.out _ _ HT11.out.b).mono ?_
        rintro e w12 ⟨rfl, hq12⟩
        go_wp2
        go_ret
        exact ⟨rfl, hbr.trans ((hq11.trans hq12).below _)⟩
end Go.Proofs.Ytciilbpchejpcaa.globalApart
