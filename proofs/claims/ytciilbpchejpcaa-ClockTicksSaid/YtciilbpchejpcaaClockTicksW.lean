/- The walk of the statement ClockTicks: the law answers true and turns nothing that was there. -/
import Derived.Test.YtciilbpchejpcaaLives08
namespace Go.Proofs.Ytciilbpchejpcaa.clockTicks
open Go.RowKit
set_option linter.unusedVariables false
set_option maxHeartbeats 2000000 in
theorem walk (a0 : Option Addr) (len0 cap0 : Nat) (z0 : List Int) (a1 a2 : Int) (w : World) (w0 : IsRow .i64 w a0 len0 cap0 z0) (w1 : (Lit.int .i64 a1).wf = true) (w2 : (Lit.int .i64 a2).wf = true) :
    Calls Try.prog 19 #[.slice a0 len0 cap0, .int .i64 a1, .int .i64 a2] w fun e w' => e = .returned (.bool true) ∧ Below w.heap.size w w' := by
  have b2 : inI a2 := bounds_i64 w2
  have B2 := hid b2
  clear w1 w2 b2
  by_cases hlen : (60 : Int) < len0
  · go_enter Try.func19, Try.ntmps19
    go_wp2_with fail
    refine (lives8 _).mono ?_
    rintro e w2 ⟨rfl, hb1⟩
    go_wp2_with fail
    refine (lives8 _).mono ?_
    rintro e w3 ⟨rfl, hb2⟩
    go_wp2
    go_ret
    exact ⟨rfl, hb1.trans (hb2.mono hb1.size)⟩
  · have hlen' : len0 ≤ 60 := by omega
    have W0 := hid w0
    clear w0
    go_enter Try.func19, Try.ntmps19
    go_wp2_with fail
    refine (lives8 _).mono ?_
    rintro e w2 ⟨rfl, hb1⟩
    have hs1 := hb1.size
    go_wp2_with fail
    go_loopw [8, 22] (fun now i wr => ∃ (k : Nat) (x : Int), k ≤ len0 ∧ i = .int .i64 k ∧ now = .int .i64 x ∧ inI x ∧ Hid (Ck wr w2.heap.size x) ∧ Below w.heap.size w wr)
      (fun _ i _ => len0 - (intOf i).toNat)
    case atStart => exact ⟨0, 0, by omega, rfl, rfl, by unfold inI; omega, hid (Ck.new w2 0), hb1.alloc hs1 _⟩
    case round =>
      obtain ⟨k, x, hk, rfl, rfl, hx, hc, hbr⟩ := hrel
      have hsr := hbr.size
      have HX := hid hx
      clear hx
      by_cases hlt : k < len0
      · obtain ⟨bx, off, rfl, hzl, hwf, hcell⟩ := W0.out.open.resolve_left (by omega)
        have hy := hcell _ hbr k hlt
        have hyI := range_i64 hwf k
        obtain ⟨y, hye⟩ : ∃ y, y = z0.getD k 0 := ⟨_, rfl⟩
        rw [← List.getD_eq_getElem?_getD, ← hye] at hyI
        rw [← hye] at hy
        have hyI' : inI y := hyI
        have HY := hid hyI'
        clear hye hcell hwf hyI hyI'
        obtain ⟨m, hm⟩ : ∃ m, m = max y 0 := ⟨_, rfl⟩
        obtain ⟨md, hmd⟩ : ∃ m, m = max a2 0 := ⟨_, rfl⟩
        have hmI : inI m := by have := HY.out; unfold inI at this ⊢; omega
        have hmdI : inI md := by have := B2.out; unfold inI at this ⊢; omega
        obtain ⟨v, hv⟩ : ∃ v, v = sat x m := ⟨_, rfl⟩
        have hvx : x ≤ v := by have := HX.out; unfold inI at this; rw [hv, hm]; unfold sat; omega
        have hvI : inI v := by rw [hv]; exact sat_inI _ _
        have R1 := fun w => ref_sum x m w HX.out hmI
        have R2 := fun w => ref_sum v md w hvI hmdI
        have T1 := fun w hc => tick_any w2.heap.size x y m w hc HX.out HY.out hm
        have A1 := fun w hc => after_any w2.heap.size v a2 md w hc hvI B2.out hmd
        rw [← hv] at R1
        simp only [← hv] at T1
        have e1 : (if 0 < y then y else 0) = m := by rw [hm]; split <;> omega
        have e2 : (if 0 < a2 then a2 else 0) = md := by rw [hmd]; split <;> omega
        have HR1 := hid R1
        have HR2 := hid R2
        have HT1 := hid T1
        have HA1 := hid A1
        have HVI := hid hvI
        clear R1 R2 T1 A1 hv hm hmd hmI hmdI hvI
        go_wp2_with fail
        refine (HR1.out _).mono ?_
        rintro e w' ⟨rfl, rfl⟩
        go_wp2_with fail
        refine (HT1.out _ hc.out).mono ?_
        rintro e w5 ⟨rfl, hc5, ho5⟩
        have HC5 := hid hc5
        clear hc5
        go_wp2_with fail
        refine (now_any _ _ _ HC5.out).mono ?_
        rintro e w' ⟨rfl, rfl⟩
        go_wp2_with fail
        refine (HA1.out _ HC5.out).mono ?_
        rintro e w' ⟨rfl, rfl⟩
        go_wp2_with fail
        refine (HR2.out _).mono ?_
        rintro e w' ⟨rfl, rfl⟩
        go_wp2_with fail
        refine (past_any _ _ _ _ HC5.out).mono ?_
        rintro e w' ⟨rfl, rfl⟩
        go_wp2_with fail
        refine (past_any _ _ _ _ HC5.out).mono ?_
        rintro e w' ⟨rfl, rfl⟩
        go_wp2
        go_roundw
        case rel => exact ⟨k + 1, v, by omega, by go_num, rfl, HVI.out, HC5, hbr.trans (ho5.below hs1 hs1 hsr)⟩
        case measure => simp [intOf]; omega
      · go_wp2_with fail
        refine (now_any _ _ _ hc.out).mono ?_
        rintro e w' ⟨rfl, rfl⟩
        go_wp2
        go_ret
        exact ⟨rfl, hbr⟩
end Go.Proofs.Ytciilbpchejpcaa.clockTicks
