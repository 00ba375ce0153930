/- The walk of the statement BoxedSteps: the law answers true and turns nothing that was there. -/
import Derived.Test.YtbplbdopnhnhdaaGreatDoorPreG
import Derived.Test.YtbplbdopnhnhdaaGreatDoorByP
import Derived.Test.YtbplbdopnhnhdaaGreatDoorPreZ
import Derived.Test.YtbplbdopnhnhdaaGreatDoorPreY
import Derived.Test.YtbplbdopnhnhdaaGreatDoorText
import Derived.OpenShut
import Derived.Deep.CutRange
import Derived.BigQuiet
namespace Go.Proofs.YtbplbdopnhnhdaaGreatDoor.boxedSteps
open Go.RowKit
set_option linter.unusedVariables false
set_option linter.unusedSimpArgs false
set_option maxRecDepth 20000
theorem eqSt (a b c d e : Int) (w : World) : (Op.equalIn 10000 39 (.agg #[.int .u8 a, .int .u8 b, .int .i64 c, .int .i64 d, .int .i64 e]) (.agg #[.int .u8 a, .int .u8 b, .int .i64 c, .int .i64 d, .int .i64 e])).run Tryz.prog w = .ok true w := by
  have u0 := Tryz.underlying5
  have u1 := Tryz.underlying3
  have u2 := Tryz.underlying2
  have hS : Tryz.prog.underlying 39 = some (.struct (Tryz.prog.fieldsOf 39)) := by kernel_rfl
  have hp : Tryz.prog.stoodInHeld 39 = false := by kernel_rfl
  rw [show (10000 : Nat) = 9999 + 1 from rfl, run_equalIn_agg w 9999 39 _ _ hS hp]
  simp only [Program.fieldsOf, Tryz.underlying39]
  go_simp
set_option maxHeartbeats 8000000 in
theorem walk (a0 : Option Addr) (len0 cap0 : Nat) (z0 : Nat → Nat → Value) (w : World)
    (w0 : IsMixed rawK w a0 len0 cap0 z0) (T2 : EvNames w) (T3 : EvSteps w) (T1 : MaPlaces w) :
    Calls Tryz.prog 5 #[.slice a0 len0 cap0] w fun e w' => e = .returned (.bool true) ∧ Below w.heap.size w w' := by
  obtain ⟨xs, hxl, hrd, hin⟩ := raws_of w0
  have LV := hid (lives26 w T1 T2 T3 T1.lt T2.lt T3.lt)
  have RD := hid (fun (y : World) (hb : Below w.heap.size w y) => few_any _ xs y (hrd.below hb))
  by_cases hf : fewB xs = false
  · have LV2 : Hid (∀ w2 : World, Below w.heap.size w w2 → Calls Tryz.prog 6 #[] w2 fun e w' => e = .returned (.bool true) ∧ Below w2.heap.size w2 w') := hid (fun w2 hb => lives26 w2 (T1.at hb) (T2.at hb) (T3.at hb) (by have := hb.size; have := T1.lt; omega) (by have := hb.size; have := T2.lt; omega) (by have := hb.size; have := T3.lt; omega))
    rw [hf] at RD
    clear T1 T2 T3 w0 hrd hin hf hxl
    go_enter Tryz.func5, Tryz.ntmps5
    go_wp2_with fail
    refine LV.out.mono ?_
    rintro e w2 ⟨rfl, hb⟩
    have B2 := hid hb
    clear LV hb
    go_wp2_with fail
    refine (RD.out w2 B2.out).mono ?_
    rintro e w3 ⟨rfl, hb3⟩
    have B3 := hid (B2.out.trans (hb3.mono B2.out.size))
    clear hb3 B2 RD
    go_wp2_with fail
    refine (LV2.out w3 B3.out).mono ?_
    rintro e w4 ⟨rfl, hb4⟩
    have B4 := hid (B3.out.trans (hb4.mono B3.out.size))
    clear hb4 B3 LV2
    go_wp2
    go_ret
    exact ⟨rfl, B4.out⟩
  · have hf : fewB xs = true := by simpa using hf
    obtain ⟨hl, hok⟩ := few_ok hf hin
    have TG := hid (fun (y : World) (hb : Below w.heap.size w y) => things_any _ xs y (hrd.below hb) hok hl)
    rw [hf] at RD
    clear T1 T2 T3 w0 hrd hin hf hxl hok hl
    go_enter Tryz.func5, Tryz.ntmps5
    go_wp2_with fail
    refine LV.out.mono ?_
    rintro e w2 ⟨rfl, hb⟩
    have B2 := hid hb
    clear LV hb
    go_wp2_with fail
    refine (RD.out w2 B2.out).mono ?_
    rintro e w3 ⟨rfl, hb3⟩
    have B3 := hid (B2.out.trans (hb3.mono B2.out.size))
    clear hb3 B2 RD
    go_wp2_with fail
    refine (TG.out w3 B3.out).mono ?_
    rintro e w4 ⟨va, vb, bs, gs, rfl, rx, rg, pr, hl40, hb4⟩
    have B4 := hid (B3.out.trans (hb4.mono B3.out.size))
    have SB := hid (steps_any va bs w4 rx pr.ok (by omega))
    have SG := hid (fun (y : World) (hb : Below w4.heap.size w4 y) => rsteps_any vb gs y (rg.below hb) pr.sz (by have := pr.ln; omega))
    have RB := hid (fun (y : World) (hb : Below w4.heap.size w4 y) => runes_any va bs y (rx.below hb) pr.ok (by omega))
    have RG := hid (fun (y : World) (hb : Below w4.heap.size w4 y) => rrunes_any vb gs y (rg.below hb) pr.sz (by have := pr.ln; omega))
    have hL : (bxAll bs).length ≤ 40000 := Nat.le_trans (bxAll_len pr.ok) (by omega)
    have E1 := hid pr.st
    rw [← pr.tx] at RG
    rw [← pr.st] at SG
    clear rx rg hb4 TG B3 pr
    generalize hLb : bxAll bs = L at *
    have LB := hid hLb
    clear hLb
    generalize (⟨(bxTs bs).toArray⟩ : ByteArray) = tt at *
    go_wp2_with fail
    refine SB.out.mono ?_
    rintro e w5 ⟨v5, rfl, o5, hb5⟩
    rw [LB.out] at o5
    have C5 := hid hb5
    have Q5 := hid (own_rdB o5)
    obtain ⟨a5, c5, rfl⟩ := own_sliceB o5
    clear hb5 o5 SB
    go_wp2_with fail
    refine (SG.out w5 C5.out).mono ?_
    rintro e w6 ⟨v6, rfl, o6, hb6⟩
    have C6 := hid (C5.out.trans (hb6.mono C5.out.size))
    have Q6 := hid (own_rdB o6)
    have P6 := hid (Q5.out.below hb6)
    obtain ⟨a6, c6, rfl⟩ := own_sliceB o6
    clear hb6 o6 SG Q5 C5
    have tq := txt_eq tt
    go_wp2_with fail
    refine (RB.out w6 C6.out).mono ?_
    rintro e w7 ⟨rfl, hb7⟩
    have C7 := hid (C6.out.trans (hb7.mono C6.out.size))
    have Q7 := hid (Q6.out.below hb7)
    have P7 := hid (P6.out.below hb7)
    clear hb7 RB Q6 P6 C6
    go_wp2_with fail
    refine (RG.out w7 C7.out).mono ?_
    rintro e w8 ⟨rfl, hb8⟩
    have FN := hid (B4.out.trans ((C7.out.trans (hb8.mono C7.out.size)).mono B4.out.size))
    have Q8 := hid (Q7.out.below hb8)
    have P8 := hid (P7.out.below hb8)
    clear hb8 RG Q7 P7 C7 B4
    have hl0 : (L.length : Int) ≤ 40000 := by omega
    go_wp2_with fail
    go_loopw [39] (fun i wy => ∃ k : Nat, k ≤ L.length ∧ i = .int .i64 k ∧ Hid (Below w8.heap.size w8 wy)) (fun i _ => L.length - (intOf i).toNat)
    case atStart => exact ⟨0, by omega, rfl, hid (Below.refl _ _)⟩
    case round =>
      obtain ⟨k, hk, rfl, BR⟩ := hrel
      by_cases hlt3 : k < L.length
      · obtain ⟨a', c', e, _, _, hh⟩ := P8.out.below BR.out
        simp only [Value.slice.injEq] at e
        obtain ⟨rfl, _, rfl⟩ := e
        obtain ⟨q1, f1, rfl, _, hc⟩ := hh (by omega)
        obtain ⟨p0, p1, p2, p3, p4⟩ := hc k hlt3
        clear hh hc
        obtain ⟨a', c', e, _, _, hh⟩ := Q8.out.below BR.out
        simp only [Value.slice.injEq] at e
        obtain ⟨rfl, _, rfl⟩ := e
        obtain ⟨q2, f2, rfl, _, hc⟩ := hh (by omega)
        obtain ⟨r0, r1, r2, r3, r4⟩ := hc k hlt3
        clear hh hc
        generalize sbAt L k = x at *
        obtain ⟨x0, x1, x2, x3, x4⟩ := x
        simp only at p0 p1 p2 p3 p4 r0 r1 r2 r3 r4
        have hk0 : (0 : Int) ≤ k := by omega
        have hk1 : (k : Int) < L.length := by omega
        have EQ := eqSt x0 x1 x2 x3 x4
        go_upto_region 10 with (fail)
        go_quiet (fail)
        have B6 := hid (BR.out.trans ((Quiet.below ⟨nq, rfl⟩ wr.heap.size : Below wr.heap.size wr (wr.drewN nq)).mono BR.out.size))
        clear EQ BR p0 p1 p2 p3 p4 r0 r1 r2 r3 r4
        generalize wr.drewN nq = wd at *
        go_wp2
        go_roundw
        case rel => exact ⟨k + 1, by omega, by go_num, B6⟩
        case measure => simp [intOf]; omega
      · have F2 := hid (FN.out.trans (BR.out.mono FN.out.size))
        clear BR
        go_wp2
        go_ret
        exact ⟨rfl, F2.out⟩
end Go.Proofs.YtbplbdopnhnhdaaGreatDoor.boxedSteps
