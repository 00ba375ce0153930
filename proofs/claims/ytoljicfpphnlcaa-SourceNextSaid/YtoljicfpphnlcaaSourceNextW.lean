/- The walk of the statement SourceNext: the law answers true and turns nothing that was there. -/
import Derived.Test.YtoljicfpphnlcaaLives12
import Derived.Test.YtoljicfpphnlcaaSrcP
namespace Go.Proofs.Ytoljicfpphnlcaa.sourceNext
open Go.RowKit
set_option linter.unusedVariables false
set_option linter.unusedSimpArgs false
/-- The least time of who sleeps. -/
def hd : List En → Option Int
  | [] => none
  | x :: _ => some x.1
theorem hd_ins (e : En) : ∀ L, hd (insF e L) = some (match hd L with | none => e.1 | some m => min e.1 m)
  | [] => rfl
  | x :: l => by
    unfold insF
    rcases h : aheadE e x with _ | _
    · have := leE_when (show leE x e from h)
      simp only [Bool.false_eq_true, if_false, hd]
      rw [Int.min_eq_right this]
    · have := leE_when (leE_of h)
      simp only [if_true, hd]
      rw [Int.min_eq_left this]
theorem hd_none {e : En} {L : List En} (h : hd L = none) : hd (insF e L) = some e.1 := by rw [hd_ins, h]
theorem hd_lt {e : En} {L : List En} {m : Int} (h : hd L = some m) (hl : e.1 < m) : hd (insF e L) = some e.1 := by rw [hd_ins, h]; show some (min e.1 m) = _; congr 1; omega
theorem hd_ge {e : En} {L : List En} {m : Int} (h : hd L = some m) (hl : ¬ e.1 < m) : hd (insF e L) = some m := by rw [hd_ins, h]; show some (min e.1 m) = _; congr 1; omega
/-- What stands between two rounds of the first loop, of the second. -/
structure N1 (w : World) (Z : Nat → Prop) (s t p b1 b2 b3 k : Nat) (es : Nat → List En) (L : List En) (wr : World) : Prop where
  ss : Ss w Z s t p b1 b2 b3 3 k 5 es L k [] [] wr
  en : ∀ e ∈ L, e.2.2 < k
  ln : L.length = k
structure N2 (w : World) (Z : Nat → Prop) (s t p b1 b2 b3 k j : Nat) (es : Nat → List En) (L : List En) (W : List (Int × Int)) (wr : World) : Prop where
  ss : Ss w Z s t p b1 b2 b3 3 (k + j) 5 es L k W [] wr
  en : ∀ e ∈ L, e.2.2 < k
  ln : L.length = k
  wn : ∀ e ∈ W, e.1 < j ∧ e.2 < 100 + j
  lw : W.length = j
section
variable {w : World} {Z : Nat → Prop} {s t p b1 b2 b3 k j : Nat} {es : Nat → List En} {L : List En} {W : List (Int × Int)} {wr w5 : World}
theorem not_has {g : Int} (h : ∀ e ∈ L, e.2.2 < g) : hasG L g = false := by
  refine decide_eq_false fun hm => ?_
  obtain ⟨e, he, h2⟩ := List.mem_map.1 hm
  have := h e he
  have h2 : e.2.2 = g := h2
  omega
theorem N1.step {y : Int} (h : N1 w Z s t p b1 b2 b3 k es L wr) (ha : SlPost Z wr s t p b1 b2 b3 3 5 (insF (y, (k : Int), (k : Int)) L) (k + 1) [] [] w5) : ∃ es', N1 w Z s t p b1 b2 b3 (k + 1) es' (insF (y, (k : Int), (k : Int)) L) w5 := by
  obtain ⟨es', ok⟩ := ha
  refine ⟨es', h.ss.step ok (by rw [len_ins, h.ln]; simp), fun e he => ?_, by rw [len_ins, h.ln]⟩
  rcases mem_ins.1 he with rfl | he
  · show (k : Int) < _; omega
  · have := h.en e he; omega
theorem N2.noF (h : N2 w Z s t p b1 b2 b3 k j es L W wr) : waitsF W (j : Int) = false := by
  refine decide_eq_false fun hm => ?_
  obtain ⟨e, he, h2⟩ := List.mem_map.1 hm
  have := (h.wn e he).1
  omega
theorem N2.noG (h : N2 w Z s t p b1 b2 b3 k j es L W wr) : waitsG W (100 + (j : Int)) = false := by
  refine decide_eq_false fun hm => ?_
  obtain ⟨e, he, h2⟩ := List.mem_map.1 hm
  have := (h.wn e he).2
  omega
theorem N2.noH (h : N2 w Z s t p b1 b2 b3 k j es L W wr) (hk : k ≤ 40) : hasG L (100 + (j : Int)) = false :=
  not_has fun e he => by have := h.en e he; omega
theorem N2.step (h : N2 w Z s t p b1 b2 b3 k j es L W wr) (ok : OkPost Z wr s t p b1 b2 b3 3 5 es L k (((j : Int), 100 + (j : Int)) :: W) [] w5) : N2 w Z s t p b1 b2 b3 k (j + 1) es L (((j : Int), 100 + (j : Int)) :: W) w5 := by
  refine ⟨h.ss.step ok (by rw [List.length_cons, h.ln, h.lw]; simp; omega), h.en, h.ln, fun e he => ?_, by rw [List.length_cons, h.lw]⟩
  rcases List.mem_cons.1 he with rfl | he
  · constructor
    · show (j : Int) < _; omega
    · show 100 + (j : Int) < _; omega
  · have := h.wn e he; omega
end
theorem u16_small (j : Nat) (h : j < 9) : IntKind.u16.wrap (j : Int) = j := by
  have hb : IntKind.u16.bits = 16 := rfl
  have hs : IntKind.u16.signed = false := rfl
  simp [IntKind.wrap, hb, hs]; omega
theorem anyDue_nil : ∀ W : List (Int × Int), anyDue W [] = false := fun W => by simp [anyDue]
set_option maxRecDepth 100000 in
set_option maxHeartbeats 32000000 in
theorem walk (a0 : Option Addr) (len0 cap0 : Nat) (z0 : List Int) (a1 : Int) (w : World) (w0 : IsRow .i64 w a0 len0 cap0 z0) (w1 : (Lit.int .u8 a1).wf = true) :
    Calls Try.prog 3 #[.slice a0 len0 cap0, .int .u8 a1] w fun e w' => e = .returned (.bool true) ∧ Below w.heap.size w w' := by
  by_cases hlen : (40 : Int) < len0
  · go_enter Try.func3, Try.ntmps3
    go_wp2_with fail
    refine (lives12 _).mono ?_
    rintro e w2 ⟨rfl, hb1⟩
    go_wp2_with fail
    refine (lives12 _).mono ?_
    rintro e w3 ⟨rfl, hb2⟩
    go_wp2
    go_ret
    exact ⟨rfl, hb1.trans (hb2.mono hb1.size)⟩
  · have hlen' : len0 ≤ 40 := by omega
    have W0 := hid w0
    obtain ⟨v0, v1⟩ := bounds_u8 w1
    obtain ⟨wn, hwn⟩ : ∃ wn : Nat, a1 % 9 = wn := ⟨(a1 % 9).toNat, by omega⟩
    have hw9 : wn < 9 := by omega
    clear w0 w1 hlen
    go_enter Try.func3, Try.ntmps3
    go_wp2_with fail
    refine (lives12 _).mono ?_
    rintro e w2 ⟨rfl, hb1⟩
    have HB1 := hid hb1
    clear hb1
    go_wp2_with fail
    refine (snew 3 (by decide) (by decide) _).mono ?_
    rintro e w3 ⟨Z, s, t, p, b1, b2, b3, rfl, q3, bl3, hz, hz2⟩
    have TK := hid (stick q3 5 (by unfold inI; omega) false (by decide))
    have BL := hid (HB1.out.trans (bl3.mono HB1.out.size))
    have ZB := hid (show ∀ q, q < w.heap.size → Z q from fun q hq => hz q (Nat.lt_of_lt_of_le hq HB1.out.size))
    clear q3 bl3 hz hz2 HB1
    go_wp2_with fail
    refine (TK.out).mono ?_
    rintro e w4 ⟨rfl, f4, q4⟩
    rw [show sat 0 (max 5 0) = 5 by decide] at q4
    have S0 := hid (show N1 w Z s t p b1 b2 b3 0 (fun _ => []) [] w4 from ⟨⟨q4, by simp, BL.out.trans (f4.below ZB.out BL.out.size), ZB.out⟩, fun e he => (by cases he), rfl⟩)
    clear f4 q4 TK BL ZB
    go_wp2_with fail
    go_loopw [6, 7, 31] (fun le ha i wr => ∃ (k : Nat) (es : Nat → List En) (L : List En), k ≤ len0 ∧ i = .int .i64 k ∧ Hid (N1 w Z s t p b1 b2 b3 k es L wr) ∧ Below w.heap.size w wr ∧ ((ha = .bool false ∧ le = .int .i64 0 ∧ Hid (hd L = none)) ∨ ∃ m : Int, ha = .bool true ∧ le = .int .i64 m ∧ Hid (hd L = some m))) (fun _ _ i _ => len0 - (intOf i).toNat)
    case atStart => exact ⟨0, _, [], by omega, rfl, S0, S0.out.ss.bl, .inl ⟨rfl, rfl, hid rfl⟩⟩
    case round =>
      clear S0
      obtain ⟨k, es, L, hk, rfl, F, hbr, hst⟩ := hrel
      by_cases hlt : k < len0
      · obtain ⟨bx, off, rfl, hzl, hwf, hcell⟩ := W0.out.open.resolve_left (by omega)
        have hy := hcell _ hbr k hlt
        have hyI := range_i64 hwf k
        obtain ⟨d, hye⟩ : ∃ y, y = z0.getD k 0 := ⟨_, rfl⟩
        rw [← List.getD_eq_getElem?_getD, ← hye] at hyI
        rw [← hye] at hy
        have hyI' : inI d := hyI
        obtain ⟨y, hyd⟩ : ∃ y, y = sat 5 (max d 0) := ⟨_, rfl⟩
        have hy2 : 5 + min (max 0 d) 9223372036854775802 = y := by rw [hyd]; unfold sat; unfold inI at hyI'; omega
        have HY4 := hid (show (5 + if (9223372036854775802 : Int) < (if 0 < d then d else 0) then 9223372036854775802 else if 0 < d then d else 0) = y by rw [← hy2]; split <;> split <;> omega)
        have k3 : 0 ≤ (k : Int) % 3 := by omega
        have k3' : (k : Int) % 3 < 3 := by omega
        have A := ssleep F.out.ss.sq ((k : Int) % 3) k d k3 k3' (by omega) (by omega) hyI' (not_has F.out.en) (decide_eq_false (by simp)) (by rw [F.out.ln]; omega) (by omega) _ rfl
        rw [← hyd] at A
        have HA := hid A
        have yI := hid (sat_inI 5 (max d 0))
        rw [← hyd] at yI
        clear hcell hwf hzl hye hyI hyI' hyd A hbr
        go_wp2_with fail
        refine (HA.out).mono ?_
        rintro e w5 ⟨rfl, h5⟩
        obtain ⟨es5, f5⟩ := F.out.step h5
        have F5 := hid f5
        have B5 := f5.ss.bl
        clear h5 f5 HA F k3 k3' hy
        rcases hst with ⟨rfl, rfl, hm⟩ | ⟨m, rfl, rfl, hm⟩
        · have M2 := hid (hd_none (e := (y, (k : Int), (k : Int))) hm.out)
          go_wp2
          go_roundw
          case rel => exact ⟨k + 1, es5, _, by omega, by go_num, F5, B5, .inr ⟨y, rfl, congrArg (Value.int .i64) HY4.out, M2⟩⟩
          case measure => simp [intOf]; omega
        · by_cases hym : y < m
          · have M2 := hid (hd_lt (e := (y, (k : Int), (k : Int))) hm.out hym)
            have d1 : decide (y < m) = true := decide_eq_true hym
            go_wp2
            go_roundw
            case rel => exact ⟨k + 1, es5, _, by omega, by go_num, F5, B5, .inr ⟨y, rfl, congrArg (Value.int .i64) HY4.out, M2⟩⟩
            case measure => simp [intOf]; omega
          · have M2 := hid (hd_ge (e := (y, (k : Int), (k : Int))) hm.out hym)
            have d1 : decide (y < m) = false := decide_eq_false hym
            go_wp2
            go_roundw
            case rel => exact ⟨k + 1, es5, _, by omega, by go_num, F5, B5, .inr ⟨m, rfl, rfl, M2⟩⟩
            case measure => simp [intOf]; omega
      · obtain rfl : k = len0 := by omega
        have S1 := hid (show N2 w Z s t p b1 b2 b3 k 0 es L [] wr from ⟨F.out.ss, F.out.en, F.out.ln, fun e he => (by cases he), rfl⟩)
        clear F hbr
        go_wp2_with fail
        have HWN := hid hwn
        clear hwn
        go_loopw [63] (fun i wr => ∃ (j : Nat) (W : List (Int × Int)), j ≤ wn ∧ i = .int .i64 j ∧ Hid (N2 w Z s t p b1 b2 b3 k j es L W wr)) (fun i _ => wn - (intOf i).toNat)
        case atStart => exact ⟨0, [], by omega, rfl, S1⟩
        case round =>
          clear S1
          obtain ⟨j, W, hj, rfl, F⟩ := hrel
          by_cases hlt2 : j < wn
          · have u16 := u16_small j (by omega)
            have A := hid (swait F.out.ss.sq (by have := F.out.lw; constructor; omega; simp) (j : Int) (100 + (j : Int)) (by omega) (by omega) F.out.noF F.out.noG (F.out.noH hlen') (by rw [not_full (by have := F.out.lw; simp; omega)]) _ rfl)
            go_wp2_with fail
            refine (A.out).mono ?_
            rintro e w5 ⟨rfl, h5⟩
            have F5 := hid (F.out.step h5)
            clear h5 A F u16
            go_wp2
            go_roundw
            case rel => exact ⟨j + 1, _, by omega, by go_num, F5⟩
            case measure => simp [intOf]; omega
          · obtain rfl : j = wn := by omega
            have hwn := HWN.out
            have SQ := hid F.out.ss.sq
            have B5 := hid F.out.ss.bl
            have LL := hid (And.intro F.out.ln F.out.lw)
            clear F
            rcases hst with ⟨rfl, rfl, hm⟩ | ⟨m, rfl, rfl, hm⟩
            · obtain rfl : L = [] := by
                rcases L with _ | ⟨x, l⟩
                · rfl
                · have := hm.out; simp [hd] at this
              have NX := hid (snext0 SQ.out)
              go_wp2_with fail
              refine (NX.out).mono ?_
              rintro e w6 ⟨rfl, b6⟩
              have S6 := hid (SQ.out.below b6)
              have B6 := hid (B5.out.trans (b6.mono B5.out.size))
              clear b6 NX SQ B5
              go_wp2_with fail
              refine (sdue S6.out false (by rw [dueS, anyDue_nil]; rfl)).mono ?_
              rintro e w7 ⟨rfl, b7⟩
              have S7 := hid (S6.out.below b7)
              have B7 := hid (B6.out.trans (b7.mono B6.out.size))
              clear b7 S6 B6
              obtain ⟨mm, hmm⟩ : ∃ mm : Nat, mm = k + j := ⟨_, rfl⟩
              have hmI : (mm : Int) = k + j := by omega
              have LE := hid (slen S7.out (by have := LL.out; omega) mm (by have := LL.out; omega))
              clear hmm
              go_wp2_with fail
              refine (LE.out).mono ?_
              rintro e w8 ⟨rfl, b8⟩
              have B8 := hid (B7.out.trans (b8.mono B7.out.size))
              clear b8 LE S7 B7
              go_wp2
              go_ret
              exact ⟨rfl, B8.out⟩
            · obtain ⟨x2, x3, l, rfl⟩ : ∃ x2 x3 l, L = (m, x2, x3) :: l := by
                rcases L with _ | ⟨⟨y1, y2, y3⟩, l⟩
                · have := hm.out; simp [hd] at this
                · have := hm.out; simp only [hd, Option.some.injEq] at this; subst this; exact ⟨_, _, _, rfl⟩
              have NX := hid (snext SQ.out)
              go_wp2_with fail
              refine (NX.out).mono ?_
              rintro e w6 ⟨rfl, b6⟩
              have S6 := hid (SQ.out.below b6)
              have B6 := hid (B5.out.trans (b6.mono B5.out.size))
              clear b6 NX SQ B5
              go_wp2_with fail
              refine (sdue S6.out (decide (m ≤ 5)) (by rw [dueS, anyDue_nil, Bool.or_false]; rfl)).mono ?_
              rintro e w7 ⟨rfl, b7⟩
              have S7 := hid (S6.out.below b7)
              have B7 := hid (B6.out.trans (b7.mono B6.out.size))
              clear b7 S6 B6
              obtain ⟨mm, hmm⟩ : ∃ mm : Nat, mm = k + j := ⟨_, rfl⟩
              have hmI : (mm : Int) = k + j := by omega
              have LE := hid (slen S7.out (by have := LL.out; omega) mm (by have := LL.out; omega))
              clear hmm
              go_wp2_with fail
              refine (LE.out).mono ?_
              rintro e w8 ⟨rfl, b8⟩
              have B8 := hid (B7.out.trans (b8.mono B7.out.size))
              clear b8 LE S7 B7
              go_wp2
              go_ret
              exact ⟨rfl, B8.out⟩
end Go.Proofs.Ytoljicfpphnlcaa.sourceNext
