/- The walk of the statement SourceTells: the law answers true and turns nothing that was there. Written by wip/tools/genst.py. -/
import Derived.Test.YtoljicfpphnlcaaLives12
import Derived.Test.YtoljicfpphnlcaaSrcP
import Derived.Test.YtoljicfpphnlcaaStructs
namespace Go.Proofs.Ytoljicfpphnlcaa.sourceTells
open Go.RowKit
set_option linter.unusedVariables false
set_option linter.unusedSimpArgs false
set_option maxRecDepth 100000 in
set_option maxHeartbeats 32000000 in
theorem walk (a0 : Option Addr) (len0 cap0 : Nat) (z0 : Nat → Nat → Int) (w : World) (w0 : IsStructs [.u8, .i64, .i64, .i64, .u16] w a0 len0 cap0 z0) :
    Calls Try.prog 4 #[.slice a0 len0 cap0] w fun e w' => e = .returned (.bool true) ∧ Below w.heap.size w w' := by
  by_cases hlen : (50 : Int) < len0
  · go_enter Try.func4, Try.ntmps4
    go_wp2_with fail
    refine (lives12 _).mono ?_
    rintro e w2 ⟨rfl, hb1⟩
    go_wp2_with fail
    refine (lives12 _).mono ?_
    rintro e w3 ⟨rfl, hb2⟩
    go_wp2
    go_ret
    exact ⟨rfl, hb1.trans (hb2.mono hb1.size)⟩
  · have hlen' : len0 ≤ 50 := by omega
    have W0 := hid w0
    clear w0 hlen
    go_enter Try.func4, Try.ntmps4
    go_wp2_with fail
    refine (lives12 _).mono ?_
    rintro e w2 ⟨rfl, hb1⟩
    have HB1 := hid hb1
    clear hb1
    go_wp2_with fail
    refine (snew 4 (by decide) (by decide) _).mono ?_
    rintro e w3 ⟨Z, s, t, p, b1, b2, b3, rfl, q3, bl3, hz, hz2⟩
    have S0 := hid (show Ss w Z s t p b1 b2 b3 4 0 0 (fun _ => []) [] 0 [] [] w3 from ⟨q3, by simp, HB1.out.trans (bl3.mono HB1.out.size), fun q hq => hz q (Nat.lt_of_lt_of_le hq HB1.out.size)⟩)
    clear q3 bl3 hz hz2 HB1
    go_wp2_with fail
    go_loopw [22] (fun i wr => ∃ (k : Nat) (now : Int) (es : Nat → List En) (L : List En) (ad : Nat) (W : List (Int × Int)) (R : List Int), k ≤ len0 ∧ i = .int .i64 k ∧ Hid (Ss w Z s t p b1 b2 b3 4 k now es L ad W R wr) ∧ Below w.heap.size w wr) (fun i _ => len0 - (intOf i).toNat)
    case atStart => exact ⟨0, 0, _, [], 0, [], [], by omega, rfl, S0, S0.out.bl⟩
    case round =>
      clear S0
      obtain ⟨k, now, es, L, ad, W, R, hk, rfl, F, hbr⟩ := hrel
      by_cases hlt : k < len0
      · obtain ⟨bx, off, rfl, hcell⟩ := W0.out.open (by omega) (by simp)
        obtain ⟨hq0, hw0⟩ := hcell _ hbr k hlt 0 .u8 rfl
        obtain ⟨hq1, hw1⟩ := hcell _ hbr k hlt 1 .i64 rfl
        obtain ⟨hq2, hw2⟩ := hcell _ hbr k hlt 2 .i64 rfl
        obtain ⟨hq3, hw3⟩ := hcell _ hbr k hlt 3 .i64 rfl
        obtain ⟨hq4, hw4⟩ := hcell _ hbr k hlt 4 .u16 rfl
        obtain ⟨K, hK⟩ : ∃ x, x = z0 k 0 := ⟨_, rfl⟩
        obtain ⟨P, hP⟩ : ∃ x, x = z0 k 1 := ⟨_, rfl⟩
        obtain ⟨G, hG⟩ : ∃ x, x = z0 k 2 := ⟨_, rfl⟩
        obtain ⟨D, hD⟩ : ∃ x, x = z0 k 3 := ⟨_, rfl⟩
        obtain ⟨fd, hf⟩ : ∃ x, x = z0 k 4 := ⟨_, rfl⟩
        rw [← hK] at hq0 hw0
        rw [← hP] at hq1
        rw [← hG] at hq2
        rw [← hD] at hq3 hw3
        rw [← hf] at hq4
        obtain ⟨K0, K1⟩ := bounds_u8 hw0
        have ID := hid (show inI D from bounds_i64 hw3)
        simp only [List.length_cons, List.length_nil, Nat.reduceAdd, Nat.add_zero] at hq0 hq1 hq2 hq3 hq4
        rw [← Nat.add_assoc] at hq1 hq2 hq3 hq4
        clear hcell hw0 hw1 hw2 hw3 hw4 hK hP hG hD hf hbr
        have LN := hid F.out.ln
        have FA := hid (F.out.below (bl_al wr (.cells #[.int .u8 K, .int .i64 P, .int .i64 G, .int .i64 D, .int .u16 fd] 38)))
        have EB := hid (Go.MapKept.heap_alloc wr (.cells #[.int .u8 K, .int .i64 P, .int .i64 G, .int .i64 D, .int .u16 fd] 38)).1
        obtain ⟨m, hm⟩ : ∃ m, L.length + W.length = m := ⟨_, rfl⟩
        obtain ⟨r0, hr0⟩ : ∃ r, dueS now L W R = r := ⟨_, rfl⟩
        have HM := hid hm
        have HR := hid hr0
        have A1 := hid (slen FA.out.sq (by have := LN.out; omega) m hm)
        clear hm hr0 F
        go_wp2_with fail
        refine (A1.out).mono ?_
        rintro e w4 ⟨rfl, b4⟩
        have F4 := hid (FA.out.below b4)
        have EB4 := hid ((b4.block _ (Array.getElem?_eq_some_iff.1 EB.out).1).trans EB.out)
        clear b4 A1 EB FA
        go_wp2_with fail
        refine (snow F4.out.sq).mono ?_
        rintro e w' ⟨rfl, rfl⟩
        go_wp2_with fail
        refine (sdue F4.out.sq r0 HR.out).mono ?_
        rintro e w5 ⟨rfl, b5⟩
        have F5 := hid (F4.out.below b5)
        have EB5 := hid ((b5.block _ (Array.getElem?_eq_some_iff.1 EB4.out).1).trans EB4.out)
        have k0 : w5.cell? ⟨wr.heap.size, 0, none⟩ = some (.int .u8 K) := cellx EB5.out rfl
        have k1 : w5.cell? ⟨wr.heap.size, 1, none⟩ = some (.int .i64 P) := cellx EB5.out rfl
        have k2 : w5.cell? ⟨wr.heap.size, 2, none⟩ = some (.int .i64 G) := cellx EB5.out rfl
        have k3 : w5.cell? ⟨wr.heap.size, 3, none⟩ = some (.int .i64 D) := cellx EB5.out rfl
        have k4 : w5.cell? ⟨wr.heap.size, 4, none⟩ = some (.int .u16 fd) := cellx EB5.out rfl
        clear b5 EB4 EB5 F4 hq0 hq1 hq2 hq3 hq4
        rcases (show K % 5 = 0 ∨ K % 5 = 1 ∨ K % 5 = 2 ∨ K % 5 = 3 ∨ K % 5 = 4 by omega) with hq | hq | hq | hq | hq
        · have A6 := hid (sleepP F5.out.sq (by have := LN.out; omega) (by have := LN.out; omega) P G D ID.out)
          go_wp2_with fail
          refine (A6.out).mono ?_
          rintro e w6 ⟨is, c, es', L', ad', rfl, o6, h6⟩
          rcases h6 with ⟨rfl, hd, rfl, rfl, _⟩ | ⟨hc, rfl, rfl, rfl⟩
          · have F6 := hid (F5.out.step o6 (by have := LN.out; rw [len_ins]; omega))
            have HD := hid hd
            clear o6 hd A6 F5 k0 k1 k2 k3 k4
            go_wp2_with fail
            refine (sdue F6.out.sq is HD.out).mono ?_
            rintro e w7 ⟨rfl, b7⟩
            have F7 := hid (F6.out.below b7)
            have B7 := F7.out.bl
            clear b7 F6 HD
            go_wp2
            go_roundw
            case rel => exact ⟨k + 1, now, es', _, _, W, R, by omega, by go_num, F7, B7⟩
            case measure => simp [intOf]; omega
          · have F6 := hid (F5.out.step o6 (by have := LN.out; omega))
            clear o6 A6 F5 k0 k1 k2 k3 k4
            have HC := hid hc
            have hcb : (c == 0) = false := by simpa using hc
            clear hc
            have A7 := hid (slen F6.out.sq (by have := LN.out; omega) m HM.out)
            go_wp2_with fail
            refine (A7.out).mono ?_
            rintro e w7 ⟨rfl, b7⟩
            have F7 := hid (F6.out.below b7)
            clear b7 F6 A7
            go_wp2_with fail
            refine (snow F7.out.sq).mono ?_
            rintro e w' ⟨rfl, rfl⟩
            go_wp2_with fail
            refine (sdue F7.out.sq r0 HR.out).mono ?_
            rintro e w8 ⟨rfl, b8⟩
            have F8 := hid (F7.out.below b8)
            have B8 := F8.out.bl
            clear b8 F7
            go_wp2
            go_roundw
            case rel => exact ⟨k + 1, now, es', _, _, W, R, by omega, by go_num, F8, B8⟩
            case measure => simp [intOf]; omega
        · have A6 := hid (sleepP F5.out.sq (by have := LN.out; omega) (by have := LN.out; omega) P G D ID.out)
          go_wp2_with fail
          refine (A6.out).mono ?_
          rintro e w6 ⟨is, c, es', L', ad', rfl, o6, h6⟩
          rcases h6 with ⟨rfl, hd, rfl, rfl, _⟩ | ⟨hc, rfl, rfl, rfl⟩
          · have F6 := hid (F5.out.step o6 (by have := LN.out; rw [len_ins]; omega))
            have HD := hid hd
            clear o6 hd A6 F5 k0 k1 k2 k3 k4
            go_wp2_with fail
            refine (sdue F6.out.sq is HD.out).mono ?_
            rintro e w7 ⟨rfl, b7⟩
            have F7 := hid (F6.out.below b7)
            have B7 := F7.out.bl
            clear b7 F6 HD
            go_wp2
            go_roundw
            case rel => exact ⟨k + 1, now, es', _, _, W, R, by omega, by go_num, F7, B7⟩
            case measure => simp [intOf]; omega
          · have F6 := hid (F5.out.step o6 (by have := LN.out; omega))
            clear o6 A6 F5 k0 k1 k2 k3 k4
            have HC := hid hc
            have hcb : (c == 0) = false := by simpa using hc
            clear hc
            have A7 := hid (slen F6.out.sq (by have := LN.out; omega) m HM.out)
            go_wp2_with fail
            refine (A7.out).mono ?_
            rintro e w7 ⟨rfl, b7⟩
            have F7 := hid (F6.out.below b7)
            clear b7 F6 A7
            go_wp2_with fail
            refine (snow F7.out.sq).mono ?_
            rintro e w' ⟨rfl, rfl⟩
            go_wp2_with fail
            refine (sdue F7.out.sq r0 HR.out).mono ?_
            rintro e w8 ⟨rfl, b8⟩
            have F8 := hid (F7.out.below b8)
            have B8 := F8.out.bl
            clear b8 F7
            go_wp2
            go_roundw
            case rel => exact ⟨k + 1, now, es', _, _, W, R, by omega, by go_num, F8, B8⟩
            case measure => simp [intOf]; omega
        · have A6 := hid (waitP F5.out.sq (by have := LN.out; omega) fd G)
          go_wp2_with fail
          refine (A6.out).mono ?_
          rintro e w6 ⟨is, c, W', rfl, o6, h6⟩
          rcases h6 with ⟨rfl, hd, rfl, _⟩ | ⟨hc, rfl, rfl⟩
          · have F6 := hid (F5.out.step o6 (by have := LN.out; simp; omega))
            have HD := hid hd
            clear o6 hd A6 F5 k0 k1 k2 k3 k4
            go_wp2_with fail
            refine (sdue F6.out.sq is HD.out).mono ?_
            rintro e w7 ⟨rfl, b7⟩
            have F7 := hid (F6.out.below b7)
            have B7 := F7.out.bl
            clear b7 F6 HD
            go_wp2
            go_roundw
            case rel => exact ⟨k + 1, now, es, _, _, _, R, by omega, by go_num, F7, B7⟩
            case measure => simp [intOf]; omega
          · have F6 := hid (F5.out.step o6 (by have := LN.out; omega))
            clear o6 A6 F5 k0 k1 k2 k3 k4
            have HC := hid hc
            have hcb : (c == 0) = false := by simpa using hc
            clear hc
            have A7 := hid (slen F6.out.sq (by have := LN.out; omega) m HM.out)
            go_wp2_with fail
            refine (A7.out).mono ?_
            rintro e w7 ⟨rfl, b7⟩
            have F7 := hid (F6.out.below b7)
            clear b7 F6 A7
            go_wp2_with fail
            refine (snow F7.out.sq).mono ?_
            rintro e w' ⟨rfl, rfl⟩
            go_wp2_with fail
            refine (sdue F7.out.sq r0 HR.out).mono ?_
            rintro e w8 ⟨rfl, b8⟩
            have F8 := hid (F7.out.below b8)
            have B8 := F8.out.bl
            clear b8 F7
            go_wp2
            go_roundw
            case rel => exact ⟨k + 1, now, es, _, _, _, R, by omega, by go_num, F8, B8⟩
            case measure => simp [intOf]; omega
        · obtain ⟨is, hi⟩ : ∃ is, dueS (sat now (max D 0)) L W R = is := ⟨_, rfl⟩
          have HD := hid hi
          have A6 := hid (stick F5.out.sq D ID.out is hi)
          clear hi
          go_wp2_with fail
          refine (A6.out).mono ?_
          rintro e w6 ⟨rfl, o6⟩
          have F6 := hid (F5.out.step o6 (by have := LN.out; omega))
          clear o6 A6 F5 k0 k1 k2 k3 k4
          go_wp2_with fail
          refine (sdue F6.out.sq is HD.out).mono ?_
          rintro e w7 ⟨rfl, b7⟩
          have F7 := hid (F6.out.below b7)
          have B7 := F7.out.bl
          clear b7 F6 HD
          go_wp2
          go_roundw
          case rel => exact ⟨k + 1, _, es, L, ad, W, R, by omega, by go_num, F7, B7⟩
          case measure => simp [intOf]; omega
        · obtain ⟨is, hi⟩ : ∃ is, dueS now L W (addR R fd) = is := ⟨_, rfl⟩
          have HD := hid hi
          have A6 := hid (readyP F5.out.sq (by have := LN.out; omega) fd)
          rw [hi] at A6
          clear hi
          go_wp2_with fail
          refine (A6.out).mono ?_
          rintro e w6 ⟨rfl, o6⟩
          have F6 := hid (F5.out.step o6 (by have := LN.out; have := addR_len R fd; omega))
          clear o6 A6 F5 k0 k1 k2 k3 k4
          go_wp2_with fail
          refine (sdue F6.out.sq is HD.out).mono ?_
          rintro e w7 ⟨rfl, b7⟩
          have F7 := hid (F6.out.below b7)
          have B7 := F7.out.bl
          clear b7 F6 HD
          go_wp2
          go_roundw
          case rel => exact ⟨k + 1, now, es, L, ad, W, _, by omega, by go_num, F7, B7⟩
          case measure => simp [intOf]; omega
      · have B2 := hid F.out.bl
        clear F hbr
        go_wp2
        go_ret
        exact ⟨rfl, B2.out⟩
end Go.Proofs.Ytoljicfpphnlcaa.sourceTells
