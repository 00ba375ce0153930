/- The walk of the statement BatchPlays: the law answers true and turns nothing that was there. -/
import Derived.Test.YtciilbpchejpcaaDo5
import Derived.Test.YtciilbpchejpcaaHas5
import Derived.Test.YtciilbpchejpcaaActs5
namespace Go.Proofs.Ytciilbpchejpcaa.batchPlays
open Go.RowKit
set_option linter.unusedVariables false
set_option linter.unusedSimpArgs false

theorem bat_zero (w : World) : Bat (w.alloc (.cells #[.slice none 0 0, .int .i64 0] 34)) w.heap.size none [] :=
  ⟨[], ⟨⟨.slice none 0 0, Deep.blk_alloc_new _ _, ⟨by simp, .inl ⟨rfl, rfl⟩⟩, rfl⟩, by simp, by simp⟩, by simp⟩

theorem stay_slice {w : World} {p : Nat} {r : Option Nat} {v : Value} {xs : List Int} (h : Stay w p r v xs) : ∃ a c, v = .slice a xs.length c := by
  obtain ⟨a, c, h, _⟩ := h.rd; exact ⟨a, c, h⟩
theorem stay_arg {w wr : World} {p : Nat} {r : Option Nat} {v : Value} {ys : List Int} (h : ∀ w', Below w.heap.size w w' → Reads w' v ys) (hb : Below w.heap.size w wr) (hp : w.heap.size ≤ p) (hr : ∀ q, r = some q → w.heap.size ≤ q) : Stay wr p r v ys :=
  ⟨h wr hb, fun g off n c hv h0 => by
    have h1 := h w (Below.refl _ _)
    subst hv
    have := h1.lt h0
    exact ⟨by omega, fun e => by have := hr g e; omega⟩⟩

set_option maxHeartbeats 4000000 in
theorem walk (a0 : Option Addr) (len0 cap0 : Nat) (K0 : Nat → Int) (A0 : Nat → Option Addr) (L0 C0 : Nat → Nat) (z0 : Nat → List Int) (N0 : Nat → Int) (a1 : Int) (w : World) (w0 : IsActs w a0 len0 cap0 K0 A0 L0 C0 z0 N0) (w1 : (Lit.int .i64 a1).wf = true) :
    Calls Try.prog 4 #[.slice a0 len0 cap0, .int .i64 a1] w fun e w' => e = .returned (.bool true) ∧ Below w.heap.size w w' := by
  by_cases hlen : (40 : Int) < len0
  · go_enter Try.func4, Try.ntmps4
    go_wp2_with fail
    refine (lives5 _).mono ?_
    rintro e w2 ⟨rfl, hb1⟩
    go_wp2_with fail
    refine (lives5 _).mono ?_
    rintro e w3 ⟨rfl, hb2⟩
    go_wp2
    go_ret
    exact ⟨rfl, hb1.trans (hb2.mono hb1.size)⟩
  · have hlen' : len0 ≤ 40 := by omega
    have W0 := hid w0
    clear w0 w1 hlen
    go_enter Try.func4, Try.ntmps4
    go_wp2_with fail
    refine (lives5 _).mono ?_
    rintro e w2 ⟨rfl, hb1⟩
    have hs1 := hb1.size
    obtain ⟨p, hp⟩ : ∃ p, p = w2.heap.size := ⟨_, rfl⟩
    have HB2 := hid (bat_zero w2)
    have HS2 : Hid (Stay (w2.alloc (.cells #[.slice none 0 0, .int .i64 0] 34)) w2.heap.size none (.slice none 0 0) []) := ⟨⟨none, 0, rfl, ⟨by simp, by unfold maxLen; omega, .inl ⟨rfl, rfl⟩⟩, fun h => absurd h (by simp)⟩, fun _ _ _ _ h => by simp at h⟩
    have hbw2 : Below w.heap.size w (w2.alloc (.cells #[.slice none 0 0, .int .i64 0] 34)) := hb1.alloc (by omega) _
    go_wp2_with fail
    rw [← hp] at HB2 HS2 ⊢
    have hpw : w.heap.size ≤ p := by omega
    clear hp
    go_loopw [6, 23] (fun wv i wr => ∃ (k : Nat) (xs : List Int) (r : Option Nat), k ≤ len0 ∧ i = .int .i64 k ∧ Hid (xs.length ≤ 40 * k) ∧ Hid (Stay wr p r wv xs) ∧ Hid (Bat wr p r xs) ∧ Hid (∀ q, r = some q → w.heap.size ≤ q) ∧ w.heap.size ≤ wr.heap.size ∧ Below w.heap.size w wr)
      (fun _ i _ => len0 - (intOf i).toNat)
    case atStart => exact ⟨0, [], none, by omega, rfl, hid (by simp), HS2, HB2, hid (fun q h => by cases h), by simp; omega, hbw2⟩
    case round =>
      clear HS2 HB2 hbw2
      obtain ⟨k, xs, r, hk, rfl, HXL, HS, HB, HR, hsz, hbr⟩ := hrel
      by_cases hlt : k < len0
      · obtain ⟨bx, off, rfl, hcell⟩ := W0.out.open (by omega)
        obtain ⟨q0, q1, q2⟩ := hcell _ hbr k hlt
        obtain ⟨hK, hrow, hN⟩ := W0.out.at k hlt
        have hb8 := bounds_u8 hK
        obtain ⟨ys, _, hyl, hY⟩ := hrow.reads
        obtain ⟨K, hKe⟩ : ∃ x, x = K0 k := ⟨_, rfl⟩
        obtain ⟨A, hAe⟩ : ∃ x, x = A0 k := ⟨_, rfl⟩
        obtain ⟨L, hLe⟩ : ∃ x, x = L0 k := ⟨_, rfl⟩
        obtain ⟨C, hCe⟩ : ∃ x, x = C0 k := ⟨_, rfl⟩
        obtain ⟨N, hNe⟩ : ∃ x, x = N0 k := ⟨_, rfl⟩
        rw [← hKe] at q0 hb8
        rw [← hAe, ← hLe, ← hCe] at q1 hY
        rw [← hLe] at hyl
        rw [← hNe] at q2
        have hK0 := hb8.1
        have hK1 := hb8.2
        have HY := hid hY
        have HYL := hid hyl
        have HSY := hid (stay_arg hY hbr hpw HR.out)
        obtain ⟨wa, wc, rfl⟩ := stay_slice HS.out
        obtain ⟨n, hn⟩ : ∃ n, n = xs.length := ⟨_, rfl⟩
        rw [← hn] at HS ⊢
        have HN := hid hn
        have hnk : n ≤ 40 * k := by have := HXL.out; omega
        have hnb : n ≤ 1600 := by omega
        have hba := (Below.refl wr.heap.size wr).alloc (Nat.le_refl _) (.cells #[.int .u8 K, .slice A L C, .int .i64 N] 36)
        have hbw3 : Below w.heap.size w (wr.alloc (.cells #[.int .u8 K, .slice A L C, .int .i64 N] 36)) := hbr.alloc hsz _
        have HB3 := hid (HB.out.below hba)
        have HS3 := hid (HS.out.below hba)
        have HY3 := hid (HSY.out.below hba)
        have hz3 := hba.size
        clear hcell hK hN hrow hY hyl hKe hAe hLe hCe hNe hn hba hb8
        by_cases hbig : (40 : Int) < L
        · go_wp2
          go_ret
          exact ⟨rfl, hbw3⟩
        · have hL : L ≤ 40 := by omega
          clear hbig
          go_wp2_with fail
          refine (do_any p r xs _ K A L C ys N _ HB3.out HS3.out HY3.out HYL.out hL (by have := HN.out; omega) hK0 hK1).mono ?_
          rintro e w5 ⟨zs, hzl, v5, r5, rfl, hb5, ho5, hr5, hs5⟩
          obtain ⟨va, vc, rfl⟩ := stay_slice hs5
          obtain ⟨m, hm⟩ : ∃ m, m = zs.length := ⟨_, rfl⟩
          have LB := hid (fun w h => blen_any p r5 zs w h)
          rw [← hm] at LB hs5 ⊢
          have HM := hid hm
          have hmb : m ≤ 40 * (k + 1) := by have := HN.out; omega
          have hmb2 : m ≤ 1640 := by omega
          have HB5 := hid hb5
          have HS5 := hid hs5
          have hbw5 : Below w.heap.size w w5 := hbw3.trans (ho5.below hpw HR.out (by omega))
          have hz5 := ho5.size
          have HR5 := hid (fresh_ge' HR.out hr5 (by omega))
          clear hb5 ho5 hr5 hs5 hm hzl HS HB HS3 HB3 HY3 HSY q0 q1 q2 HXL
          go_wp2_with fail
          refine (LB.out _ HB5.out).mono ?_
          rintro e w6 ⟨rfl, hq6⟩
          have HB6 := hid (HB5.out.quiet hq6)
          have HS6 := hid (HS5.out.only (OnlyO.quiet hq6))
          have hbw6 := hbw5.trans (hq6.below _)
          have hz6 : w5.heap.size ≤ w6.heap.size := by rw [hq6.heap]; omega
          clear hq6
          go_wp2_with fail
          refine (list_any p r5 zs _ HB6.out).mono ?_
          rintro e w7 ⟨v7, rfl, hv7, hbel7⟩
          have HV7 := hid hv7.reads
          have HB7 := hid (HB6.out.below hbel7)
          have HS7 := hid (HS6.out.below hbel7)
          have hz7 := hbel7.size
          have hbw7 : Below w.heap.size w w7 := hbw6.trans (hbel7.mono (by omega))
          clear hv7 hbel7
          go_wp2_with fail
          refine (same_any _ _ zs zs true (by simp) _ HV7.out HS7.out.rd (by have := HM.out; omega) (by have := HM.out; omega)).mono ?_
          rintro e w8 ⟨rfl, hq8⟩
          have HB8 := hid (HB7.out.quiet hq8)
          have HS8 := hid (HS7.out.only (OnlyO.quiet hq8))
          have hbw8 := hbw7.trans (hq8.below _)
          have hz8 : w7.heap.size ≤ w8.heap.size := by rw [hq8.heap]; omega
          clear hq8
          go_wp2_with fail
          go_loop [10, 53] (fun has i => ∃ (j : Nat) (b : Bool), j ≤ m ∧ i = .int .i64 j ∧ has = .bool b ∧ Hid (b = hasB a1 (zs.take j))) (fun _ i => m - (intOf i).toNat)
          case atStart => exact ⟨0, false, Nat.zero_le _, rfl, rfl, by simp [Hid, hasB]⟩
          case round =>
            obtain ⟨j, b, hj, rfl, rfl, hb⟩ := hrel
            by_cases hlt2 : j < m
            · have k1 : j < zs.length := by rw [← HM.out]; exact hlt2
              obtain ⟨a', c', he, _, hrd⟩ := HS8.out.rd
              simp only [Value.slice.injEq] at he
              obtain ⟨g, o, h2, _, h4⟩ := hrd (by omega)
              have he1 := he.1
              rw [h2] at he1
              clear he h2
              subst he1
              obtain ⟨x, hx⟩ : ∃ x, x = zs.getD j 0 := ⟨_, rfl⟩
              have q1 := h4 j k1
              rw [← hx] at q1
              have HT := hid (show hasB a1 (zs.take (j + 1)) = (hasB a1 (zs.take j) || (x == a1)) by rw [lst_take_snoc zs j k1, ← hx, hasB_snoc])
              clear hx h4 hrd k1
              cases b
              · have HF := hid (show (x == a1) = hasB a1 (zs.take (j + 1)) by rw [HT.out, ← hb.out]; rfl)
                go_wp2
                go_round
                case rel => exact ⟨j + 1, _, by omega, by go_num, rfl, HF⟩
                case measure => simp [intOf]; omega
              · have HF := hid (show true = hasB a1 (zs.take (j + 1)) by rw [HT.out, ← hb.out]; rfl)
                go_wp2
                go_round
                case rel => exact ⟨j + 1, _, by omega, by go_num, rfl, HF⟩
                case measure => simp [intOf]; omega
            · have e0 : zs.take j = zs := List.take_of_length_le (by have := HM.out; omega)
              have LH := hid (fun w h => bhas_any p r5 zs a1 w h)
              rw [← e0, ← hb.out, e0] at LH
              have HM6 := hid (show zs.length ≤ 40 * (k + 1) by have := HM.out; omega)
              clear e0
              go_wp2_with fail
              refine (LH.out _ HB8.out).mono ?_
              rintro e w9 ⟨rfl, hq9⟩
              have HB9 := hid (HB8.out.quiet hq9)
              have HS9 := hid (HS8.out.only (OnlyO.quiet hq9))
              have hbw9 := hbw8.trans (hq9.below _)
              have hz9 : w8.heap.size ≤ w9.heap.size := by rw [hq9.heap]; omega
              clear hq9
              go_wp2
              go_roundw
              case rel => exact ⟨k + 1, zs, r5, by omega, by go_num, HM6, HS9, HB9, HR5, by omega, hbw9⟩
              case measure => simp [intOf]; omega
      · go_wp2
        go_ret
        exact ⟨rfl, hbr⟩
end Go.Proofs.Ytciilbpchejpcaa.batchPlays
