/- Masks: New, Count, Next, First. -/
import Derived.Test.YtnabikoieolfcaaDoorMask2
import Derived.Laws.MakeOwn
namespace Go.Proofs.YtnabikoieolfcaaDoor
set_option linter.unusedVariables false
set_option linter.unusedSimpArgs false
open Go.RowKit

theorem bitAt_zero (k i : Nat) : bitAt (List.replicate k 0) i = false := by
  simp only [bitAt, List.getD_eq_getElem?_getD, List.getElem?_replicate]
  split <;> simp

theorem infoM : (Tryd.prog.info? 61).map (fun i => (i.zero, i.size, i.bytes)) = some (some (.int .u64 0), 1, 8) := by kernel_rfl
theorem made_m (k : Nat) : (madeCells #[Value.int .u64 0] k).toList = List.replicate k (.int .u64 0) := by rw [toList_madeCells_one]
theorem mnew_world (w : World) (m k : Nat) (hm : m ≤ 4096) (hk : k = (m + 63) / 64) (w' : World) (hw : w' = (w.alloc (.cells (madeCells #[Value.int .u64 0] k) 61)).alloc (.cells #[.int .i64 m, .slice (some ⟨w.heap.size, 0, none⟩) k k] 55)) :
    Msk w' (w.heap.size + 1) w.heap.size m (List.replicate k 0) ∧ Below w.heap.size w w' ∧ w'.heap.size = w.heap.size + 2 := by
  subst hw
  have hk63 : k ≤ maxLen := by unfold maxLen; omega
  refine ⟨⟨⟨k, madeCells #[Value.int .u64 0] k, ?_, ?_, by simp, hk63, ?_, ?_⟩, by omega, by simpa using hk, ?_, fun i _ => bitAt_zero k i, hm⟩, ((Below.refl _ _).alloc (Nat.le_refl _) _).alloc (by simp) _, by simp⟩
  · have h := Deep.blk_alloc_new (w.alloc (.cells (madeCells #[Value.int .u64 0] k) 61)) (.cells #[.int .i64 m, .slice (some ⟨w.heap.size, 0, none⟩) k k] 55)
    simpa using h
  · rw [Below.heap_alloc _ _ _ (by simp)]; exact Deep.blk_alloc_new _ _
  · have := congrArg List.length (made_m k); simpa using this
  · rw [made_m]; simp
  · intro j
    simp only [List.getD_eq_getElem?_getD, List.getElem?_replicate]
    split <;> simp
set_option maxHeartbeats 1000000 in
theorem mnew_any (n : Int) (m : Nat) (hm : (m : Int) = min (max n 0) 4096) (w : World) :
    Calls Tryd.prog 16 #[.int .i64 n] w fun e w' => e = .returned (.pointer (some ⟨w.heap.size + 1, 0, none⟩)) ∧ Msk w' (w.heap.size + 1) w.heap.size m (List.replicate ((m + 63) / 64) 0) ∧ Below w.heap.size w w' ∧ w'.heap.size = w.heap.size + 2 := by
  have hmk := run_make_row' (P := Tryd.prog) 53 61 (.int .u64 0) 8 Tryd.underlying53 infoM rfl .i64 .i64
  obtain ⟨k, hk⟩ : ∃ k, k = (m + 63) / 64 := ⟨_, rfl⟩
  rw [← hk]
  have hm0 := hmk k (by omega) (by omega)
  have FIN := hid (mnew_world w m k (by omega) hk)
  clear hmk
  by_cases h1 : n < 0
  · obtain rfl : m = 0 := by omega
    obtain rfl : k = 0 := by omega
    clear hm hk
    simp only [Int.natCast_zero] at hm0
    go_enter Tryd.func16, Tryd.ntmps16
    go_wp2
    go_ret
    exact ⟨rfl, FIN.out _ rfl⟩
  · by_cases h2 : n ≤ 4096
    · obtain rfl : n = m := by omega
      have e1 : ((m : Int) + 64 - 1) / 64 = k := by omega
      clear hm hk
      go_enter Tryd.func16, Tryd.ntmps16
      go_wp2
      go_ret
      exact ⟨rfl, FIN.out _ rfl⟩
    · obtain rfl : m = 4096 := by omega
      obtain rfl : k = 64 := by omega
      clear hm hk
      simp only [Int.cast_ofNat_Int] at hm0
      go_enter Tryd.func16, Tryd.ntmps16
      go_wp2
      go_ret
      exact ⟨rfl, FIN.out _ rfl⟩
set_option maxHeartbeats 1000000 in
theorem mcount_any (x y n : Nat) (W : List Nat) (w : World) (hm : Msk w x y n W) :
    Calls Tryd.prog 30 #[.pointer (some ⟨x, 0, none⟩)] w fun e w' => e = .returned (.int .i64 (card (bitAt W) n)) ∧ w = w' := by
  obtain ⟨cap, h1, hcap, hcap2⟩ := hm.c1
  have hl : W.length ≤ 64 := by have := hm.len; have := hm.most; omega
  have HM := hid hm
  have HE := hid (show card (bitAt W) (64 * W.length) = card (bitAt W) n by
    have := hm.len
    obtain ⟨d, hd⟩ : ∃ d, 64 * W.length = n + d := ⟨64 * W.length - n, by omega⟩
    rw [hd]; exact card_stretch _ hm.out d)
  obtain ⟨wl, hwl⟩ : ∃ wl, wl = W.length := ⟨_, rfl⟩
  rw [← hwl] at h1 hcap hl HE
  have HWL := hid hwl
  clear hm hwl
  go_enter Tryd.func30, Tryd.ntmps30
  go_wp2_with fail
  go_loop [3, 11] (fun c i => ∃ k : Nat, k ≤ wl ∧ i = .int .i64 k ∧ c = .int .i64 (card (bitAt W) (64 * k))) (fun _ i => wl - (intOf i).toNat)
  case atStart => exact ⟨0, Nat.zero_le _, rfl, rfl⟩
  case round =>
    obtain ⟨k, hk, rfl, rfl⟩ := hrel
    have hcl := card_le (bitAt W) (64 * k)
    obtain ⟨c, hc⟩ : ∃ c, c = card (bitAt W) (64 * k) := ⟨_, rfl⟩
    have hcs := card_words W k
    rw [← hc] at hcl hcs ⊢
    have HC := hid hc
    clear hc
    by_cases hlt : k < wl
    · obtain ⟨v, hv⟩ : ∃ v, v = W.getD k 0 := ⟨_, rfl⟩
      have h2 := HM.out.cy k (by have := HWL.out; omega)
      have h3 := HM.out.wf k
      rw [← hv] at h2 h3 hcs
      have ON := hid (fun w => ones_any v h3 w)
      have hp := pop_le 64 v
      obtain ⟨p, hpp⟩ : ∃ p, p = pop 64 v := ⟨_, rfl⟩
      rw [← hpp] at hcs hp ON
      have HS := hid hcs
      have h5 : IntKind.i64.wrap ((c : Int) + p) = (c : Int) + p := IntWalk.i64_in _ (by omega)
      clear hv hpp hcs h3
      go_wp2_with fail
      refine (ON.out _).mono ?_
      rintro e w' ⟨rfl, rfl⟩
      go_wp2
      go_round
      case rel => exact ⟨k + 1, by omega, by go_num, by rw [HS.out]; go_num⟩
      case measure => simp [intOf]; omega
    · obtain rfl : k = wl := by omega
      go_wp2
      go_ret
      exact ⟨ret_of (by rw [HC.out, HE.out]), rfl⟩

/-- How far a search for the next one is: all from F on, below word a, are out; the mask 'above' of that word. -/
structure Sk (W : List Nat) (F a A : Nat) : Prop where
  lt : A < 18446744073709551616
  bit : ∀ j, j < 64 → A.testBit j = decide (F ≤ 64 * a + j)
  no : ∀ k, F ≤ k → k < 64 * a → bitAt W k = false
theorem Sk.first (W : List Nat) (F : Nat) : Sk W F (F / 64) (18446744073709551616 - 2 ^ (F % 64)) :=
  ⟨by have := Nat.two_pow_pos (F % 64); omega, fun j hj => by rw [above_bit (by omega) j hj]; congr 1; simp only [eq_iff_iff]; omega, fun k h1 h2 => by omega⟩
theorem Sk.zero {W : List Nat} {F a A : Nat} (h : Sk W F a A) (h0 : W.getD a 0 &&& A = 0) (hF : F / 64 ≤ a) : Sk W F (a + 1) 18446744073709551615 :=
  ⟨by omega, fun j hj => by rw [full_bit hj]; symm; rw [decide_eq_true_eq]; omega, fun k h1 h2 => by
    by_cases hk : k < 64 * a
    · exact h.no k h1 hk
    · have hb : (W.getD a 0 &&& A).testBit (k % 64) = false := by rw [h0]; simp
      have hka : k / 64 = a := by omega
      rw [Nat.testBit_and, h.bit _ (by omega), show decide (F ≤ 64 * a + k % 64) = true by rw [decide_eq_true_eq]; omega, Bool.and_true] at hb
      simp only [bitAt]
      rw [hka]; exact hb⟩
theorem Sk.found {W : List Nat} {F a A n : Nat} {i : Int} (h : Sk W F a A) {v : Nat} (hv : v = W.getD a 0 &&& A) (h0 : v ≠ 0) (hF : F / 64 ≤ a) (hi : ∀ k : Nat, i < k ↔ F ≤ k) (ho : ∀ k, n ≤ k → bitAt W k = false) :
    nextI (bitAt W) n i = ((64 * a + Lib.ctz 64 v : Nat) : Int) := by
  have hv2 : v < 18446744073709551616 := Nat.lt_of_le_of_lt (by rw [hv]; exact Nat.and_le_right) h.lt
  obtain ⟨c1, c2, c3⟩ := ctz_spec h0 hv2
  generalize Lib.ctz 64 v = c at c1 c2 c3
  rw [hv, Nat.testBit_and, h.bit c c1, Bool.and_eq_true, decide_eq_true_eq] at c2
  have hb : bitAt W (64 * a + c) = true := by
    simp only [bitAt]
    rw [show (64 * a + c) / 64 = a by omega, show (64 * a + c) % 64 = c by omega]
    exact c2.1
  refine next_some ((hi _).2 c2.2) ?_ hb fun j hj1 hj2 => ?_
  · rcases Nat.lt_or_ge (64 * a + c) n with h | h
    · exact h
    · rw [ho _ h] at hb; cases hb
  · by_cases hk : j < 64 * a
    · exact h.no j ((hi _).1 hj1) hk
    · have := c3 (j % 64) (by omega)
      rw [hv, Nat.testBit_and, h.bit _ (by omega), show decide (F ≤ 64 * a + j % 64) = true by rw [decide_eq_true_eq]; have := (hi _).1 hj1; omega, Bool.and_true] at this
      simp only [bitAt]
      rw [show j / 64 = a by omega]; exact this

set_option maxHeartbeats 1000000 in
theorem mnext_late (x y n : Nat) (W : List Nat) (i : Int) (w : World) (hm : Msk w x y n W) (hi : (n : Int) - 1 ≤ i) :
    Calls Tryd.prog 45 #[.pointer (some ⟨x, 0, none⟩), .int .i64 i] w fun e w' => e = .returned (.int .i64 (nextI (bitAt W) n i)) ∧ w = w' := by
  have HE := hid (show nextI (bitAt W) n i = -1 from next_none fun j h1 h2 => by omega)
  have h0 := hm.c0
  have hmost := hm.most
  have hw : IntKind.i64.wrap ((n : Int) - 1) = (n : Int) - 1 := IntWalk.i64_in _ (by omega)
  clear hm
  go_enter Tryd.func45, Tryd.ntmps45
  go_wp2
  go_ret
  exact ⟨ret_of HE.out.symm, rfl⟩

set_option maxHeartbeats 2000000 in
theorem mnext_from (x y n F : Nat) (W : List Nat) (i : Int) (w : World) (hm : Msk w x y n W) (T : DbTab w) (hF : (F : Int) = max i (-1) + 1) (hi : i < (n : Int) - 1) :
    Calls Tryd.prog 45 #[.pointer (some ⟨x, 0, none⟩), .int .i64 i] w fun e w' => e = .returned (.int .i64 (nextI (bitAt W) n i)) ∧ w = w' := by
  have h0 := hm.c0
  obtain ⟨cap, h1, hcap, hcap2⟩ := hm.c1
  have hmost := hm.most
  have HI := hid (show ∀ k : Nat, i < k ↔ F ≤ k by intro k; omega)
  have HM := hid hm
  have HT := hid T
  have HL := hid hm.len
  obtain ⟨wl, hwl⟩ : ∃ wl, wl = W.length := ⟨_, rfl⟩
  have hl64 : wl ≤ 64 := by have := hm.len; omega
  have hFn : F ≤ n := by omega
  have hFw : F / 64 ≤ wl := by have := hm.len; omega
  rw [← hwl] at h1 hcap HL
  have HWL := hid hwl
  obtain ⟨f0, hf0⟩ : ∃ f0, f0 = F / 64 := ⟨_, rfl⟩
  obtain ⟨f1, hf1⟩ : ∃ f1, f1 = F % 64 := ⟨_, rfl⟩
  have S0 := hid (Sk.first W F)
  rw [← hf0, ← hf1] at S0
  have hr64 : f1 < 64 := by omega
  obtain ⟨A0, hA0⟩ : ∃ A0, A0 = 18446744073709551616 - 2 ^ f1 := ⟨_, rfl⟩
  rw [← hA0] at S0
  have e1 : (F : Int) / 64 = f0 := by omega
  have e2 : (F : Int) % 64 = f1 := by omega
  have e3 : IntKind.u64.wrap (18446744073709551615 * 2 ^ f1) = A0 := by
    have := shl_full hr64
    rw [IntKind.wrap_u64, ← two_cast, hA0, ← this]
    omega
  have hw : IntKind.i64.wrap ((n : Int) - 1) = (n : Int) - 1 := IntWalk.i64_in _ (by omega)
  have HOUT := hid hm.out
  have hFI := hid hF
  clear hm T hf0 hf1 hA0 hwl hF
  by_cases hneg : i < -1
  · obtain rfl : F = 0 := by have := hFI.out; omega
    have S1 := hid (Sk.first W 0)
    clear S0 e1 e2 e3 hFn hFw hr64
    simp only [Nat.zero_div, Nat.zero_mod, Nat.pow_zero, Nat.reduceSub] at S1
    go_enter Tryd.func45, Tryd.ntmps45
    go_wp2_with fail
    go_loop [6, 7] (fun s6 s7 => ∃ a A : Nat, a ≤ wl ∧ 0 / 64 ≤ a ∧ s7 = .int .i64 a ∧ s6 = .int .u64 A ∧ Hid (Sk W 0 a A)) (fun _ s7 => wl - (intOf s7).toNat)
    case atStart => exact ⟨0, 18446744073709551615, by omega, by omega, rfl, rfl, S1⟩
    case round =>
      obtain ⟨a, A, ha, ha0, rfl, rfl, HS⟩ := hrel
      by_cases hlt : a < wl
      · obtain ⟨v, hv⟩ : ∃ v, v = W.getD a 0 := ⟨_, rfl⟩
        have h2 := HM.out.cy a (by have := HWL.out; omega)
        have h3 := HM.out.wf a
        rw [← hv] at h2 h3
        have hA2 := HS.out.lt
        have hand := and64 v A h3 hA2
        obtain ⟨u, hu⟩ : ∃ u, u = v &&& A := ⟨_, rfl⟩
        rw [← hu] at hand
        have HU := hid (hu.trans (by rw [hv]))
        have hu2 : u < 18446744073709551616 := Nat.lt_of_le_of_lt (by rw [hu]; exact Nat.and_le_right) hA2
        clear hv hu h3 hA2
        have ha64 : (a : Int) ≤ 64 := by omega
        have hm64 : IntKind.i64.wrap ((a : Int) * 64) = (a : Int) * 64 := IntWalk.i64_in _ (by omega)
        by_cases h0 : u = 0
        · have HZ := hid (HS.out.zero (by rw [← HU.out]; exact h0) ha0)
          subst h0
          clear HU
          go_wp2_with fail
          go_round
          case rel => exact ⟨a + 1, 18446744073709551615, by omega, by omega, by go_num, rfl, HZ⟩
          case measure => simp [intOf]; omega
        · have t : ((u : Int) != 0) = true := by rw [bne_iff_ne]; omega
          have FIN := hid (HS.out.found (n := n) (i := i) HU.out h0 ha0 HI.out HOUT.out)
          have TZ := hid (fun w T => tz_any u h0 hu2 w T)
          have c1 := (ctz_spec h0 hu2).1
          obtain ⟨c, hc⟩ : ∃ c, c = Lib.ctz 64 u := ⟨_, rfl⟩
          rw [← hc] at FIN TZ c1
          have hs : IntKind.i64.wrap ((a : Int) * 64 + c) = (a : Int) * 64 + c := IntWalk.i64_in _ (by omega)
          clear hc hu2 HU
          go_wp2_with fail
          refine (TZ.out _ HT.out).mono ?_
          rintro e w' ⟨rfl, rfl⟩
          go_wp2
          go_ret
          exact ⟨ret_of (by rw [FIN.out]; omega), rfl⟩
      · obtain rfl : a = wl := by omega
        have FIN := hid (show nextI (bitAt W) n i = -1 from next_none fun j h1 h2 => HS.out.no j ((HI.out j).1 h1) (by have := HL.out; omega))
        go_wp2
        go_ret
        exact ⟨ret_of FIN.out.symm, rfl⟩
  · have hmx : i + 1 = (F : Int) := by have := hFI.out; omega
    have hi1 : -1 ≤ i := by omega
    clear hneg
    go_enter Tryd.func45, Tryd.ntmps45
    go_wp2_with fail
    go_loop [6, 7] (fun s6 s7 => ∃ a A : Nat, a ≤ wl ∧ F / 64 ≤ a ∧ s7 = .int .i64 a ∧ s6 = .int .u64 A ∧ Hid (Sk W F a A)) (fun _ s7 => wl - (intOf s7).toNat)
    case atStart => exact ⟨f0, A0, by omega, by omega, rfl, rfl, S0⟩
    case round =>
      obtain ⟨a, A, ha, ha0, rfl, rfl, HS⟩ := hrel
      by_cases hlt : a < wl
      · obtain ⟨v, hv⟩ : ∃ v, v = W.getD a 0 := ⟨_, rfl⟩
        have h2 := HM.out.cy a (by have := HWL.out; omega)
        have h3 := HM.out.wf a
        rw [← hv] at h2 h3
        have hA2 := HS.out.lt
        have hand := and64 v A h3 hA2
        obtain ⟨u, hu⟩ : ∃ u, u = v &&& A := ⟨_, rfl⟩
        rw [← hu] at hand
        have HU := hid (hu.trans (by rw [hv]))
        have hu2 : u < 18446744073709551616 := Nat.lt_of_le_of_lt (by rw [hu]; exact Nat.and_le_right) hA2
        clear hv hu h3 hA2
        have ha64 : (a : Int) ≤ 64 := by omega
        have hm64 : IntKind.i64.wrap ((a : Int) * 64) = (a : Int) * 64 := IntWalk.i64_in _ (by omega)
        by_cases h0 : u = 0
        · have HZ := hid (HS.out.zero (by rw [← HU.out]; exact h0) ha0)
          subst h0
          clear HU
          go_wp2_with fail
          go_round
          case rel => exact ⟨a + 1, 18446744073709551615, by omega, by omega, by go_num, rfl, HZ⟩
          case measure => simp [intOf]; omega
        · have t : ((u : Int) != 0) = true := by rw [bne_iff_ne]; omega
          have FIN := hid (HS.out.found (n := n) (i := i) HU.out h0 ha0 HI.out HOUT.out)
          have TZ := hid (fun w T => tz_any u h0 hu2 w T)
          have c1 := (ctz_spec h0 hu2).1
          obtain ⟨c, hc⟩ : ∃ c, c = Lib.ctz 64 u := ⟨_, rfl⟩
          rw [← hc] at FIN TZ c1
          have hs : IntKind.i64.wrap ((a : Int) * 64 + c) = (a : Int) * 64 + c := IntWalk.i64_in _ (by omega)
          clear hc hu2 HU
          go_wp2_with fail
          refine (TZ.out _ HT.out).mono ?_
          rintro e w' ⟨rfl, rfl⟩
          go_wp2
          go_ret
          exact ⟨ret_of (by rw [FIN.out]; omega), rfl⟩
      · obtain rfl : a = wl := by omega
        have FIN := hid (show nextI (bitAt W) n i = -1 from next_none fun j h1 h2 => HS.out.no j ((HI.out j).1 h1) (by have := HL.out; omega))
        go_wp2
        go_ret
        exact ⟨ret_of FIN.out.symm, rfl⟩
end Go.Proofs.YtnabikoieolfcaaDoor
