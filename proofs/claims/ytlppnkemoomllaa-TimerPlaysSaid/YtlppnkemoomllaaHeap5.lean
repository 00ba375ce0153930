/- Heap.sink as a contract, over a function on lists. -/
import Derived.Test.YtlppnkemoomllaaHeap4
import Derived.WalkMore
namespace Go.Proofs.Ytlppnkemoomllaa
set_option linter.unusedVariables false
set_option linter.unusedSimpArgs false
open Go.RowKit

/-- The one that is ahead, of the least so far and the one at a place, if there is one. -/
def kid (es : List (Int × Int × Int)) (n l c : Nat) : Nat := if c < n ∧ aheadE (enAt es c) (enAt es l) = true then c else l
/-- The least of one and of so many under it. -/
def lk (es : List (Int × Int × Int)) (n i : Nat) : Nat → Nat
  | 0 => i
  | k + 1 => kid es n (lk es n i k) (4 * i + 1 + k)
theorem kid_yes {es : List (Int × Int × Int)} {n l c : Nat} (h : c < n) (ha : aheadE (enAt es c) (enAt es l) = true) : kid es n l c = c := by simp [kid, h, ha]
theorem kid_no {es : List (Int × Int × Int)} {n l c : Nat} (ha : aheadE (enAt es c) (enAt es l) = false) : kid es n l c = l := by simp [kid, ha]
theorem kid_out {es : List (Int × Int × Int)} {n l c : Nat} (h : n ≤ c) : kid es n l c = l := by
  unfold kid; rw [if_neg (by omega)]
theorem lk_ge (es : List (Int × Int × Int)) (n i : Nat) : ∀ j, i ≤ lk es n i j
  | 0 => Nat.le_refl _
  | j + 1 => by
    have := lk_ge es n i j
    unfold lk kid
    split <;> omega
theorem lk_lt (es : List (Int × Int × Int)) (n i : Nat) (h : i < n) : ∀ j, lk es n i j < n
  | 0 => h
  | j + 1 => by
    have := lk_lt es n i h j
    unfold lk kid
    split <;> omega
theorem lk_stop (es : List (Int × Int × Int)) (n i j : Nat) (h : n ≤ 4 * i + 1 + j) : ∀ d, lk es n i (j + d) = lk es n i j
  | 0 => rfl
  | d + 1 => by
    show kid es n (lk es n i (j + d)) (4 * i + 1 + (j + d)) = _
    rw [kid_out (by omega), lk_stop es n i j h d]
/-- An entry sinks, at most so many times. -/
def sinkF : Nat → List (Int × Int × Int) → Nat → Nat → List (Int × Int × Int)
  | 0, es, _, _ => es
  | f + 1, es, n, i => if lk es n i 4 = i then es else sinkF f (sw es i (lk es n i 4)) n (lk es n i 4)

theorem Hs.len {w0 w : World} {base p g n c : Nat} {es : List (Int × Int × Int)} (h : Hs w0 base p g n c es w) :
    Calls Try.prog 28 #[.pointer (some ⟨p, 0, none⟩)] w fun e w' => e = .returned (.int .i64 n) ∧ w' = w := by
  obtain ⟨hp, rfl, _⟩ := h
  exact hlen w base p _ es hp

set_option maxRecDepth 100000 in
set_option maxHeartbeats 8000000 in
theorem sink_any (w : World) (base p g n c i : Nat) (es : List (Int × Int × Int)) (h : Hs w base p g n c es w) (hi : i < n ∨ (n = 0 ∧ i = 0)) :
    Calls Try.prog 30 #[.pointer (some ⟨p, 0, none⟩), .int .i64 i] w fun e w' => e = .returned (.tuple #[]) ∧ Hs w base p g n c (sinkF (n + 1) es n i) w' := by
  have hn := h.le
  have hc := h.hc
  have hm := h.hm
  unfold maxLen at hm
  have H := hid h
  obtain ⟨T, hT⟩ : ∃ T, T = sinkF (n + 1) es n i := ⟨_, rfl⟩
  have HT := hid hT
  rw [← hT]
  clear h hT
  go_enter Try.func30, Try.ntmps30
  go_wp2_with fail
  go_step3
  go_wp2_with fail
  go_step3
  go_wp2_with fail
  go_loopw [1] (fun s wr => ∃ (f k : Nat) (ks : List (Int × Int × Int)), n + 1 ≤ k + f ∧ (k < n ∨ (n = 0 ∧ k = 0)) ∧ s = .int .i64 k ∧ Hid (Hs w base p g n c ks wr) ∧ Hid (T = sinkF f ks n k)) (fun s _ => n - (intOf s).toNat)
  case atStart => exact ⟨n + 1, i, es, by omega, hi, rfl, H, HT⟩
  case round =>
    clear H HT
    obtain ⟨f, k, ks, hkf, hkn, rfl, H, HT⟩ := hrel
    obtain ⟨wo, rfl⟩ : ∃ wo : World, wo = wr := ⟨_, rfl⟩
    obtain ⟨f, rfl⟩ : ∃ f', f = f' + 1 := ⟨f - 1, by omega⟩
    have hk6 : k ≤ 100000 := by omega
    go_wp2_with fail
    go_loopw [4, 5] (fun ls cs wr => ∃ (l cc j : Nat), j ≤ 4 ∧ 4 * k + 1 + j ≤ cc ∧ cc ≤ 4 * k + 1 + j ∧ ls = .int .i64 l ∧ cs = .int .i64 cc ∧ Hid (Hs w base p g n c ks wr) ∧ Hid (l = lk ks n k j) ∧ Hid (k ≤ l) ∧ Hid (l < n ∨ (n = 0 ∧ l = 0))) (fun _ cs _ => 4 * k + 6 - (intOf cs).toNat)
    case atStart => exact ⟨k, 4 * k + 1, 0, by omega, by omega, by omega, rfl, by go_num, H, hid rfl, Nat.le_refl _, hkn⟩
    case round =>
      clear H
      obtain ⟨l, cc, j, hj, hc1, hc2, rfl, rfl, H, HL, HGE, HLT⟩ := hrel
      by_cases hj4 : j < 4
      · have t1 : (cc : Int) ≤ 4 * k + 4 := by omega
        go_wp2_with fail
        refine (H.out.len).mono ?_
        rintro e w' ⟨rfl, rfl⟩
        by_cases hcn : cc < n
        · have t2 : (cc : Int) < n := by omega
          have hl : l < n := by have := HLT.out; omega
          have hl' : (l : Int) < n := by omega
          obtain ⟨x1, hx1⟩ : ∃ x, x = (enAt ks cc).1 := ⟨_, rfl⟩
          obtain ⟨x2, hx2⟩ : ∃ x, x = (enAt ks cc).2.1 := ⟨_, rfl⟩
          obtain ⟨x3, hx3⟩ : ∃ x, x = (enAt ks cc).2.2 := ⟨_, rfl⟩
          obtain ⟨y1, hy1⟩ : ∃ x, x = (enAt ks l).1 := ⟨_, rfl⟩
          obtain ⟨y2, hy2⟩ : ∃ x, x = (enAt ks l).2.1 := ⟨_, rfl⟩
          obtain ⟨y3, hy3⟩ : ∃ x, x = (enAt ks l).2.2 := ⟨_, rfl⟩
          have SX := hid (fun (y : World) (h : Hs w base p g n c ks y) => (show y.cell? ⟨p, 0, none⟩ = some (.slice (some ⟨g, 0, none⟩) n c) ∧
            y.cell? ⟨g, cc * 3, none⟩ = some (.int .i64 x1) ∧ y.cell? ⟨g, cc * 3 + 1, none⟩ = some (.int .u64 x2) ∧ y.cell? ⟨g, cc * 3 + 2, none⟩ = some (.int .i64 x3) ∧
            y.cell? ⟨g, l * 3, none⟩ = some (.int .i64 y1) ∧ y.cell? ⟨g, l * 3 + 1, none⟩ = some (.int .u64 y2) ∧ y.cell? ⟨g, l * 3 + 2, none⟩ = some (.int .i64 y3) by
            obtain ⟨i1, i2, i3⟩ := h.cells cc hcn
            obtain ⟨j1, j2, j3⟩ := h.cells l hl
            exact ⟨h.hp.c0, by rw [hx1]; exact i1, by rw [hx2]; exact i2, by rw [hx3]; exact i3, by rw [hy1]; exact j1, by rw [hy2]; exact j2, by rw [hy3]; exact j3⟩))
          have HD := hid H.out.drew
          obtain ⟨r, hr⟩ : ∃ r, aheadE (x1, x2, x3) (y1, y2, y3) = r := ⟨_, rfl⟩
          have HR : Hid (aheadE (enAt ks cc) (enAt ks l) = r) := by rw [← hr, hx1, hx2, hx3, hy1, hy2, hy3]; exact rfl
          have AH := hid (fun y => ahead_r x1 x2 x3 y1 y2 y3 r hr y)
          have HK : Hid (lk ks n k (j + 1) = kid ks n l cc) := by
            show kid ks n (lk ks n k j) (4 * k + 1 + j) = _
            rw [← HL.out, show 4 * k + 1 + j = cc by omega]
          clear hx1 hx2 hx3 hy1 hy2 hy3 hr H HL
          rcases r with _ | _
          · go_upto_region 5 with (fail)
            go_region_held3 (fun y => y.cell? ⟨p, 0, none⟩ = some (.slice (some ⟨g, 0, none⟩) n c) ∧
            y.cell? ⟨g, cc * 3, none⟩ = some (.int .i64 x1) ∧ y.cell? ⟨g, cc * 3 + 1, none⟩ = some (.int .u64 x2) ∧ y.cell? ⟨g, cc * 3 + 2, none⟩ = some (.int .i64 x3) ∧
            y.cell? ⟨g, l * 3, none⟩ = some (.int .i64 y1) ∧ y.cell? ⟨g, l * 3 + 1, none⟩ = some (.int .u64 y2) ∧ y.cell? ⟨g, l * 3 + 2, none⟩ = some (.int .i64 y3))
              (first
                | exact SX.out _ H1.out
                | exact SX.out _ HD.out)
              (first
                | (go_at_call 27; with_reducible refine (AH.out _).mono ?_; rintro e y1 ⟨rfl, hb1⟩; have H1 := hid (HD.out.below hb1); clear hb1))
            have HN : Hid (l = lk ks n k (j + 1)) := by rw [HK.out, kid_no HR.out]; exact rfl
            clear SX HD AH HK
            go_wp2
            go_roundw
            case rel => exact ⟨l, cc + 1, j + 1, by omega, by omega, by omega, rfl, by go_num, H1, HN, HGE, HLT⟩
            case measure => simp [intOf]; omega
          · go_upto_region 5 with (fail)
            go_region_held3 (fun y => y.cell? ⟨p, 0, none⟩ = some (.slice (some ⟨g, 0, none⟩) n c) ∧
            y.cell? ⟨g, cc * 3, none⟩ = some (.int .i64 x1) ∧ y.cell? ⟨g, cc * 3 + 1, none⟩ = some (.int .u64 x2) ∧ y.cell? ⟨g, cc * 3 + 2, none⟩ = some (.int .i64 x3) ∧
            y.cell? ⟨g, l * 3, none⟩ = some (.int .i64 y1) ∧ y.cell? ⟨g, l * 3 + 1, none⟩ = some (.int .u64 y2) ∧ y.cell? ⟨g, l * 3 + 2, none⟩ = some (.int .i64 y3))
              (first
                | exact SX.out _ H1.out
                | exact SX.out _ HD.out)
              (first
                | (go_at_call 27; with_reducible refine (AH.out _).mono ?_; rintro e y1 ⟨rfl, hb1⟩; have H1 := hid (HD.out.below hb1); clear hb1))
            have HN : Hid (cc = lk ks n k (j + 1)) := by rw [HK.out, kid_yes hcn HR.out]; exact rfl
            have HG2 : Hid (k ≤ cc) := (show k ≤ cc by omega)
            clear SX HD AH HK
            go_wp2
            go_roundw
            case rel => exact ⟨cc, cc + 1, j + 1, by omega, by omega, by omega, rfl, by go_num, H1, HN, HG2, .inl hcn⟩
            case measure => simp [intOf]; omega
        · have t2 : (n : Int) ≤ cc := by omega
          have HL4 : Hid (l = lk ks n k 4) := by
            have := lk_stop ks n k j (by omega) (4 - j)
            rw [show j + (4 - j) = 4 by omega, ← HL.out] at this
            exact this.symm
          clear HL
          by_cases hlk : l = k
          · have tl : ((l : Int) == k) = true := by simp [hlk]
            have HF : Hid (T = ks) := by
              have := HT.out
              simp only [sinkF, ← HL4.out, if_pos hlk] at this
              exact this
            clear hlk HT HL4
            go_wp2
            try simp only [Exit.noGoto_normal, Exit.noGoto_ret]
            first
              | go_end0
              | refine bodyPost_ret (results_none rfl _ _ _) rfl ?_
              | trace_state
            exact ⟨rfl, by rw [HF.out]; exact H.out⟩
          · have tl : ((l : Int) == k) = false := by simp; omega
            have hlg : k < l := by have := HGE.out; omega
            have hln : l < n := by have := HLT.out; omega
            have HF : Hid (T = sinkF f (sw ks k l) n l) := by
              have := HT.out
              simp only [sinkF, ← HL4.out, if_neg hlk] at this
              exact this
            clear hlk HT HL4
            go_wp2_with fail
            refine (H.out.swap k l (by omega) hln).mono ?_
            rintro e y2 ⟨rfl, h2⟩
            have H2 := hid h2
            clear h2
            go_wp2
            go_roundw
            case rel => exact ⟨f, l, sw ks k l, by omega, .inl hln, rfl, H2, HF⟩
            case measure => simp [intOf]; omega
      · have t1 : ¬ (cc : Int) ≤ 4 * k + 4 := by omega
        have HL4 : Hid (l = lk ks n k 4) := by
          have := HL.out
          rw [show j = 4 by omega] at this
          exact this
        clear HL
        by_cases hlk : l = k
        · have tl : ((l : Int) == k) = true := by simp [hlk]
          have HF : Hid (T = ks) := by
            have := HT.out
            simp only [sinkF, ← HL4.out, if_pos hlk] at this
            exact this
          clear hlk HT HL4
          go_wp2
          try simp only [Exit.noGoto_normal, Exit.noGoto_ret]
          first
            | go_end0
            | refine bodyPost_ret (results_none rfl _ _ _) rfl ?_
            | trace_state
          exact ⟨rfl, by rw [HF.out]; exact H.out⟩
        · have tl : ((l : Int) == k) = false := by simp; omega
          have hlg : k < l := by have := HGE.out; omega
          have hln : l < n := by have := HLT.out; omega
          have HF : Hid (T = sinkF f (sw ks k l) n l) := by
            have := HT.out
            simp only [sinkF, ← HL4.out, if_neg hlk] at this
            exact this
          clear hlk HT HL4
          go_wp2_with fail
          refine (H.out.swap k l (by omega) hln).mono ?_
          rintro e y2 ⟨rfl, h2⟩
          have H2 := hid h2
          clear h2
          go_wp2
          go_roundw
          case rel => exact ⟨f, l, sw ks k l, by omega, .inl hln, rfl, H2, HF⟩
          case measure => simp [intOf]; omega
end Go.Proofs.Ytlppnkemoomllaa
