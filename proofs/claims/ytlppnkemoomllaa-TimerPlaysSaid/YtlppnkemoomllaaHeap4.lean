/- Heap.rise as a contract, over a function on lists. -/
import Derived.Test.YtlppnkemoomllaaHeap3
import Derived.Deep.RegionHeld3
namespace Go.Proofs.Ytlppnkemoomllaa
set_option linter.unusedVariables false
set_option linter.unusedSimpArgs false
open Go.RowKit

theorem OnlyH.of_below {p base : Nat} {w w' : World} (h : Below w.heap.size w w') : OnlyH p base w w' := ⟨h.os, h.tape, h.output, h.size, fun k hk _ _ => h.block k hk⟩
theorem Hp.below {w w' : World} {base p : Nat} {v : Value} {es : List (Int × Int × Int)} (h : Hp w base p v es) (hb : Below w.heap.size w w') : Hp w' base p v es := by
  refine h.kept (hb.block _ h.lt) (fun q hq => hb.block q ?_)
  obtain ⟨h0, ⟨h1, h2⟩ | ⟨q', cap, cur, h1, h2, h3, _⟩⟩ := h.own
  · rw [h1] at hq; simp [Value.ownBlock] at hq
  · rw [h1] at hq
    simp only [Value.ownBlock, Option.some.injEq] at hq
    subst hq
    obtain ⟨hl, _⟩ := Array.getElem?_eq_some_iff.1 h3
    exact hl
/-- A heap of n entries, behind deeds that began in w0. -/
structure Hs (w0 : World) (base p g n c : Nat) (es : List (Int × Int × Int)) (w : World) : Prop where
  hp : Hp w base p (.slice (some ⟨g, 0, none⟩) n c) es
  hn : es.length = n
  ho : OnlyH p g w0 w
  hc : n ≤ c
  hm : c ≤ maxLen
namespace Hs
variable {w0 w w' : World} {base p g n c : Nat} {es : List (Int × Int × Int)}
theorem below (h : Hs w0 base p g n c es w) (hb : Below w.heap.size w w') : Hs w0 base p g n c es w' := ⟨h.hp.below hb, h.hn, h.ho.trans (.of_below hb), h.hc, h.hm⟩
theorem drew (h : Hs w0 base p g n c es w) : Hs w0 base p g n c es w.drew := ⟨h.hp.kept rfl (fun _ _ => rfl), h.hn, h.ho.trans (.drew _), h.hc, h.hm⟩
theorem cells (h : Hs w0 base p g n c es w) (i : Nat) (hi : i < n) :
    w.cell? ⟨g, i * 3, none⟩ = some (.int .i64 (enAt es i).1) ∧ w.cell? ⟨g, i * 3 + 1, none⟩ = some (.int .u64 (enAt es i).2.1) ∧ w.cell? ⟨g, i * 3 + 2, none⟩ = some (.int .i64 (enAt es i).2.2) := by
  obtain ⟨hp, rfl, _⟩ := h
  exact hp.cells i hi
theorem le (h : Hs w0 base p g n c es w) : n ≤ 100000 := by have := h.hp.len; rw [h.hn] at this; exact this
theorem swap (h : Hs w0 base p g n c es w) (i j : Nat) (hi : i < n) (hj : j < n) :
    Calls Try.prog 29 #[.pointer (some ⟨p, 0, none⟩), .int .i64 i, .int .i64 j] w fun e w' => e = .returned (.tuple #[]) ∧ Hs w0 base p g n c (sw es i j) w' := by
  obtain ⟨hp, rfl, ho, h3, h4⟩ := h
  refine (swap_any w base p g c i j es hp hi hj).mono ?_
  rintro e w' ⟨rfl, h1, h2⟩
  exact ⟨rfl, h1, by rw [sw_len], ho.trans h2, h3, h4⟩
end Hs
theorem ahead_r (a1 a2 a3 b1 b2 b3 : Int) (r : Bool) (hr : aheadE (a1, a2, a3) (b1, b2, b3) = r) (w : World) :
    Calls Try.prog 27 #[.agg #[.int .i64 a1, .int .u64 a2, .int .i64 a3], .agg #[.int .i64 b1, .int .u64 b2, .int .i64 b3]] w fun e w' => e = .returned (.bool r) ∧ Below w.heap.size w w' := by
  subst hr; exact ahead_any a1 a2 a3 b1 b2 b3 w

/-- An entry rises, at most so many times. -/
def riseF : Nat → List (Int × Int × Int) → Nat → List (Int × Int × Int)
  | 0, es, _ => es
  | f + 1, es, i => if i = 0 then es else if aheadE (enAt es i) (enAt es ((i - 1) / 4)) then riseF f (sw es i ((i - 1) / 4)) ((i - 1) / 4) else es

set_option maxHeartbeats 4000000 in
theorem rise_any (w : World) (base p g n c i : Nat) (es : List (Int × Int × Int)) (h : Hs w base p g n c es w) (hi : i < n) :
    Calls Try.prog 32 #[.pointer (some ⟨p, 0, none⟩), .int .i64 i] w fun e w' => e = .returned (.tuple #[]) ∧ Hs w base p g n c (riseF i es i) w' := by
  have hn := h.le
  have hc := h.hc
  have hm := h.hm
  unfold maxLen at hm
  have H := hid h
  obtain ⟨T, hT⟩ : ∃ T, T = riseF i es i := ⟨_, rfl⟩
  have HT := hid hT
  rw [← hT]
  clear h hT
  go_enter Try.func32, Try.ntmps32
  go_wp2_with fail
  go_loopw [1] (fun s wr => ∃ (f k : Nat) (ks : List (Int × Int × Int)), k ≤ f ∧ k < n ∧ s = .int .i64 k ∧ Hid (Hs w base p g n c ks wr) ∧ Hid (T = riseF f ks k)) (fun s _ => (intOf s).toNat)
  case atStart => exact ⟨i, i, es, Nat.le_refl _, hi, rfl, H, HT⟩
  case round =>
    clear H HT
    obtain ⟨f, k, ks, hkf, hkn, rfl, H, HT⟩ := hrel
    by_cases k0 : k = 0
    · have HZ : Hid (T = ks) := by
        have := HT.out
        rw [k0] at this
        cases f with
        | zero => exact this
        | succ f => exact (show T = ks by simpa [riseF] using this)
      have t0 : ¬ (0 : Int) < k := by omega
      clear k0
      go_wp2
      go_end0
      exact ⟨rfl, by rw [HZ.out]; exact H.out⟩
    · have t0 : (0 : Int) < k := by omega
      obtain ⟨f, rfl⟩ : ∃ f', f = f' + 1 := ⟨f - 1, by omega⟩
      obtain ⟨a, ha⟩ : ∃ a : Nat, a = (k - 1) / 4 := ⟨_, rfl⟩
      have hak : a < k := by omega
      have han : (a : Int) < n := by omega
      have ha0 : (0 : Int) ≤ a := by omega
      have w1 : IntKind.i64.wrap ((k : Int) - 1) = (k : Int) - 1 := IntWalk.i64_in _ (by omega)
      have w2 : ((k : Int) - 1).tdiv 4 = a := by rw [Int.tdiv_eq_ediv_of_nonneg (by omega)]; omega
      have w3 : IntKind.i64.wrap (a : Int) = a := IntWalk.i64_in _ (by omega)
      have HT2 : Hid (T = if aheadE (enAt ks k) (enAt ks a) then riseF f (sw ks k a) a else ks) := by
        have := HT.out
        simp only [riseF, if_neg k0, ← ha] at this
        exact this
      clear HT ha
      obtain ⟨x1, hx1⟩ : ∃ x, x = (enAt ks k).1 := ⟨_, rfl⟩
      obtain ⟨x2, hx2⟩ : ∃ x, x = (enAt ks k).2.1 := ⟨_, rfl⟩
      obtain ⟨x3, hx3⟩ : ∃ x, x = (enAt ks k).2.2 := ⟨_, rfl⟩
      obtain ⟨y1, hy1⟩ : ∃ x, x = (enAt ks a).1 := ⟨_, rfl⟩
      obtain ⟨y2, hy2⟩ : ∃ x, x = (enAt ks a).2.1 := ⟨_, rfl⟩
      obtain ⟨y3, hy3⟩ : ∃ x, x = (enAt ks a).2.2 := ⟨_, rfl⟩
      have SX := hid (fun (y : World) (h : Hs w base p g n c ks y) => (show y.cell? ⟨p, 0, none⟩ = some (.slice (some ⟨g, 0, none⟩) n c) ∧
          y.cell? ⟨g, k * 3, none⟩ = some (.int .i64 x1) ∧ y.cell? ⟨g, k * 3 + 1, none⟩ = some (.int .u64 x2) ∧ y.cell? ⟨g, k * 3 + 2, none⟩ = some (.int .i64 x3) ∧
          y.cell? ⟨g, a * 3, none⟩ = some (.int .i64 y1) ∧ y.cell? ⟨g, a * 3 + 1, none⟩ = some (.int .u64 y2) ∧ y.cell? ⟨g, a * 3 + 2, none⟩ = some (.int .i64 y3) by
        obtain ⟨i1, i2, i3⟩ := h.cells k hkn
        obtain ⟨j1, j2, j3⟩ := h.cells a (by omega)
        exact ⟨h.hp.c0, by rw [hx1]; exact i1, by rw [hx2]; exact i2, by rw [hx3]; exact i3, by rw [hy1]; exact j1, by rw [hy2]; exact j2, by rw [hy3]; exact j3⟩))
      have HD := hid H.out.drew
      obtain ⟨r, hr⟩ : ∃ r, aheadE (x1, x2, x3) (y1, y2, y3) = r := ⟨_, rfl⟩
      have HR : Hid (aheadE (enAt ks k) (enAt ks a) = r) := by rw [← hr, hx1, hx2, hx3, hy1, hy2, hy3]; exact rfl
      have AH := hid (fun y => ahead_r x1 x2 x3 y1 y2 y3 r hr y)
      clear hx1 hx2 hx3 hy1 hy2 hy3 hr H k0
      rcases r with _ | _
      · go_upto_region 2 with (fail)
        go_region_held3 (fun y => y.cell? ⟨p, 0, none⟩ = some (.slice (some ⟨g, 0, none⟩) n c) ∧
          y.cell? ⟨g, k * 3, none⟩ = some (.int .i64 x1) ∧ y.cell? ⟨g, k * 3 + 1, none⟩ = some (.int .u64 x2) ∧ y.cell? ⟨g, k * 3 + 2, none⟩ = some (.int .i64 x3) ∧
          y.cell? ⟨g, a * 3, none⟩ = some (.int .i64 y1) ∧ y.cell? ⟨g, a * 3 + 1, none⟩ = some (.int .u64 y2) ∧ y.cell? ⟨g, a * 3 + 2, none⟩ = some (.int .i64 y3))
          (first
            | exact SX.out _ H1.out
            | exact SX.out _ HD.out)
          (first
            | (go_at_call 27; with_reducible refine (AH.out _).mono ?_; rintro e y1 ⟨rfl, hb1⟩; have H1 := hid (HD.out.below hb1); clear hb1))
        have HF : Hid (T = ks) := by have := HT2.out; rw [HR.out] at this; exact this
        clear SX HD AH
        go_wp2
        refine bodyPost_ret (results_none rfl _ _ _) rfl ?_
        exact ⟨rfl, by rw [HF.out]; exact H1.out⟩
      · go_upto_region 2 with (fail)
        go_region_held3 (fun y => y.cell? ⟨p, 0, none⟩ = some (.slice (some ⟨g, 0, none⟩) n c) ∧
          y.cell? ⟨g, k * 3, none⟩ = some (.int .i64 x1) ∧ y.cell? ⟨g, k * 3 + 1, none⟩ = some (.int .u64 x2) ∧ y.cell? ⟨g, k * 3 + 2, none⟩ = some (.int .i64 x3) ∧
          y.cell? ⟨g, a * 3, none⟩ = some (.int .i64 y1) ∧ y.cell? ⟨g, a * 3 + 1, none⟩ = some (.int .u64 y2) ∧ y.cell? ⟨g, a * 3 + 2, none⟩ = some (.int .i64 y3))
          (first
            | exact SX.out _ H1.out
            | exact SX.out _ HD.out)
          (first
            | (go_at_call 27; with_reducible refine (AH.out _).mono ?_; rintro e y1 ⟨rfl, hb1⟩; have H1 := hid (HD.out.below hb1); clear hb1))
        have HF : Hid (T = riseF f (sw ks k a) a) := by have := HT2.out; rw [HR.out] at this; exact this
        clear SX HD AH
        go_wp2_with fail
        refine (H1.out.swap k a hkn (by omega)).mono ?_
        rintro e y2 ⟨rfl, h2⟩
        have H2 := hid h2
        clear h2 w1 w2 w3
        go_wp2
        go_roundw
        case rel => exact ⟨f, a, sw ks k a, by omega, by omega, rfl, H2, HF⟩
        case measure => simp [intOf]; omega
end Go.Proofs.Ytlppnkemoomllaa
