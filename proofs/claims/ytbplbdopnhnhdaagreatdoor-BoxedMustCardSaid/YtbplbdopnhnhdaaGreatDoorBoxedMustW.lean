/- The walk of the statement BoxedMust: the law answers true and turns nothing that was there. -/
import Derived.Test.YtbplbdopnhnhdaaGreatDoorPreG
import Derived.Test.YtbplbdopnhnhdaaGreatDoorPreY
import Derived.Test.YtbplbdopnhnhdaaGreatDoorByD
import Derived.Test.YtbplbdopnhnhdaaGreatDoorText
import Derived.OpenShut
import Derived.Deep.CutRange
import Derived.BigQuiet
namespace Go.Proofs.YtbplbdopnhnhdaaGreatDoor.boxedMust
open Go.RowKit
set_option linter.unusedVariables false
set_option linter.unusedSimpArgs false
set_option maxRecDepth 20000
theorem cs_of {cs0 : Array Value} {Z0 : Nat → Value} (h : IsMix1 rawK cs0 Z0) : ∃ x, cs0 = rawc x ∧ RawIn x := by
  obtain ⟨h0, h3⟩ := h
  obtain ⟨h1, h2⟩ := raw_of h3
  refine ⟨rawOf Z0, ?_, h2⟩
  rw [h0]
  apply Array.ext_getElem?
  intro j
  rcases Nat.lt_or_ge j 17 with hj | hj
  · rw [h1 j hj]
    simp [show rawK.length = 17 from rfl, hj]
  · rw [Array.getElem?_eq_none (by simpa using hj), Array.getElem?_eq_none (by simpa [rawc] using hj)]
theorem cells17 {w : World} {x : Raw} {t : TypeId} {g : Nat} {fr : Nat × Nat} (he : w.heap[g]? = some (.cells (rawc x) t fr)) : w.cell? ⟨g, 0, none⟩ = some (.int .u8 x.k) ∧ w.cell? ⟨g, 1, none⟩ = some (.int .i64 x.c.1) ∧ w.cell? ⟨g, 2, none⟩ = some (.int .i64 x.c.2.1) ∧ w.cell? ⟨g, 3, none⟩ = some (.int .i64 x.c.2.2) ∧ w.cell? ⟨g, 4, none⟩ = some (.int .u8 x.s.1) ∧ w.cell? ⟨g, 5, none⟩ = some (.int .u8 x.s.2.1) ∧ w.cell? ⟨g, 6, none⟩ = some (.int .i64 x.s.2.2.1) ∧ w.cell? ⟨g, 7, none⟩ = some (.int .i64 x.s.2.2.2.1) ∧ w.cell? ⟨g, 8, none⟩ = some (.int .i64 x.s.2.2.2.2) ∧ w.cell? ⟨g, 9, none⟩ = some (.int .i64 x.e.1) ∧ w.cell? ⟨g, 10, none⟩ = some (.int .i64 x.e.2.1) ∧ w.cell? ⟨g, 11, none⟩ = some (.int .i64 x.e.2.2.1) ∧ w.cell? ⟨g, 12, none⟩ = some (.int .i64 x.e.2.2.2.1) ∧ w.cell? ⟨g, 13, none⟩ = some (.int .i64 x.e.2.2.2.2) ∧ w.cell? ⟨g, 14, none⟩ = some (.int .i64 x.n) ∧ w.cell? ⟨g, 15, none⟩ = some (.int .i32 x.r) ∧ w.cell? ⟨g, 16, none⟩ = some (.string x.t) := by
  simp [World.cell?, he, rawc]
theorem cells5 {w : World} {a b c d e : Value} {t : TypeId} {g : Nat} {fr : Nat × Nat} (he : w.heap[g]? = some (.cells #[a, b, c, d, e] t fr)) : w.cell? ⟨g, 0, none⟩ = some a ∧ w.cell? ⟨g, 1, none⟩ = some b ∧ w.cell? ⟨g, 2, none⟩ = some c ∧ w.cell? ⟨g, 3, none⟩ = some d ∧ w.cell? ⟨g, 4, none⟩ = some e := by
  simp [World.cell?, he]
theorem rd_one (w : World) (x : Raw) (t : TypeId) : RdR (w.alloc (.cells (rawc x) t)) (.slice (some ⟨w.heap.size, 0, none⟩) 1 1) [x] :=
  ⟨_, 1, rfl, Nat.le_refl _, by decide, fun _ => ⟨_, 0, rfl, by simp, fun i hi j hj => by
    have h0 : i = 0 := by simp at hi; exact hi
    subst h0
    have h1 := Deep.blk_alloc_new w (.cells (rawc x) t)
    simp only [World.cell?, h1]
    simp [rawAt]⟩⟩
theorem eqW (a b c d e : Int) (w : World) : (Op.equalIn 10000 28 (.agg #[.int .u8 a, .int .u8 b, .int .i64 c, .int .i64 d, .int .i64 e]) (.agg #[.int .u8 a, .int .u8 b, .int .i64 c, .int .i64 d, .int .i64 e])).run Tryz.prog w = .ok true w := by
  have u0 := Tryz.underlying5
  have u1 := Tryz.underlying3
  have u2 := Tryz.underlying2
  have hS : Tryz.prog.underlying 28 = some (.struct (Tryz.prog.fieldsOf 28)) := by kernel_rfl
  have hp : Tryz.prog.stoodInHeld 28 = false := by kernel_rfl
  rw [show (10000 : Nat) = 9999 + 1 from rfl, run_equalIn_agg w 9999 28 _ _ hS hp]
  simp only [Program.fieldsOf, Tryz.underlying28]
  go_simp
/-- No step: there is a panic, and it is recovered. -/
theorem must_other (b : Bx) (ok : BxOk b) (no : ∀ y, b ≠ .st y) (w : World) :
    Calls Tryz.prog 11 #[bxV b] w fun e w' => e = .returned (.tuple #[.agg #[.int .u8 0, .int .u8 0, .int .i64 0, .int .i64 0, .int .i64 0], .bool true, .bool true]) ∧ Below w.heap.size w w' := by
  cases b with
  | st x => exact absurd rfl (no x)
  | nu n => exact must_none _ w fun y => ta_bad (by decide) _ y
  | ru n => exact must_none _ w fun y => ta_bad (by decide) _ y
  | tx n => exact must_none _ w fun y => ta_bad (by decide) _ y
  | ot t v => exact must_none _ w fun y => ta_bad (by have := ok; simp [BxOk] at this; simp [this]) _ y
  | no => exact must_none _ w ta_badn
set_option maxHeartbeats 8000000 in
theorem walk (cs0 : Array Value) (Z0 : Nat → Value) (w : World)
    (w0 : IsMix1 rawK cs0 Z0) (T2 : EvNames w) (T3 : EvSteps w) (T1 : MaPlaces w) :
    Calls Tryz.prog 4 #[.agg cs0] w fun e w' => e = .returned (.bool true) ∧ Below w.heap.size w w' := by
  have LV : Hid (∀ w2 : World, Below w.heap.size w w2 → Calls Tryz.prog 6 #[] w2 fun e w' => e = .returned (.bool true) ∧ Below w2.heap.size w2 w') := hid (fun w2 hb => lives26 w2 (T1.at hb) (T2.at hb) (T3.at hb) (by have := hb.size; have := T1.lt; omega) (by have := hb.size; have := T2.lt; omega) (by have := hb.size; have := T3.lt; omega))
  obtain ⟨x, rfl, hin⟩ := cs_of w0
  clear T1 T2 T3 w0
  have hx := hid hin
  clear hin
  obtain ⟨k, ⟨c0, c1, c2⟩, ⟨s0, s1, s2, s3, s4⟩, ⟨e0, e1, e2, e3, e4⟩, n, r, t⟩ := x
  have HB := hid ((Below.refl w.heap.size w).alloc (Nat.le_refl _) (.cells (rawc ⟨k, ⟨c0, c1, c2⟩, ⟨s0, s1, s2, s3, s4⟩, ⟨e0, e1, e2, e3, e4⟩, n, r, t⟩) 36))
  have HW := hid (Deep.blk_alloc_new w (.cells (rawc ⟨k, ⟨c0, c1, c2⟩, ⟨s0, s1, s2, s3, s4⟩, ⟨e0, e1, e2, e3, e4⟩, n, r, t⟩) 36))
  have HS := hid (World.size_alloc w (.cells (rawc ⟨k, ⟨c0, c1, c2⟩, ⟨s0, s1, s2, s3, s4⟩, ⟨e0, e1, e2, e3, e4⟩, n, r, t⟩) 36))
  simp only [rawc] at HB HW HS ⊢
  go_enter Tryz.func4, Tryz.ntmps4
  go_wp2_with fail
  generalize w.alloc _ = wa at *
  refine (LV.out wa HB.out).mono ?_
  rintro e w2 ⟨rfl, hb⟩
  have B2 := hid (HB.out.trans (hb.mono (by have := HS.out; omega)))
  have HH := hid (show w2.heap[w.heap.size]? = _ from (hb.block _ (by have := HS.out; omega)).trans HW.out)
  have Z2 := hid (show w.heap.size < w2.heap.size by have := HS.out; have := hb.size; omega)
  obtain ⟨q0, q1, q2, q3, q4, q5, q6, q7, q8, q9, q10, q11, q12, q13, q14, q15, q16⟩ := cells17 (x := ⟨k, ⟨c0, c1, c2⟩, ⟨s0, s1, s2, s3, s4⟩, ⟨e0, e1, e2, e3, e4⟩, n, r, t⟩) HH.out
  simp only at q0 q1 q2 q3 q4 q5 q6 q7 q8 q9 q10 q11 q12 q13 q14 q15 q16
  clear hb HB HW HS wa
  have RD := hid (rd_one w2 ⟨k, ⟨c0, c1, c2⟩, ⟨s0, s1, s2, s3, s4⟩, ⟨e0, e1, e2, e3, e4⟩, n, r, t⟩ 36)
  have BA := hid ((Below.refl w2.heap.size w2).alloc (Nat.le_refl _) (.cells (rawc ⟨k, ⟨c0, c1, c2⟩, ⟨s0, s1, s2, s3, s4⟩, ⟨e0, e1, e2, e3, e4⟩, n, r, t⟩) 36))
  simp only [rawc] at RD BA
  go_wp2_with fail
  clear q0 q1 q2 q3 q4 q5 q6 q7 q8 q9 q10 q11 q12 q13 q14 q15 q16
  generalize w2.alloc _ = wa at *
  refine (few_any _ _ _ RD.out).mono ?_
  rintro e w3 ⟨rfl, hb⟩
  have hb0 : Below w2.heap.size w2 w3 := BA.out.trans (hb.mono BA.out.size)
  have B3 := hid (B2.out.trans (hb0.mono B2.out.size))
  have H3 := hid ((hb0.block _ Z2.out).trans HH.out)
  have Z3 := hid (Nat.lt_of_lt_of_le Z2.out hb0.size)
  clear hb hb0 BA RD wa HH B2 Z2
  by_cases hf : fewB [⟨k, ⟨c0, c1, c2⟩, ⟨s0, s1, s2, s3, s4⟩, ⟨e0, e1, e2, e3, e4⟩, n, r, t⟩] = true
  · have ok := hid ((few_ok hf (by simpa using hx.out)).2 _ (List.mem_singleton.2 rfl))
    rw [hf]
    clear hf hx LV
    obtain ⟨q0, q1, q2, q3, q4, q5, q6, q7, q8, q9, q10, q11, q12, q13, q14, q15, q16⟩ := cells17 (x := ⟨k, ⟨c0, c1, c2⟩, ⟨s0, s1, s2, s3, s4⟩, ⟨e0, e1, e2, e3, e4⟩, n, r, t⟩) H3.out
    simp only at q0 q1 q2 q3 q4 q5 q6 q7 q8 q9 q10 q11 q12 q13 q14 q15 q16
    go_wp2_with fail
    clear q0 q1 q2 q3 q4 q5 q6 q7 q8 q9 q10 q11 q12 q13 q14 q15 q16
    refine (thing_any ⟨k, ⟨c0, c1, c2⟩, ⟨s0, s1, s2, s3, s4⟩, ⟨e0, e1, e2, e3, e4⟩, n, r, t⟩ ok.out w3).mono ?_
    rintro e w4 ⟨b, g, rfl, th, hb⟩
    have B4 := hid (B3.out.trans (hb.mono B3.out.size))
    have H4 := hid ((hb.block _ Z3.out).trans H3.out)
    have Z4 := hid (Nat.lt_of_lt_of_le Z3.out hb.size)
    have TH := hid th
    clear hb H3 Z3 B3 ok th
    obtain ⟨gk, ⟨g0, g1, g2⟩, ⟨y0, y1, y2, y3, y4⟩, gn, gt⟩ := g
    simp only [tgc]
    go_wp2_with fail
    generalize hwa : w4.alloc _ = wa
    have BA := hid (show Below w4.heap.size w4 wa by rw [← hwa]; exact (Below.refl _ _).alloc (Nat.le_refl _) _)
    have CY := hid (show wa.cell? ⟨w4.heap.size, 0, none⟩ = some (.int .i64 gk) by rw [← hwa]; simp only [World.cell?, Deep.blk_alloc_new]; rfl)
    have SZ := hid (show w4.heap.size < wa.heap.size by rw [← hwa]; simp)
    clear hwa
    by_cases hg : gk = 2
    · subst hg
      obtain rfl : b = .st (s0, s1, s2, s3, s4) := TH.out.yes rfl
      clear TH
      refine (must_step s0 s1 s2 s3 s4 wa).mono ?_
      rintro e w5 ⟨rfl, hb⟩
      have hb0 : Below w4.heap.size w4 w5 := BA.out.trans (hb.mono BA.out.size)
      have CY5 : w5.cell? ⟨w4.heap.size, 0, none⟩ = _ := (hb.cell (p := ⟨w4.heap.size, 0, none⟩) SZ.out).trans CY.out
      have B5 := hid (B4.out.trans (hb0.mono B4.out.size))
      have H5 := hid ((hb0.block _ Z4.out).trans H4.out)
      have Z5 := hid (show w4.heap.size < w5.heap.size from Nat.lt_of_lt_of_le SZ.out hb.size)
      have Z6 := hid (Nat.lt_of_lt_of_le Z4.out hb0.size)
      clear hb hb0 BA CY SZ B4 H4 Z4 wa
      go_upto_region 5 with (fail)
      have HN := Deep.blk_alloc_new w5 (.cells #[.int .u8 s0, .int .u8 s1, .int .i64 s2, .int .i64 s3, .int .i64 s4] 28)
      have BN := (Below.refl w5.heap.size w5).alloc (Nat.le_refl _) (.cells #[.int .u8 s0, .int .u8 s1, .int .i64 s2, .int .i64 s3, .int .i64 s4] 28)
      generalize w5.alloc _ = wc at *
      have CYc := (BN.cell (p := ⟨w4.heap.size, 0, none⟩) Z5.out).trans CY5
      obtain ⟨q0, q1, q2, q3, q4, q5, q6, q7, q8, q9, q10, q11, q12, q13, q14, q15, q16⟩ := cells17 (x := ⟨k, ⟨c0, c1, c2⟩, ⟨s0, s1, s2, s3, s4⟩, ⟨e0, e1, e2, e3, e4⟩, n, r, t⟩) ((BN.block _ Z6.out).trans H5.out)
      simp only at q4 q5 q6 q7 q8
      obtain ⟨p0, p1, p2, p3, p4⟩ := cells5 HN
      have FN := hid (B5.out.trans (BN.mono B5.out.size))
      have EQ := eqW s0 s1 s2 s3 s4
      clear q0 q1 q2 q3 q9 q10 q11 q12 q13 q14 q15 q16 HN BN B5 H5 Z5 Z6 CY5
      go_wp2
      go_ret
      exact ⟨rfl, FN.out⟩
    · refine (must_other b TH.out.ok (TH.out.no hg) wa).mono ?_
      rintro e w5 ⟨rfl, hb⟩
      have hb0 : Below w4.heap.size w4 w5 := BA.out.trans (hb.mono BA.out.size)
      have CY5 : w5.cell? ⟨w4.heap.size, 0, none⟩ = _ := (hb.cell (p := ⟨w4.heap.size, 0, none⟩) SZ.out).trans CY.out
      have B5 := hid (B4.out.trans (hb0.mono B4.out.size))
      have H5 := hid ((hb0.block _ Z4.out).trans H4.out)
      have Z5 := hid (show w4.heap.size < w5.heap.size from Nat.lt_of_lt_of_le SZ.out hb.size)
      have Z6 := hid (Nat.lt_of_lt_of_le Z4.out hb0.size)
      clear hb hb0 BA CY SZ B4 H4 Z4 wa
      go_upto_region 5 with (fail)
      have HN := Deep.blk_alloc_new w5 (.cells #[.int .u8 0, .int .u8 0, .int .i64 0, .int .i64 0, .int .i64 0] 28)
      have BN := (Below.refl w5.heap.size w5).alloc (Nat.le_refl _) (.cells #[.int .u8 0, .int .u8 0, .int .i64 0, .int .i64 0, .int .i64 0] 28)
      generalize w5.alloc _ = wc at *
      have CYc := (BN.cell (p := ⟨w4.heap.size, 0, none⟩) Z5.out).trans CY5
      obtain ⟨q0, q1, q2, q3, q4, q5, q6, q7, q8, q9, q10, q11, q12, q13, q14, q15, q16⟩ := cells17 (x := ⟨k, ⟨c0, c1, c2⟩, ⟨s0, s1, s2, s3, s4⟩, ⟨e0, e1, e2, e3, e4⟩, n, r, t⟩) ((BN.block _ Z6.out).trans H5.out)
      simp only at q4 q5 q6 q7 q8
      obtain ⟨p0, p1, p2, p3, p4⟩ := cells5 HN
      have FN := hid (B5.out.trans (BN.mono B5.out.size))
      have EQ := eqW 0 0 0 0 0
      clear q0 q1 q2 q3 q9 q10 q11 q12 q13 q14 q15 q16 HN BN B5 H5 Z5 Z6 CY5
      go_wp2
      go_ret
      exact ⟨rfl, FN.out⟩
  · rw [show fewB [⟨k, ⟨c0, c1, c2⟩, ⟨s0, s1, s2, s3, s4⟩, ⟨e0, e1, e2, e3, e4⟩, n, r, t⟩] = false by simpa using hf]
    clear hf hx H3 Z3
    go_wp2_with fail
    refine (LV.out w3 B3.out).mono ?_
    rintro e w4 ⟨rfl, hb⟩
    have B4 := hid (B3.out.trans (hb.mono B3.out.size))
    clear hb B3 LV
    go_wp2
    go_ret
    exact ⟨rfl, B4.out⟩
end Go.Proofs.YtbplbdopnhnhdaaGreatDoor.boxedMust
