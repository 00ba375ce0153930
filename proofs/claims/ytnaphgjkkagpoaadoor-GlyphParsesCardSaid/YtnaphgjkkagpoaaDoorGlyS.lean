/- hostlerlaw16.same of two rows that read alike. -/
import Derived.Test.YtnaphgjkkagpoaaDoorGlyT
import Derived.Deep.RegionHeld3
import Derived.Deep.RegionWith
import Derived.Deep.CutRange
namespace Go.Proofs.YtnaphgjkkagpoaaDoor
open Go.RowKit
set_option linter.unusedVariables false
set_option linter.unusedSimpArgs false
set_option maxRecDepth 100000 in
set_option maxHeartbeats 8000000 in
theorem same16 (w : World) (v1 v2 : Value) (es : List Ev) (h1 : RdE w v1 es) (h2 : RdE w v2 es) (hl : es.length < 1000000) :
    Calls Tryd.prog 16 #[v1, v2] w fun e w' => e = .returned (.bool true) ∧ Below w.heap.size w w' := by
  obtain ⟨n, hn⟩ : ∃ n, n = es.length := ⟨_, rfl⟩
  obtain ⟨a1, c1, rfl, z1, z2⟩ := id h1
  obtain ⟨a2, c2, rfl, z3, z4⟩ := id h2
  clear z1 z2 z3 z4
  rw [← hn] at h1 h2 hl ⊢
  have HN := hid hn
  have H1 := hid h1
  have H2 := hid h2
  have nn : ((n : Int) != (n : Int)) = false := by simp
  clear hn h1 h2
  go_enter Tryd.func16, Tryd.ntmps16
  go_wp2_with fail
  go_loopw [13] (fun i wr => ∃ (k : Nat), k ≤ n ∧ i = .int .i64 k ∧ Below w.heap.size w wr) (fun i _ => n - (intOf i).toNat)
  case atStart => exact ⟨0, Nat.zero_le _, rfl, Below.refl _ _⟩
  case round =>
    obtain ⟨k, hk, rfl, hb⟩ := hrel
    by_cases hlt : k < n
    · obtain ⟨b1, d1, e1, _, hh1⟩ := H1.out.below hb
      obtain ⟨b2, d2, e2, _, hh2⟩ := H2.out.below hb
      simp only [Value.slice.injEq] at e1 e2
      obtain ⟨rfl, e8, rfl⟩ := e1
      obtain ⟨rfl, e9, rfl⟩ := e2
      clear e8 e9
      obtain ⟨g1, o1, rfl, hg1, hc1⟩ := hh1 (by have := HN.out; omega)
      obtain ⟨g2, o2, rfl, hg2, hc2⟩ := hh2 (by have := HN.out; omega)
      have q1 := hc1 k (by have := HN.out; omega)
      have q2 := hc2 k (by have := HN.out; omega)
      generalize evAt es k = ev at *
      obtain ⟨u0, u1, u2, u3, u4⟩ := ev
      simp only at q1 q2
      have HS := hid (show ∀ y, Below wr.heap.size wr y → (y.cell? ⟨g1, o1 + k * 5, none⟩ = some (.int .i64 u0) ∧ y.cell? ⟨g1, o1 + k * 5 + 1, none⟩ = some (.int .i64 u1) ∧ y.cell? ⟨g1, o1 + k * 5 + 2, none⟩ = some (.int .i64 u2) ∧ y.cell? ⟨g1, o1 + k * 5 + 3, none⟩ = some (.int .i64 u3) ∧ y.cell? ⟨g1, o1 + k * 5 + 4, none⟩ = some (.int .i64 u4)) ∧
        (y.cell? ⟨g2, o2 + k * 5, none⟩ = some (.int .i64 u0) ∧ y.cell? ⟨g2, o2 + k * 5 + 1, none⟩ = some (.int .i64 u1) ∧ y.cell? ⟨g2, o2 + k * 5 + 2, none⟩ = some (.int .i64 u2) ∧ y.cell? ⟨g2, o2 + k * 5 + 3, none⟩ = some (.int .i64 u3) ∧ y.cell? ⟨g2, o2 + k * 5 + 4, none⟩ = some (.int .i64 u4)) from fun y hy =>
          ⟨⟨(hy.cell (p := ⟨g1, _, none⟩) hg1).trans q1.1, (hy.cell (p := ⟨g1, _, none⟩) hg1).trans q1.2.1, (hy.cell (p := ⟨g1, _, none⟩) hg1).trans q1.2.2.1, (hy.cell (p := ⟨g1, _, none⟩) hg1).trans q1.2.2.2.1, (hy.cell (p := ⟨g1, _, none⟩) hg1).trans q1.2.2.2.2⟩,
           ⟨(hy.cell (p := ⟨g2, _, none⟩) hg2).trans q2.1, (hy.cell (p := ⟨g2, _, none⟩) hg2).trans q2.2.1, (hy.cell (p := ⟨g2, _, none⟩) hg2).trans q2.2.2.1, (hy.cell (p := ⟨g2, _, none⟩) hg2).trans q2.2.2.2.1, (hy.cell (p := ⟨g2, _, none⟩) hg2).trans q2.2.2.2.2⟩⟩)
      have HB := hid hb
      have HD := hid (show Below wr.heap.size wr wr.drew from Quiet.below ⟨1, rfl⟩ _)
      have RF := hid (ref_any u0 u1 u2 u3 u4 wr.drew)
      clear hc1 hc2 hh1 hh2 q1 q2 hb
      go_upto_region 6 with (fail)
      go_region_held3 (fun y => (y.cell? ⟨g1, o1 + k * 5, none⟩ = some (.int .i64 u0) ∧ y.cell? ⟨g1, o1 + k * 5 + 1, none⟩ = some (.int .i64 u1) ∧ y.cell? ⟨g1, o1 + k * 5 + 2, none⟩ = some (.int .i64 u2) ∧ y.cell? ⟨g1, o1 + k * 5 + 3, none⟩ = some (.int .i64 u3) ∧ y.cell? ⟨g1, o1 + k * 5 + 4, none⟩ = some (.int .i64 u4)) ∧
        (y.cell? ⟨g2, o2 + k * 5, none⟩ = some (.int .i64 u0) ∧ y.cell? ⟨g2, o2 + k * 5 + 1, none⟩ = some (.int .i64 u1) ∧ y.cell? ⟨g2, o2 + k * 5 + 2, none⟩ = some (.int .i64 u2) ∧ y.cell? ⟨g2, o2 + k * 5 + 3, none⟩ = some (.int .i64 u3) ∧ y.cell? ⟨g2, o2 + k * 5 + 4, none⟩ = some (.int .i64 u4)))
        (first
          | exact HS.out _ HD.out
          | exact HS.out _ B7.out)
        (first
          | (go_at_call 10; (with_reducible refine RF.out.mono ?_); rintro e w7 ⟨rfl, hb7⟩; have B7 := hid (HD.out.trans (hb7.mono HD.out.size)); clear hb7))
      all_goals
        have B8 := HB.out.trans (B7.out.mono HB.out.size)
        clear RF HS
        go_wp2_with fail
        go_roundw
        case rel => exact ⟨k + 1, by omega, by go_num, B8⟩
        case measure => simp [intOf]; omega
    · obtain rfl : k = n := by omega
      go_wp2
      go_ret
      exact ⟨rfl, hb⟩
end Go.Proofs.YtnaphgjkkagpoaaDoor
