/- hostlerlaw15.same of two rows that read alike; the document's Of. -/
import Derived.Test.YtfilocmoffpjmaaDoorOfE
import Derived.Test.YtfilocmoffpjmaaDoorEvent2
import Derived.Deep.RegionHeld3
import Derived.Deep.RegionWith
import Derived.Deep.CutRange
namespace Go.Proofs.YtfilocmoffpjmaaDoor
open Go.RowKit
set_option linter.unusedVariables false
set_option linter.unusedSimpArgs false
set_option maxRecDepth 100000 in
set_option maxHeartbeats 8000000 in
theorem same_ev (w : World) (v1 v2 : Value) (es : List Ev) (h1 : RdE w v1 es) (h2 : RdE w v2 es) (hl : es.length < 1000000) :
    Calls Tryd.prog 9 #[v1, v2] w fun e w' => e = .returned (.bool true) ∧ Below w.heap.size w w' := by
  obtain ⟨n, hn⟩ : ∃ n, n = es.length := ⟨_, rfl⟩
  obtain ⟨a1, c1, rfl, z1, z2⟩ := id h1
  obtain ⟨a2, c2, rfl, z3, z4⟩ := id h2
  clear z1 z2 z3 z4
  rw [← hn] at h1 h2 hl ⊢
  have HN := hid hn
  have H1 := hid h1
  have H2 := hid h2
  have nn : ((n : Int) != (n : Int)) = false := by simp
  clear hn h1 h2
  go_enter Tryd.func9, Tryd.ntmps9
  go_wp2_with fail
  go_loopw [13] (fun i wr => ∃ (k : Nat), k ≤ n ∧ i = .int .i64 k ∧ Below w.heap.size w wr) (fun i _ => n - (intOf i).toNat)
  case atStart => exact ⟨0, Nat.zero_le _, rfl, Below.refl _ _⟩
  case round =>
    obtain ⟨k, hk, rfl, hb⟩ := hrel
    by_cases hlt : k < n
    · obtain ⟨b1, d1, e1, _, hh1⟩ := H1.out.below hb
      obtain ⟨b2, d2, e2, _, hh2⟩ := H2.out.below hb
      simp only [Value.slice.injEq] at e1 e2
      obtain ⟨rfl, e8, rfl⟩ := e1
      obtain ⟨rfl, e9, rfl⟩ := e2
      clear e8 e9
      obtain ⟨g1, o1, rfl, hg1, hc1⟩ := hh1 (by have := HN.out; omega)
      obtain ⟨g2, o2, rfl, hg2, hc2⟩ := hh2 (by have := HN.out; omega)
      have q1 := hc1 k (by have := HN.out; omega)
      have q2 := hc2 k (by have := HN.out; omega)
      generalize evAt es k = ev at *
      obtain ⟨u0, u1, u2, u3, u4⟩ := ev
      simp only at q1 q2
      have HS := hid (show ∀ y, Below wr.heap.size wr y → (y.cell? ⟨g1, o1 + k * 5, none⟩ = some (.int .i64 u0) ∧ y.cell? ⟨g1, o1 + k * 5 + 1, none⟩ = some (.int .i64 u1) ∧ y.cell? ⟨g1, o1 + k * 5 + 2, none⟩ = some (.int .i64 u2) ∧ y.cell? ⟨g1, o1 + k * 5 + 3, none⟩ = some (.int .i64 u3) ∧ y.cell? ⟨g1, o1 + k * 5 + 4, none⟩ = some (.int .i64 u4)) ∧
        (y.cell? ⟨g2, o2 + k * 5, none⟩ = some (.int .i64 u0) ∧ y.cell? ⟨g2, o2 + k * 5 + 1, none⟩ = some (.int .i64 u1) ∧ y.cell? ⟨g2, o2 + k * 5 + 2, none⟩ = some (.int .i64 u2) ∧ y.cell? ⟨g2, o2 + k * 5 + 3, none⟩ = some (.int .i64 u3) ∧ y.cell? ⟨g2, o2 + k * 5 + 4, none⟩ = some (.int .i64 u4)) from fun y hy =>
          ⟨⟨(hy.cell (p := ⟨g1, _, none⟩) hg1).trans q1.1, (hy.cell (p := ⟨g1, _, none⟩) hg1).trans q1.2.1, (hy.cell (p := ⟨g1, _, none⟩) hg1).trans q1.2.2.1, (hy.cell (p := ⟨g1, _, none⟩) hg1).trans q1.2.2.2.1, (hy.cell (p := ⟨g1, _, none⟩) hg1).trans q1.2.2.2.2⟩,
           ⟨(hy.cell (p := ⟨g2, _, none⟩) hg2).trans q2.1, (hy.cell (p := ⟨g2, _, none⟩) hg2).trans q2.2.1, (hy.cell (p := ⟨g2, _, none⟩) hg2).trans q2.2.2.1, (hy.cell (p := ⟨g2, _, none⟩) hg2).trans q2.2.2.2.1, (hy.cell (p := ⟨g2, _, none⟩) hg2).trans q2.2.2.2.2⟩⟩)
      have HB := hid hb
      have HD := hid (show Below wr.heap.size wr wr.drew from Quiet.below ⟨1, rfl⟩ _)
      have RF := hid (ref_any u0 u1 u2 u3 u4 wr.drew)
      clear hc1 hc2 hh1 hh2 q1 q2 hb
      go_upto_region 6 with (fail)
      go_region_held3 (fun y => (y.cell? ⟨g1, o1 + k * 5, none⟩ = some (.int .i64 u0) ∧ y.cell? ⟨g1, o1 + k * 5 + 1, none⟩ = some (.int .i64 u1) ∧ y.cell? ⟨g1, o1 + k * 5 + 2, none⟩ = some (.int .i64 u2) ∧ y.cell? ⟨g1, o1 + k * 5 + 3, none⟩ = some (.int .i64 u3) ∧ y.cell? ⟨g1, o1 + k * 5 + 4, none⟩ = some (.int .i64 u4)) ∧
        (y.cell? ⟨g2, o2 + k * 5, none⟩ = some (.int .i64 u0) ∧ y.cell? ⟨g2, o2 + k * 5 + 1, none⟩ = some (.int .i64 u1) ∧ y.cell? ⟨g2, o2 + k * 5 + 2, none⟩ = some (.int .i64 u2) ∧ y.cell? ⟨g2, o2 + k * 5 + 3, none⟩ = some (.int .i64 u3) ∧ y.cell? ⟨g2, o2 + k * 5 + 4, none⟩ = some (.int .i64 u4)))
        (first
          | exact HS.out _ HD.out
          | exact HS.out _ B7.out)
        (first
          | (go_at_call 6; (with_reducible refine RF.out.mono ?_); rintro e w7 ⟨rfl, hb7⟩; have B7 := hid (HD.out.trans (hb7.mono HD.out.size)); clear hb7))
      all_goals
        have B8 := HB.out.trans (B7.out.mono HB.out.size)
        clear RF HS
        go_wp2_with fail
        go_roundw
        case rel => exact ⟨k + 1, by omega, by go_num, B8⟩
        case measure => simp [intOf]; omega
    · obtain rfl : k = n := by omega
      go_wp2
      go_ret
      exact ⟨rfl, hb⟩
/-- The document's Of. -/
theorem infoRe : (Tryd.prog.info? 32).map (fun i => (i.zero, i.size, i.bytes)) = some (some (.agg #[.int .i64 0, .int .i64 0, .int .i64 0, .int .i64 0, .int .i64 0]), 5, 40) := by kernel_rfl
set_option maxRecDepth 100000 in
set_option maxHeartbeats 8000000 in
theorem rof_ev (w : World) (v : Value) (es : List Ev) (h : RdE w v es) (hl : es.length < 1000) (g : Int) : Calls Tryd.prog 12 #[v, .int .i64 g] w (OfP w (ofE g es)) := by
  obtain ⟨n, hn⟩ : ∃ n, n = es.length := ⟨_, rfl⟩
  obtain ⟨a, c, rfl, z1, z2⟩ := id h
  clear z1 z2
  rw [← hn] at h hl ⊢
  have HN := hid hn
  have H := hid h
  obtain ⟨i0, hi, hz0, hz1, hz2⟩ := info_parts infoRe
  have HI := hid (And.intro hi (And.intro hz0 (And.intro hz1 hz2)))
  obtain ⟨Q, hQ⟩ : ∃ Q, Q = w.heap.size := ⟨_, rfl⟩
  have HQ := hid hQ
  have hQ0 : Q ≤ w.heap.size := by omega
  clear hn h hi hz0 hz1 hz2 hQ
  go_enter Tryd.func12, Tryd.ntmps12
  go_wp2_with fail
  go_loopw [5, 10] (fun v5 i wr => ∃ (k m : Nat) (a3 : Option Addr) (c3 : Nat), k ≤ n ∧ m ≤ k ∧ .slice a3 m c3 = v5 ∧ i = .int .i64 k ∧ Hid ((ofE g (es.take k)).length = m) ∧ Hid (wr.ownsRow Q 32 5 (.slice a3 m c3) m (fe (ofE g (es.take k)))) ∧ Hid (Below Q w wr) ∧ Q ≤ wr.heap.size) (fun _ i _ => n - (intOf i).toNat)
  case atStart => exact ⟨0, 0, none, 0, Nat.zero_le _, Nat.le_refl _, rfl, rfl, hid (by simp [ofE]), hid ⟨by simp [ofE, fe], .inl ⟨rfl, rfl⟩⟩, hid (Below.refl _ _), hQ0⟩
  case round =>
    obtain ⟨k, m, a3, c3, hk, hm, rfl, rfl, LN, OW, BR, hsr⟩ := hrel
    by_cases hlt : k < n
    · obtain ⟨b1, d1, e1, _, hh1⟩ := H.out.below (by rw [← HQ.out]; exact BR.out)
      simp only [Value.slice.injEq] at e1
      obtain ⟨rfl, e8, rfl⟩ := e1
      clear e8
      obtain ⟨g1, o1, rfl, hg1, hc1⟩ := hh1 (by have := HN.out; omega)
      obtain ⟨q0, q1, q2, q3, q4⟩ := hc1 k (by have := HN.out; omega)
      have T := hid (ev_take (es := es) (k := k) (by have := HN.out; omega))
      have SN := hid (ofE_snoc g (es.take k) (evAt es k))
      rw [← T.out] at SN
      generalize evAt es k = ev at *
      obtain ⟨u0, u1, u2, u3, u4⟩ := ev
      simp only at q0 q1 q2 q3 q4 SN
      have B2 := hid (BR.out.alloc hsr (.cells (evCs (u0, u1, u2, u3, u4)) 32))
      have O2 := hid (OW.out.alloc (.cells (evCs (u0, u1, u2, u3, u4)) 32))
      have hs2 : (wr.alloc (.cells (evCs (u0, u1, u2, u3, u4)) 32)).heap.size = wr.heap.size + 1 := by simp
      clear hh1 hc1 BR
      by_cases he : u1 = g
      · have hb : (u1 == g) = true := by simpa using he
        have S2 := hid (show ofE g (es.take (k + 1)) = ofE g (es.take k) ++ [(u0, u1, u2, u3, u4)] by rw [SN.out, if_pos he])
        have X2 := hid (heap_alloc_new wr (.cells (evCs (u0, u1, u2, u3, u4)) 32))
        have O3 := hid (O2.out.alloc (.cells (evCs (u0, u1, u2, u3, u4)) 32))
        have B3 := hid (B2.out.alloc (by omega) (.cells (evCs (u0, u1, u2, u3, u4)) 32))
        have hs3 : ((wr.alloc (.cells (evCs (u0, u1, u2, u3, u4)) 32)).alloc (.cells (evCs (u0, u1, u2, u3, u4)) 32)).heap.size = wr.heap.size + 2 := by simp
        subst he
        clear SN OW
        go_wp2_with (at_builtin; refine wpList_append_own _ rfl _ _ 26 rfl Q 32 i0 _ 5 40 Tryd.underlying26 HI.out.1 HI.out.2.1 HI.out.2.2.1 HI.out.2.2.2 rfl (by decide) _ _ _ rfl O3.out ⟨wr.heap.size + 1, 0, none⟩ 1 1 (fe [(u0, u1, u2, u3, u4)]) rfl rfl (by have := cell_ev_new (wr.alloc (.cells (evCs (u0, u1, u2, u3, u4)) 32)) (u0, u1, u2, u3, u4) 32; simpa using this) (fe_ones _) (by unfold maxLen; omega) (by omega) (by simp; omega) ?_)
        intro v' w1 hown' hgrow _
        obtain ⟨g', cap', rfl⟩ := ownsRow_succ hown'
        have B4 := hid (B3.out.grown hgrow (by omega) (fun q hq => (World.ownsRow.lt O3.out q hq).1))
        have hs4 := hgrow.size
        have O4 := hid (show w1.ownsRow Q 32 5 (.slice (some ⟨g', 0, none⟩) (m + 1) cap') (m + 1) (fe (ofE u1 (es.take (k + 1)))) by rw [S2.out, fe_app]; exact hown')
        have L4 := hid (show (ofE u1 (es.take (k + 1))).length = m + 1 by rw [S2.out, List.length_append, LN.out]; rfl)
        clear hown' hgrow O3 B3 O2 B2 X2
        go_wp2_with fail
        go_roundw
        case rel => exact ⟨k + 1, m + 1, _, _, by omega, by omega, rfl, by go_num, L4, O4, B4, by simp at hs4; omega⟩
        case measure => simp [intOf]; omega
      · have hb : (u1 == g) = false := by simpa using he
        have S2 := hid (show ofE g (es.take (k + 1)) = ofE g (es.take k) by rw [SN.out, if_neg he, List.append_nil])
        have L4 := hid (show (ofE g (es.take (k + 1))).length = m by rw [S2.out]; exact LN.out)
        have O4 := hid (show (wr.alloc (.cells (evCs (u0, u1, u2, u3, u4)) 32)).ownsRow Q 32 5 (.slice a3 m c3) m (fe (ofE g (es.take (k + 1)))) by rw [S2.out]; exact O2.out)
        clear SN OW
        go_wp2_with fail
        go_roundw
        case rel => exact ⟨k + 1, m, _, _, by omega, by omega, rfl, by go_num, L4, O4, B2, by simp; omega⟩
        case measure => simp [intOf]; omega
    · obtain rfl : k = n := by omega
      rw [List.take_of_length_le (by have := HN.out; omega)] at LN OW
      have L := World.ownsRow.lt OW.out
      have FIN := hid (show OfP w (ofE g es) (.returned (.slice a3 m c3)) wr from ⟨_, rfl, own_rdE (by rw [LN.out]; exact OW.out), fun q hq => by rw [← HQ.out]; exact L q hq, by rw [← HQ.out]; exact BR.out⟩)
      clear OW LN BR L
      go_wp2
      go_ret
      exact FIN.out
end Go.Proofs.YtfilocmoffpjmaaDoor
