/- The document's rows of events: Refs, Text, same. -/
import Derived.Test.YtnaphgjkkagpoaaDoorGlyR2
import Derived.Test.YtnaphgjkkagpoaaDoorEvent2
import Derived.Test.YtnaphgjkkagpoaaDoorAppE
namespace Go.Proofs.YtnaphgjkkagpoaaDoor
set_option linter.unusedVariables false
set_option linter.unusedSimpArgs false
set_option maxRecDepth 20000
open Go.RowKit

theorem infoRe : (Tryd.prog.info? 34).map (fun i => (i.zero, i.size, i.bytes)) = some (some (.agg #[.int .i64 0, .int .i64 0, .int .i64 0, .int .i64 0, .int .i64 0]), 5, 40) := by kernel_rfl
theorem news_ev (w : World) (e : Ev) (t : TypeId) : ∀ j u, (fe [e])[j]? = some u → (w.alloc (.cells #[.int .i64 e.1, .int .i64 e.2.1, .int .i64 e.2.2.1, .int .i64 e.2.2.2.1, .int .i64 e.2.2.2.2] t)).cell? ((⟨w.heap.size, 0, none⟩ : Addr).add j) = some u := by
  intro j u hj
  have hj5 : j < 5 := by
    have := (List.getElem?_eq_some_iff.1 hj).1
    rw [fe_len] at this
    simpa using this
  have hnw := heap_alloc_new w (.cells #[.int .i64 e.1, .int .i64 e.2.1, .int .i64 e.2.2.1, .int .i64 e.2.2.2.1, .int .i64 e.2.2.2.2] t)
  have ha : (⟨w.heap.size, 0, none⟩ : Addr).add j = ⟨w.heap.size, 0 + j, none⟩ := Addr.add_lit _ _ _
  rw [ha, Nat.zero_add]
  simp only [fe, evc, List.flatMap_cons, List.flatMap_nil, List.append_nil] at hj
  simp only [World.cell?, hnw]
  rcases (show j = 0 ∨ j = 1 ∨ j = 2 ∨ j = 3 ∨ j = 4 by omega) with rfl | rfl | rfl | rfl | rfl <;> simpa using hj
theorem own_belowE {w w' : World} {base n sz : Nat} {t : TypeId} {v : Value} {xs : List Value} (h : w.ownsRow base t sz v n xs) (hb : Below w.heap.size w w') : w'.ownsRow base t sz v n xs := by
  obtain ⟨h0, ⟨h1, h2⟩ | ⟨g, cap, cur, h1, h2, h3, h4⟩⟩ := h
  · exact ⟨h0, .inl ⟨h1, h2⟩⟩
  · have hg : g < w.heap.size := by obtain ⟨hl, _⟩ := Array.getElem?_eq_some_iff.1 h3; exact hl
    exact ⟨h0, .inr ⟨g, cap, cur, h1, h2, (hb.block g hg).trans h3, h4⟩⟩
set_option maxHeartbeats 8000000 in
theorem refs_any (w : World) (v : Value) (es : List Ev) (h : RdE w v es) (hl : es.length ≤ 1000) : Calls Tryd.prog 15 #[v] w fun e w' => ∃ v', e = .returned v' ∧ RdE w' v' es ∧ Below w.heap.size w w' := by
  obtain ⟨n, hn⟩ : ∃ n, n = es.length := ⟨_, rfl⟩
  have HN := hid hn
  have RD := hid h
  obtain ⟨a, c, rfl, _, _⟩ := h
  rw [← hn] at hl ⊢
  obtain ⟨i0, hi, hz0, hz1, hz2⟩ := info_parts infoRe
  have HI := hid (And.intro hi (And.intro hz0 (And.intro hz1 hz2)))
  clear hn hi hz0 hz1 hz2
  go_enter Tryd.func15, Tryd.ntmps15
  go_wp2_with fail
  go_loopw [3, 8] (fun v3 i wr => ∃ (k : Nat), k ≤ n ∧ i = .int .i64 k ∧ Hid (wr.ownsRow w.heap.size 34 5 v3 k (fe (es.take k))) ∧ Hid (Below w.heap.size w wr)) (fun _ i _ => n - (intOf i).toNat)
  case atStart => exact ⟨0, Nat.zero_le _, rfl, hid (World.ownsRow_nil w _ _ _), hid (Below.refl _ _)⟩
  case round =>
    obtain ⟨k, hk, rfl, OW, B⟩ := hrel
    by_cases hlt : k < n
    · obtain ⟨a', c', e, _, hh⟩ := RD.out.below B.out
      simp only [Value.slice.injEq] at e
      obtain ⟨rfl, _, rfl⟩ := e
      obtain ⟨q, off, rfl, _, hc⟩ := hh (by have := HN.out; omega)
      obtain ⟨h0, h1, h2, h3, h4⟩ := hc k (by have := HN.out; omega)
      have TK := hid (show fe (es.take (k + 1)) = fe (es.take k) ++ fe [evAt es k] by rw [ev_take (by have := HN.out; omega), fe_app])
      generalize evAt es k = ev at *
      obtain ⟨kd, gg, mm, pp, vv⟩ := ev
      simp only at h0 h1 h2 h3 h4
      have hbs := B.out.size
      have B2 := hid (B.out.alloc B.out.size (.cells #[.int .i64 kd, .int .i64 gg, .int .i64 mm, .int .i64 pp, .int .i64 vv] 29))
      have OW2 := hid (World.ownsRow.alloc OW.out (.cells #[.int .i64 kd, .int .i64 gg, .int .i64 mm, .int .i64 pp, .int .i64 vv] 29))
      have RF := hid (ref_any kd gg mm pp vv (wr.alloc (.cells #[.int .i64 kd, .int .i64 gg, .int .i64 mm, .int .i64 pp, .int .i64 vv] 29)))
      have hbx := heap_alloc_new wr (.cells #[.int .i64 kd, .int .i64 gg, .int .i64 mm, .int .i64 pp, .int .i64 vv] 29)
      clear hh hc OW B
      go_wp2_with fail
      refine RF.out.mono ?_
      rintro e w3 ⟨rfl, hb3⟩
      have B3 := hid (B2.out.trans (hb3.mono B2.out.size))
      have OW3 : Hid (w3.ownsRow w.heap.size 34 5 _ k (fe (es.take k))) := hid (own_belowE OW2.out hb3)
      have hs3 := hb3.size
      clear RF B2 OW2 hb3
      have hO4 := World.ownsRow.alloc OW3.out (.cells #[.int .i64 kd, .int .i64 gg, .int .i64 mm, .int .i64 pp, .int .i64 vv] 34)
      have OWL := hid (World.ownsRow.lt OW3.out)
      have NW := news_ev w3 (kd, gg, mm, pp, vv) 34
      have hb4 := B3.out.alloc B3.out.size (.cells #[.int .i64 kd, .int .i64 gg, .int .i64 mm, .int .i64 pp, .int .i64 vv] 34)
      have hs4 : (w3.alloc (.cells #[.int .i64 kd, .int .i64 gg, .int .i64 mm, .int .i64 pp, .int .i64 vv] 34)).heap.size = w3.heap.size + 1 := by simp
      have hO5 := hid hO4
      have NW5 := hid NW
      have hb5 := hid hb4
      clear hO4 NW hb4
      go_wp2_with (at_builtin; refine wpList_append_own _ rfl _ _ 41 rfl w.heap.size 34 i0 _ 5 40 Tryd.underlying41 HI.out.1 HI.out.2.1 HI.out.2.2.1 HI.out.2.2.2 rfl (by decide) _ _ _ rfl hO5.out ⟨w3.heap.size, 0, none⟩ 1 1 (fe [(kd, gg, mm, pp, vv)]) rfl rfl NW5.out (fe_ones _) (by unfold maxLen; omega) (by omega) (by have := B3.out.size; omega) ?_)
      intro v' w6 hown6 hgrow _
      have O6 := hid (show w6.ownsRow w.heap.size 34 5 v' (k + 1) (fe (es.take (k + 1))) by rw [TK.out]; exact hown6)
      have B6 := hid (hb5.out.grown hgrow (by have := B3.out.size; omega) (fun q hq => (OWL.out q hq).1))
      clear hown6 hgrow hO5 OWL B3 OW3 hb5 NW5
      go_wp2
      go_roundw
      case rel => exact ⟨k + 1, by omega, by go_num, O6, B6⟩
      case measure => simp [intOf]; omega
    · obtain rfl : k = n := by omega
      rw [List.take_of_length_le (by have := HN.out; omega)] at OW
      have RR := hid (own_rdE (by rw [← HN.out]; exact OW.out))
      clear OW
      go_wp2
      go_ret
      exact ⟨_, rfl, RR.out, B.out⟩
end Go.Proofs.YtnaphgjkkagpoaaDoor
