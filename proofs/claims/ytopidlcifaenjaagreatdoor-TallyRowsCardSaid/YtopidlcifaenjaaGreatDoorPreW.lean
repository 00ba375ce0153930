/- What other texts are built of: TlF, TlM, TlW. -/
import Derived.Test.YtopidlcifaenjaaGreatDoorRdE
import Derived.Test.YtopidlcifaenjaaGreatDoorFlat
import Derived.Maps.AppendAt
import Derived.Test.YtopidlcifaenjaaGreatDoorPreT
import Derived.Deep.CutBlock
import Derived.Deep.RegionWith
/-! hostlerlaw15.Refs, for the tally's law. -/
namespace Go.Proofs.YtopidlcifaenjaaGreatDoor
open Go.RowKit
set_option linter.unusedVariables false
set_option linter.unusedSimpArgs false
set_option maxRecDepth 20000
theorem ref27 (k g m p v : Int) (w : World) : Calls Tryz.prog 21 #[.agg #[.int .i64 k, .int .i64 g, .int .i64 m, .int .i64 p, .int .i64 v]] w fun e w' => e = .returned (.agg #[.int .i64 k, .int .i64 g, .int .i64 m, .int .i64 p, .int .i64 v]) ∧ Below w.heap.size w w' := by
  go_enter Tryz.func21, Tryz.ntmps21
  go_wp2
  refine bodyPost_ret (v := .agg #[.int .i64 k, .int .i64 g, .int .i64 m, .int .i64 p, .int .i64 v]) (by simp [results, Tryz.results21, go_sem]) rfl ⟨rfl, ((Below.refl _ _).alloc (Nat.le_refl _) _).alloc (by simp) _⟩
theorem infoRe27 : (Tryz.prog.info? 57).map (fun i => (i.zero, i.size, i.bytes)) = some (some (.agg #[.int .i64 0, .int .i64 0, .int .i64 0, .int .i64 0, .int .i64 0]), 5, 40) := by kernel_rfl
theorem news_ev27 (w : World) (e : Ev) (t : TypeId) : ∀ j u, (fe [e])[j]? = some u → (w.alloc (.cells #[.int .i64 e.1, .int .i64 e.2.1, .int .i64 e.2.2.1, .int .i64 e.2.2.2.1, .int .i64 e.2.2.2.2] t)).cell? ((⟨w.heap.size, 0, none⟩ : Addr).add j) = some u := by
  intro j u hj
  have hj5 : j < 5 := by
    have := (List.getElem?_eq_some_iff.1 hj).1
    rw [fe_len] at this
    simpa using this
  have hnw := heap_alloc_new w (.cells #[.int .i64 e.1, .int .i64 e.2.1, .int .i64 e.2.2.1, .int .i64 e.2.2.2.1, .int .i64 e.2.2.2.2] t)
  have ha : (⟨w.heap.size, 0, none⟩ : Addr).add j = ⟨w.heap.size, 0 + j, none⟩ := Addr.add_lit _ _ _
  rw [ha, Nat.zero_add]
  simp only [fe, evc, List.flatMap_cons, List.flatMap_nil, List.append_nil] at hj
  simp only [World.cell?, hnw]
  rcases (show j = 0 ∨ j = 1 ∨ j = 2 ∨ j = 3 ∨ j = 4 by omega) with rfl | rfl | rfl | rfl | rfl <;> simpa using hj
theorem own_below27 {w w' : World} {base n sz : Nat} {t : TypeId} {v : Value} {xs : List Value} (h : w.ownsRow base t sz v n xs) (hb : Below w.heap.size w w') : w'.ownsRow base t sz v n xs := by
  obtain ⟨h0, ⟨h1, h2⟩ | ⟨g, cap, cur, h1, h2, h3, h4⟩⟩ := h
  · exact ⟨h0, .inl ⟨h1, h2⟩⟩
  · have hg : g < w.heap.size := by obtain ⟨hl, _⟩ := Array.getElem?_eq_some_iff.1 h3; exact hl
    exact ⟨h0, .inr ⟨g, cap, cur, h1, h2, (hb.block g hg).trans h3, h4⟩⟩
set_option maxHeartbeats 8000000 in
theorem refs27 (w : World) (v : Value) (es : List Ev) (h : RdE w v es) (hl : es.length ≤ 1000) : Calls Tryz.prog 8 #[v] w fun e w' => ∃ v', e = .returned v' ∧ RdE w' v' es ∧ Below w.heap.size w w' := by
  obtain ⟨n, hn⟩ : ∃ n, n = es.length := ⟨_, rfl⟩
  have HN := hid hn
  have RD := hid h
  obtain ⟨a, c, rfl, _, _⟩ := h
  rw [← hn] at hl ⊢
  obtain ⟨i0, hi, hz0, hz1, hz2⟩ := info_parts infoRe27
  have HI := hid (And.intro hi (And.intro hz0 (And.intro hz1 hz2)))
  clear hn hi hz0 hz1 hz2
  go_enter Tryz.func8, Tryz.ntmps8
  go_wp2_with fail
  go_loopw [3, 8] (fun v3 i wr => ∃ (k : Nat), k ≤ n ∧ i = .int .i64 k ∧ Hid (wr.ownsRow w.heap.size 57 5 v3 k (fe (es.take k))) ∧ Hid (Below w.heap.size w wr)) (fun _ i _ => n - (intOf i).toNat)
  case atStart => exact ⟨0, Nat.zero_le _, rfl, hid (World.ownsRow_nil w _ _ _), hid (Below.refl _ _)⟩
  case round =>
    obtain ⟨k, hk, rfl, OW, B⟩ := hrel
    by_cases hlt : k < n
    · obtain ⟨a', c', e, _, hh⟩ := RD.out.below B.out
      simp only [Value.slice.injEq] at e
      obtain ⟨rfl, _, rfl⟩ := e
      obtain ⟨q, off, rfl, _, hc⟩ := hh (by have := HN.out; omega)
      obtain ⟨h0, h1, h2, h3, h4⟩ := hc k (by have := HN.out; omega)
      have TK := hid (show fe (es.take (k + 1)) = fe (es.take k) ++ fe [evAt es k] by rw [ev_take (by have := HN.out; omega), fe_app])
      generalize evAt es k = ev at *
      obtain ⟨kd, gg, mm, pp, vv⟩ := ev
      simp only at h0 h1 h2 h3 h4
      have hbs := B.out.size
      have B2 := hid (B.out.alloc B.out.size (.cells #[.int .i64 kd, .int .i64 gg, .int .i64 mm, .int .i64 pp, .int .i64 vv] 43))
      have OW2 := hid (World.ownsRow.alloc OW.out (.cells #[.int .i64 kd, .int .i64 gg, .int .i64 mm, .int .i64 pp, .int .i64 vv] 43))
      have RF := hid (ref27 kd gg mm pp vv (wr.alloc (.cells #[.int .i64 kd, .int .i64 gg, .int .i64 mm, .int .i64 pp, .int .i64 vv] 43)))
      have hbx := heap_alloc_new wr (.cells #[.int .i64 kd, .int .i64 gg, .int .i64 mm, .int .i64 pp, .int .i64 vv] 43)
      clear hh hc OW B
      go_wp2_with fail
      refine RF.out.mono ?_
      rintro e w3 ⟨rfl, hb3⟩
      have B3 := hid (B2.out.trans (hb3.mono B2.out.size))
      have OW3 : Hid (w3.ownsRow w.heap.size 57 5 _ k (fe (es.take k))) := hid (own_below27 OW2.out hb3)
      have hs3 := hb3.size
      clear RF B2 OW2 hb3
      have hO4 := World.ownsRow.alloc OW3.out (.cells #[.int .i64 kd, .int .i64 gg, .int .i64 mm, .int .i64 pp, .int .i64 vv] 57)
      have OWL := hid (World.ownsRow.lt OW3.out)
      have NW := news_ev27 w3 (kd, gg, mm, pp, vv) 57
      have hb4 := B3.out.alloc B3.out.size (.cells #[.int .i64 kd, .int .i64 gg, .int .i64 mm, .int .i64 pp, .int .i64 vv] 57)
      have hs4 : (w3.alloc (.cells #[.int .i64 kd, .int .i64 gg, .int .i64 mm, .int .i64 pp, .int .i64 vv] 57)).heap.size = w3.heap.size + 1 := by simp
      have hO5 := hid hO4
      have NW5 := hid NW
      have hb5 := hid hb4
      clear hO4 NW hb4
      go_wp2_with (at_builtin; refine wpList_append_own _ rfl _ _ 28 rfl w.heap.size 57 i0 _ 5 40 Tryz.underlying28 HI.out.1 HI.out.2.1 HI.out.2.2.1 HI.out.2.2.2 rfl (by decide) _ _ _ rfl hO5.out ⟨w3.heap.size, 0, none⟩ 1 1 (fe [(kd, gg, mm, pp, vv)]) rfl rfl NW5.out (fe_ones _) (by unfold maxLen; omega) (by omega) (by have := B3.out.size; omega) ?_)
      intro v' w6 hown6 hgrow _
      have O6 := hid (show w6.ownsRow w.heap.size 57 5 v' (k + 1) (fe (es.take (k + 1))) by rw [TK.out]; exact hown6)
      have B6 := hid (hb5.out.grown hgrow (by have := B3.out.size; omega) (fun q hq => (OWL.out q hq).1))
      clear hown6 hgrow hO5 OWL B3 OW3 hb5 NW5
      go_wp2
      go_roundw
      case rel => exact ⟨k + 1, by omega, by go_num, O6, B6⟩
      case measure => simp [intOf]; omega
    · obtain rfl : k = n := by omega
      rw [List.take_of_length_le (by have := HN.out; omega)] at OW
      have RR := hid (own_rdE (by rw [← HN.out]; exact OW.out))
      clear OW
      go_wp2
      go_ret
      exact ⟨_, rfl, RR.out, B.out⟩
end Go.Proofs.YtopidlcifaenjaaGreatDoor
/-! hostlerref27.Longest over any row. -/
namespace Go.Proofs.YtopidlcifaenjaaGreatDoor
open Go.RowKit
set_option linter.unusedVariables false
set_option linter.unusedSimpArgs false
set_option maxRecDepth 20000
theorem evAt_dropE (es : List Ev) (k i : Nat) : evAt (es.drop k) i = evAt es (k + i) := by simp [evAt, List.getD, List.getElem?_drop]
theorem drop_ev {es : List Ev} {k : Nat} (h : k < es.length) : es.drop k = evAt es k :: es.drop (k + 1) := by
  rw [List.drop_eq_getElem_cons h]
  simp [evAt, List.getElem?_eq_getElem h]
set_option maxHeartbeats 8000000 in
theorem rlongest_any (v : Value) (es : List Ev) (g : Int) (w : World) (hr : RdE w v es) (hl : es.length ≤ 1000) :
    Calls Tryz.prog 13 #[v, .int .i64 g] w fun e w' => e = .returned (.int .i64 (dlE g es)) ∧ Below w.heap.size w w' := by
  have RD := hid hr
  obtain ⟨a, c, rfl, ⟨hnc, hcm, _⟩, -⟩ := hr
  obtain ⟨n, hn⟩ : ∃ n, n = es.length := ⟨_, rfl⟩
  have HN := hid hn
  rw [← hn] at hl hnc ⊢
  have hcc : (c : Int) ≤ 9223372036854775807 := by unfold maxLen at hcm; omega
  have hnc2 : (n : Int) ≤ (c : Int) := by omega
  have LE := hid (dlE_le g es)
  clear hn
  go_enter Tryz.func13, Tryz.ntmps13
  go_wp2_with fail
  go_loopw [5, 13] (fun x i wr => ∃ k B : Nat, k ≤ n ∧ x = .int .i64 B ∧ i = .int .i64 k ∧ Hid (max B (dlE g (es.drop k)) = dlE g es) ∧ Hid (Below w.heap.size w wr))
    (fun _ i _ => n - (intOf i).toNat)
  case atStart => exact ⟨0, 0, by omega, rfl, rfl, hid (by simp), hid (Below.refl _ _)⟩
  case round =>
    obtain ⟨k, B, hk, rfl, rfl, F, BL⟩ := hrel
    have hB : B ≤ 1000 := by have := F.out; have := LE.out; have := HN.out; omega
    by_cases hlt : k < n
    · have RK := hid (RD.out.below BL.out)
      obtain ⟨a', c', e, _, hh⟩ := RD.out.below BL.out
      simp only [Value.slice.injEq] at e
      obtain ⟨rfl, e9, rfl⟩ := e
      clear e9
      obtain ⟨b, off, rfl, _, hc⟩ := hh (by have := HN.out; omega)
      obtain ⟨h0, h1, h2, h3, h4⟩ := hc k (by have := HN.out; omega)
      have T := hid (drop_ev (es := es) (k := k) (by have := HN.out; omega))
      have F2 : max B (max (addE g (evAt es k) (es.drop (k + 1))) (dlE g (es.drop (k + 1)))) = dlE g es := by have h := F.out; rw [T.out] at h; exact h
      generalize evAt es k = ev at *
      obtain ⟨kd, gg, mm, pp, vv⟩ := ev
      simp only at h0 h1 h2 h3 h4
      have B2 := hid (BL.out.alloc BL.out.size (.cells #[.int .i64 kd, .int .i64 gg, .int .i64 mm, .int .i64 pp, .int .i64 vv] 57))
      have FF := hid F2
      have hk0 : (0 : Int) ≤ (k : Int) := by omega
      have hk1 : (k : Int) + 1 ≤ (n : Int) := by omega
      clear hh hc F T F2
      by_cases hw : gg = g ∧ wts kd = true
      · obtain ⟨hg, hwt⟩ := hw
        have AD := hid (show addE g (kd, gg, mm, pp, vv) (es.drop (k + 1)) = (gapE g (es.drop (k + 1))).getD 0 by unfold addE; rw [if_pos ⟨hg, hwt⟩])
        rw [AD.out] at FF
        rcases (show kd = 0 ∨ kd = 1 ∨ kd = 3 by unfold wts at hwt; simp at hwt; omega) with rfl | rfl | rfl
        all_goals
          clear hwt AD
          subst hg
          by_cases hd1 : k + 1 < n
          · have hck : ¬ c = k + 1 := by omega
            go_upto_region 8 with (fail)
            obtain ⟨d, hd⟩ : ∃ d, d = n - (k + 1) := ⟨_, rfl⟩
            rw [← hd]
            have HD := hid hd
            have hdm : d ≤ 1000 := by omega
            clear hd h0 h1 h2 h3 h4 RK
            go_loopw [5, 8, 42] (fun x y i wr => ∃ j : Nat, j ≤ d ∧ x = .int .i64 B ∧ y = .int .i64 j ∧ i = .int .i64 j ∧ Hid (∀ q, q < j → (evAt (es.drop (k + 1)) q).2.1 ≠ gg) ∧ Hid (Below w.heap.size w wr)) (fun _ _ i _ => d - (intOf i).toNat)
            case atStart => exact ⟨0, Nat.zero_le _, rfl, rfl, rfl, hid (fun q h => by omega), B2⟩
            case round =>
              obtain ⟨j, hj, rfl, rfl, rfl, NO, BJ⟩ := hrel
              have hlen : Hid ((es.drop (k + 1)).length = d) := hid (by rw [List.length_drop]; have := HD.out; have := HN.out; omega)
              by_cases hjd : j < d
              · have hjd2 : (j : Int) < (d : Int) := by omega
                obtain ⟨a', c', e, _, hh⟩ := RD.out.below BJ.out
                simp only [Value.slice.injEq, Option.some.injEq, Addr.mk.injEq] at e
                obtain ⟨rfl, e9, rfl⟩ := e
                clear e9
                obtain ⟨b', off', e, _, hc⟩ := hh (by have := HN.out; omega)
                simp only [Option.some.injEq, Addr.mk.injEq, and_true] at e
                obtain ⟨rfl, rfl⟩ := e
                obtain ⟨h0, h1, h2, h3, h4⟩ := hc (k + 1 + j) (by have := HN.out; have := HD.out; omega)
                have EV := hid (evAt_dropE es (k + 1) j)
                generalize evAt es (k + 1 + j) = ev at *
                obtain ⟨kd2, g2, mm2, pp2, vv2⟩ := ev
                simp only at h0 h1 h2 h3 h4
                rw [show off + (k + 1 + j) * 5 = off + (k + 1) * 5 + j * 5 by omega] at h0 h1 h2 h3 h4
                have B3 := hid (BJ.out.alloc BJ.out.size (.cells #[.int .i64 kd2, .int .i64 g2, .int .i64 mm2, .int .i64 pp2, .int .i64 vv2] 57))
                clear hh hc BJ
                by_cases hg2 : g2 = gg
                · have GA := hid (gapE_at gg (es.drop (k + 1)) j (fun q h _ => NO.out q h) (by rw [hlen.out]; exact hjd) (by rw [EV.out]; exact hg2))
                  have hgb : (g2 == gg) = true := by simpa using hg2
                  clear NO EV hg2
                  by_cases hBj : B < j
                  · have hBj2 : (B : Int) < (j : Int) := by omega
                    have F5 := hid (show max j (dlE gg (es.drop (k + 1))) = dlE gg es by have h := FF.out; rw [GA.out, Option.getD_some] at h; omega)
                    clear FF GA
                    go_wp2_with fail
                    exact ⟨⟨k + 1, j, by omega, rfl, by go_num, F5, B3⟩, by simp [intOf]; omega⟩
                  · have hBj2 : ¬ (B : Int) < (j : Int) := by omega
                    have F5 := hid (show max B (dlE gg (es.drop (k + 1))) = dlE gg es by have h := FF.out; rw [GA.out, Option.getD_some] at h; omega)
                    clear FF GA
                    go_wp2_with fail
                    exact ⟨⟨k + 1, B, by omega, rfl, by go_num, F5, B3⟩, by simp [intOf]; omega⟩
                · have hgb : (g2 == gg) = false := by simpa using hg2
                  have N2 := hid (show ∀ q, q < j + 1 → (evAt (es.drop (k + 1)) q).2.1 ≠ gg from fun q h => by
                    rcases Nat.lt_or_ge q j with l | l
                    · exact NO.out q l
                    · obtain rfl : q = j := by omega
                      rw [EV.out]; exact hg2)
                  clear NO EV hg2 FF
                  go_wp2_with fail
                  go_roundw
                  case rel => exact ⟨j + 1, by omega, rfl, by go_num, by go_num, N2, B3⟩
                  case measure => simp [intOf]; omega
              · obtain rfl : j = d := by omega
                have hjd2 : ¬ (j : Int) < (j : Int) := by omega
                have GA := hid (gapE_none gg (es.drop (k + 1)) (fun q h => NO.out q (by rw [hlen.out] at h; exact h)))
                have F5 := hid (show max B (dlE gg (es.drop (k + 1))) = dlE gg es by have h := FF.out; rw [GA.out, Option.getD_none] at h; omega)
                clear FF GA NO
                go_wp2_with fail
                exact ⟨⟨k + 1, B, by omega, rfl, by go_num, F5, BJ⟩, by simp [intOf]; omega⟩
          · obtain rfl : n = k + 1 := by omega
            have F5 := hid (show max B (dlE gg (es.drop (k + 1))) = dlE gg es by
              have h := FF.out
              rw [List.drop_of_length_le (by have := HN.out; omega)] at h ⊢
              simpa [gapE] using h)
            clear FF RK
            rcases (show c = k + 1 ∨ (k + 1 < c ∧ ¬ c = k + 1) by omega) with hck | ⟨_, hck⟩
            all_goals
              go_upto_region 8 with (fail)
              clear h0 h1 h2 h3 h4
              go_loopw [5, 42] (fun x i wr => x = .int .i64 B ∧ i = .int .i64 0 ∧ Hid (Below w.heap.size w wr)) (fun _ _ _ => 0)
              case atStart => exact ⟨rfl, rfl, B2⟩
              case round =>
                obtain ⟨rfl, rfl, BJ⟩ := hrel
                go_wp2_with fail
                exact ⟨⟨k + 1, B, by omega, rfl, by go_num, F5, BJ⟩, by simp [intOf]⟩
      · have F3 := hid (show max B (dlE g (es.drop (k + 1))) = dlE g es by
          have h := FF.out
          unfold addE at h
          rw [if_neg hw] at h
          simpa using h)
        clear FF
        by_cases hg : gg = g
        · have hwt : wts kd = false := by simpa using fun h => hw ⟨hg, h⟩
          have k0 : (kd != 0) = true := by unfold wts at hwt; simp at hwt; simp; omega
          have k1 : (kd != 1) = true := by unfold wts at hwt; simp at hwt; simp; omega
          have k3 : (kd != 3) = true := by unfold wts at hwt; simp at hwt; simp; omega
          clear hw hwt
          subst hg
          go_wp2_with fail
          go_roundw
          case rel => exact ⟨k + 1, B, by omega, rfl, by go_num, F3, B2⟩
          case measure => simp [intOf]; omega
        · have hgn : (gg != g) = true := by simpa using hg
          clear hw hg
          go_wp2_with fail
          go_roundw
          case rel => exact ⟨k + 1, B, by omega, rfl, by go_num, F3, B2⟩
          case measure => simp [intOf]; omega
    · obtain rfl : k = n := by omega
      have FN := hid (show B = dlE g es by
        have h := F.out
        rw [List.drop_of_length_le (by have := HN.out; omega)] at h
        simpa [dlE] using h)
      clear F LE
      go_wp2
      go_ret
      exact ⟨by rw [← FN.out]; rfl, BL.out⟩
end Go.Proofs.YtopidlcifaenjaaGreatDoor
/-! hostlerlaw27.row: true of a row that is right. -/
namespace Go.Proofs.YtopidlcifaenjaaGreatDoor
open Go.RowKit
set_option linter.unusedVariables false
set_option linter.unusedSimpArgs false
set_option maxRecDepth 20000
theorem rowcells {w : World} {p : Nat} {G L : Int} {f : Nat → Int} (h : w.heap[p]? = some (.cells (rowc G f L) 32 (0, 0))) :
    w.cell? ⟨p, 0, none⟩ = some (.int .i64 G) ∧ w.cell? ⟨p, 1, none⟩ = some (.int .i64 (f 0)) ∧ w.cell? ⟨p, 2, none⟩ = some (.int .i64 (f 1)) ∧ w.cell? ⟨p, 3, none⟩ = some (.int .i64 (f 2)) ∧ w.cell? ⟨p, 4, none⟩ = some (.int .i64 (f 3)) ∧ w.cell? ⟨p, 5, none⟩ = some (.int .i64 (f 4)) ∧ w.cell? ⟨p, 6, none⟩ = some (.int .i64 (f 5)) ∧ w.cell? ⟨p, 7, none⟩ = some (.int .i64 (f 6)) ∧ w.cell? ⟨p, 8, none⟩ = some (.int .i64 (f 7)) ∧ w.cell? ⟨p, 9, none⟩ = some (.int .i64 L) := by
  simp [World.cell?, h, rowc]
theorem idx8 (a0 a1 a2 a3 a4 a5 a6 a7 : Int) (w : World) :
    (Instr.index 30 (.agg #[.int .i64 a0, .int .i64 a1, .int .i64 a2, .int .i64 a3, .int .i64 a4, .int .i64 a5, .int .i64 a6, .int .i64 a7]) (.int .i64 0)).run Tryz.prog w = .ok (.int .i64 a0) w ∧
    (Instr.index 30 (.agg #[.int .i64 a0, .int .i64 a1, .int .i64 a2, .int .i64 a3, .int .i64 a4, .int .i64 a5, .int .i64 a6, .int .i64 a7]) (.int .i64 1)).run Tryz.prog w = .ok (.int .i64 a1) w ∧
    (Instr.index 30 (.agg #[.int .i64 a0, .int .i64 a1, .int .i64 a2, .int .i64 a3, .int .i64 a4, .int .i64 a5, .int .i64 a6, .int .i64 a7]) (.int .i64 2)).run Tryz.prog w = .ok (.int .i64 a2) w ∧
    (Instr.index 30 (.agg #[.int .i64 a0, .int .i64 a1, .int .i64 a2, .int .i64 a3, .int .i64 a4, .int .i64 a5, .int .i64 a6, .int .i64 a7]) (.int .i64 3)).run Tryz.prog w = .ok (.int .i64 a3) w ∧
    (Instr.index 30 (.agg #[.int .i64 a0, .int .i64 a1, .int .i64 a2, .int .i64 a3, .int .i64 a4, .int .i64 a5, .int .i64 a6, .int .i64 a7]) (.int .i64 4)).run Tryz.prog w = .ok (.int .i64 a4) w ∧
    (Instr.index 30 (.agg #[.int .i64 a0, .int .i64 a1, .int .i64 a2, .int .i64 a3, .int .i64 a4, .int .i64 a5, .int .i64 a6, .int .i64 a7]) (.int .i64 5)).run Tryz.prog w = .ok (.int .i64 a5) w ∧
    (Instr.index 30 (.agg #[.int .i64 a0, .int .i64 a1, .int .i64 a2, .int .i64 a3, .int .i64 a4, .int .i64 a5, .int .i64 a6, .int .i64 a7]) (.int .i64 6)).run Tryz.prog w = .ok (.int .i64 a6) w ∧
    (Instr.index 30 (.agg #[.int .i64 a0, .int .i64 a1, .int .i64 a2, .int .i64 a3, .int .i64 a4, .int .i64 a5, .int .i64 a6, .int .i64 a7]) (.int .i64 7)).run Tryz.prog w = .ok (.int .i64 a7) w :=
  ⟨by kernel_rfl, by kernel_rfl, by kernel_rfl, by kernel_rfl, by kernel_rfl, by kernel_rfl, by kernel_rfl, by kernel_rfl⟩
set_option maxHeartbeats 8000000 in
theorem row27 (w : World) (v : Value) (es : List Ev) (G L : Int) (hr : RdE w v es) (hl : es.length ≤ 1000) (hL : LastIs G es L) (h0 : 0 ≤ L) :
    Calls Tryz.prog 11 #[v, .agg (rowc G (cntf G es) L)] w fun e w' => e = .returned (.bool true) ∧ Below w.heap.size w w' := by
  obtain ⟨f, hf⟩ : ∃ f, f = cntf G es := ⟨_, rfl⟩
  rw [← hf]
  have HF := hid hf
  have BX := hid (heap_alloc_new w (.cells (rowc G f L) 32))
  have B1 := hid (show Below w.heap.size w (w.alloc (.cells (rowc G f L) 32)) from (Below.refl _ _).alloc (Nat.le_refl _) _)
  have RF := hid (refs27 _ v es (hr.below B1.out) hl)
  have SZ := hid (show w.heap.size < (w.alloc (.cells (rowc G f L) 32)).heap.size by simp)
  have LU := hid (fun x (h : LastIs G es x) => h.unique hL)
  have RC := hid (fun w v (q : Int) (h : RdE w v es) => rcount_any v es G q w h hl)
  have RL := hid (fun w v (h : RdE w v es) => (rlast_any v es G w h hl).mono (R' := fun e w' => e = .returned (.int .i64 L) ∧ w' = w) (fun e w' ⟨x, he, hx, hw⟩ => ⟨by rw [he, LU.out x hx], hw⟩))
  clear hf hr hL LU
  unfold rowc at BX B1 RF SZ
  unfold rowc
  go_enter Tryz.func11, Tryz.ntmps11
  go_upto_region 1 with (fail)
  generalize hX : w.heap.size = X at *
  generalize w.alloc (.cells #[.int .i64 G, .int .i64 (f 0), .int .i64 (f 1), .int .i64 (f 2), .int .i64 (f 3), .int .i64 (f 4), .int .i64 (f 5), .int .i64 (f 6), .int .i64 (f 7), .int .i64 L] 32) = w1 at *
  go_wp2_with fail
  refine RF.out.mono ?_
  rintro e w2 ⟨v2, rfl, hrd, hb2⟩
  have RD := hid hrd
  have B2 := hid (B1.out.trans (hb2.mono (Nat.le_of_lt SZ.out)))
  have HX := hid hX
  have X2 := hid ((hb2.block _ SZ.out).trans BX.out)
  have S2 := hid (show X < w2.heap.size by have := hb2.size; have := SZ.out; omega)
  clear hrd hb2 RF B1 BX SZ hX
  obtain ⟨c0, c1, c2, c3, c4, c5, c6, c7, c8, c9⟩ := rowcells X2.out
  go_wp2_with fail
  go_loopw [12] (fun i wr => ∃ k : Nat, k ≤ 8 ∧ i = .int .i64 k ∧ Hid (Below w2.heap.size w2 wr)) (fun i _ => 8 - (intOf i).toNat)
  case atStart => exact ⟨0, by omega, rfl, hid (Below.refl _ _)⟩
  case round =>
    clear c0 c1 c2 c3 c4 c5 c6 c7 c8 c9
    obtain ⟨k, hk, rfl, BR⟩ := hrel
    obtain ⟨c0, c1, c2, c3, c4, c5, c6, c7, c8, c9⟩ := rowcells ((BR.out.block _ S2.out).trans X2.out)
    by_cases hlt : k < 8
    · have CK : Calls Tryz.prog 23 #[v2, .int .i64 G, .int .i64 k] wr fun e w' => e = .returned (.int .i64 (f k)) ∧ Below wr.heap.size wr w' := by
        have h := RC.out wr v2 k (RD.out.below BR.out)
        rw [show cnk G k es = f k by rw [HF.out]; rfl] at h
        exact h
      clear RL RC
      obtain ⟨i0, i1, i2, i3, i4, i5, i6, i7⟩ := idx8 (f 0) (f 1) (f 2) (f 3) (f 4) (f 5) (f 6) (f 7) wr
      rcases (show k = 0 ∨ k = 1 ∨ k = 2 ∨ k = 3 ∨ k = 4 ∨ k = 5 ∨ k = 6 ∨ k = 7 by omega) with rfl | rfl | rfl | rfl | rfl | rfl | rfl | rfl
      all_goals
        simp only [Int.natCast_zero, Int.natCast_one, Int.cast_ofNat_Int] at CK
        have CK := hid CK
        go_wp2_with fail
        refine CK.out.mono ?_
        rintro e w4 ⟨rfl, hb4⟩
        have B4 := hid (BR.out.trans (hb4.mono BR.out.size))
        clear hb4 CK BR
        go_wp2_with fail
        go_roundw
        case rel => first
          | exact ⟨1, by omega, rfl, B4⟩
          | exact ⟨2, by omega, rfl, B4⟩
          | exact ⟨3, by omega, rfl, B4⟩
          | exact ⟨4, by omega, rfl, B4⟩
          | exact ⟨5, by omega, rfl, B4⟩
          | exact ⟨6, by omega, rfl, B4⟩
          | exact ⟨7, by omega, rfl, B4⟩
          | exact ⟨8, by omega, rfl, B4⟩
        case measure => simp [intOf]
    · obtain rfl : k = 8 := by omega
      have R1 := hid (fun y (hq : Quiet wr y) => RL.out y v2 ((RD.out.below BR.out).below (hq.below _)))
      have FN := hid (show Below w.heap.size w wr from by rw [HX.out]; exact B2.out.trans (BR.out.mono (Nat.le_of_lt S2.out)))
      clear RL RC BR B2 X2 RD
      have FN2 := hid (FN.out.trans (Quiet.below (w := wr) ⟨1, rfl⟩ w.heap.size))
      clear FN
      go_upto_region 8 with (fail)
      go_region_with (first
        | (go_at_call 10; refine (R1.out _ ⟨1, rfl⟩).mono ?_; rintro e y ⟨rfl, hy⟩; subst y))
      all_goals
        clear R1
        go_wp2
        go_ret
        exact ⟨rfl, FN2.out⟩
end Go.Proofs.YtopidlcifaenjaaGreatDoor
