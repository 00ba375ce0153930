/- The walk of the statement GlyphPrints: the law answers true and turns nothing that was there. -/
import Derived.Test.YtnaphgjkkagpoaaDoorGlyPa
import Derived.Test.YtnaphgjkkagpoaaDoorGlyS
import Derived.Test.YtnaphgjkkagpoaaDoorShAnd
import Derived.OpenShut
import Derived.Maps.AppendAt
import Derived.BigQuiet
import Derived.Deep.RegionHeld3
import Derived.Deep.RegionWith
import Derived.Deep.CutRange
namespace Go.Proofs.YtnaphgjkkagpoaaDoor.glyphPrints
open Go.RowKit
set_option linter.unusedVariables false
set_option linter.unusedSimpArgs false
set_option maxRecDepth 20000
theorem text_ne {es : List Ev} (h1 : allR es = true) (hf : ∀ e ∈ es, fitE e) (h0 : es ≠ []) : (textE es).size ≠ 0 := by
  intro h
  have h2 : (textE es).data.toList = [] := List.length_eq_zero_iff.1 (by rw [← Lib.size_eq]; exact h)
  have h3 := (text_nil h1)
  rw [ByteArray.toList_eq, h2, ByteArray.toList_eq] at h3
  have h4 : decide (es = []) = true := h3.symm.trans (by decide)
  exact h0 (of_decide_eq_true h4)
theorem words_text {es : List Ev} (h1 : allR es = true) (h0 : es ≠ []) : (wordsB (textE es)).map (·.data.toList) = wordsL es := by
  rw [wordsB_spl]
  show spl (Lib.join (wordsL es) [32]) = _
  exact spl_join (by simpa [wordsL] using h0) (fun x hx c hc => (wordsL_wo h1 x hx).2 c hc)
theorem words_textB {es : List Ev} (h1 : allR es = true) (h0 : es ≠ []) : wordsB (textE es) = es.map wordE := by
  have h := words_text h1 h0
  unfold wordsL at h
  exact (List.map_inj_right (fun a b e => ByteArray.ext (Array.toList_inj.1 e))).1 h
/-- The text of events that may be is parsed to them. -/
theorem parsed_text {es fs : List Ev} {ok : Bool} {n : Nat} (h1 : allR es = true) (hf : ∀ e ∈ es, fitE e) (h0 : es ≠ []) (P : Parsed (textE es) fs ok n) : ok = true ∧ n = 0 ∧ fs = es := by
  have hw := words_textB h1 h0
  cases ok with
  | false =>
    obtain ⟨hl, hno, _⟩ := P.no rfl
    have hl2 : fs.length < es.length := by rw [hw, List.length_map] at hl; exact hl
    refine absurd ?_ (hno es[fs.length])
    refine ⟨List.all_eq_true.1 h1 _ (List.getElem_mem hl2), hf _ (List.getElem_mem hl2), ?_⟩
    simp [hw]
  | true =>
    obtain ⟨hl, hn⟩ := P.yes rfl
    rw [hw, List.length_map] at hl
    have h2 := P.ws
    rw [hw, hl, List.take_of_length_le (by simp)] at h2
    have h3 : wordsL fs = wordsL es := by unfold wordsL; rw [h2]
    exact ⟨rfl, hn, wordsL_inj P.right h1 h3⟩

set_option maxHeartbeats 8000000 in
theorem walk (a0 : Option Addr) (len0 cap0 : Nat) (z0 : Nat → Nat → Int) (w : World)
    (w0 : IsStructs [.i64, .i64, .i64, .i64, .i64] w a0 len0 cap0 z0) (R : GlRunes w) (T : PwTab w) (S : ErrSy w) (E : ErrRa w) (SH : w.ShapedOpen Tryd.prog) :
    Calls Tryd.prog 4 #[.slice a0 len0 cap0] w fun e w' => e = .returned (.bool true) ∧ Below w.heap.size w w' := by
  have M := MaxL.of SH
  have LV := hid (lives16 w R T)
  by_cases hbig : (40 : Int) < len0
  · have LV2 : Hid (∀ w2 : World, Below w.heap.size w w2 → Calls Tryd.prog 6 #[] w2 fun e w' => e = .returned (.bool true) ∧ Below w2.heap.size w2 w') := hid (fun w2 hb => lives16 w2 (R.at hb) (T.at hb))
    clear R T w0 S E SH M
    go_enter Tryd.func4, Tryd.ntmps4
    go_wp2_with fail
    refine LV.out.mono ?_
    rintro e w2 ⟨rfl, hb⟩
    have B2 := hid hb
    clear LV
    go_wp2_with fail
    refine (LV2.out w2 hb).mono ?_
    rintro e w3 ⟨rfl, hb3⟩
    have B3 := hid (B2.out.trans (hb3.mono B2.out.size))
    clear hb hb3 B2 LV2
    go_wp2
    go_ret
    exact ⟨rfl, B3.out⟩
  · have h0 : (len0 : Int) ≤ 40 := by omega
    have l0 : len0 ≤ 40 := by omega
    obtain ⟨es, hes, fe', re⟩ := w0.rdEf
    have RE := hid re
    have HES := hid hes
    have FE := hid fe'
    have AT : Hid (∀ w2 : World, Below w.heap.size w w2 → GlRunes w2 ∧ PwTab w2 ∧ ErrSy w2 ∧ ErrRa w2 ∧ MaxL w2) := hid (fun w2 hb => ⟨R.at hb, T.at hb, S.at hb, E.at hb, M.at hb⟩)
    clear hbig R T S E SH M re hes w0 fe'
    go_enter Tryd.func4, Tryd.ntmps4
    go_wp2_with fail
    refine LV.out.mono ?_
    rintro e w1 ⟨rfl, hb⟩
    have B1 := hid hb
    clear LV hb
    go_wp2_with fail
    go_loopw [3, 24] (fun m i wr => ∃ (k : Nat) (q : Bool), k ≤ len0 ∧ m = .bool q ∧ i = .int .i64 k ∧ Hid (q = allR (es.take k)) ∧ Hid (Below w.heap.size w wr)) (fun _ i _ => len0 - (intOf i).toNat)
    case atStart => exact ⟨0, true, Nat.zero_le _, rfl, rfl, hid rfl, B1⟩
    case round =>
      obtain ⟨k, mq, hk, rfl, rfl, AR, B⟩ := hrel
      by_cases hlt : k < len0
      · obtain ⟨a', c', e, _, hh⟩ := RE.out _ B.out
        simp only [Value.slice.injEq] at e
        obtain ⟨rfl, e9, rfl⟩ := e
        clear e9
        obtain ⟨q, off, rfl, _, hc⟩ := hh (by have := HES.out; omega)
        obtain ⟨h0, h1, h2, h3, h4⟩ := hc k (by have := HES.out; omega)
        have AT2 := hid (allR_take (es := es) (k := k) (by have := HES.out; omega))
        have EM := hid (FE.out _ (evAt_mem (es := es) (k := k) (by have := HES.out; omega)))
        generalize evAt es k = ev at *
        obtain ⟨kd, gg, mm, pp, vv⟩ := ev
        simp only at h0 h1 h2 h3 h4
        clear hh hc
        go_upto_region 7 with (fail)
        have hbx := heap_alloc_new wr (.cells #[.int .i64 kd, .int .i64 gg, .int .i64 mm, .int .i64 pp, .int .i64 vv] 29)
        have B2 := hid (B.out.alloc B.out.size (.cells #[.int .i64 kd, .int .i64 gg, .int .i64 mm, .int .i64 pp, .int .i64 vv] 29))
        have BX := hid hbx
        have BL := hid (show wr.heap.size < (wr.alloc (.cells #[.int .i64 kd, .int .i64 gg, .int .i64 mm, .int .i64 pp, .int .i64 vv] 29)).heap.size by simp)
        generalize wr.alloc (.cells #[.int .i64 kd, .int .i64 gg, .int .i64 mm, .int .i64 pp, .int .i64 vv] 29) = w2 at *
        obtain ⟨c0, c1, c2, c3, c4⟩ := ev5c hbx
        clear h0 h1 h2 h3 h4 hbx B
        have RF := hid (ref_any kd gg mm pp vv w2)
        go_wp2_with fail
        refine RF.out.mono ?_
        rintro e w3 ⟨rfl, hb3⟩
        have RR := hid (rright_any kd gg mm pp vv w3)
        have B3 := hid hb3
        clear RF c0 c1 c2 c3 c4
        go_wp2_with fail
        refine RR.out.mono ?_
        rintro e w4 ⟨rfl, hb4⟩
        have B4 := hid (B3.out.trans (hb4.mono B3.out.size))
        clear RR B3 hb3 hb4
        obtain ⟨c0, c1, c2, c3, c4⟩ := ev5c ((B4.out.block _ BL.out).trans BX.out)
        have BW := hid (B2.out.trans (B4.out.mono B2.out.size))
        rcases hr : rightE (kd, gg, mm, pp, vv) with _ | _
        · have WB := hid (word_bad kd gg mm pp vv hr w4 ((AT.out w4 BW.out).1))
          have hr' : evRight kd gg mm pp vv = false := hr
          have AR2 := hid (show false = allR (es.take (k + 1)) by rw [AT2.out, hr]; simp)
          clear hr AT2
          go_wp2_with fail
          all_goals
            refine WB.out.mono ?_
            rintro e w5 ⟨rfl, hb5⟩
            have B5 := hid (BW.out.trans (hb5.mono BW.out.size))
            clear hb5 c0 c1 c2 c3 c4 BX BL B2 B4 BW WB
            go_wp2_with fail
            go_roundw
            case rel => exact ⟨k + 1, _, by omega, rfl, by go_num, AR2, B5⟩
            case measure => simp [intOf]; omega
        · obtain ⟨kk, hkk, hk8, hw⟩ := right_k hr
          simp only at hkk hw
          subst hkk
          have WA := hid (word_any kk gg mm pp vv hr EM.out w4 (AT.out w4 BW.out).1 (AT.out w4 BW.out).2.1)
          have RW := hid (rword_any kk gg mm pp vv hr EM.out)
          have hr' : evRight kk gg mm pp vv = true := hr
          have AR2 := hid (show mq = allR (es.take (k + 1)) by rw [AT2.out, hr, AR.out]; simp)
          clear hr AT2
          generalize wordB kk gg mm pp vv = wd at *
          cases mq
          all_goals
            go_wp2_with fail
            refine WA.out.mono ?_
            rintro e w5 ⟨rfl, hb5⟩
            have B5 := hid (BW.out.trans (hb5.mono BW.out.size))
            have BX5 := hid ((hb5.block _ (Nat.lt_of_lt_of_le BL.out B4.out.size)).trans ((B4.out.block _ BL.out).trans BX.out))
            clear hb5 c0 c1 c2 c3 c4 BX BL B2 B4 BW WA
            obtain ⟨c0, c1, c2, c3, c4⟩ := ev5c BX5.out
            have RF := hid (ref_any kk gg mm pp vv)
            have wne : (wd.toList != wd.toList) = false := by simp
            go_wp2_with fail
            refine (RF.out _).mono ?_
            rintro e w6 ⟨rfl, hb6⟩
            have B6 := hid (B5.out.trans (hb6.mono B5.out.size))
            clear hb6 B5 RF c0 c1 c2 c3 c4
            go_wp2_with fail
            refine (RW.out _).mono ?_
            rintro e w7 ⟨rfl, hb7⟩
            have B7 := hid (B6.out.trans (hb7.mono B6.out.size))
            clear hb7 B6
            go_wp2_with fail
            go_roundw
            case rel => exact ⟨k + 1, _, by omega, rfl, by go_num, AR2, B7⟩
            case measure => simp [intOf]; omega
      · obtain rfl : k = len0 := by omega
        rw [List.take_of_length_le (by have := HES.out; omega)] at AR
        have PR := hid (print_any _ es wr (AT.out _ B.out).1 (AT.out _ B.out).2.1 (RE.out _ B.out) FE.out (by have := HES.out; omega))
        cases mq
        · rw [← AR.out] at PR
          simp only [Bool.false_eq_true, if_false] at PR
          go_wp2_with fail
          refine PR.out.mono ?_
          rintro e w2 ⟨rfl, hb⟩
          have B2 := hid (B.out.trans (hb.mono B.out.size))
          clear hb B PR
          go_wp2
          go_ret
          exact ⟨rfl, B2.out⟩
        · rw [← AR.out] at PR
          simp only [if_true] at PR
          go_wp2_with fail
          refine PR.out.mono ?_
          rintro e w2 ⟨rfl, hb⟩
          have B2 := hid (B.out.trans (hb.mono B.out.size))
          clear hb B PR
          have RT := hid (fun w3 v hr => rtext_any w3 v es hr AR.out.symm FE.out (by have := HES.out; omega))
          have RS := hid (fun w3 (hb : Below w.heap.size w w3) => refs_any w3 _ es (RE.out w3 hb) (by have := HES.out; omega))
          have SA := hid (fun w3 v1 v2 h1 h2 => same16 w3 v1 v2 es h1 h2 (by have := HES.out; omega))
          have TSZ := hid (text_size' (es := es) AR.out.symm FE.out)
          have PA := hid (fun (hne : (textE es).size ≠ 0) => parse_any (textE es) (by have := TSZ.out; have := HES.out; omega) hne w2 (AT.out _ B2.out).1 (AT.out _ B2.out).2.1 (AT.out _ B2.out).2.2.1 (AT.out _ B2.out).2.2.2.1 (AT.out _ B2.out).2.2.2.2)
          have TX := hid (fun h0 => text_ne (es := es) AR.out.symm FE.out h0)
          have PT := hid (fun h0 fs ok n P => parsed_text (es := es) (fs := fs) (ok := ok) (n := n) AR.out.symm FE.out h0 P)
          have AT1 := hid AR.out.symm
          clear AR
          have PAR2 : Hid (Calls Tryd.prog 13 #[.string (textE es)] w2 fun e w' => ∃ v, e = .returned (.tuple #[v, .int .i64 0, .int .i64 0]) ∧ RdE w' v es ∧ Below w2.heap.size w2 w') := by
            by_cases ene : es = []
            · subst ene
              exact hid ((parse_nil w2).mono fun e w' ⟨h1, h2⟩ => ⟨_, h1, ⟨none, 0, rfl, ⟨by simp, by simp [maxLen], .inl ⟨rfl, rfl⟩⟩, fun h => by simp at h⟩, by subst h2; exact Below.refl _ _⟩)
            · exact hid ((PA.out (TX.out ene)).mono fun e w' ⟨v, fs, ok, n, h1, h2, h3, h4⟩ => by
                obtain ⟨rfl, rfl, rfl⟩ := PT.out ene _ _ _ h2
                exact ⟨v, h1, h3, h4⟩)
          clear TX PA PT
          generalize textE es = s at *
          have seq : (s.toList == s.toList) = true := by simp
          go_wp2_with fail
          refine PAR2.out.mono ?_
          rintro e w3 ⟨v, rfl, hv, hb⟩
          have B3 := hid (B2.out.trans (hb.mono B2.out.size))
          have HV := hid hv
          clear hb B2 hv PAR2
          have RFS := hid (RS.out w3 B3.out)
          go_wp2_with fail
          refine RFS.out.mono ?_
          rintro e w4 ⟨v4, rfl, h4, hb⟩
          have B4 := hid (B3.out.trans (hb.mono B3.out.size))
          have HV4 := hid (HV.out.below hb)
          have RTX := hid (RT.out w4 v4 h4)
          clear hb B3 HV h4 RFS RT
          go_wp2_with fail
          refine RTX.out.mono ?_
          rintro e w5 ⟨rfl, hb⟩
          have B5 := hid (B4.out.trans (hb.mono B4.out.size))
          have HV5 := hid (HV4.out.below hb)
          clear hb B4 HV4 RTX
          have RFS := hid (RS.out w5 B5.out)
          go_wp2_with fail
          refine RFS.out.mono ?_
          rintro e w6 ⟨v6, rfl, h6, hb⟩
          have B6 := hid (B5.out.trans (hb.mono B5.out.size))
          have SM := hid (SA.out w6 v v6 (HV5.out.below hb) h6)
          clear hb B5 HV5 h6 RFS RS SA
          go_wp2_with fail
          refine SM.out.mono ?_
          rintro e w7 ⟨rfl, hb⟩
          have B7 := hid (B6.out.trans (hb.mono B6.out.size))
          clear hb B6 SM
          go_wp2
          go_ret
          exact ⟨rfl, B7.out⟩
end Go.Proofs.YtnaphgjkkagpoaaDoor.glyphPrints
