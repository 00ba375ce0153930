/- The walk of the statement GlyphJoins: the law answers true and turns nothing that was there. -/
import Derived.Test.YtnaphgjkkagpoaaDoorGlyP
import Derived.Test.YtnaphgjkkagpoaaDoorAppE
import Derived.Test.YtnaphgjkkagpoaaDoorGlyph4
import Derived.OpenShut
import Derived.Maps.AppendAt
import Derived.BigQuiet
import Derived.Deep.RegionHeld3
import Derived.Deep.RegionWith
import Derived.Deep.CutRange
namespace Go.Proofs.YtnaphgjkkagpoaaDoor.glyphJoins
open Go.RowKit
set_option linter.unusedVariables false
set_option linter.unusedSimpArgs false
set_option maxRecDepth 20000
theorem take_eq {es fs : List Ev} {k : Nat} (h1 : k < es.length) (h2 : k < fs.length) (h : es.take k = fs.take k) : es.take (k + 1) = fs.take (k + 1) ↔ evAt es k = evAt fs k := by
  rw [ev_take h1, ev_take h2, h]
  simp
theorem eq_take {es fs : List Ev} {n m : Nat} (h1 : es.length = n) (h2 : fs.length = m) (h : n = m ∧ es.take n = fs.take n) : es = fs := by
  obtain ⟨h3, h4⟩ := h
  rwa [List.take_of_length_le (by omega), List.take_of_length_le (by omega)] at h4
theorem nil_list : ({ data := #[] } : ByteArray).toList = [] := by rw [ByteArray.toList_eq]
theorem to_nil {a : ByteArray} (h : (a.toList == (({ data := #[] } : ByteArray)).toList) = true) : a.toList = [] := (beq_iff_eq.1 h).trans nil_list
theorem to_ne {a : ByteArray} (h : (a.toList == (({ data := #[] } : ByteArray)).toList) = false) : ¬ a.toList = [] := fun e => beq_eq_false_iff_ne.1 h (e.trans nil_list.symm)
theorem sz32 : ({ data := #[32] } : ByteArray).size = 1 := rfl
theorem take_ne {es fs : List Ev} {k : Nat} (h : es.take k ≠ fs.take k) : es ≠ fs := fun e => h (by rw [e])

set_option maxHeartbeats 8000000 in
theorem walk (a0 : Option Addr) (len0 cap0 : Nat) (z0 : Nat → Nat → Int) (a1 : Option Addr) (len1 cap1 : Nat) (z1 : Nat → Nat → Int) (w : World)
    (w0 : IsStructs [.i64, .i64, .i64, .i64, .i64] w a0 len0 cap0 z0) (w1 : IsStructs [.i64, .i64, .i64, .i64, .i64] w a1 len1 cap1 z1) (R : GlRunes w) (T : PwTab w) :
    Calls Tryd.prog 3 #[.slice a0 len0 cap0, .slice a1 len1 cap1] w fun e w' => e = .returned (.bool true) ∧ Below w.heap.size w w' := by
  have LV := hid (lives16 w R T)
  by_cases hbig : (20 : Int) < len0 ∨ (20 : Int) < len1
  · have LV2 : Hid (∀ w2 : World, Below w.heap.size w w2 → Calls Tryd.prog 6 #[] w2 fun e w' => e = .returned (.bool true) ∧ Below w2.heap.size w2 w') := hid (fun w2 hb => lives16 w2 (R.at hb) (T.at hb))
    clear R T w0 w1
    rcases (show (20 : Int) < len0 ∨ ((len0 : Int) ≤ 20 ∧ (20 : Int) < len1) by omega) with h1 | ⟨h1, h2⟩
    all_goals
      clear hbig
      go_enter Tryd.func3, Tryd.ntmps3
      go_wp2_with fail
      refine LV.out.mono ?_
      rintro e w2 ⟨rfl, hb⟩
      have B2 := hid hb
      clear LV
      go_wp2_with fail
      refine (LV2.out w2 hb).mono ?_
      rintro e w3 ⟨rfl, hb3⟩
      have B3 := hid (B2.out.trans (hb3.mono B2.out.size))
      clear hb hb3 B2 LV2
      go_wp2
      go_ret
      exact ⟨rfl, B3.out⟩
  · have h0 : (len0 : Int) ≤ 20 := by omega
    have h1 : (len1 : Int) ≤ 20 := by omega
    have l0 : len0 ≤ 20 := by omega
    have l1 : len1 ≤ 20 := by omega
    obtain ⟨es, hes, fe', re⟩ := w0.rdEf
    obtain ⟨fs, hfs, ff', rf⟩ := w1.rdEf
    have RE := hid re
    have RF := hid rf
    have HES := hid hes
    have HFS := hid hfs
    have FE := hid fe'
    have FF := hid ff'
    have HR := hid R
    have HT := hid T
    have PRR : Hid (∀ (v : Value) (gs : List Ev) (w2 : World), Below w.heap.size w w2 → RdE w2 v gs → (∀ e ∈ gs, fitE e) → gs.length ≤ 1000 → allR gs = true → Calls Tryd.prog 7 #[v] w2 fun e w' => e = .returned (.tuple #[.string (textE gs), .int .i64 0]) ∧ Below w2.heap.size w2 w') :=
      hid (fun v gs w2 hb hr hf hl hx => by have := print_any v gs w2 (R.at hb) (T.at hb) hr hf hl; rw [hx] at this; exact this)
    have PRB : Hid (∀ (v : Value) (gs : List Ev) (w2 : World), Below w.heap.size w w2 → RdE w2 v gs → (∀ e ∈ gs, fitE e) → gs.length ≤ 1000 → allR gs = false → Calls Tryd.prog 7 #[v] w2 fun e w' => e = .returned (.tuple #[.string { data := #[] }, .int .i64 1]) ∧ Below w2.heap.size w2 w') :=
      hid (fun v gs w2 hb hr hf hl hx => by have := print_any v gs w2 (R.at hb) (T.at hb) hr hf hl; rw [hx] at this; exact this)
    have PRX : Hid (∀ (v : Value) (gs : List Ev) (w2 : World), Below w.heap.size w w2 → RdE w2 v gs → (∀ e ∈ gs, fitE e) → gs.length ≤ 1000 → Calls Tryd.prog 7 #[v] w2 fun e w' => ∃ (s : ByteArray) (n : Int), e = .returned (.tuple #[.string s, .int .i64 n]) ∧ Below w2.heap.size w2 w') :=
      hid (fun v gs w2 hb hr hf hl => (print_any v gs w2 (R.at hb) (T.at hb) hr hf hl).mono fun e w' ⟨h1, h2⟩ => ⟨_, _, h1, h2⟩)
    obtain ⟨i0, hi, hz0, hz1, hz2⟩ := info_parts infoEv
    have HI := hid (And.intro hi (And.intro hz0 (And.intro hz1 hz2)))
    clear hbig R T re rf hes hfs w0 w1 hi hz0 hz1 hz2 fe' ff'
    rcases (show allR es = false ∨ (allR es = true ∧ allR fs = false) ∨ (allR es = true ∧ allR fs = true) by cases allR es <;> cases allR fs <;> simp) with q | ⟨q, r⟩ | ⟨q, r⟩
    · have HQ := hid q
      clear q
      go_enter Tryd.func3, Tryd.ntmps3
      go_wp2_with fail
      refine LV.out.mono ?_
      rintro e w2 ⟨rfl, hb⟩
      have B2 := hid hb
      clear LV hb
      go_wp2_with fail
      refine (PRB.out _ es w2 B2.out (RE.out _ B2.out) FE.out (by have := HES.out; omega) HQ.out).mono ?_
      rintro e w3 ⟨rfl, hb⟩
      have B3 := hid (B2.out.trans (hb.mono B2.out.size))
      clear hb B2
      go_wp2_with fail
      refine (PRX.out _ fs w3 B3.out (RF.out _ B3.out) FF.out (by have := HFS.out; omega)).mono ?_
      rintro e w4 ⟨s, n, rfl, hb⟩
      have B4 := hid (B3.out.trans (hb.mono B3.out.size))
      clear hb B3
      go_wp2
      go_ret
      exact ⟨rfl, B4.out⟩
    · have HQ := hid q
      have HR2 := hid r
      clear q r
      go_enter Tryd.func3, Tryd.ntmps3
      go_wp2_with fail
      refine LV.out.mono ?_
      rintro e w2 ⟨rfl, hb⟩
      have B2 := hid hb
      clear LV hb
      go_wp2_with fail
      refine (PRR.out _ es w2 B2.out (RE.out _ B2.out) FE.out (by have := HES.out; omega) HQ.out).mono ?_
      rintro e w3 ⟨rfl, hb⟩
      have B3 := hid (B2.out.trans (hb.mono B2.out.size))
      clear hb B2
      go_wp2_with fail
      refine (PRB.out _ fs w3 B3.out (RF.out _ B3.out) FF.out (by have := HFS.out; omega) HR2.out).mono ?_
      rintro e w4 ⟨rfl, hb⟩
      have B4 := hid (B3.out.trans (hb.mono B3.out.size))
      clear hb B3
      go_wp2
      go_ret
      exact ⟨rfl, B4.out⟩
    have TE := hid (text_eqb q r)
    have N1 := hid (text_nil q)
    have N2 := hid (text_nil r)
    have Z1 := text_size' q FE.out
    have Z2 := text_size' r FF.out
    have TG : Hid (∃ tg, textE (es ++ fs) = tg ∧ ((es = [] ∨ fs = []) → tg = textE es ++ textE fs) ∧ (es ≠ [] → fs ≠ [] → tg = (textE es ++ { data := #[32] }) ++ textE fs)) := by
      refine hid ⟨_, rfl, ?_, fun h1 h2 => text_two h1 h2⟩
      rintro (rfl | rfl)
      · show textE fs = { data := #[] } ++ textE fs
        apply ByteArray.ext; simp [ByteArray.data_append]
      · rw [List.append_nil]
        show textE es = textE es ++ { data := #[] }
        apply ByteArray.ext; simp [ByteArray.data_append]
    have TA := hid (show allR (es ++ fs) = true by rw [allR_app, q, r]; rfl)
    have FG := hid (show ∀ e ∈ es ++ fs, fitE e from fun e he => (List.mem_append.1 he).elim (FE.out e) (FF.out e))
    rw [HES.out] at Z1
    rw [HFS.out] at Z2
    have HQ := hid q
    have HR2 := hid r
    clear q r PRB PRX
    go_enter Tryd.func3, Tryd.ntmps3
    go_wp2_with fail
    refine LV.out.mono ?_
    rintro e w2 ⟨rfl, hb⟩
    have B2 := hid hb
    clear LV hb
    go_wp2_with fail
    refine (PRR.out _ es w2 B2.out (RE.out _ B2.out) FE.out (by have := HES.out; omega) HQ.out).mono ?_
    rintro e w3 ⟨rfl, hb⟩
    have B3 := hid (B2.out.trans (hb.mono B2.out.size))
    clear hb B2
    go_wp2_with fail
    refine (PRR.out _ fs w3 B3.out (RF.out _ B3.out) FF.out (by have := HFS.out; omega) HR2.out).mono ?_
    rintro e w4 ⟨rfl, hb⟩
    have B4 := hid (B3.out.trans (hb.mono B3.out.size))
    clear hb B3 FE FF HQ HR2
    generalize textE es = ta at *
    generalize textE fs = tb at *
    obtain ⟨tg, hg1, hg2, hg3⟩ := TG.out
    have PG := fun v => PRR.out v (es ++ fs)
    simp only [hg1] at PG
    have PRG := hid PG
    have HG := hid (And.intro hg2 hg3)
    clear hg1 hg2 hg3 PG PRR TG
    go_wp2_with fail
    go_loopw [9, 10] (fun v9 i wr => ∃ (k : Nat) (b : Bool), k ≤ len0 ∧ v9 = .bool b ∧ i = .int .i64 k ∧ Hid (b = true → len0 = len1 ∧ es.take k = fs.take k) ∧ Hid (b = false → es ≠ fs) ∧ Hid (Below w.heap.size w wr)) (fun _ i _ => len0 - (intOf i).toNat)
    case atStart =>
      refine ⟨0, _, by omega, rfl, rfl, hid (fun h => ⟨by simp at h; omega, by simp⟩), hid (fun h e => ?_), B4⟩
      have h1 := HES.out
      have h2 := HFS.out
      rw [e] at h1
      simp at h
      omega
    case round =>
      clear B4
      obtain ⟨k, b, hk, rfl, rfl, BT, BF, BR⟩ := hrel
      rcases (show (b = true ∧ k < len0) ∨ (b = true ∧ len0 = k) ∨ b = false by cases b <;> simp <;> omega) with ⟨rfl, hlt⟩ | ⟨rfl, rfl⟩ | rfl
      · obtain ⟨hl, htk⟩ := BT.out rfl
        subst hl
        obtain ⟨b1, d1, e1, _, hh1⟩ := RE.out _ BR.out
        obtain ⟨b2, d2, e2, _, hh2⟩ := RF.out _ BR.out
        simp only [Value.slice.injEq] at e1 e2
        obtain ⟨rfl, e8, rfl⟩ := e1
        obtain ⟨rfl, e9, rfl⟩ := e2
        clear e8 e9
        obtain ⟨g1, o1, rfl, hg1, hc1⟩ := hh1 (by have := HES.out; omega)
        obtain ⟨g2, o2, rfl, hg2, hc2⟩ := hh2 (by have := HFS.out; omega)
        obtain ⟨x0, x1, x2, x3, x4⟩ := hc1 k (by have := HES.out; omega)
        obtain ⟨y0, y1, y2, y3, y4⟩ := hc2 k (by have := HFS.out; omega)
        have TQ := hid (take_eq (es := es) (fs := fs) (k := k) (by have := HES.out; omega) (by have := HFS.out; omega) htk)
        have EE : Hid (es = fs → evAt es k = evAt fs k) := hid (fun h => by rw [h])
        generalize evAt es k = ev at *
        generalize evAt fs k = fv at *
        obtain ⟨u0, u1, u2, u3, u4⟩ := ev
        obtain ⟨v0, v1, v2, v3, v4⟩ := fv
        simp only at x0 x1 x2 x3 x4 y0 y1 y2 y3 y4
        clear hh1 hh2 hc1 hc2 BT BF htk hg1 hg2
        have EQ := equalIn_ev u0 u1 u2 u3 u4 v0 v1 v2 v3 v4
        go_upto_region 11 with (fail)
        go_quiet (fail)
        have B5 := hid (BR.out.trans ((Quiet.below ⟨nq, rfl⟩ wr.heap.size : Below wr.heap.size wr (wr.drewN nq)).mono BR.out.size))
        clear EQ BR
        generalize wr.drewN nq = wd at *
        go_wp2
        go_roundw
        case rel => exact ⟨k + 1, _, by omega, rfl, by go_num, hid (fun h => ⟨by first | rfl | trivial, TQ.out.2 (by simpa using h)⟩), hid (fun h e => by have := EE.out e; simp only [Prod.mk.injEq] at this; obtain ⟨rfl, rfl, rfl, rfl, rfl⟩ := this; simp at h), B5⟩
        case measure => simp [intOf]; omega
      · have DB := hid BT.out
        have DF := hid BF.out
        have E1 := RE.out _ (BR.out.alloc BR.out.size (.cells #[] 29))
        have hown : (wr.alloc (.cells #[] 29)).ownsRow wr.heap.size 29 5 (.slice (some ⟨wr.heap.size, 0, none⟩) 0 0) 0 [] := World.ownsRow_made wr #[] 0 (Nat.le_refl _) (by omega) rfl
        have B3 := hid (BR.out.alloc BR.out.size (.cells #[] 29))
        have HOW := hid hown
        have hs3 : (wr.alloc (.cells #[] 29)).heap.size = wr.heap.size + 1 := by simp
        have hsr := BR.out.size
        clear hown BT BF BR
        go_wp2_with (at_builtin; refine wpList_append_rdE rfl _ _ 22 rfl wr.heap.size 29 i0 _ 40 Tryd.underlying22 HI.out.1 HI.out.2.1 HI.out.2.2.1 HI.out.2.2.2 rfl _ _ _ rfl HOW.out es _ rfl E1 ?c1 ?c2 ?c3 ?_)
        case c1 => have := HES.out; simp only [maxLen]; omega
        case c2 => have := HES.out; omega
        intro v3 w3 own3 grown3
        have B4 := hid (B3.out.grown grown3 (by simp; omega) (fun q hq => by simp [Value.ownBlock] at hq; omega))
        have HO3 := hid own3
        have S3 := hid grown3.size
        have E2 := RF.out _ B4.out
        clear own3 grown3 B3 HOW E1
        go_wp2_with (at_builtin; refine wpList_append_rdE rfl _ _ 22 rfl wr.heap.size 29 i0 _ 40 Tryd.underlying22 HI.out.1 HI.out.2.1 HI.out.2.2.1 HI.out.2.2.2 rfl _ _ _ rfl HO3.out fs _ rfl E2 ?d1 ?d2 ?d3 ?_)
        case d1 => have := HES.out; have := HFS.out; simp only [maxLen]; omega
        case d2 => have := HES.out; have := HFS.out; omega
        case d3 => have := S3.out; omega
        intro v4 w4 own4 grown4
        have B5 := hid (B4.out.grown grown4 B4.out.size (fun q hq => by have := own_lt HO3.out q hq; omega))
        have own5 : w4.ownsRow wr.heap.size 29 5 v4 (es ++ fs).length (fe (es ++ fs)) := by
          rw [List.length_append, fe_app]
          simpa [Nat.zero_add] using own4
        have R5 := hid (own_rdE own5)
        have CP := hid (PRG.out v4 w4 B5.out R5.out FG.out (by have := HES.out; have := HFS.out; rw [List.length_append]; omega) TA.out)
        clear own4 own5 grown4 B4 HO3 S3 E2 R5 hs3 PRG
        go_wp2_with fail
        refine CP.out.mono ?_
        rintro e w5 ⟨rfl, hb5⟩
        have B6 := hid (B5.out.trans (hb5.mono B5.out.size))
        clear hb5 B5 CP
        first
          | have TB := TE.out.trans (decide_eq_true (eq_take HES.out HFS.out (by simpa using DB.out)))
          | have TB := TE.out.trans (decide_eq_false (by simpa using DF.out))
        clear TE DB DF
        have ad0 := fun w => run_string_add_sum (P := Tryd.prog) w ta { data := #[32] } (by rw [sz32]; omega)
        have ad1 := fun w => run_string_add_sum (P := Tryd.prog) w (ta ++ { data := #[32] }) tb (by rw [ByteArray.size_append, sz32]; omega)
        have ad2 := fun w => run_string_add_sum (P := Tryd.prog) w ta tb (by omega)
        rcases (show es = [] ∨ (es ≠ [] ∧ fs = []) ∨ (es ≠ [] ∧ fs ≠ []) by by_cases h1 : es = [] <;> by_cases h2 : fs = [] <;> simp [h1, h2]) with q1 | ⟨q1, q2⟩ | ⟨q1, q2⟩
        · have m1 := to_nil (N1.out.trans (decide_eq_true q1))
          have hz := HG.out.1 (.inl q1)
          first
            | have m2 : tb.toList = [] := by rw [← beq_iff_eq.1 TB]; exact m1
            | have m2 : tb.toList.isEmpty = false := by simpa using (show ¬ tb.toList = [] from fun h => beq_eq_false_iff_ne.1 TB (by rw [h]; exact m1))
          clear TB
          clear HG N1 N2 q1 HES HFS RE RF FG TA
          subst hz
          obtain ⟨N, hN⟩ := cnt_ex (ta ++ tb)
          have hsz : (ta ++ tb).size = ta.size + tb.size := ByteArray.size_append
          have CA := hid (fun w => count_any (ta ++ tb) N hN (by omega) w)
          have hNs := hN.le
          have tq := txt_eq (ta ++ tb)
          clear hN hsz
          generalize ta ++ tb = tc at *
          go_wp2_with fail
          refine (CA.out _).mono ?_
          rintro e w6 ⟨rfl, hb6⟩
          have B7 := hid (B6.out.trans (hb6.mono B6.out.size))
          clear hb6 B6 CA
          go_wp2
          go_ret
          exact ⟨rfl, B7.out⟩
        · have m1 : ta.toList.isEmpty = false := by simpa using to_ne (N1.out.trans (decide_eq_false q1))
          have m2 := to_nil (N2.out.trans (decide_eq_true q2))
          have hz := HG.out.1 (.inr q2)
          first
            | (exfalso; rw [beq_iff_eq.1 TB, m2] at m1; exact absurd m1 (by simp))
            | skip
          all_goals
            clear TB
            clear HG N1 N2 q1 HES HFS RE RF FG TA
            subst hz
            obtain ⟨N, hN⟩ := cnt_ex (ta ++ tb)
            have hsz : (ta ++ tb).size = ta.size + tb.size := ByteArray.size_append
            have CA := hid (fun w => count_any (ta ++ tb) N hN (by omega) w)
            have hNs := hN.le
            have tq := txt_eq (ta ++ tb)
            clear hN hsz
            generalize ta ++ tb = tc at *
            go_wp2_with fail
            refine (CA.out _).mono ?_
            rintro e w6 ⟨rfl, hb6⟩
            have B7 := hid (B6.out.trans (hb6.mono B6.out.size))
            clear hb6 B6 CA
            go_wp2
            go_ret
            exact ⟨rfl, B7.out⟩
        · have m1 : ta.toList.isEmpty = false := by simpa using to_ne (N1.out.trans (decide_eq_false q1))
          have m2 : tb.toList.isEmpty = false := by simpa using to_ne (N2.out.trans (decide_eq_false q2))
          have hz := HG.out.2 q1 q2
          clear HG N1 N2 q1 HES HFS RE RF FG TA
          subst hz
          obtain ⟨N, hN⟩ := cnt_ex (ta ++ { data := #[32] } ++ tb)
          have hsz : (ta ++ { data := #[32] } ++ tb).size = ta.size + 1 + tb.size := by rw [ByteArray.size_append, ByteArray.size_append, sz32]
          have CA := hid (fun w => count_any (ta ++ { data := #[32] } ++ tb) N hN (by omega) w)
          have hNs := hN.le
          have tq := txt_eq (ta ++ { data := #[32] } ++ tb)
          clear hN hsz
          generalize ta ++ { data := #[32] } ++ tb = tc at *
          go_wp2_with fail
          refine (CA.out _).mono ?_
          rintro e w6 ⟨rfl, hb6⟩
          have B7 := hid (B6.out.trans (hb6.mono B6.out.size))
          clear hb6 B6 CA
          go_wp2
          go_ret
          exact ⟨rfl, B7.out⟩
      · have DB := hid BT.out
        have DF := hid BF.out
        have E1 := RE.out _ (BR.out.alloc BR.out.size (.cells #[] 29))
        have hown : (wr.alloc (.cells #[] 29)).ownsRow wr.heap.size 29 5 (.slice (some ⟨wr.heap.size, 0, none⟩) 0 0) 0 [] := World.ownsRow_made wr #[] 0 (Nat.le_refl _) (by omega) rfl
        have B3 := hid (BR.out.alloc BR.out.size (.cells #[] 29))
        have HOW := hid hown
        have hs3 : (wr.alloc (.cells #[] 29)).heap.size = wr.heap.size + 1 := by simp
        have hsr := BR.out.size
        clear hown BT BF BR
        go_wp2_with (at_builtin; refine wpList_append_rdE rfl _ _ 22 rfl wr.heap.size 29 i0 _ 40 Tryd.underlying22 HI.out.1 HI.out.2.1 HI.out.2.2.1 HI.out.2.2.2 rfl _ _ _ rfl HOW.out es _ rfl E1 ?e1 ?e2 ?e3 ?_)
        case e1 => have := HES.out; simp only [maxLen]; omega
        case e2 => have := HES.out; omega
        intro v3 w3 own3 grown3
        have B4 := hid (B3.out.grown grown3 (by simp; omega) (fun q hq => by simp [Value.ownBlock] at hq; omega))
        have HO3 := hid own3
        have S3 := hid grown3.size
        have E2 := RF.out _ B4.out
        clear own3 grown3 B3 HOW E1
        go_wp2_with (at_builtin; refine wpList_append_rdE rfl _ _ 22 rfl wr.heap.size 29 i0 _ 40 Tryd.underlying22 HI.out.1 HI.out.2.1 HI.out.2.2.1 HI.out.2.2.2 rfl _ _ _ rfl HO3.out fs _ rfl E2 ?f1 ?f2 ?f3 ?_)
        case f1 => have := HES.out; have := HFS.out; simp only [maxLen]; omega
        case f2 => have := HES.out; have := HFS.out; omega
        case f3 => have := S3.out; omega
        intro v4 w4 own4 grown4
        have B5 := hid (B4.out.grown grown4 B4.out.size (fun q hq => by have := own_lt HO3.out q hq; omega))
        have own5 : w4.ownsRow wr.heap.size 29 5 v4 (es ++ fs).length (fe (es ++ fs)) := by
          rw [List.length_append, fe_app]
          simpa [Nat.zero_add] using own4
        have R5 := hid (own_rdE own5)
        have CP := hid (PRG.out v4 w4 B5.out R5.out FG.out (by have := HES.out; have := HFS.out; rw [List.length_append]; omega) TA.out)
        clear own4 own5 grown4 B4 HO3 S3 E2 R5 hs3 PRG
        go_wp2_with fail
        refine CP.out.mono ?_
        rintro e w5 ⟨rfl, hb5⟩
        have B6 := hid (B5.out.trans (hb5.mono B5.out.size))
        clear hb5 B5 CP
        first
          | have TB := TE.out.trans (decide_eq_true (eq_take HES.out HFS.out (by simpa using DB.out)))
          | have TB := TE.out.trans (decide_eq_false (by simpa using DF.out))
        clear TE DB DF
        have ad0 := fun w => run_string_add_sum (P := Tryd.prog) w ta { data := #[32] } (by rw [sz32]; omega)
        have ad1 := fun w => run_string_add_sum (P := Tryd.prog) w (ta ++ { data := #[32] }) tb (by rw [ByteArray.size_append, sz32]; omega)
        have ad2 := fun w => run_string_add_sum (P := Tryd.prog) w ta tb (by omega)
        rcases (show es = [] ∨ (es ≠ [] ∧ fs = []) ∨ (es ≠ [] ∧ fs ≠ []) by by_cases h1 : es = [] <;> by_cases h2 : fs = [] <;> simp [h1, h2]) with q1 | ⟨q1, q2⟩ | ⟨q1, q2⟩
        · have m1 := to_nil (N1.out.trans (decide_eq_true q1))
          have hz := HG.out.1 (.inl q1)
          first
            | have m2 : tb.toList = [] := by rw [← beq_iff_eq.1 TB]; exact m1
            | have m2 : tb.toList.isEmpty = false := by simpa using (show ¬ tb.toList = [] from fun h => beq_eq_false_iff_ne.1 TB (by rw [h]; exact m1))
          clear TB
          clear HG N1 N2 q1 HES HFS RE RF FG TA
          subst hz
          obtain ⟨N, hN⟩ := cnt_ex (ta ++ tb)
          have hsz : (ta ++ tb).size = ta.size + tb.size := ByteArray.size_append
          have CA := hid (fun w => count_any (ta ++ tb) N hN (by omega) w)
          have hNs := hN.le
          have tq := txt_eq (ta ++ tb)
          clear hN hsz
          generalize ta ++ tb = tc at *
          go_wp2_with fail
          refine (CA.out _).mono ?_
          rintro e w6 ⟨rfl, hb6⟩
          have B7 := hid (B6.out.trans (hb6.mono B6.out.size))
          clear hb6 B6 CA
          go_wp2
          go_ret
          exact ⟨rfl, B7.out⟩
        · have m1 : ta.toList.isEmpty = false := by simpa using to_ne (N1.out.trans (decide_eq_false q1))
          have m2 := to_nil (N2.out.trans (decide_eq_true q2))
          have hz := HG.out.1 (.inr q2)
          first
            | (exfalso; rw [beq_iff_eq.1 TB, m2] at m1; exact absurd m1 (by simp))
            | skip
          all_goals
            clear TB
            clear HG N1 N2 q1 HES HFS RE RF FG TA
            subst hz
            obtain ⟨N, hN⟩ := cnt_ex (ta ++ tb)
            have hsz : (ta ++ tb).size = ta.size + tb.size := ByteArray.size_append
            have CA := hid (fun w => count_any (ta ++ tb) N hN (by omega) w)
            have hNs := hN.le
            have tq := txt_eq (ta ++ tb)
            clear hN hsz
            generalize ta ++ tb = tc at *
            go_wp2_with fail
            refine (CA.out _).mono ?_
            rintro e w6 ⟨rfl, hb6⟩
            have B7 := hid (B6.out.trans (hb6.mono B6.out.size))
            clear hb6 B6 CA
            go_wp2
            go_ret
            exact ⟨rfl, B7.out⟩
        · have m1 : ta.toList.isEmpty = false := by simpa using to_ne (N1.out.trans (decide_eq_false q1))
          have m2 : tb.toList.isEmpty = false := by simpa using to_ne (N2.out.trans (decide_eq_false q2))
          have hz := HG.out.2 q1 q2
          clear HG N1 N2 q1 HES HFS RE RF FG TA
          subst hz
          obtain ⟨N, hN⟩ := cnt_ex (ta ++ { data := #[32] } ++ tb)
          have hsz : (ta ++ { data := #[32] } ++ tb).size = ta.size + 1 + tb.size := by rw [ByteArray.size_append, ByteArray.size_append, sz32]
          have CA := hid (fun w => count_any (ta ++ { data := #[32] } ++ tb) N hN (by omega) w)
          have hNs := hN.le
          have tq := txt_eq (ta ++ { data := #[32] } ++ tb)
          clear hN hsz
          generalize ta ++ { data := #[32] } ++ tb = tc at *
          go_wp2_with fail
          refine (CA.out _).mono ?_
          rintro e w6 ⟨rfl, hb6⟩
          have B7 := hid (B6.out.trans (hb6.mono B6.out.size))
          clear hb6 B6 CA
          go_wp2
          go_ret
          exact ⟨rfl, B7.out⟩
end Go.Proofs.YtnaphgjkkagpoaaDoor.glyphJoins
