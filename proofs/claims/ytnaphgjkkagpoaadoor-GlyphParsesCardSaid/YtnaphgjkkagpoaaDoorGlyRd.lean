/- glyph.read of any text: the event whose word it is, or none. -/
import Derived.Test.YtnaphgjkkagpoaaDoorGlyRd0
import Derived.BigQuiet
import Derived.Deep.CutRange
import Derived.Deep.CutBlock
namespace Go.Proofs.YtnaphgjkkagpoaaDoor
set_option linter.unusedVariables false
set_option linter.unusedSimpArgs false
set_option maxRecDepth 20000
open Go.RowKit

set_option maxHeartbeats 8000000 in
theorem read_any (s : ByteArray) (hl : s.size ≤ 1000000) (w : World) (GR : GlRunes w) (PT : PwTab w) (S : ErrSy w) (R : ErrRa w) :
    Calls Tryd.prog 26 #[.string s] w fun e w' => ((∃ x : Ev, IsW s x ∧ e = .returned (.tuple #[.agg #[.int .i64 x.1, .int .i64 x.2.1, .int .i64 x.2.2.1, .int .i64 x.2.2.2.1, .int .i64 x.2.2.2.2], .bool true])) ∨
      ((∀ x, ¬ IsW s x) ∧ e = .returned (.tuple #[.agg #[.int .i64 0, .int .i64 0, .int .i64 0, .int .i64 0, .int .i64 0], .bool false]))) ∧ Below w.heap.size w w' := by
  have HGR := hid GR
  have HPT := hid PT
  have HS := hid S
  have HR := hid R
  clear GR PT S R
  go_enter Tryd.func26, Tryd.ntmps26
  have K0 := hid (Ri.new w s)
  go_upto_block 0 with fail
  generalize ((((w.alloc (.cells #[.int .i64 0, .int .i64 0, .int .i64 0, .int .i64 0, .int .i64 0] 29)).alloc (.cells #[.int .i64 0, .int .i64 0, .int .i64 (-1), .int .i64 (-1), .int .i64 0] 29)).alloc (.cells #[.string { data := #[] }] 9)).iter s 0) = W0 at *
  go_cut [7] from 6 to 33 (fun s7 wc => ∃ (k : Nat) (rest : ByteArray), k < 8 ∧ Hid (∀ x, IsW s x → x.1 = (k : Int) ∧ rest.data.toList = tailW x) ∧ rest.size ≤ s.size ∧ Hid (Rb w k 0 (-1) (-1) 0 rest wc))
  case first =>
    go_wp2_with fail
    go_loopw [7] (fun s7 wr => Hid (Ri w s 0 0 wr ∨ ∃ k : Nat, k < 8 ∧ 0 < s.size ∧ ((Utf8.decode s 0).1 : Int) = glRune0 k ∧ Ri w s (Utf8.decode s 0).2 k wr)) (fun _ wr => s.size + 1 - wr.iterPos (w.heap.size + 1 + 1 + 1))
    case atStart => exact hid (.inl K0.out)
    case round =>
      rcases hrel.out with I | ⟨k, hk8, hs0, hd, I⟩
      · by_cases hz : 0 < s.size
        · have hnext : ∀ ty, (Instr.next (.pointer (some ⟨w.heap.size + 1 + 1 + 1, 0, none⟩)) true ty).run Tryd.prog wr = _ := fun ty => Lib.run_next_any_at wr (w.heap.size + 1 + 1 + 1) s 0 ty I.it hz
          have I2 := hid (I.next (0 + (Utf8.decode s 0).2))
          have hmu : wr.iterPos (w.heap.size + 1 + 1 + 1) = 0 := by simp [World.iterPos, I.it]
          have hwd := Lib.decode_width_pos s 0 hz
          obtain ⟨q, hq, hkq⟩ := isKind_ex ((Utf8.decode s 0).1 : Int)
          have KQ := hid hkq
          generalize wr.iterAt (w.heap.size + 1 + 1 + 1) s (0 + (Utf8.decode s 0).2) = W1 at hnext I2
          by_cases hq8 : q < 8
          · have KH := hid (fun w R => kind_hit _ q hq8 hkq w R)
            have I3 := hid (I2.out.setK q)
            obtain ⟨⟨c0, c1, c2, c3, c4⟩, c5⟩ := I2.out.rb.cells
            have f1 := (I2.out.rb.froz 0).2.1
            have hmu2 : (W1.setCell ⟨w.heap.size + 1, 0, none⟩ (.int .i64 q)).iterPos (w.heap.size + 1 + 1 + 1) = 0 + (Utf8.decode s 0).2 := by simp [World.iterPos, I3.out.it]
            have HM := hid hmu2
            have HM0 := hid hmu
            clear hmu hmu2
            generalize hrn : (Utf8.decode s 0).1 = rn at hnext KH
            have HRN := hid hrn
            have BB := hid I2.out.rb.bl
            clear hrn hkq I
            go_wp2_with fail
            refine (KH.out _ (HGR.out.at BB.out)).mono ?_
            rintro e w3 ⟨rfl, rfl⟩
            go_wp2
            go_roundw
            case rel => exact hid (.inr ⟨q, hq8, hz, by rw [← HRN.out]; exact (KQ.out.2 hq8).symm, by have := I3.out; rwa [Nat.zero_add] at this⟩)
            case measure => rw [HM.out, HM0.out]; omega
          · obtain rfl : q = 8 := by omega
            have KH := hid (fun w R => kind_miss _ hkq w R)
            have NO := hid (show ∀ x, ¬ IsW s x from fun x hx => by
              obtain ⟨e1, _, _⟩ := isW_dec hx
              obtain ⟨⟨h0, h8⟩, _⟩ := right_all hx.1
              exact hkq.1 x.1.toNat (by omega) e1.symm)
            obtain ⟨d0, d1, d2, d3, d4⟩ := I2.out.rb.cells0
            have f0 := fun i => (I2.out.rb.froz i).1
            have f00 := f0 0
            have f01 := f0 1
            have f02 := f0 2
            have f03 := f0 3
            have f04 := f0 4
            generalize hrn : (Utf8.decode s 0).1 = rn at hnext KH
            have BB := hid I2.out.rb.bl
            have FB := hid (fin5_below I2.out.rb.bl (.int .i64 0) (.int .i64 0) (.int .i64 0) (.int .i64 0) (.int .i64 0))
            have FH := hid (fin5 I2.out.rb.b0 (.int .i64 0) (.int .i64 0) (.int .i64 0) (.int .i64 0) (.int .i64 0))
            clear hrn hkq I hmu hwd KQ f0
            go_wp2_with fail
            refine (KH.out _ (HGR.out.at BB.out)).mono ?_
            rintro e w3 ⟨rfl, rfl⟩
            go_wp2
            obtain ⟨r0, r1, r2, r3, r4⟩ := ev5c FH.out
            exact bodyPost_ret (v := .tuple #[.agg #[.int .i64 0, .int .i64 0, .int .i64 0, .int .i64 0, .int .i64 0], .bool false]) (by simp [results, Tryd.results26, go_sem, r0, r1, r2, r3, r4]) rfl ⟨.inr ⟨NO.out, rfl⟩, FB.out⟩
        · have hnext : ∀ ty, (Instr.next (.pointer (some ⟨w.heap.size + 1 + 1 + 1, 0, none⟩)) true ty).run Tryd.prog wr = _ := fun ty => Lib.run_next_end_at wr (w.heap.size + 1 + 1 + 1) s 0 ty I.it hz
          have RB := hid I.rb
          have NO := hid (show ∀ x, ¬ IsW s x from fun x hx => hz (isW_dec hx).2.2)
          clear hz I
          go_wp2
          go_meet
          exact ⟨0, { data := #[] }, by omega, hid (fun x hx => absurd hx (NO.out x)), Nat.zero_le _, RB⟩
      · have KX := hid (show ∀ x, IsW s x → x.1 = (k : Int) ∧ tailW x = s.data.toList.drop (Utf8.decode s 0).2 from fun x hx => by
          obtain ⟨e1, e2, _⟩ := isW_dec hx
          obtain ⟨⟨h0, h8⟩, _⟩ := right_all hx.1
          have := rune_inj x.1.toNat k (by omega) hk8 (e1.symm.trans hd)
          exact ⟨by omega, e2⟩)
        have hwd := Lib.decode_width_pos s 0 hs0
        have hml := hid hwd
        obtain ⟨wd, hwe⟩ : ∃ wd, wd = (Utf8.decode s 0).2 := ⟨_, rfl⟩
        rw [← hwe] at I hwd KX
        by_cases hz : wd < s.size
        · have hnext : ∀ ty, (Instr.next (.pointer (some ⟨w.heap.size + 1 + 1 + 1, 0, none⟩)) true ty).run Tryd.prog wr = _ := fun ty => Lib.run_next_any_at wr (w.heap.size + 1 + 1 + 1) s wd ty I.it hz
          have I2 := hid (I.next (wd + (Utf8.decode s wd).2))
          have EX := hid (show (s.extract wd s.size).data.toList = s.data.toList.drop wd by
            have h := Lib.extract_toList s wd s.size
            rw [ByteArray.toList_eq] at h
            rw [h, List.take_of_length_le (by rw [List.length_drop, Lib.size_eq]; exact Nat.le_refl _)])
          have RB := hid (I2.out.rb.setS (s.extract wd s.size))
          have SZ := hid (show (s.extract wd s.size).size ≤ s.size by simp [ByteArray.size_extract])
          generalize wr.iterAt (w.heap.size + 1 + 1 + 1) s (wd + (Utf8.decode s wd).2) = W1 at hnext I2 RB
          have c5 := I2.out.rb.cells.2
          have f5 := (I2.out.rb.froz 0).2.2
          have hp : (0 : Int) < (wd : Int) := by omega
          have hpl : (wd : Int) ≤ (s.size : Int) := by omega
          generalize (Utf8.decode s wd).1 = rn at hnext
          clear I hwe hd hs0 hwd hz hml
          go_wp2
          go_meet
          exact ⟨k, s.extract wd s.size, hk8, hid (fun x hx => ⟨(KX.out x hx).1, EX.out.trans (KX.out x hx).2.symm⟩), SZ.out, RB⟩
        · have hnext : ∀ ty, (Instr.next (.pointer (some ⟨w.heap.size + 1 + 1 + 1, 0, none⟩)) true ty).run Tryd.prog wr = _ := fun ty => Lib.run_next_end_at wr (w.heap.size + 1 + 1 + 1) s wd ty I.it hz
          have RB := hid I.rb
          have EX := hid (show ([] : List UInt8) = s.data.toList.drop wd by rw [List.drop_eq_nil_of_le (by rw [← Lib.size_eq]; omega)])
          clear I hwe hd hs0 hwd hz hml
          go_wp2
          go_meet
          exact ⟨k, { data := #[] }, hk8, hid (fun x hx => ⟨(KX.out x hx).1, EX.out.trans (KX.out x hx).2.symm⟩), Nat.zero_le _, RB⟩
  case rest =>
    obtain ⟨k, rest, hk8, KX, hrs, RB⟩ := hcut
    have ES : Hid (∀ w2, Below w.heap.size w w2 → ErrSy w2 ∧ ErrRa w2 ∧ GlRunes w2 ∧ PwTab w2) := hid (fun w2 hb => ⟨HS.out.at hb, HR.out.at hb, HGR.out.at hb, HPT.out.at hb⟩)
    clear HGR HPT HS HR K0
    have NU := hid (number_rb RB.out (by omega) (ES.out _ RB.out.bl).1 (ES.out _ RB.out.bl).2.1)
    obtain ⟨⟨c0, c1, c2, c3, c4⟩, c5⟩ := RB.out.cells
    go_wp2_with fail
    refine NU.out.mono ?_
    rintro e w1 ⟨g, r1, rfl, Dg, hzg, R1⟩
    clear c0 c1 c2 c3 c4 c5 NU RB
    have RB := hid ((R1.out.setG g).setS r1)
    obtain ⟨⟨c0, c1, c2, c3, c4⟩, c5⟩ := R1.out.cells
    obtain ⟨g1, f5⟩ := And.intro (R1.out.froz 1).2.1 (R1.out.froz 0).2.2
    go_upto_region 13 with (fail)
    clear c0 c1 c2 c3 c4 c5 g1 f5 R1
    generalize (w1.setCell _ _).setCell _ _ = W1 at *
    have MK := hid (mark_rb RB.out 109)
    go_wp2_with fail
    refine MK.out.mono ?_
    rintro e w2 ⟨rfl, R2⟩
    clear MK RB
    have TS := trim_size r1 109
    go_upto_if 40 with (fail)
    go_cut [] from 40 to 46 (fun wc => ∃ (x : Int) (r : ByteArray), Hid (Part 109 r1.data.toList x r.data.toList) ∧ r.size ≤ s.size ∧ Hid (Rb w k g x (-1) 0 r wc))
    case first =>
      rcases hq : hasB r1 { data := #[109] } with _ | _
      · have PT := hid (show Part 109 r1.data.toList (-1) (trimB r1 { data := #[109] }).data.toList from .inr ⟨hq, rfl, trim_not hq⟩)
        clear hq
        generalize trimB r1 { data := #[109] } = r at *
        go_wp2
        go_meet
        exact ⟨-1, r, PT, by omega, R2⟩
      · have TH := hid (trim_has hq)
        have HQ := hid hq
        clear hq
        generalize trimB r1 { data := #[109] } = r at *
        have RB := hid R2.out
        clear R2
        have NU := hid (number_rb RB.out (by omega) (ES.out _ RB.out.bl).1 (ES.out _ RB.out.bl).2.1)
        obtain ⟨⟨c0, c1, c2, c3, c4⟩, c5⟩ := RB.out.cells
        go_wp2_with fail
        refine NU.out.mono ?_
        rintro e w1 ⟨x, r2, rfl, Dm, hzm, R1⟩
        clear c0 c1 c2 c3 c4 c5 NU RB
        have RB := hid ((R1.out.setM x).setS r2)
        obtain ⟨⟨c0, c1, c2, c3, c4⟩, c5⟩ := R1.out.cells
        obtain ⟨g1, f5⟩ := And.intro (R1.out.froz 2).2.1 (R1.out.froz 0).2.2
        go_wp2
        go_meet
        exact ⟨x, r2, hid (.inl ⟨HQ.out, by rw [← TH.out]; exact Dm.out.2, by rw [← TH.out]; exact Dm.out.1⟩), by omega, RB⟩
    case rest =>
    obtain ⟨m, r2, Pm, hzm, RB⟩ := hcut
    clear R2 TS
    have MK := hid (mark_rb RB.out 112)
    go_wp2_with fail
    refine MK.out.mono ?_
    rintro e w2 ⟨rfl, R2⟩
    clear MK RB
    have TS := trim_size r2 112
    go_upto_if 47 with (fail)
    go_cut [] from 47 to 53 (fun wc => ∃ (x : Int) (r : ByteArray), Hid (Part 112 r2.data.toList x r.data.toList) ∧ r.size ≤ s.size ∧ Hid (Rb w k g m x 0 r wc))
    case first =>
      rcases hq : hasB r2 { data := #[112] } with _ | _
      · have PT := hid (show Part 112 r2.data.toList (-1) (trimB r2 { data := #[112] }).data.toList from .inr ⟨hq, rfl, trim_not hq⟩)
        clear hq
        generalize trimB r2 { data := #[112] } = r at *
        go_wp2
        go_meet
        exact ⟨-1, r, PT, by omega, R2⟩
      · have TH := hid (trim_has hq)
        have HQ := hid hq
        clear hq
        generalize trimB r2 { data := #[112] } = r at *
        have RB := hid R2.out
        clear R2
        have NU := hid (number_rb RB.out (by omega) (ES.out _ RB.out.bl).1 (ES.out _ RB.out.bl).2.1)
        obtain ⟨⟨c0, c1, c2, c3, c4⟩, c5⟩ := RB.out.cells
        go_wp2_with fail
        refine NU.out.mono ?_
        rintro e w1 ⟨x, r2, rfl, Dp, hzp, R1⟩
        clear c0 c1 c2 c3 c4 c5 NU RB
        have RB := hid ((R1.out.setP x).setS r2)
        obtain ⟨⟨c0, c1, c2, c3, c4⟩, c5⟩ := R1.out.cells
        obtain ⟨g1, f5⟩ := And.intro (R1.out.froz 3).2.1 (R1.out.froz 0).2.2
        go_wp2
        go_meet
        exact ⟨x, r2, hid (.inl ⟨HQ.out, by rw [← TH.out]; exact Dp.out.2, by rw [← TH.out]; exact Dp.out.1⟩), by omega, RB⟩
    case rest =>
    obtain ⟨p, r3, Pp, hzp, RB⟩ := hcut
    clear R2 TS
    have MK := hid (mark_rb RB.out 61)
    go_wp2_with fail
    refine MK.out.mono ?_
    rintro e w2 ⟨rfl, R2⟩
    clear MK RB
    have TS := trim_size r3 61
    go_upto_if 54 with (fail)
    go_cut [] from 54 to 60 (fun wc => ∃ (x : Int) (r : ByteArray), Hid (VPart r3.data.toList x ∧ -9223372036854775808 ≤ x ∧ x ≤ 9223372036854775807) ∧ Hid (Rb w k g m p x r wc))
    case first =>
      rcases hq : hasB r3 { data := #[61] } with _ | _
      · have PT := hid (show VPart r3.data.toList 0 from .inr ⟨hq, rfl⟩)
        clear hq
        generalize trimB r3 { data := #[61] } = r at *
        go_wp2
        go_meet
        exact ⟨0, r, hid ⟨PT.out, by omega, by omega⟩, R2⟩
      · have TH := hid (trim_has hq)
        have HQ := hid hq
        clear hq
        generalize trimB r3 { data := #[61] } = r at *
        have RB := hid R2.out
        have PI := hid (pint_rb R2.out (by omega) (ES.out _ R2.out.bl).1 (ES.out _ R2.out.bl).2.1)
        clear R2
        obtain ⟨⟨c0, c1, c2, c3, c4⟩, c5⟩ := RB.out.cells
        go_wp2_with fail
        refine PI.out.mono ?_
        rintro e w1 ⟨x, er, rfl, HV, R1⟩
        clear c0 c1 c2 c3 c4 c5 PI RB
        have RB := hid (R1.out.setV x)
        obtain ⟨⟨c0, c1, c2, c3, c4⟩, c5⟩ := R1.out.cells
        obtain ⟨g1, f5⟩ := And.intro (R1.out.froz 4).2.1 (R1.out.froz 0).2.2
        go_wp2
        go_meet
        exact ⟨x, r, hid ⟨.inl ⟨HQ.out, fun u u0 u1 e => HV.out.2 u u0 u1 (by rw [TH.out]; exact e)⟩, HV.out.1⟩, RB⟩
    case rest =>
    obtain ⟨v, r9, PV, RB⟩ := hcut
    clear R2 TS
    have LO : Hid (∀ x, IsW s x → x = (((k : Int), g, m, p, v) : Ev)) := hid (fun x hx => by
      obtain ⟨e1, e2⟩ := KX.out x hx
      have hl : Loose rest.data.toList g m p v := ⟨Dg.out.2, r2.data.toList, by have := Pm.out; rwa [Dg.out.1] at this, r3.data.toList, Pp.out, PV.out.1⟩
      rw [e2] at hl
      obtain ⟨⟨h0, h8⟩, hg, hm, hp⟩ := right_all hx.1
      obtain ⟨l1, l2, l3, l4⟩ := loose_ok hg hm hp hx.2.1.1 hx.2.1.2 hl
      obtain ⟨y0, y1, y2, y3, y4⟩ := x
      simp only at *
      rw [e1, l1, l2, l3, l4])
    have HV := PV.out.2
    clear KX Dg Pm Pp PV hzg hzm hzp hrs
    obtain ⟨⟨c0, c1, c2, c3, c4⟩, c5⟩ := RB.out.cells
    obtain ⟨z0, z1, z2, z3, z4⟩ := RB.out.cells0
    rcases hr : evRight (k : Int) g m p v with _ | _
    · have WB := hid (word_bad (k : Int) g m p v hr _ (ES.out _ RB.out.bl).2.2.1)
      have NO : Hid (∀ x, ¬ IsW s x) := hid (fun x hx => by
        have h := LO.out x hx
        rw [h] at hx
        have := hx.1
        unfold rightE at this
        simp only at this
        rw [hr] at this
        cases this)
      clear hr LO
      go_wp2_with fail
      refine WB.out.mono ?_
      rintro e w1 ⟨rfl, hb⟩
      have R1 := hid (RB.out.below hb)
      clear hb c0 c1 c2 c3 c4 c5 z0 z1 z2 z3 z4 WB RB
      obtain ⟨d0, d1, d2, d3, d4⟩ := R1.out.cells0
      have f00 := (R1.out.froz 0).1
      have f01 := (R1.out.froz 1).1
      have f02 := (R1.out.froz 2).1
      have f03 := (R1.out.froz 3).1
      have f04 := (R1.out.froz 4).1
      have FB := hid (fin5_below R1.out.bl (.int .i64 0) (.int .i64 0) (.int .i64 0) (.int .i64 0) (.int .i64 0))
      have FH := hid (fin5 R1.out.b0 (.int .i64 0) (.int .i64 0) (.int .i64 0) (.int .i64 0) (.int .i64 0))
      go_wp2
      obtain ⟨e0, e1, e2, e3, e4⟩ := ev5c FH.out
      exact bodyPost_ret (v := .tuple #[.agg #[.int .i64 0, .int .i64 0, .int .i64 0, .int .i64 0, .int .i64 0], .bool false]) (by simp [results, Tryd.results26, go_sem, e0, e1, e2, e3, e4]) rfl ⟨.inr ⟨NO.out, rfl⟩, FB.out⟩
    · have WA := hid (word_any k g m p v hr HV _ (ES.out _ RB.out.bl).2.2.1 (ES.out _ RB.out.bl).2.2.2)
      have HR := hid hr
      have HVH := hid HV
      clear hr HV
      rcases hs : ((wordB k g m p v).toList == s.toList) with _ | _
      · have NO : Hid (∀ x, ¬ IsW s x) := hid (fun x hx => by
          have h := LO.out x hx
          rw [h] at hx
          have := hx.2.2
          unfold wordE at this
          simp only [Int.toNat_natCast] at this
          rw [this] at hs
          simp at hs)
        clear LO
        go_wp2_with fail
        refine WA.out.mono ?_
        rintro e w1 ⟨rfl, hb⟩
        have R1 := hid (RB.out.below hb)
        clear hb c0 c1 c2 c3 c4 c5 z0 z1 z2 z3 z4 WA RB
        generalize wordB k g m p v = wd at *
        obtain ⟨d0, d1, d2, d3, d4⟩ := R1.out.cells0
        have f00 := (R1.out.froz 0).1
        have f01 := (R1.out.froz 1).1
        have f02 := (R1.out.froz 2).1
        have f03 := (R1.out.froz 3).1
        have f04 := (R1.out.froz 4).1
        have FB := hid (fin5_below R1.out.bl (.int .i64 0) (.int .i64 0) (.int .i64 0) (.int .i64 0) (.int .i64 0))
        have FH := hid (fin5 R1.out.b0 (.int .i64 0) (.int .i64 0) (.int .i64 0) (.int .i64 0) (.int .i64 0))
        go_wp2
        obtain ⟨e0, e1, e2, e3, e4⟩ := ev5c FH.out
        exact bodyPost_ret (v := .tuple #[.agg #[.int .i64 0, .int .i64 0, .int .i64 0, .int .i64 0, .int .i64 0], .bool false]) (by simp [results, Tryd.results26, go_sem, e0, e1, e2, e3, e4]) rfl ⟨.inr ⟨NO.out, rfl⟩, FB.out⟩
      · have YES : Hid (IsW s (((k : Int), g, m, p, v) : Ev)) := hid ⟨HR.out, HVH.out, by
          unfold wordE
          simp only [Int.toNat_natCast]
          have h2 : (wordB k g m p v).toList = s.toList := by simpa using hs
          rw [ByteArray.toList_eq, ByteArray.toList_eq] at h2
          exact ByteArray.ext (Array.toList_inj.1 h2)⟩
        clear LO HR HVH
        go_wp2_with fail
        refine WA.out.mono ?_
        rintro e w1 ⟨rfl, hb⟩
        have R1 := hid (RB.out.below hb)
        clear hb c0 c1 c2 c3 c4 c5 z0 z1 z2 z3 z4 WA RB
        generalize wordB k g m p v = wd at *
        obtain ⟨d0, d1, d2, d3, d4⟩ := R1.out.cells0
        obtain ⟨⟨c0, c1, c2, c3, c4⟩, c5⟩ := R1.out.cells
        have f00 := (R1.out.froz 0).1
        have f01 := (R1.out.froz 1).1
        have f02 := (R1.out.froz 2).1
        have f03 := (R1.out.froz 3).1
        have f04 := (R1.out.froz 4).1
        have FB := hid (fin5_below R1.out.bl (.int .i64 k) (.int .i64 g) (.int .i64 m) (.int .i64 p) (.int .i64 v))
        have FH := hid (fin5 R1.out.b0 (.int .i64 k) (.int .i64 g) (.int .i64 m) (.int .i64 p) (.int .i64 v))
        go_wp2
        obtain ⟨e0, e1, e2, e3, e4⟩ := ev5c FH.out
        exact bodyPost_ret (v := .tuple #[.agg #[.int .i64 k, .int .i64 g, .int .i64 m, .int .i64 p, .int .i64 v], .bool true]) (by simp [results, Tryd.results26, go_sem, e0, e1, e2, e3, e4]) rfl ⟨.inl ⟨_, YES.out, rfl⟩, FB.out⟩
end Go.Proofs.YtnaphgjkkagpoaaDoor
