/- The walk of the statement IdleOnce: the law answers true and turns nothing that was there. -/
import Derived.Test.YtcbdmofdbmimfaaDoorOnce
import Derived.OpenShut
import Derived.Deep.CutRange
import Derived.Deep.CutBlock
namespace Go.Proofs.YtcbdmofdbmimfaaDoor.idleOnce
open Go.RowKit
set_option linter.unusedVariables false
set_option linter.unusedSimpArgs false

/-- All that stands: the Idle, what stands once, the two arrays. -/
structure St (Z : Nat → Prop) (w0 : World) (x bp bm c : Nat) (f : Nat → Bool) (pd ss : List Int) (pl : Int) (w : World) : Prop where
  i : Ids Z x 8 f pd 8 ss pl w
  o : Onc f pd ss pl
  p : Arr w bp (inP f pd)
  m : Arr w bm (inM ss pl)
  B : Below w0.heap.size w0 w
  zp : Z bp
  zm : Z bm
  z0 : ∀ k, k < w0.heap.size → Z k
  gp : bp ≠ 0
  gm : bm ≠ 0
  ne : bp ≠ bm
  hp : w0.heap.size ≤ bp
  hm : w0.heap.size ≤ bm
  lp : pd.length ≤ c
  ls : ss.length ≤ c
namespace St
variable {Z : Nat → Prop} {w0 w : World} {x bp bm c : Nat} {f : Nat → Bool} {pd ss : List Int} {pl : Int}
theorem low {b : Nat} {w' : World} (h : St Z w0 x bp bm c f pd ss pl w) (ho : Only b b w w') (hb : w0.heap.size ≤ b) : Below w0.heap.size w0 w' := ho.low hb hb h.B h.B.size
/-- A deed told nothing. -/
theorem same {v : Value} {w' : World} (h : St Z w0 x bp bm c f pd ss pl w) (hi : Ids Z x 8 f pd 8 ss pl w') (fr : Fr Z w w') : St Z w0 x bp bm (c + 1) f pd ss pl w' :=
  ⟨hi, h.o, h.p.kept (fr.block _ h.zp), h.m.kept (fr.block _ h.zm), fr.low h.B h.z0, h.zp, h.zm, h.z0, h.gp, h.gm, h.ne, h.hp, h.hm, by have := h.lp; omega, by have := h.ls; omega⟩
/-- A processor came or went. -/
theorem turnP {w1 : World} (h : St Z w0 x bp bm c f pd ss pl w) {f' : Nat → Bool} {pd' : List Int} (hi : Ids Z x 8 f' pd' 8 ss pl w1) (fr : Fr Z w w1) (ho : Onc f' pd' ss pl) {k : Nat} {b : Bool} (hk : k < 8) (hP : inP f' pd' = upd (inP f pd) k b) (hl : pd'.length ≤ c + 1) {z : Int} (hz : z = oneB b) :
    St Z w0 x bp bm (c + 1) f' pd' ss pl (w1.setCell ⟨bp, k, none⟩ (.int .i64 z)) := by
  have hp1 := h.p.kept (fr.block _ h.zp)
  obtain ⟨h1, h2⟩ := hp1.set hk b z hz
  refine ⟨hi.other h2 h.zp h.gp, ho, by rw [hP]; exact h1, (h.m.kept (fr.block _ h.zm)).other h2 (Ne.symm h.ne), ?_, h.zp, h.zm, h.z0, h.gp, h.gm, h.ne, h.hp, h.hm, hl, by have := h.ls; omega⟩
  have hB := fr.low h.B h.z0
  exact h2.low h.hp h.hp hB hB.size
theorem turnM {w1 : World} (h : St Z w0 x bp bm c f pd ss pl w) {ss' : List Int} {pl' : Int} (hi : Ids Z x 8 f pd 8 ss' pl' w1) (fr : Fr Z w w1) (ho : Onc f pd ss' pl') {k : Nat} {b : Bool} (hk : k < 8) (hM : inM ss' pl' = upd (inM ss pl) k b) (hl : ss'.length ≤ c + 1) {z : Int} (hz : z = oneB b) :
    St Z w0 x bp bm (c + 1) f pd ss' pl' (w1.setCell ⟨bm, k, none⟩ (.int .i64 z)) := by
  have hm1 := h.m.kept (fr.block _ h.zm)
  obtain ⟨h1, h2⟩ := hm1.set hk b z hz
  refine ⟨hi.other h2 h.zm h.gm, ho, (h.p.kept (fr.block _ h.zp)).other h2 h.ne, by rw [hM]; exact h1, ?_, h.zp, h.zm, h.z0, h.gp, h.gm, h.ne, h.hp, h.hm, by have := h.lp; omega, hl⟩
  have hB := fr.low h.B h.z0
  exact h2.low h.hm h.hm hB hB.size
theorem qt {w' : World} (h : St Z w0 x bp bm c f pd ss pl w) (q : Quiet w w') : St Z w0 x bp bm c f pd ss pl w' :=
  ⟨h.i.quiet q, h.o, h.p.kept (by rw [q.heap]), h.m.kept (by rw [q.heap]), h.B.trans (q.below _), h.zp, h.zm, h.z0, h.gp, h.gm, h.ne, h.hp, h.hm, h.lp, h.ls⟩
end St
theorem and7 : ∀ j : Fin 8, bits .and .i64 ((j.val : Nat) : Int) 7 = ((j.val : Nat) : Int) := by decide +kernel
theorem oneB_01 (b : Bool) : 0 ≤ oneB b ∧ oneB b ≤ 1 := by cases b <;> decide
theorem oneB_nat (b : Bool) : (oneB b).toNat = if b then 1 else 0 := by cases b <;> rfl

theorem arr_new {w w' : World} (h : w' = w.alloc (.cells #[.int .i64 0, .int .i64 0, .int .i64 0, .int .i64 0, .int .i64 0, .int .i64 0, .int .i64 0, .int .i64 0] 53)) (F : Nat → Bool) (hF : ∀ i, F i = false) : Arr w' w.heap.size F := by
  subst h
  refine ⟨_, Deep.blk_alloc_new _ _, rfl, fun i hi => ?_⟩
  rw [hF]
  match i, hi with
  | 0, _ => rfl
  | 1, _ => rfl
  | 2, _ => rfl
  | 3, _ => rfl
  | 4, _ => rfl
  | 5, _ => rfl
  | 6, _ => rfl
  | 7, _ => rfl
theorem start_st {w0 w2 w3 : World} {x : Nat} (hi : Ids (· < w2.heap.size) x 8 (fun _ => false) [] 8 [] (-1) w3) (B2 : Below w0.heap.size w0 w2) (B3 : Below w0.heap.size w0 w3) (T : DbTab w0) (wa : World) (hwa : wa = w3.alloc (.cells #[.int .i64 0, .int .i64 0, .int .i64 0, .int .i64 0, .int .i64 0, .int .i64 0, .int .i64 0, .int .i64 0] 53))
    (wb : World) (hwb : wb = wa.alloc (.cells #[.int .i64 0, .int .i64 0, .int .i64 0, .int .i64 0, .int .i64 0, .int .i64 0, .int .i64 0, .int .i64 0] 53)) :
    St (fun k => k < w2.heap.size ∨ (w3.heap.size ≤ k ∧ k < wb.heap.size)) w0 x w3.heap.size (w3.heap.size + 1) 0 (fun _ => false) [] [] (-1) wb := by
  have sa : wa.heap.size = w3.heap.size + 1 := by rw [hwa]; simp
  have sb : wb.heap.size = w3.heap.size + 2 := by rw [hwb]; simp [sa]
  have hba : Below w3.heap.size w3 wa := by rw [hwa]; exact (Below.refl _ _).alloc (Nat.le_refl _) _
  have hbb : Below wa.heap.size wa wb := by rw [hwb]; exact (Below.refl _ _).alloc (Nat.le_refl _) _
  have h3b : Below w3.heap.size w3 wb := hba.trans (hbb.mono hba.size)
  have tg := T.lt
  have s2 := B2.size
  have s3 := B3.size
  have am := arr_new hwb (inM [] (-1)) (fun i => by simp only [inM, hasB_nil]; rw [decide_eq_false (by omega)]; rfl)
  rw [sa] at am
  exact ⟨hi.more h3b, Onc.nil, (arr_new hwa (inP (fun _ => false) []) (fun i => by simp [inP, hasB_nil])).kept (hbb.block _ (by omega)), am, B3.trans (h3b.mono s3), .inr ⟨Nat.le_refl _, by omega⟩, .inr ⟨by omega, by omega⟩, fun k hk => .inl (by omega), by omega, by omega, by omega, s3, by omega, by simp, by simp⟩

set_option maxHeartbeats 8000000 in
set_option maxRecDepth 100000 in
theorem walk (a0 : Option Addr) (len0 cap0 : Nat) (z0 : List Int) (w : World) (w0 : IsRow .u8 w a0 len0 cap0 z0) (T1 : DbTab w) :
    Calls Tryd.prog 7 #[.slice a0 len0 cap0] w fun e w' => e = .returned (.bool true) ∧ Below w.heap.size w w' := by
  have HT := hid T1
  clear T1
  by_cases hlen : (100 : Int) < len0
  · go_enter Tryd.func7, Tryd.ntmps7
    go_wp2_with fail
    refine (lives13d _ HT.out).mono ?_
    rintro e w2 ⟨rfl, hb1⟩
    have T2 := hid (HT.out.at hb1)
    go_wp2_with fail
    refine (lives13d _ T2.out).mono ?_
    rintro e w3 ⟨rfl, hb2⟩
    go_wp2
    go_ret
    exact ⟨rfl, hb1.trans (hb2.mono hb1.size)⟩
  · have hlen' : len0 ≤ 100 := by omega
    have W0 := hid w0
    clear w0
    go_enter Tryd.func7, Tryd.ntmps7
    go_wp2_with fail
    refine (lives13d _ HT.out).mono ?_
    rintro e w2 ⟨rfl, hb1⟩
    have B2 := hid hb1
    have T2 := hid (HT.out.at hb1)
    clear hb1
    go_wp2_with fail
    refine (inew_any 8 8 8 8 (by omega) (by omega) w2 T2.out).mono ?_
    rintro e w3 ⟨x, rfl, hi3, hb3⟩
    have I3 := hid hi3
    have B3 := hid (B2.out.trans (hb3.mono B2.out.size))
    have T3 := hid (HT.out.at B3.out)
    clear hi3 hb3
    go_wp2_with fail
    obtain ⟨wa, hwa⟩ : ∃ wa, wa = w3.alloc (.cells #[.int .i64 0, .int .i64 0, .int .i64 0, .int .i64 0, .int .i64 0, .int .i64 0, .int .i64 0, .int .i64 0] 53) := ⟨_, rfl⟩
    rw [← hwa]
    obtain ⟨wb, hwb⟩ : ∃ wb, wb = wa.alloc (.cells #[.int .i64 0, .int .i64 0, .int .i64 0, .int .i64 0, .int .i64 0, .int .i64 0, .int .i64 0, .int .i64 0] 53) := ⟨_, rfl⟩
    rw [← hwb]
    have S0 := hid (start_st (w0 := w) (w2 := w2) (w3 := w3) (x := x) I3.out B2.out B3.out HT.out wa hwa wb hwb)
    obtain ⟨Z, hZ⟩ : ∃ Z : Nat → Prop, Z = fun k => k < w2.heap.size ∨ (w3.heap.size ≤ k ∧ k < wb.heap.size) := ⟨_, rfl⟩
    rw [← hZ] at S0
    obtain ⟨bp, hbp⟩ : ∃ bp, bp = w3.heap.size := ⟨_, rfl⟩
    obtain ⟨bm, hbm⟩ : ∃ bm, bm = bp + 1 := ⟨_, rfl⟩
    rw [← hbp] at S0 ⊢
    rw [← hbm] at S0 ⊢
    clear hbp hbm hZ hwa hwb B2 B3 T2 T3 HT I3
    go_loopw [34] (fun i wr => ∃ (k c : Nat) (f : Nat → Bool) (pd ss : List Int) (pl : Int), k ≤ len0 ∧ i = .int .i64 k ∧ c ≤ k ∧ Hid (St Z w x bp bm c f pd ss pl wr)) (fun i _ => len0 - (intOf i).toNat)
    case atStart => exact ⟨0, 0, _, _, _, _, Nat.zero_le _, rfl, Nat.le_refl _, S0⟩
    case round =>
      clear S0
      obtain ⟨k, c, f, pd, ss, pl, hk, rfl, hck, HS⟩ := hrel
      obtain ⟨wo, rfl⟩ : ∃ wo : World, wo = wr := ⟨_, rfl⟩
      by_cases hlt : k < len0
      · obtain ⟨bx, off, rfl, hzl, hwf, hcell⟩ := W0.out.open.resolve_left (by omega)
        have hx := hcell _ HS.out.B k hlt
        obtain ⟨v, hv⟩ : ∃ v, v = z0.getD k 0 := ⟨_, rfl⟩
        have hvw := hwf (z0.getD k 0) (by
          rw [List.getD_eq_getElem?_getD, List.getElem?_eq_getElem (by omega)]; exact List.getElem_mem _)
        rw [← hv] at hx hvw
        have hv0 := (bounds_u8 hvw).1
        have hv1 := (bounds_u8 hvw).2
        clear hv hvw hwf hcell
        obtain ⟨n, hn⟩ : ∃ n : Nat, v / 8 % 8 = n := ⟨(v / 8 % 8).toNat, by omega⟩
        have hn8 : n < 8 := by omega
        have hni : (n : Int) < 8 := by omega
        have hlp := HS.out.lp
        have hls := HS.out.ls
        have HL := hid (show pd.length ≤ 100000 ∧ ss.length ≤ 100000 by omega)
        clear hlp hls
        go_upto_block 2 with (fail)
        simp only [hn]
        clear hn
        go_cut [9, 10, 11, 12, 13, 14, 15, 16, 34] from 35 to 178 (fun s9 s10 s11 s12 s13 s14 s15 s16 s34 wc => ∃ (f2 : Nat → Bool) (pd2 ss2 : List Int) (pl2 : Int), s34 = .int .i64 k ∧ Hid (St Z w x bp bm (c + 1) f2 pd2 ss2 pl2 wc))
        case first => as_aux_lemma =>
          rcases (show v % 8 = 0 ∨ v % 8 = 1 ∨ v % 8 = 2 ∨ v % 8 = 3 ∨ v % 8 = 4 ∨ v % 8 = 5 ∨ v % 8 = 6 ∨ v % 8 = 7 by omega) with hq | hq | hq | hq | hq | hq | hq | hq
          · have HH := hid HS.out
            have H8 := hid hn8
            rcases hpd : hasB (n : Int) pd with _ | _
            · rcases hfn : f n with _ | _
              · have CO := hid (putP_yes HH.out.i n hpd HL.out.1 hn8 hfn)
                have F0 := hid (show inP f pd n = false by simp [inP, hfn, hpd])
                have ON := hid (HH.out.o.putP hn8 hpd)
                clear hpd hfn
                clear HS
                go_wp2_with fail
                refine CO.out.mono ?_
                rintro e w5 ⟨rfl, hi5, fr5⟩
                have hA := (HH.out.p.kept (fr5.block _ HH.out.zp))
                have hc := hA.cell H8.out
                rw [F0.out, oneB_false] at hc
                have hf := hA.fz n
                have HF := hid (HH.out.turnP hi5 fr5 ON.out.1 H8.out (ON.out.2) (by have := HH.out.lp; omega) (z := 1) (b := true) rfl)
                clear hi5 fr5 CO hA
                go_wp2
                go_meet
                exact ⟨_, _, _, _, rfl, HF⟩
              · have CO := hid (putP_no HH.out.i n hpd HL.out.1 (.inr (by rw [inF_in hn8]; exact hfn)))
                clear hpd hfn
                clear HS
                go_wp2_with fail
                refine CO.out.mono ?_
                rintro e w5 ⟨rfl, hi5, fr5⟩
                have HF := hid (HH.out.same (v := .bool false) hi5 fr5)
                clear hi5 fr5 CO
                go_wp2
                go_meet
                exact ⟨_, _, _, _, rfl, HF⟩
            · have CO := hid (putP_has HH.out.i n hpd HL.out.1)
              clear hpd
              clear HS
              go_wp2_with fail
              refine CO.out.mono ?_
              rintro e w5 ⟨rfl, hi5, fr5⟩
              have HF := hid (HH.out.same (v := .bool false) hi5 fr5)
              clear hi5 fr5 CO
              go_wp2
              go_meet
              exact ⟨_, _, _, _, rfl, HF⟩
          · have HH := hid HS.out
            have H8 := hid hn8
            rcases hpd : hasB (n : Int) pd with _ | _
            · rcases hfn : f n with _ | _
              · have CO := hid (putP_yes HH.out.i n hpd HL.out.1 hn8 hfn)
                have F0 := hid (show inP f pd n = false by simp [inP, hfn, hpd])
                have ON := hid (HH.out.o.putP hn8 hpd)
                clear hpd hfn
                clear HS
                go_wp2_with fail
                refine CO.out.mono ?_
                rintro e w5 ⟨rfl, hi5, fr5⟩
                have hA := (HH.out.p.kept (fr5.block _ HH.out.zp))
                have hc := hA.cell H8.out
                rw [F0.out, oneB_false] at hc
                have hf := hA.fz n
                have HF := hid (HH.out.turnP hi5 fr5 ON.out.1 H8.out (ON.out.2) (by have := HH.out.lp; omega) (z := 1) (b := true) rfl)
                clear hi5 fr5 CO hA
                go_wp2
                go_meet
                exact ⟨_, _, _, _, rfl, HF⟩
              · have CO := hid (putP_no HH.out.i n hpd HL.out.1 (.inr (by rw [inF_in hn8]; exact hfn)))
                clear hpd hfn
                clear HS
                go_wp2_with fail
                refine CO.out.mono ?_
                rintro e w5 ⟨rfl, hi5, fr5⟩
                have HF := hid (HH.out.same (v := .bool false) hi5 fr5)
                clear hi5 fr5 CO
                go_wp2
                go_meet
                exact ⟨_, _, _, _, rfl, HF⟩
            · have CO := hid (putP_has HH.out.i n hpd HL.out.1)
              clear hpd
              clear HS
              go_wp2_with fail
              refine CO.out.mono ?_
              rintro e w5 ⟨rfl, hi5, fr5⟩
              have HF := hid (HH.out.same (v := .bool false) hi5 fr5)
              clear hi5 fr5 CO
              go_wp2
              go_meet
              exact ⟨_, _, _, _, rfl, HF⟩
          · have HH := hid HS.out
            have H8 := hid hn8
            rcases hpd : hasB (n : Int) pd with _ | _
            · rcases hfn : f n with _ | _
              · have CO := hid (pend_yes HH.out.i n HL.out.1 hn8 hfn hpd)
                have F0 := hid (show inP f pd n = false by simp [inP, hfn, hpd])
                have ON := hid (HH.out.o.pend hn8 hfn hpd)
                clear hpd hfn
                clear HS
                go_wp2_with fail
                refine CO.out.mono ?_
                rintro e w5 ⟨rfl, hi5, fr5⟩
                have hA := (HH.out.p.kept (fr5.block _ HH.out.zp))
                have hc := hA.cell H8.out
                rw [F0.out, oneB_false] at hc
                have hf := hA.fz n
                have HF := hid (HH.out.turnP hi5 fr5 ON.out.1 H8.out (ON.out.2) (by have := HH.out.lp; simp; omega) (z := 1) (b := true) rfl)
                clear hi5 fr5 CO hA
                go_wp2
                go_meet
                exact ⟨_, _, _, _, rfl, HF⟩
              · have CO := hid (pend_no HH.out.i n HL.out.1 (.inr (.inl ⟨by omega, by omega, by rw [inF_in hn8]; exact hfn⟩)))
                clear hpd hfn
                clear HS
                go_wp2_with fail
                refine CO.out.mono ?_
                rintro e w5 ⟨rfl, hi5, fr5⟩
                have HF := hid (HH.out.same (v := .bool false) hi5 fr5)
                clear hi5 fr5 CO
                go_wp2
                go_meet
                exact ⟨_, _, _, _, rfl, HF⟩
            · rcases hfn : f n with _ | _
              · have CO := hid (pend_no HH.out.i n HL.out.1 (.inr (.inr ⟨by omega, by omega, by rw [inF_in hn8]; exact hfn, hpd⟩)))
                clear hpd hfn
                clear HS
                go_wp2_with fail
                refine CO.out.mono ?_
                rintro e w5 ⟨rfl, hi5, fr5⟩
                have HF := hid (HH.out.same (v := .bool false) hi5 fr5)
                clear hi5 fr5 CO
                go_wp2
                go_meet
                exact ⟨_, _, _, _, rfl, HF⟩
              · have CO := hid (pend_no HH.out.i n HL.out.1 (.inr (.inl ⟨by omega, by omega, by rw [inF_in hn8]; exact hfn⟩)))
                clear hpd hfn
                clear HS
                go_wp2_with fail
                refine CO.out.mono ?_
                rintro e w5 ⟨rfl, hi5, fr5⟩
                have HF := hid (HH.out.same (v := .bool false) hi5 fr5)
                clear hi5 fr5 CO
                go_wp2
                go_meet
                exact ⟨_, _, _, _, rfl, HF⟩
          · have HH := hid HS.out
            rcases next_cases f 8 (-1) with ⟨_, h2⟩ | ⟨j, h1, h2, h3, h4, h5⟩
            · have CO := hid (takeP_none HH.out.i (fun i hi => h2 i (by omega) hi))
              clear h2
              clear HS
              go_wp2_with fail
              refine CO.out.mono ?_
              rintro e w5 ⟨rfl, hi5, fr5⟩
              have HF := hid (HH.out.same (v := .bool false) hi5 fr5)
              clear hi5 fr5 CO
              go_wp2
              go_meet
              exact ⟨_, _, _, _, rfl, HF⟩
            · have CO := hid (takeP_least HH.out.i j h3 h4 (fun i hi => h5 i (by omega) hi))
              have ON0 := HH.out.o.takeP h4
              have F0 := hid ON0.2.2
              have ON := hid (show _ ∧ _ from ⟨ON0.1, ON0.2.1⟩)
              have H8 := hid h3
              have hj8 : (j : Int) < 8 := by omega
              have ha7 := and7 ⟨j, H8.out⟩
              simp only at ha7
              clear h1 h2 h3 h4 h5 ON0
              clear HS
              go_wp2_with fail
              refine CO.out.mono ?_
              rintro e w5 ⟨rfl, hi5, fr5⟩
              have hA := (HH.out.p.kept (fr5.block _ HH.out.zp))
              have hc := hA.cell H8.out
              rw [F0.out, oneB_true] at hc
              have hf := hA.fz j
              have HF := hid (HH.out.turnP hi5 fr5 ON.out.1 H8.out (ON.out.2) (by have := HH.out.lp; omega) (z := 0) (b := false) rfl)
              clear hi5 fr5 CO hA
              go_wp2
              go_meet
              exact ⟨_, _, _, _, rfl, HF⟩
          · have HH := hid HS.out
            rcases pd with _ | ⟨m, xs⟩
            · have CO := hid (takePend_none HH.out.i)
              clear HS
              go_wp2_with fail
              refine CO.out.mono ?_
              rintro e w5 ⟨rfl, hi5, fr5⟩
              have HF := hid (HH.out.same (v := .bool false) hi5 fr5)
              clear hi5 fr5 CO
              go_wp2
              go_meet
              exact ⟨_, _, _, _, rfl, HF⟩
            · have CO := hid (takePend_first m HH.out.i)
              obtain ⟨j, rfl, h3, ON1, ON2, F1⟩ := HH.out.o.takePend
              have F0 := hid F1
              have ON := hid (show _ ∧ _ from ⟨ON1, ON2⟩)
              have H8 := hid h3
              have hj8 : (j : Int) < 8 := by omega
              have ha7 := and7 ⟨j, H8.out⟩
              simp only at ha7
              clear h3 ON1 ON2 F1
              clear HS
              go_wp2_with fail
              refine CO.out.mono ?_
              rintro e w5 ⟨rfl, hi5, fr5⟩
              have hA := (HH.out.p.kept (fr5.block _ HH.out.zp))
              have hc := hA.cell H8.out
              rw [F0.out, oneB_true] at hc
              have hf := hA.fz j
              have HF := hid (HH.out.turnP hi5 fr5 ON.out.1 H8.out (ON.out.2) (by have := HH.out.lp; simp at this; omega) (z := 0) (b := false) rfl)
              clear hi5 fr5 CO hA
              go_wp2
              go_meet
              exact ⟨_, _, _, _, rfl, HF⟩
          · have HH := hid HS.out
            have H8 := hid hn8
            have hpr := HS.out.o.pr
            rcases hss : hasB (n : Int) ss with _ | _
            · by_cases hpl : pl = -1
              · subst hpl
                have CO := hid (iStop_first HH.out.i n (by omega) (by omega) hss HL.out.2)
                have F0 := hid (show inM ss (-1) n = false by simp only [inM, hss]; rw [decide_eq_false (by omega)]; rfl)
                have ON := hid (HH.out.o.first hn8 hss)
                clear hss hpr
                clear HS
                go_wp2_with fail
                refine CO.out.mono ?_
                rintro e w5 ⟨rfl, hi5, fr5⟩
                have hA := (HH.out.m.kept (fr5.block _ HH.out.zm))
                have hc := hA.cell H8.out
                rw [F0.out, oneB_false] at hc
                have hf := hA.fz n
                have HF := hid (HH.out.turnM hi5 fr5 ON.out.1 H8.out (ON.out.2) (by have := HH.out.ls; omega) (z := 1) (b := true) rfl)
                clear hi5 fr5 CO hA
                go_wp2
                go_meet
                exact ⟨_, _, _, _, rfl, HF⟩
              · by_cases hnp : (n : Int) = pl
                · have CO := hid (iStop_no HH.out.i n (by omega) (by omega) (.inl hnp) HL.out.2)
                  clear hss hpr hnp hpl
                  clear HS
                  go_wp2_with fail
                  refine CO.out.mono ?_
                  rintro e w5 ⟨rfl, hi5, fr5⟩
                  have HF := hid (HH.out.same (v := .bool false) hi5 fr5)
                  clear hi5 fr5 CO
                  go_wp2
                  go_meet
                  exact ⟨_, _, _, _, rfl, HF⟩
                · have CO := hid (iStop_more HH.out.i n (by rcases hpr with h | ⟨j, h, _⟩ <;> omega) hnp (by omega) (by omega) hss HL.out.2)
                  have F0 := hid (show inM ss pl n = false by simp only [inM, hss]; rw [decide_eq_false (Ne.symm hnp)]; rfl)
                  have ON := hid (HH.out.o.more hn8 hss hnp)
                  clear hss hpr hnp hpl
                  clear HS
                  go_wp2_with fail
                  refine CO.out.mono ?_
                  rintro e w5 ⟨rfl, hi5, fr5⟩
                  have hA := (HH.out.m.kept (fr5.block _ HH.out.zm))
                  have hc := hA.cell H8.out
                  rw [F0.out, oneB_false] at hc
                  have hf := hA.fz n
                  have HF := hid (HH.out.turnM hi5 fr5 ON.out.1 H8.out (ON.out.2) (by have := HH.out.ls; simp; omega) (z := 1) (b := true) rfl)
                  clear hi5 fr5 CO hA
                  go_wp2
                  go_meet
                  exact ⟨_, _, _, _, rfl, HF⟩
            · by_cases hnp : (n : Int) = pl
              · have CO := hid (iStop_no HH.out.i n (by omega) (by omega) (.inl hnp) HL.out.2)
                clear hss hpr hnp
                clear HS
                go_wp2_with fail
                refine CO.out.mono ?_
                rintro e w5 ⟨rfl, hi5, fr5⟩
                have HF := hid (HH.out.same (v := .bool false) hi5 fr5)
                clear hi5 fr5 CO
                go_wp2
                go_meet
                exact ⟨_, _, _, _, rfl, HF⟩
              · have CO := hid (iStop_no HH.out.i n (by omega) (by omega) (.inr ⟨hnp, hss⟩) HL.out.2)
                clear hss hpr hnp
                clear HS
                go_wp2_with fail
                refine CO.out.mono ?_
                rintro e w5 ⟨rfl, hi5, fr5⟩
                have HF := hid (HH.out.same (v := .bool false) hi5 fr5)
                clear hi5 fr5 CO
                go_wp2
                go_meet
                exact ⟨_, _, _, _, rfl, HF⟩
          · have HH := hid HS.out
            have H8 := hid hn8
            have hpr := HS.out.o.pr
            rcases hss : hasB (n : Int) ss with _ | _
            · by_cases hpl : pl = -1
              · subst hpl
                have CO := hid (iStop_first HH.out.i n (by omega) (by omega) hss HL.out.2)
                have F0 := hid (show inM ss (-1) n = false by simp only [inM, hss]; rw [decide_eq_false (by omega)]; rfl)
                have ON := hid (HH.out.o.first hn8 hss)
                clear hss hpr
                clear HS
                go_wp2_with fail
                refine CO.out.mono ?_
                rintro e w5 ⟨rfl, hi5, fr5⟩
                have hA := (HH.out.m.kept (fr5.block _ HH.out.zm))
                have hc := hA.cell H8.out
                rw [F0.out, oneB_false] at hc
                have hf := hA.fz n
                have HF := hid (HH.out.turnM hi5 fr5 ON.out.1 H8.out (ON.out.2) (by have := HH.out.ls; omega) (z := 1) (b := true) rfl)
                clear hi5 fr5 CO hA
                go_wp2
                go_meet
                exact ⟨_, _, _, _, rfl, HF⟩
              · by_cases hnp : (n : Int) = pl
                · have CO := hid (iStop_no HH.out.i n (by omega) (by omega) (.inl hnp) HL.out.2)
                  clear hss hpr hnp hpl
                  clear HS
                  go_wp2_with fail
                  refine CO.out.mono ?_
                  rintro e w5 ⟨rfl, hi5, fr5⟩
                  have HF := hid (HH.out.same (v := .bool false) hi5 fr5)
                  clear hi5 fr5 CO
                  go_wp2
                  go_meet
                  exact ⟨_, _, _, _, rfl, HF⟩
                · have CO := hid (iStop_more HH.out.i n (by rcases hpr with h | ⟨j, h, _⟩ <;> omega) hnp (by omega) (by omega) hss HL.out.2)
                  have F0 := hid (show inM ss pl n = false by simp only [inM, hss]; rw [decide_eq_false (Ne.symm hnp)]; rfl)
                  have ON := hid (HH.out.o.more hn8 hss hnp)
                  clear hss hpr hnp hpl
                  clear HS
                  go_wp2_with fail
                  refine CO.out.mono ?_
                  rintro e w5 ⟨rfl, hi5, fr5⟩
                  have hA := (HH.out.m.kept (fr5.block _ HH.out.zm))
                  have hc := hA.cell H8.out
                  rw [F0.out, oneB_false] at hc
                  have hf := hA.fz n
                  have HF := hid (HH.out.turnM hi5 fr5 ON.out.1 H8.out (ON.out.2) (by have := HH.out.ls; simp; omega) (z := 1) (b := true) rfl)
                  clear hi5 fr5 CO hA
                  go_wp2
                  go_meet
                  exact ⟨_, _, _, _, rfl, HF⟩
            · by_cases hnp : (n : Int) = pl
              · have CO := hid (iStop_no HH.out.i n (by omega) (by omega) (.inl hnp) HL.out.2)
                clear hss hpr hnp
                clear HS
                go_wp2_with fail
                refine CO.out.mono ?_
                rintro e w5 ⟨rfl, hi5, fr5⟩
                have HF := hid (HH.out.same (v := .bool false) hi5 fr5)
                clear hi5 fr5 CO
                go_wp2
                go_meet
                exact ⟨_, _, _, _, rfl, HF⟩
              · have CO := hid (iStop_no HH.out.i n (by omega) (by omega) (.inr ⟨hnp, hss⟩) HL.out.2)
                clear hss hpr hnp
                clear HS
                go_wp2_with fail
                refine CO.out.mono ?_
                rintro e w5 ⟨rfl, hi5, fr5⟩
                have HF := hid (HH.out.same (v := .bool false) hi5 fr5)
                clear hi5 fr5 CO
                go_wp2
                go_meet
                exact ⟨_, _, _, _, rfl, HF⟩
          · have HH := hid HS.out
            rcases List.eq_nil_or_concat ss with rfl | ⟨ss', m, rfl⟩
            · by_cases hpl : pl = -1
              · subst hpl
                have CO := hid (iTakeM_none HH.out.i)
                clear HS
                go_wp2_with fail
                refine CO.out.mono ?_
                rintro e w5 ⟨rfl, hi5, fr5⟩
                have HF := hid (HH.out.same (v := .bool false) hi5 fr5)
                clear hi5 fr5 CO
                go_wp2
                go_meet
                exact ⟨_, _, _, _, rfl, HF⟩
              · obtain ⟨j, rfl, h3, ON1, ON2, F1⟩ := HH.out.o.takePoll hpl
                have CO := hid (iTakeM_poller HH.out.i (by omega))
                have F0 := hid F1
                have ON := hid (show _ ∧ _ from ⟨ON1, ON2⟩)
                have H8 := hid h3
                have hj8 : (j : Int) < 8 := by omega
                have ha7 := and7 ⟨j, H8.out⟩
                simp only at ha7
                clear h3 ON1 ON2 F1 hpl
                clear HS
                go_wp2_with fail
                refine CO.out.mono ?_
                rintro e w5 ⟨rfl, hi5, fr5⟩
                have hA := (HH.out.m.kept (fr5.block _ HH.out.zm))
                have hc := hA.cell H8.out
                rw [F0.out, oneB_true] at hc
                have hf := hA.fz j
                have HF := hid (HH.out.turnM hi5 fr5 ON.out.1 H8.out (ON.out.2) (by have := HH.out.ls; simp at this; simp) (z := 0) (b := false) rfl)
                clear hi5 fr5 CO hA
                go_wp2
                go_meet
                exact ⟨_, _, _, _, rfl, HF⟩
            · rw [List.concat_eq_append] at HH HL
              obtain ⟨j, rfl, h3, ON1, ON2, F1⟩ := HH.out.o.takeM
              have CO := hid (iTakeM_last _ HH.out.i (by have := HL.out.2; simp at this; omega))
              have F0 := hid F1
              have ON := hid (show _ ∧ _ from ⟨ON1, ON2⟩)
              have H8 := hid h3
              have hj8 : (j : Int) < 8 := by omega
              have ha7 := and7 ⟨j, H8.out⟩
              simp only at ha7
              clear h3 ON1 ON2 F1
              clear HS
              go_wp2_with fail
              refine CO.out.mono ?_
              rintro e w5 ⟨rfl, hi5, fr5⟩
              have hA := (HH.out.m.kept (fr5.block _ HH.out.zm))
              have hc := hA.cell H8.out
              rw [F0.out, oneB_true] at hc
              have hf := hA.fz j
              have HF := hid (HH.out.turnM hi5 fr5 ON.out.1 H8.out (ON.out.2) (by have := HH.out.ls; simp at this; omega) (z := 0) (b := false) rfl)
              clear hi5 fr5 CO hA
              go_wp2
              go_meet
              exact ⟨_, _, _, _, rfl, HF⟩
        case rest => as_aux_lemma =>
          obtain ⟨f2, pd2, ss2, pl2, rfl, HC⟩ := hcut
          clear HS hx hv0 hv1
          have P01 := hid (fun i => oneB_01 (inP f2 pd2 i))
          have M01 := hid (fun i => oneB_01 (inM ss2 pl2 i))
          go_wp2_with fail
          go_loopw [17, 18, 120] (fun np nm i wq => ∃ j : Nat, j ≤ 8 ∧ i = .int .i64 j ∧ np = .int .i64 (card (inP f2 pd2) j) ∧ nm = .int .i64 (card (inM ss2 pl2) j) ∧ Hid (St Z w x bp bm (c + 1) f2 pd2 ss2 pl2 wq)) (fun _ _ i _ => 8 - (intOf i).toNat)
          case atStart => exact ⟨0, Nat.zero_le _, rfl, rfl, rfl, HC⟩
          case round =>
            clear HC
            obtain ⟨j, hj, rfl, rfl, rfl, HC⟩ := hrel
            obtain ⟨wi, rfl⟩ : ∃ wi : World, wi = wr := ⟨_, rfl⟩
            by_cases hj8 : j < 8
            · have hj8i : (j : Int) < 8 := by omega
              have e1 := HC.out.p.cell hj8
              have e2 := HC.out.m.cell hj8
              have cp := card_le (inP f2 pd2) j
              have cm := card_le (inM ss2 pl2) j
              have cp1 : card (inP f2 pd2) (j + 1) = card (inP f2 pd2) j + if inP f2 pd2 j then 1 else 0 := rfl
              have cm1 : card (inM ss2 pl2) (j + 1) = card (inM ss2 pl2) j + if inM ss2 pl2 j then 1 else 0 := rfl
              have q1 := P01.out j
              have q2 := M01.out j
              rw [← oneB_nat] at cp1 cm1
              obtain ⟨y1, hy1⟩ : ∃ y, y = oneB (inP f2 pd2 j) := ⟨_, rfl⟩
              obtain ⟨y2, hy2⟩ : ∃ y, y = oneB (inM ss2 pl2 j) := ⟨_, rfl⟩
              obtain ⟨n1, hn1⟩ : ∃ y, y = card (inP f2 pd2) j := ⟨_, rfl⟩
              obtain ⟨n2, hn2⟩ : ∃ y, y = card (inM ss2 pl2) j := ⟨_, rfl⟩
              rw [← hy1] at e1 q1 cp1
              rw [← hy2] at e2 q2 cm1
              rw [← hn1] at cp cp1 ⊢
              rw [← hn2] at cm cm1 ⊢
              have CP := hid (show ((n1 : Int) + y1) = (card (inP f2 pd2) (j + 1) : Nat) by rw [cp1]; omega)
              have CM := hid (show ((n2 : Int) + y2) = (card (inM ss2 pl2) (j + 1) : Nat) by rw [cm1]; omega)
              have g1 := q1.1
              have g2 := q1.2
              have g3 := q2.1
              have g4 := q2.2
              have s1 : IntKind.i64.wrap ((n1 : Int) + y1) = (n1 : Int) + y1 := IntWalk.i64_in _ (by omega)
              have s2 : IntKind.i64.wrap ((n2 : Int) + y2) = (n2 : Int) + y2 := IntWalk.i64_in _ (by omega)
              clear hy1 hy2 hn1 hn2 cp1 cm1 q1 q2
              go_wp2_with fail
              go_quiet (fail)
              have HC2 := hid (HC.out.qt (w' := wi.drewN nq) ⟨nq, rfl⟩)
              go_wp2_with fail
              go_roundw
              case rel => exact ⟨j + 1, by omega, by go_num, by rw [← CP.out], by rw [← CM.out], HC2⟩
              case measure => simp [intOf]; omega
            · obtain rfl : j = 8 := by omega
              have CP := HC.out.o.cardP
              have CM := HC.out.o.cardM
              have hpr := HC.out.o.pr
              obtain ⟨cf, hcf⟩ : ∃ y, y = card f2 8 := ⟨_, rfl⟩
              obtain ⟨lp, hlp⟩ : ∃ y, y = pd2.length := ⟨_, rfl⟩
              obtain ⟨ls, hls⟩ : ∃ y, y = ss2.length := ⟨_, rfl⟩
              obtain ⟨n1, hn1⟩ : ∃ y, y = card (inP f2 pd2) 8 := ⟨_, rfl⟩
              obtain ⟨n2, hn2⟩ : ∃ y, y = card (inM ss2 pl2) 8 := ⟨_, rfl⟩
              have CNT := hid (countP_any HC.out.i)
              have PEN := hid (pending_any HC.out.i)
              have CNM := hid (iCountM HC.out.i ls hls.symm)
              have hcf8 : cf ≤ 8 := by rw [hcf]; exact card_le f2 8
              have hlpb : lp ≤ c + 1 := by rw [hlp]; exact HC.out.lp
              have hlsb : ls ≤ c + 1 := by rw [hls]; exact HC.out.ls
              rw [← hcf, ← hlp, ← hn1] at CP
              rw [← hls, ← hn2] at CM
              rw [← hcf] at CNT
              rw [← hlp] at PEN
              rw [← hn1, ← hn2]
              have t1 : (((cf : Int) + lp) != n1) = false := by rw [CP]; simp
              clear hcf hlp hls hn1 hn2 CP
              by_cases hpl : pl2 = -1
              · subst hpl
                rw [if_pos rfl] at CM
                have t2 : ((ls : Int) != n2) = false := by rw [CM]; simp
                have POL := hid (iPoller_no HC.out.i)
                clear CM hpr
                go_wp2_with fail
                refine CNM.out.mono ?_
                rintro e w5 ⟨rfl, rfl⟩
                go_wp2_with fail
                refine POL.out.mono ?_
                rintro e w5 ⟨rfl, rfl⟩
                go_wp2_with fail
                refine CNT.out.mono ?_
                rintro e w5 ⟨rfl, rfl⟩
                go_wp2_with fail
                refine PEN.out.mono ?_
                rintro e w5 ⟨rfl, rfl⟩
                go_wp2_with fail
                go_roundw
                case rel => exact ⟨k + 1, c + 1, _, _, _, _, by omega, by go_num, by omega, HC⟩
                case measure => simp [intOf]; omega
              · rw [if_neg hpl] at CM
                have t2 : (((ls : Int) + 1) != n2) = false := by rw [CM]; simp
                have POL := hid (iPoller_yes HC.out.i (by rcases hpr with h | ⟨j, h, _⟩ <;> omega))
                clear CM hpr hpl
                go_wp2_with fail
                refine CNM.out.mono ?_
                rintro e w5 ⟨rfl, rfl⟩
                go_wp2_with fail
                refine POL.out.mono ?_
                rintro e w5 ⟨rfl, rfl⟩
                go_wp2_with fail
                refine CNT.out.mono ?_
                rintro e w5 ⟨rfl, rfl⟩
                go_wp2_with fail
                refine PEN.out.mono ?_
                rintro e w5 ⟨rfl, rfl⟩
                go_wp2_with fail
                go_roundw
                case rel => exact ⟨k + 1, c + 1, _, _, _, _, by omega, by go_num, by omega, HC⟩
                case measure => simp [intOf]; omega
      · obtain rfl : k = len0 := by omega
        go_wp2
        go_ret
        exact ⟨rfl, HS.out.B⟩
end Go.Proofs.YtcbdmofdbmimfaaDoor.idleOnce
