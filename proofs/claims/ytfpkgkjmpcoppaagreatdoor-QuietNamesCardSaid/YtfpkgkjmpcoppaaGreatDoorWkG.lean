/- quiet.Check of a world of one, behind no step and behind ten; a goroutine's law's beginning. -/
import Derived.Test.YtfpkgkjmpcoppaaGreatDoorWkF
import Derived.Test.YtfpkgkjmpcoppaaGreatDoorLives20
namespace Go.Proofs.YtfpkgkjmpcoppaaGreatDoor
open Go.RowKit
set_option linter.unusedVariables false
set_option linter.unusedSimpArgs false
set_option maxRecDepth 20000
/-- A slice of one fault is answered. -/
def Q0P (w : World) (e : Ending) (w' : World) : Prop := ∃ g, e = .returned (.slice (some ⟨g, 0, none⟩) 1 1) ∧ w'.cell? ⟨g, 0, none⟩ = some (.int .i64 0) ∧ w.heap.size ≤ g ∧ g < w'.heap.size ∧ Below w.heap.size w w'
theorem qcheck0 {w : World} {W b1 b2 rb tb q sb ib mb rc : Nat} {lg : Value} (h : Wb w W b1 b2 rb tb q sb ib mb rc lg) (hc : w.cell? ⟨mb, 0, none⟩ = some (.int .i64 1)) :
    Calls Tryz.prog 57 #[.pointer (some ⟨W, 0, none⟩)] w (Q0P w) := by
  have QN := hid (quiet_no h hc)
  clear h hc
  go_enter Tryz.func57, Tryz.ntmps57
  go_wp2_with fail
  refine QN.out.mono ?_
  rintro e w2 ⟨rfl, hb⟩
  have HB := hid hb
  clear hb QN
  go_wp2
  go_ret
  have hs := HB.out.size
  exact ⟨w2.heap.size, rfl, blk_cell (heap_alloc_new w2 _) rfl, hs, by simp, HB.out.alloc hs _⟩
theorem at_add {w0 w w' : World} {B : K.Bs} (h : K.At w0 B 0 w) (hb : Below w.heap.size w w') (g : Nat) (hg : w.heap.size ≤ g ∧ g < w'.heap.size) : K.At w0 { B with K := fun k => B.K k ∨ k = g, v := fun k => w'.heap[k]? } 0 w' := by
  obtain ⟨r, lg, ra, rn, rcc, bk, s0, s1, s2, s3, s4, yes, hw, ht, hf, hr⟩ := h
  have h2 := hw.below hb
  refine ⟨r, lg, ra, rn, rcc, bk, s0, s1, s2, s3, s4, yes, ⟨h2.wb, h2.mc, h2.m1, h2.m2, h2.l1, h2.l2, h2.c1, h2.c2, h2.tl, h2.qu, h2.lgr, h2.n1, h2.T1, h2.T2, h2.T3, h2.U1, h2.U2, h2.U3, h2.bl, h2.nd, h2.ge, h2.al, h2.ro, h2.lo, fun k hk => rfl, fun k hk => ?_⟩, (hb.cell (p := ⟨B.tb, 0, none⟩) hw.tl).trans ht, by rw [← hf]; simp [World.frozen?, hb.block _ hw.tl], (show K.Rn w' B from hr.kept hw (S := []) (OnL.of_below hb) (by simp) (by simp))⟩
  rcases hk with hk | hk
  · exact h2.kn k hk
  · subst hk
    refine ⟨hg.2, fun e => ?_, fun e => ?_, fun e => ?_⟩
    · have := hw.al k e; omega
    · have := hw.qu.hb.rlt k e; omega
    · have := (hw.lgr.lt k e).2; omega
section
variable {w w' : World} {W b1 b2 rb tb q sb ib mb rc : Nat} {lg : Value}
theorem fld_c (w : World) : (Instr.field 24 (.agg #[.int .i64 1, .int .i64 1, .int .i64 1]) 1).run Tryz.prog w = .ok (.int .i64 1) w := by
  first | rfl | kernel_rfl | go_simp
set_option maxHeartbeats 4000000 in
theorem qkept (h : Wb w W b1 b2 rb tb q sb ib mb rc lg) {ra : Option Addr} {rcc : Nat} (hr : RcOK ra rcc) (hm : Mc w mb 0 0 0 (-1) (-1) (-1) 0 false false (.slice ra 0 rcc) 20 0 0 0 0 0 0 0 true 0) :
    Calls Tryz.prog 96 #[.pointer (some ⟨W, 0, none⟩)] w fun e w' => e = .returned (.bool false) ∧ Below w.heap.size w w' := by
  have CF := hid (show Calls Tryz.prog 10 #[.pointer (some ⟨W, 0, none⟩)] w fun e w' => e = .returned (.agg #[.int .i64 1, .int .i64 1, .int .i64 1]) ∧ Below w.heap.size w w' from gconfig (P := 1) (M := 1) (G := 1) h.h)
  have CM := hid (fun (y : World) (hb : Below w.heap.size w y) => wmach (h.kept (hb.block _ h.lt)) hr (hm.kept (hb.block _ hm.lt)))
  have CA := hid (fun (y : World) (hb : Below w.heap.size w y) => asleep_no (h.kept (hb.block _ h.lt)) 0 ((hm.kept (hb.block _ hm.lt)).c0) (by decide))
  have FC := fld_c
  clear h hr hm
  go_enter Tryz.func96, Tryz.ntmps96
  go_wp2_with fail
  refine CF.out.mono ?_
  rintro e w2 ⟨rfl, hb⟩
  have B2 := hid hb
  clear hb CF
  go_wp2_with fail
  go_loopw [8] (fun x wr => (x = .int .i64 0 ∨ x = .int .i64 1) ∧ Hid (Below w.heap.size w wr)) (fun x _ => 1 - (intOf x).toNat)
  case atStart => exact ⟨.inl rfl, B2⟩
  case round =>
    clear B2
    obtain ⟨rfl | rfl, BR⟩ := hrel
    · go_wp2_with fail
      refine (CM.out wr BR.out).mono ?_
      rintro e w3 ⟨a, n, c, rfl, hb⟩
      have B3 := hid (BR.out.trans (hb.mono BR.out.size))
      clear hb BR
      go_wp2_with (refine wpList_store_new rfl 43 (.tmp 4) (.tmp 13) rfl _ (mR (.slice a n c)) 43 rfl rfl (by kernel_rfl) (by rfl) (by simp [mR, Value.oneCell']) ?_)
      have B4 := hid (B3.out.alloc B3.out.size (.cells (mR (.slice a n c)) 43))
      refine (CA.out _ B4.out).mono ?_
      rintro e w5 ⟨rfl, hq⟩
      have B5 := hid (B4.out.trans (hq.below _))
      clear hq B4 B3
      go_wp2_with fail
      go_roundw
      case rel => exact ⟨.inr (by go_num), B5⟩
      case measure => simp [intOf]
    · have B5 := hid BR.out
      clear BR
      go_wp2
      go_ret
      exact ⟨rfl, B5.out⟩
theorem qtell (f : Int) (bx : Nat) (w : World) : Calls Tryz.prog 91 #[.int .i64 f, .bool false, .pointer (some ⟨bx, 0, none⟩)] w fun e w' => e = .returned (.tuple #[]) ∧ w' = w := by
  go_enter Tryz.func91, Tryz.ntmps91
  go_wp2
  go_end0
  exact ⟨rfl, rfl⟩
/-- The machine's block is none of the memory's. -/
theorem mc_apart {g2 : Nat} {ys : List Int} {c : Nat} (hm2 : Mem w b2 g2 ys c) (h0 : 0 < ys.length) (hm : w.cell? ⟨mb, 19, none⟩ = some (.int .i64 0)) (hm0 : w.cell? ⟨mb, 0, none⟩ = some (.int .i64 0)) : mb ≠ b2 ∧ mb ≠ g2 := by
  obtain ⟨cap, cur, e1, e2, e3, e4, e5, e6⟩ := hm2.h
  refine ⟨fun e => ?_, fun e => ?_⟩
  · subst e
    simp [World.cell?, e1] at hm
  · subst e
    have h1 : cur.toList[0]? = (ys.map (Value.int .u64))[0]? := by rw [← e6, List.getElem?_take_of_lt h0]
    rw [List.getElem?_map, List.getElem?_eq_getElem h0] at h1
    have h2 : cur[0]? = some (.int .i64 0) := by simpa [World.cell?, e2] using hm0
    rw [← Array.getElem?_toList, h1] at h2
    simp at h2
set_option maxHeartbeats 4000000 in
theorem qcheck10 (h : Wb w W b1 b2 rb tb q sb ib mb rc lg) {ra : Option Addr} {rcc g2 : Nat} (hr : RcOK ra rcc) (hm : Mc w mb 0 0 0 (-1) (-1) (-1) 0 false false (.slice ra 0 rcc) 20 0 0 0 0 0 0 0 true 0) (hm2 : Mem w b2 g2 [0, 0, 0, 0, 0, 0, 0, 0, 2] 2) (n1 : W ≠ b2) (n2 : W ≠ g2) (ht : 7 ≠ b2 ∧ 7 ≠ g2) {Z : Nat → Prop} (hi : Ids Z ib 1 (idf 1) [] ((1 : Nat) : Int) (ssOf 1) (plOf 1) w) :
    Calls Tryz.prog 57 #[.pointer (some ⟨W, 0, none⟩)] w fun e w' => e = .returned (.slice none 0 0) ∧ OnL [b2, g2] w w' := by
  have QY := hid (quiet_yes h hm.c0)
  have hap := mc_apart hm2 (by decide) hm.c19 hm.c0
  have CI := hid (gidle (P := 1) (M := 1) (G := 1) (sp := 6) (nt := 7) (fr := 8) (rv := .slice (some ⟨rb, 0, none⟩) 1 rc) (lv := lg) (b1 := b1) (b2 := b2) (tb := tb) (q := q) (sb := sb) (mb := mb) h.h hi (by decide) (by decide))
  have HT := hid ht
  have HW := hid h
  have HM := hid hm
  have HR := hid hr
  have H2 := hid hm2
  have HN := hid (And.intro n1 (And.intro n2 hap))
  clear h hm hr hm2 n1 n2 hap hi ht
  go_enter Tryz.func57, Tryz.ntmps57
  go_wp2_with fail
  refine QY.out.mono ?_
  rintro e y ⟨rfl, hy⟩
  subst y
  go_wp2_with fail
  refine CI.out.mono ?_
  rintro e w2 ⟨rfl, hI2, hb2⟩
  obtain ⟨i, hi⟩ : ∃ i, i = w.heap.size := ⟨_, rfl⟩
  rw [← hi] at hI2 ⊢
  have I2 := hid hI2
  have B2 := hid hb2
  have HI := hid hi
  clear hI2 hb2 hi CI QY
  go_wp2_with fail
  refine (iPoller_no I2.out).mono ?_
  rintro e w3 ⟨rfl, hw3⟩
  subst w3
  go_wp2_with fail
  refine (countP_any I2.out).mono ?_
  rintro e w3 ⟨rfl, hw3⟩
  subst w3
  have hcd : card (idf 1) 1 = 0 := by decide
  rw [hcd]
  obtain ⟨bx, hbx⟩ : ∃ bx, bx = w2.heap.size := ⟨_, rfl⟩
  obtain ⟨w3, hw3⟩ : ∃ w3, w3 = w2.alloc (.cells #[.slice none 0 0] 115) := ⟨_, rfl⟩
  have B3 := hid (show Below w2.heap.size w2 w3 by rw [hw3]; exact bla w2 _)
  have X3 := hid (show w3.heap[bx]? = some (.cells #[.slice none 0 0] 115 (0, 0)) by rw [hw3, hbx]; exact heap_alloc_new w2 _)
  have BW := hid (show Below w.heap.size w w3 from B2.out.trans (B3.out.mono B2.out.size))
  have SX := hid (show w2.heap.size ≤ bx by omega)
  have I3 := hid (I2.out.below B3.out)
  go_upto_region 8 with (fail)
  rw [← hw3, ← hbx]
  clear hw3 hbx
  have SP := hid (gspin (P := 1) (M := 1) (G := 1) (sp := 6) (nt := 7) (fr := 8) (rv := .slice (some ⟨rb, 0, none⟩) 1 rc) (lv := lg) (b1 := b1) (tb := tb) (q := q) (sb := sb) (ib := ib) (mb := mb) (v := 0) ((HW.out.kept (BW.out.block _ HW.out.lt)).h) (H2.out.below BW.out H2.out.sb H2.out.sg) (by decide) (by decide) (by decide) (by decide))
  go_wp2_with fail
  refine SP.out.mono ?_
  rintro e w4 ⟨rfl, hm4, ho4⟩
  have hlt2 := H2.out.sb
  have hlg2 := H2.out.sg
  have hs2 := B2.out.size
  have hs3 := B3.out.size
  have sx := SX.out
  have k4 : ∀ k, k < w3.heap.size → k ≠ b2 → k ≠ g2 → w4.heap[k]? = w3.heap[k]? := fun k h1 h2 h3 => ho4.block k h1 h2 h3
  have X4 := hid ((k4 bx (blk_lt X3.out) (by omega) (by omega)).trans X3.out)
  have W4 := hid (show Wb w4 W b1 b2 rb tb q sb ib mb rc lg from HW.out.kept ((k4 W (by have := HW.out.lt; omega) HN.out.1 HN.out.2.1).trans (BW.out.block _ HW.out.lt)))
  have M4 := hid (HM.out.kept ((k4 mb (by have := HM.out.lt; omega) HN.out.2.2.1 HN.out.2.2.2).trans (BW.out.block _ HM.out.lt)))
  have I4 := hid (show Ids (· < i) i 1 (idf 1) [] ((1 : Nat) : Int) (ssOf 1) (plOf 1) w4 from I3.out.rez (fun k h1 h2 => k4 k h2 (by have := HI.out; omega) (by have := HI.out; omega)) (by
    exact k4 _ I3.out.T.lt HT.out.1 HT.out.2) (fun k h1 _ => h1) (fun k h1 => by have := ho4.size; have := HI.out; omega) I3.out.hz)
  have O4 := hid (show OnL [b2, g2] w w4 from (OnL.of_below BW.out).trans (OnL.of_only ho4 (by simp) (by simp)))
  have TE := fun f y => qtell f bx y
  have QK := hid (qkept W4.out HR.out M4.out)
  clear hm4 ho4 hlt2 hlg2 hs2 hs3 sx k4 X3 I3 BW B3 B2 I2 SP
  go_wp2_with fail
  refine (qtell 1 bx _).mono ?_
  rintro e w5 ⟨rfl, hw5⟩
  subst w5
  go_wp2_with fail
  refine (pending_any I4.out).mono ?_
  rintro e w5 ⟨rfl, hw5⟩
  subst w5
  go_wp2_with fail
  refine (qtell 2 bx _).mono ?_
  rintro e w5 ⟨rfl, hw5⟩
  subst w5
  go_wp2_with fail
  refine (qtell 3 bx _).mono ?_
  rintro e w5 ⟨rfl, hw5⟩
  subst w5
  go_wp2_with fail
  refine (qtell 4 bx _).mono ?_
  rintro e w5 ⟨rfl, hw5⟩
  subst w5
  go_wp2_with fail
  refine (qtell 5 bx _).mono ?_
  rintro e w5 ⟨rfl, hw5⟩
  subst w5
  go_wp2_with fail
  refine QK.out.mono ?_
  rintro e w5 ⟨rfl, hb5⟩
  have X5 := hid ((hb5.block _ (blk_lt X4.out)).trans X4.out)
  have O5 := hid (O4.out.trans (OnL.of_below hb5))
  clear hb5 QK X4 O4 I4
  have x0 : w5.cell? ⟨bx, 0, none⟩ = some (.slice none 0 0) := blk_cell X5.out rfl
  go_wp2_with fail
  refine (qtell 6 bx _).mono ?_
  rintro e w6 ⟨rfl, hw6⟩
  subst w6
  go_wp2
  go_ret
  exact ⟨rfl, O5.out⟩
end
end Go.Proofs.YtfpkgkjmpcoppaaGreatDoor
