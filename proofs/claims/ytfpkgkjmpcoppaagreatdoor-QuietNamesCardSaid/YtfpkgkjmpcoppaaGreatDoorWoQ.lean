/- A world of one: ten steps in a row. -/
import Derived.Test.YtfpkgkjmpcoppaaGreatDoorWoP
namespace Go.Proofs.YtfpkgkjmpcoppaaGreatDoor
open Go.RowKit
set_option linter.unusedVariables false
set_option linter.unusedSimpArgs false
set_option maxRecDepth 20000
/-- The first event: goroutine 0 is spawned. -/
@[reducible] def ev0 : List Value := [.int .i64 0, .int .i64 0, .int .i64 (-1), .int .i64 (-1), .int .i64 0]
/-- The ring of processor 0 is empty. -/
def Rn (w : World) (B : Bs) : Prop := w.cell? ⟨B.rb, 0, none⟩ = some (.pointer (some ⟨B.rg, 0, none⟩)) ∧ Rg w B.rg [] 0 false 0
/-- A world of one behind so many steps. -/
def At (w0 : World) (B : Bs) : Nat → World → Prop
  | 0, w => ∃ r lg ra rn rcc bk s0 s1 s2 s3 s4 yes, Wd w0 w B r lg [0, 0, 0, 0, 0, 0, 0, 0, 1] [0, 0, 0, 0, 0, 0, 0, 0, 1] 1 1 1 ev0 [0] 1 (-1) (-1) false (.slice ra rn rcc) bk s0 s1 s2 s3 s4 yes ∧ w.cell? ⟨B.tb, 0, none⟩ = some (.int .i64 0) ∧ w.frozen? ⟨B.tb, 0, none⟩ = false ∧ Rn w B
  | 1, w => ∃ r lg ra rn rcc bk s0 s1 s2 s3 s4 yes, Wd w0 w B r lg [0, 0, 0, 0, 0, 0, 0, 0, 1] [0, 0, 0, 0, 0, 0, 0, 0, 1] 1 1 1 ev0 [0] 3 (-1) (-1) false (.slice ra rn rcc) bk s0 s1 s2 s3 s4 yes ∧ Rn w B
  | 2, w => ∃ r lg ra rn rcc bk yes, Wd w0 w B r lg [0, 0, 1, 0, 0, 0, 0, 0, 1] [0, 0, 0, 0, 0, 0, 0, 0, 1] 2 1 1 ev0 [0] 3 (-1) (-1) true (.slice ra rn rcc) bk 2 3 1 0 0 yes ∧ Rn w B
  | 3, w => ∃ r lg ra rn rcc bk yes, Wd w0 w B r lg [0, 0, 1, 0, 0, 0, 0, 0, 1] [0, 0, 0, 0, 0, 0, 0, 0, 1] 3 1 1 ev0 [0] 3 (-1) (-1) true (.slice ra rn rcc) bk 2 3 2 0 0 yes ∧ Rn w B
  | 4, w => ∃ r lg ra rn rcc bk, Wd w0 w B r lg [0, 0, 1, 0, 0, 0, 0, 0, 1] [0, 0, 0, 0, 0, 0, 0, 0, 1] 3 1 1 ev0 [0] 3 (-1) (-1) true (.slice ra rn rcc) bk 2 3 3 0 1 false
  | 5, w => ∃ r lg ra rn rcc bk, Wd w0 w B r lg [0, 0, 1, 1, 0, 0, 0, 0, 1] [0, 0, 0, 0, 0, 0, 0, 0, 1] 5 1 1 ev0 [0] 4 (-1) (-1) false (.slice ra rn rcc) bk 0 0 0 0 0 false
  | 6, w => ∃ r lg ra rn rcc bk, Wd w0 w B r lg [1, 0, 1, 1, 0, 0, 0, 0, 1] [0, 0, 0, 0, 0, 0, 0, 0, 1] 6 1 1 ev0 [0] 4 (-1) (-1) true (.slice ra rn rcc) bk 0 1 1 0 0 false
  | 7, w => ∃ r lg ra rn rcc bk, Wd w0 w B r lg [1, 0, 1, 1, 0, 0, 0, 0, 1] [0, 0, 0, 0, 0, 0, 0, 0, 1] 7 1 1 ev0 [0] 4 (-1) (-1) true (.slice ra rn rcc) bk 0 1 2 0 0 false
  | 8, w => ∃ r lg ra rcc bk, RcOK ra rcc ∧ Wd w0 w B r lg [1, 0, 1, 1, 0, 0, 0, 0, 1] [0, 0, 0, 0, 0, 0, 0, 0, 1] 7 1 1 ev0 [] 4 (-1) 0 true (.slice ra 0 rcc) bk 0 1 3 0 1 true
  | 9, w => ∃ r lg ra rcc, RcOK ra rcc ∧ Wd w0 w B r lg [1, 1, 1, 1, 0, 0, 0, 0, 1] [0, 0, 0, 0, 0, 0, 0, 0, 1] 9 1 1 ev0 [] 20 (-1) 0 false (.slice ra 0 rcc) 20 0 0 0 0 0 true
  | _, w => ∃ ra rcc lg, RcOK ra rcc ∧ Wb w B.W B.b1 B.b2 B.rb B.tb B.q B.sb B.ib B.mb B.rc lg ∧ Mc w B.mb 0 0 0 (-1) (-1) (-1) 0 false false (.slice ra 0 rcc) 20 0 0 0 0 0 0 0 true 0 ∧ Mem w B.b2 B.g2 [0, 0, 0, 0, 0, 0, 0, 0, 2] 2 ∧ Lg w w0.heap.size lg 2 (ev0 ++ [.int .i64 2, .int .i64 0, .int .i64 0, .int .i64 0, .int .i64 0]) ∧ lg.ownBlock ≠ some B.W ∧ Below w0.heap.size w0 w ∧ (∀ k, lg.ownBlock = some k → k ≠ B.b2 ∧ k ≠ B.g2) ∧ B.W ≠ B.b2 ∧ B.W ≠ B.g2
section
variable {w0 w w' : World} {B : Bs} {r r' : Option Nat} {lg : Value} {xs xs' ys : List Int} {c c' d n : Nat} {evs : List Value} {qs qs' : List Int} {pl pl' g g' got got' : Int} {inn inn' : Bool} {rest rest' : Value} {bk bk' s0 s1 s2 s3 s4 t0 t1 t2 t3 t4 : Int} {yes yes' : Bool}
theorem Rn.kept (h : Wd w0 w B r lg xs ys c d n evs qs pl g got inn rest bk s0 s1 s2 s3 s4 yes) (k : Rn w B) {S : List Nat} (hl : OnL S w w') (h1 : B.rb ∉ S) (h2 : B.rg ∉ S) : Rn w' B := by
  refine ⟨?_, k.2.kept (hl.block _ (h.al _ (by simp [Bs.l])) h2)⟩
  rw [← k.1]
  exact World.cell?_of_block (hl.block _ (h.al _ (by simp [Bs.l])) h1)
theorem Rn.sect (h : Wd w0 w B r lg xs ys c d n evs qs pl g got inn rest bk s0 s1 s2 s3 s4 yes) (k : Rn w B) (hl : OnL [B.mb, B.b1, B.g1] w w') : Rn w' B := by
  have ne := h.nd
  refine k.kept h hl ?_ ?_
  · simp only [List.mem_cons, not_or, List.not_mem_nil, not_false_eq_true, and_true]
    exact ⟨ne 5 10 (by decide) (by decide), Ne.symm (ne 1 5 (by decide) (by decide)), Ne.symm (ne 2 5 (by decide) (by decide))⟩
  · simp only [List.mem_cons, not_or, List.not_mem_nil, not_false_eq_true, and_true]
    exact ⟨ne 7 10 (by decide) (by decide), Ne.symm (ne 1 7 (by decide) (by decide)), Ne.symm (ne 2 7 (by decide) (by decide))⟩
theorem at_next (i : Nat) (hi : i < 10) (h : At w0 B i w) :
    Calls Tryz.prog 36 #[.pointer (some ⟨B.W, 0, none⟩), stepV] w fun e w' => e = .returned (.bool true) ∧ At w0 B (i + 1) w' := by
  match i, hi with
  | 0, _ =>
    obtain ⟨r, lg, ra, rn, rcc, bk, s0, s1, s2, s3, s4, yes, hw, ht, hf, hr⟩ := h
    refine (wstep0 hw ht hf).mono ?_
    rintro e w' ⟨he, hw', hl⟩
    have ne := hw.nd
    exact ⟨he, r, lg, ra, rn, rcc, bk, s0, s1, s2, s3, s4, yes, hw', hr.kept hw hl (by simp; exact ⟨ne 5 10 (by decide) (by decide), ne 5 6 (by decide) (by decide)⟩) (by simp; exact ⟨ne 7 10 (by decide) (by decide), Ne.symm (ne 6 7 (by decide) (by decide))⟩)⟩
  | 1, _ =>
    obtain ⟨r, lg, ra, rn, rcc, bk, s0, s1, s2, s3, s4, yes, hw, hr⟩ := h
    refine (wfirst 3 1 hw (by decide) (by decide) (by decide) (by decide) (by decide) rfl (by decide)).mono ?_
    rintro e w' ⟨he, hw', hl⟩
    exact ⟨he, r, lg, ra, rn, rcc, bk, yes, hw', hr.sect hw hl⟩
  | 2, _ =>
    obtain ⟨r, lg, ra, rn, rcc, bk, yes, hw, hr⟩ := h
    refine (wwait hw (by decide) (by decide) (by decide) (by decide) rfl (by decide)).mono ?_
    rintro e w' ⟨he, hw', hl⟩
    exact ⟨he, r, lg, ra, rn, rcc, bk, yes, hw', hr.sect hw hl⟩
  | 3, _ =>
    obtain ⟨r, lg, ra, rn, rcc, bk, yes, hw, hr⟩ := h
    refine (wlocal hw hr.1 hr.2).mono ?_
    rintro e w' ⟨he, hw'⟩
    exact ⟨he, r, lg, ra, rn, rcc, bk, hw'⟩
  | 4, _ =>
    obtain ⟨r, lg, ra, rn, rcc, bk, hw⟩ := h
    have hn := hw.nW
    refine (wfree (pl' := 4) (bk' := bk) hw (by decide) (by decide) (by decide) (by decide) rfl (by decide) (fun w3 hb hm => goOn_local hb hm hn)).mono ?_
    rintro e w' ⟨he, hw'⟩
    exact ⟨he, r, lg, ra, rn, rcc, bk, hw'⟩
  | 5, _ =>
    obtain ⟨r, lg, ra, rn, rcc, bk, hw⟩ := h
    refine (wfirst 4 0 hw (by decide) (by decide) (by decide) (by decide) (by decide) rfl (by decide)).mono ?_
    rintro e w' ⟨he, hw', hl⟩
    exact ⟨he, r, lg, ra, rn, rcc, bk, hw'⟩
  | 6, _ =>
    obtain ⟨r, lg, ra, rn, rcc, bk, hw⟩ := h
    refine (wwait hw (by decide) (by decide) (by decide) (by decide) rfl (by decide)).mono ?_
    rintro e w' ⟨he, hw', hl⟩
    exact ⟨he, r, lg, ra, rn, rcc, bk, hw'⟩
  | 7, _ =>
    obtain ⟨r, lg, ra, rn, rcc, bk, hw⟩ := h
    refine (wglobal hw).mono ?_
    rintro e w' ⟨he, r', ra', rcc', hrc, hw'⟩
    exact ⟨he, r', lg, ra', rcc', bk, hrc, hw'⟩
  | 8, _ =>
    obtain ⟨r, lg, ra, rcc, bk, hrc, hw⟩ := h
    have hn := hw.nW
    refine (wfree (pl' := 20) (bk' := 20) hw (by decide) (by decide) (by decide) (by decide) rfl (by decide) (fun w3 hb hm => goOn_global hb hm hn)).mono ?_
    rintro e w' ⟨he, hw'⟩
    exact ⟨he, r, lg, ra, rcc, hrc, hw'⟩
  | 9, _ =>
    obtain ⟨r, lg, ra, rcc, hrc, hw⟩ := h
    refine (wdispatch hw).mono ?_
    rintro e w' ⟨he, lg', hwb, hm, hm2, hl, hn, hb, hlg⟩
    exact ⟨he, ra, rcc, lg', hrc, hwb, hm, hm2, hl, hn, hb, hlg⟩
theorem At.below (i : Nat) (hi : i ≤ 10) (h : At w0 B i w) (hb : Below w.heap.size w w') : At w0 B i w' := by
  match i, hi with
  | 0, _ =>
    obtain ⟨r, lg, ra, rn, rcc, bk, s0, s1, s2, s3, s4, yes, hw, ht, hf, hr⟩ := h
    exact ⟨r, lg, ra, rn, rcc, bk, s0, s1, s2, s3, s4, yes, hw.below hb, (hb.cell (p := ⟨B.tb, 0, none⟩) hw.tl).trans ht, by rw [← hf]; simp [World.frozen?, hb.block _ hw.tl], hr.kept hw (S := []) (OnL.of_below hb) (by simp) (by simp)⟩
  | 1, _ =>
    obtain ⟨r, lg, ra, rn, rcc, bk, s0, s1, s2, s3, s4, yes, hw, hr⟩ := h
    exact ⟨r, lg, ra, rn, rcc, bk, s0, s1, s2, s3, s4, yes, hw.below hb, hr.kept hw (S := []) (OnL.of_below hb) (by simp) (by simp)⟩
  | 2, _ =>
    obtain ⟨r, lg, ra, rn, rcc, bk, yes, hw, hr⟩ := h
    exact ⟨r, lg, ra, rn, rcc, bk, yes, hw.below hb, hr.kept hw (S := []) (OnL.of_below hb) (by simp) (by simp)⟩
  | 3, _ =>
    obtain ⟨r, lg, ra, rn, rcc, bk, yes, hw, hr⟩ := h
    exact ⟨r, lg, ra, rn, rcc, bk, yes, hw.below hb, hr.kept hw (S := []) (OnL.of_below hb) (by simp) (by simp)⟩
  | 4, _ => obtain ⟨r, lg, ra, rn, rcc, bk, hw⟩ := h; exact ⟨r, lg, ra, rn, rcc, bk, hw.below hb⟩
  | 5, _ => obtain ⟨r, lg, ra, rn, rcc, bk, hw⟩ := h; exact ⟨r, lg, ra, rn, rcc, bk, hw.below hb⟩
  | 6, _ => obtain ⟨r, lg, ra, rn, rcc, bk, hw⟩ := h; exact ⟨r, lg, ra, rn, rcc, bk, hw.below hb⟩
  | 7, _ => obtain ⟨r, lg, ra, rn, rcc, bk, hw⟩ := h; exact ⟨r, lg, ra, rn, rcc, bk, hw.below hb⟩
  | 8, _ => obtain ⟨r, lg, ra, rcc, bk, hrc, hw⟩ := h; exact ⟨r, lg, ra, rcc, bk, hrc, hw.below hb⟩
  | 9, _ => obtain ⟨r, lg, ra, rcc, hrc, hw⟩ := h; exact ⟨r, lg, ra, rcc, hrc, hw.below hb⟩
  | 10, _ =>
    obtain ⟨ra, rcc, lg, hrc, hwb, hm, hm2, hl, hn, hb0, hlg⟩ := h
    exact ⟨ra, rcc, lg, hrc, hwb.kept (hb.block _ hwb.lt), hm.kept (hb.block _ hm.lt), hm2.below hb hm2.sb hm2.sg, hl.kept (fun q hq => hb.block _ (hl.lt q hq).2), hn, hb0.trans (hb.mono hb0.size), hlg⟩
end
end Go.Proofs.YtfpkgkjmpcoppaaGreatDoor
