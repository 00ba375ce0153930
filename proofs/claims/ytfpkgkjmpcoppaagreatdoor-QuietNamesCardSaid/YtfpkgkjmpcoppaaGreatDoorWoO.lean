/- A world of one: its first ten steps. -/
import Derived.Test.YtfpkgkjmpcoppaaGreatDoorWoN
import Derived.Test.YtfpkgkjmpcoppaaGreatDoorWoC
import Derived.Test.YtfpkgkjmpcoppaaGreatDoorWoC2
import Derived.Test.YtfpkgkjmpcoppaaGreatDoorWoC3
import Derived.Test.YtfpkgkjmpcoppaaGreatDoorWoE
import Derived.Test.YtfpkgkjmpcoppaaGreatDoorWoF
import Derived.Test.YtfpkgkjmpcoppaaGreatDoorWoH
import Derived.Test.YtfpkgkjmpcoppaaGreatDoorWoM
namespace Go.Proofs.YtfpkgkjmpcoppaaGreatDoor
open Go.RowKit
set_option linter.unusedVariables false
set_option linter.unusedSimpArgs false
set_option maxRecDepth 20000
section
variable {w0 w w' : World} {B : Bs} {r r' : Option Nat} {lg : Value} {xs xs' ys : List Int} {c c' d n : Nat} {evs : List Value} {qs qs' : List Int} {pl pl' g g' got got' : Int} {inn inn' : Bool} {rest rest' : Value} {bk bk' s0 s1 s2 s3 s4 t0 t1 t2 t3 t4 : Int} {yes yes' : Bool}
variable {ra : Option Addr} {rn rcc : Nat}
theorem Wd.quk (h : Wd w0 w B r lg xs ys c d n evs qs pl g got inn rest bk s0 s1 s2 s3 s4 yes) {S : List Nat} (hl : OnL S w w') (h1 : B.q ∉ S) (h2 : B.qp ∉ S) (h3 : ∀ k, r = some k → k ∉ S) : Qu w' B.q B.qp 1 r qs :=
  ⟨(hl.block _ h.qu.lt h1).trans h.qu.hq, h.qu.hb.kept (hl.block _ h.qu.hb.lt h2) (fun k hk => hl.block k (h.qu.hb.rlt k hk) (h3 k hk)), h.qu.ne, h.qu.nr, h.qu.lo, h.qu.hi⟩
theorem Wd.m1k (h : Wd w0 w B r lg xs ys c d n evs qs pl g got inn rest bk s0 s1 s2 s3 s4 yes) {S : List Nat} (hl : OnL S w w') (h1 : B.b1 ∉ S) (h2 : B.g1 ∉ S) : Mem w' B.b1 B.g1 xs c := h.m1.blocks (hl.block _ h.m1.sb h1) (hl.block _ h.m1.sg h2)
theorem OnL.fresh {S : List Nat} {a b e : World} {G : Nat} (h : OnL S a b) (k : OnL [G] b e) (hG : a.heap.size ≤ G) : OnL S a e :=
  ⟨k.os.trans h.os, k.tape.trans h.tape, k.output.trans h.output, Nat.le_trans h.size k.size, fun i hi hn => (k.block i (Nat.lt_of_lt_of_le hi h.size) (by simp; omega)).trans (h.block i hi hn)⟩
theorem Wd.rs (h : Wd w0 w B r lg xs ys c d n evs qs pl g got inn rest bk s0 s1 s2 s3 s4 yes) : ∀ k, r = some k → k ≠ B.mb ∧ k ≠ B.tb ∧ k ≠ B.b1 ∧ k ≠ B.g1 ∧ k ≠ B.rg := fun k hk => by
  have := (h.ro k hk).1
  simp [Bs.l] at this
  omega
/-- Sched: the processor has a turn. -/
theorem wstep0 (h : Wd w0 w B r lg xs ys c d n evs qs 1 g got false (.slice ra rn rcc) bk s0 s1 s2 s3 s4 yes) (ht : w.cell? ⟨B.tb, 0, none⟩ = some (.int .i64 0)) (hf : w.frozen? ⟨B.tb, 0, none⟩ = false) :
    Calls Tryz.prog 36 #[.pointer (some ⟨B.W, 0, none⟩), stepV] w fun e w' => e = .returned (.bool true) ∧ Wd w0 w' B r lg xs ys c d n evs qs 3 g got false (.slice ra rn rcc) bk s0 s1 s2 s3 s4 yes ∧ OnL [B.mb, B.tb] w w' := by
  have n1 : B.tb ≠ B.mb := h.nd 6 10 (by decide) (by decide)
  have n2 : B.tb ≠ B.W := Ne.symm (h.nd 0 6 (by decide) (by decide))
  refine (step_pick (fun w1 w' => ∃ w2, Below w1.heap.size w1 w2 ∧ Mc w' B.mb 3 0 g (-1) got (-1) 0 false false (.slice ra rn rcc) bk 0 0 s0 s1 s2 s3 s4 yes 0 ∧ OnL [B.mb, B.tb] w2 w') (fun w1 hb1 => ?_)).mono ?_
  · have h1 := h.below hb1
    refine pick_pass 1 _ h1.wb h1.mc h1.T1 (by decide) (by decide) (by decide) (by decide) (by decide) (fun w2 hb2 => ?_)
    have h2 := h1.below hb2
    have hb := hb1.trans (hb2.mono hb1.size)
    refine (pass_sched h2.wb h2.mc ((hb.cell (p := ⟨B.tb, 0, none⟩) h.tl).trans ht) (by rw [← hf]; simp [World.frozen?, hb.block _ h.tl]) n1 n2 (Ne.symm h.nW)).mono ?_
    rintro e w' ⟨he, hm, _, hl⟩
    exact ⟨he, hm, hl⟩
  · rintro e w' ⟨he, w1, hb1, w2, hb2, hm, hl⟩
    have h2 := (h.below hb1).below hb2
    have ne := h.nd
    refine ⟨he, h2.upd hl (by simp) hm (h2.m1.blocks (hl.block _ h2.m1.sb (by simp; exact ⟨ne 1 10 (by decide) (by decide), ne 1 6 (by decide) (by decide)⟩)) (hl.block _ h2.m1.sg (by simp; exact ⟨ne 2 10 (by decide) (by decide), ne 2 6 (by decide) (by decide)⟩))) h2.l1 h2.c1 ?_ (fun k hk => .inl hk), (OnL.of_below (hb1.trans (hb2.mono hb1.size))).trans hl⟩
    exact h2.quk hl (by simp; exact ⟨ne 8 10 (by decide) (by decide), Ne.symm (ne 6 8 (by decide) (by decide))⟩) (by simp; exact ⟨ne 9 10 (by decide) (by decide), Ne.symm (ne 6 9 (by decide) (by decide))⟩) (fun k hk => by have := h2.rs k hk; simp; omega)
/-- What a section's step leaves of a world whose machine is at its place, but for the do. -/
theorem Wd.sect (h : Wd w0 w B r lg xs ys c d n evs qs pl g got inn rest bk s0 s1 s2 s3 s4 yes) (hl : OnL [B.mb, B.b1, B.g1] w w') (hm : Mc w' B.mb pl' 0 g' (-1) got' (-1) 0 false inn' rest' bk' 0 0 t0 t1 t2 t3 t4 yes' 0) (hm1 : Mem w' B.b1 B.g1 xs' c') (hl1 : xs'.length = 9) (hc : c' ≤ 1000) :
    Wd w0 w' B r lg xs' ys c' d n evs qs pl' g' got' inn' rest' bk' t0 t1 t2 t3 t4 yes' :=
  have ne := h.nd
  h.upd hl (by simp) hm hm1 hl1 hc (h.quk hl (by simp; exact ⟨ne 8 10 (by decide) (by decide), Ne.symm (ne 1 8 (by decide) (by decide)), Ne.symm (ne 2 8 (by decide) (by decide))⟩) (by simp; exact ⟨ne 9 10 (by decide) (by decide), Ne.symm (ne 1 9 (by decide) (by decide)), Ne.symm (ne 2 9 (by decide) (by decide))⟩) (fun k hk => by have := h.rs k hk; simp; omega)) (fun k hk => .inl hk)
theorem Wd.sb (h : Wd w0 w B r lg xs ys c d n evs qs pl g got inn rest bk s0 s1 s2 s3 s4 yes) : B.mb ≠ B.b1 ∧ B.mb ≠ B.g1 := ⟨Ne.symm (h.nd 1 10 (by decide) (by decide)), Ne.symm (h.nd 2 10 (by decide) (by decide))⟩
/-- A section begins. -/
theorem wfirst (k L : Nat) (h : Wd w0 w B r lg xs ys c d n evs qs k g got false (.slice ra rn rcc) bk s0 s1 s2 s3 s4 yes) (hk : k < 31) (hk0 : (k : Int) ≠ 0) (hk16 : (k : Int) ≠ 16) (hlk : lk (maPlace1 k) 0 0 1 = L) (hL : L ≤ 1) (hx : xs.getD (2 * L) 0 = 0) (hc : c + 1 ≤ 1000) :
    Calls Tryz.prog 36 #[.pointer (some ⟨B.W, 0, none⟩), stepV] w fun e w' => e = .returned (.bool true) ∧ Wd w0 w' B r lg (xs.set (2 * L) 1) ys (c + 1) d n evs qs k g got true (.slice ra rn rcc) bk (2 * (L : Int)) (2 * (L : Int) + 1) 1 0 0 yes ∧ OnL [B.mb, B.b1, B.g1] w w' := by
  refine (step_pick (fun w1 w' => ∃ w2, Below w1.heap.size w1 w2 ∧ ∃ w3, OnL [B.mb] w2 w3 ∧ Mc w' B.mb k 0 g (-1) got (-1) 0 false true (.slice ra rn rcc) bk 0 0 (2 * (L : Int)) (2 * (L : Int) + 1) 1 0 0 yes 0 ∧ Mem w' B.b1 B.g1 (xs.set (2 * L) 1) (c + 1) ∧ OnL [B.mb, B.b1, B.g1] w3 w') (fun w1 hb1 => ?_)).mono ?_
  · have h1 := h.below hb1
    refine pick_lock k _ h1.wb h1.mc h1.T1 hk hk0 hk16 (L : Int) hlk (by omega) (by decide) (fun w2 hb2 => ?_)
    have h2 := h1.below hb2
    refine locked_first k L _ h2.wb h2.mc h2.T1 hk hlk hL (by decide) h2.nW (fun w3 pw pi hl3 _ _ _ _ hm3 => ?_)
    have hm1 := h2.m1k hl3 (by simp; exact Ne.symm h2.sb.1) (by simp; exact Ne.symm h2.sb.2)
    have hlen := h2.l1
    have hcc := h2.c1
    refine (step_take (cloV pw pi) hm3.sct hm1 h2.sb.1 h2.sb.2 (by omega) (by omega) (by omega) 0 (by rw [show (2 * (L : Int)).toNat = 2 * L by omega]; exact hx) (by unfold inU; omega)).mono ?_
    rintro e w' ⟨he, hs, hm', ho⟩
    rw [show (2 * (L : Int)).toNat = 2 * L by omega, show U (0 + 1) = 1 from U_of (by unfold inU; omega)] at hm'
    exact ⟨he, hm3.on3 ho hs, hm', OnL.of_on3 ho (by simp) (by simp) (by simp)⟩
  · rintro e w' ⟨he, w1, hb1, w2, hb2, w3, hl3, hm, hm1, hl⟩
    have h2 := (h.below hb1).below hb2
    have hl' := (hl3.mono (S' := [B.mb, B.b1, B.g1]) (by simp)).trans hl
    exact ⟨he, h2.sect hl' hm hm1 (by simp [h.l1]) hc, (OnL.of_below (hb1.trans (hb2.mono hb1.size))).trans hl'⟩
/-- A section that waits is let in. -/
theorem wwait (h : Wd w0 w B r lg xs ys c d n evs qs pl g got true rest bk s0 s1 1 0 s4 yes) (h0 : pl ≠ 0) (h16 : pl ≠ 16) (hs1 : 0 ≤ s1) (hs9 : s1 < 9) (hx : xs.getD s1.toNat 0 = 0) (hc : c + 1 ≤ 1000) :
    Calls Tryz.prog 36 #[.pointer (some ⟨B.W, 0, none⟩), stepV] w fun e w' => e = .returned (.bool true) ∧ Wd w0 w' B r lg xs ys (c + 1) d n evs qs pl g got true rest bk s0 s1 2 0 s4 yes ∧ OnL [B.mb, B.b1, B.g1] w w' := by
  refine (step_pick (fun w1 w' => ∃ w2, Below w1.heap.size w1 w2 ∧ ∃ w3, Below w2.heap.size w2 w3 ∧ Mc w' B.mb pl 0 g (-1) got (-1) 0 false true rest bk 0 0 s0 s1 2 0 s4 yes 0 ∧ Mem w' B.b1 B.g1 xs (c + 1) ∧ OnL [B.mb, B.b1, B.g1] w3 w') (fun w1 hb1 => ?_)).mono ?_
  · have h1 := h.below hb1
    refine pick_in _ h1.wb h1.mc h0 h16 (fun w2 hb2 => ?_)
    have h2 := h1.below hb2
    refine locked_in _ h2.wb h2.mc (fun w3 pw pi hL => ?_)
    have h3 := h2.below hL.bl
    have hlen := h3.l1
    have hcc := h3.c1
    refine (step_wait_yes (cloV pw pi) h3.mc.sct h3.m1 h3.sb.1 h3.sb.2 (by omega) hs1 (by omega) 0 hx (by unfold inU; omega) (by unfold inU; omega) (by decide)).mono ?_
    rintro e w' ⟨he, hs, hm', ho⟩
    exact ⟨he, h3.mc.on3 ho hs, hm', OnL.of_on3 ho (by simp) (by simp) (by simp)⟩
  · rintro e w' ⟨he, w1, hb1, w2, hb2, w3, hb3, hm, hm1, hl⟩
    have h3 := ((h.below hb1).below hb2).below hb3
    have hb := (hb1.trans (hb2.mono hb1.size)).trans (hb3.mono (Nat.le_trans hb1.size hb2.size))
    exact ⟨he, h3.sect hl hm hm1 h.l1 hc, (OnL.of_below hb).trans hl⟩
/-- A section at Local does: there is none. -/
theorem wlocal (h : Wd w0 w B r lg xs ys c d n evs qs 3 g got true rest bk s0 s1 2 s3 0 yes) (hr : w.cell? ⟨B.rb, 0, none⟩ = some (.pointer (some ⟨B.rg, 0, none⟩))) (hR : Rg w B.rg [] 0 false 0) :
    Calls Tryz.prog 36 #[.pointer (some ⟨B.W, 0, none⟩), stepV] w fun e w' => e = .returned (.bool true) ∧ Wd w0 w' B r lg xs ys c d n evs qs 3 g got true rest bk s0 s1 3 s3 1 false := by
  have nm : B.mb ≠ B.rg := Ne.symm (h.nd 7 10 (by decide) (by decide))
  refine (step_pick (fun w1 w' => ∃ w2, Below w1.heap.size w1 w2 ∧ ∃ w3, Below w2.heap.size w2 w3 ∧ Mc w' B.mb 3 0 g (-1) got (-1) 0 false true rest bk 0 0 s0 s1 3 s3 1 false 0 ∧ OnL [B.mb, B.rg] w3 w') (fun w1 hb1 => ?_)).mono ?_
  · have h1 := h.below hb1
    refine pick_in _ h1.wb h1.mc (by decide) (by decide) (fun w2 hb2 => ?_)
    have h2 := h1.below hb2
    refine locked_in _ h2.wb h2.mc (fun w3 pw pi hL => ?_)
    have h3 := h2.below hL.bl
    have hb := (hb1.trans (hb2.mono hb1.size)).trans (hL.bl.mono (Nat.le_trans hb1.size hb2.size))
    have hr3 := (hb.cell (p := ⟨B.rb, 0, none⟩) (h.al _ (by simp [Bs.l]))).trans hr
    have hR3 := hR.below hb
    have hba : Below w3.heap.size w3 (w3.alloc (.cells #[.bool false] 4)) := (Below.refl _ _).alloc (Nat.le_refl _) _
    have h4 := h3.below hba
    have hgo := goes_with (W := B.W) (pw := pw) (pi := pi) 0 w3 (fun w' => Mc w' B.mb 3 0 g (-1) got (-1) 0 false true rest bk 0 0 s0 s1 2 s3 0 false 0 ∧ OnL [B.mb, B.rg] w3 w') (blk_cell hL.a rfl) (blk_cell hL.b rfl) ((with_local h4.wb h4.mc ((hba.cell (p := ⟨B.rb, 0, none⟩) (h3.al _ (by simp [Bs.l]))).trans hr3) (hR3.below hba) nm 0).mono (fun e w' hx => by
      obtain ⟨he, hm, hl⟩ := hx
      refine ⟨he, (hl.block _ (by simp) (by simp; have := h3.mc.lt; have := h3.al B.rg (by simp [Bs.l]); omega)).trans (heap_alloc_new _ _), fun w2 ho => ⟨hm.kept (ho.block _ hm.lt (by simp; have := h3.mc.lt; omega)), ((OnL.of_below hba).trans hl).fresh ho (Nat.le_refl _)⟩⟩))
    refine (step_do (cloV pw pi) false (fun w' => Mc w' B.mb 3 0 g (-1) got (-1) 0 false true rest bk 0 0 s0 s1 2 s3 0 false 0 ∧ OnL [B.mb, B.rg] w3 w') h3.mc.sct hgo (fun w1 hb => hb.1.sct) (by omega) (by omega)).mono ?_
    rintro e w' ⟨w5, ⟨hm5, hl5⟩, he, rfl⟩
    simp only [Bool.false_eq_true, if_false]
    exact ⟨he, (hm5.up15 3).up17 (0 + 1), hl5.trans ((OnL.set _ _ _ _ (by simp)).trans (OnL.set _ _ _ _ (by simp)))⟩
  · rintro e w' ⟨he, w1, hb1, w2, hb2, w3, hb3, hm, hl⟩
    have h3 := ((h.below hb1).below hb2).below hb3
    have ne := h.nd
    exact ⟨he, h3.upd hl (by simp) hm (h3.m1k hl (by simp; exact ⟨ne 1 10 (by decide) (by decide), ne 1 7 (by decide) (by decide)⟩) (by simp; exact ⟨ne 2 10 (by decide) (by decide), ne 2 7 (by decide) (by decide)⟩)) h3.l1 h3.c1 (h3.quk hl (by simp; exact ⟨ne 8 10 (by decide) (by decide), Ne.symm (ne 7 8 (by decide) (by decide))⟩) (by simp; exact ⟨ne 9 10 (by decide) (by decide), Ne.symm (ne 7 9 (by decide) (by decide))⟩) (fun k hk => by have := h3.rs k hk; simp; omega)) (fun k hk => .inl hk)⟩
end
end Go.Proofs.YtfpkgkjmpcoppaaGreatDoor
