/- A world of one: a section at Global does; a section is over; the dispatch. -/
import Derived.Test.YtfpkgkjmpcoppaaGreatDoorWoO
namespace Go.Proofs.YtfpkgkjmpcoppaaGreatDoor
open Go.RowKit
set_option linter.unusedVariables false
set_option linter.unusedSimpArgs false
set_option maxRecDepth 20000
section
variable {w0 w w' : World} {B : Bs} {r r' : Option Nat} {lg : Value} {xs xs' ys : List Int} {c c' d n : Nat} {evs : List Value} {qs qs' : List Int} {pl pl' g g' got got' : Int} {inn inn' : Bool} {rest rest' : Value} {bk bk' s0 s1 s2 s3 s4 t0 t1 t2 t3 t4 : Int} {yes yes' : Bool}
variable {ra : Option Addr} {rn rcc : Nat}
/-- A section at Global does: there is one, and it is taken. -/
theorem wglobal (h : Wd w0 w B r lg xs ys c d n evs [0] 4 g got true rest bk s0 s1 2 s3 0 yes) :
    Calls Tryz.prog 36 #[.pointer (some ⟨B.W, 0, none⟩), stepV] w fun e w' => e = .returned (.bool true) ∧ ∃ r' ra rcc, RcOK ra rcc ∧ Wd w0 w' B r' lg xs ys c d n evs [] 4 g 0 true (.slice ra 0 rcc) bk s0 s1 3 s3 1 true := by
  have n1 : B.mb ≠ B.qp := Ne.symm (h.nd 9 10 (by decide) (by decide))
  have n3 : B.mb ≠ B.q := Ne.symm (h.nd 8 10 (by decide) (by decide))
  have n2 : r ≠ some B.mb := fun e => (h.ro _ e).1 (by simp [Bs.l])
  refine (step_pick (fun w1 w' => ∃ w2, Below w1.heap.size w1 w2 ∧ ∃ w3, Below w2.heap.size w2 w3 ∧ ∃ ra rcc, RcOK ra rcc ∧ Mc w' B.mb 4 0 g (-1) 0 (-1) 0 false true (.slice ra 0 rcc) bk 0 0 s0 s1 3 s3 1 true 0 ∧ (∃ r', Qu w' B.q B.qp 1 r' [] ∧ ∀ k, r' = some k → r = some k ∨ w3.heap.size ≤ k) ∧ OnL (B.mb :: B.qp :: r.toList) w3 w') (fun w1 hb1 => ?_)).mono ?_
  · have h1 := h.below hb1
    refine pick_in _ h1.wb h1.mc (by decide) (by decide) (fun w2 hb2 => ?_)
    have h2 := h1.below hb2
    refine locked_in _ h2.wb h2.mc (fun w3 pw pi hL => ?_)
    have h3 := h2.below hL.bl
    have hba : Below w3.heap.size w3 (w3.alloc (.cells #[.bool false] 4)) := (Below.refl _ _).alloc (Nat.le_refl _) _
    have h4 := h3.below hba
    have lm := h3.mc.lt
    have lq := h3.qu.hb.lt
    have lq2 := h3.qu.lt
    have lr := h3.qu.hb.rlt
    have hgo := goes_with (W := B.W) (pw := pw) (pi := pi) 0 w3 (fun w' => ∃ ra rcc, RcOK ra rcc ∧ Mc w' B.mb 4 0 g (-1) 0 (-1) 0 false true (.slice ra 0 rcc) bk 0 0 s0 s1 2 s3 0 true 0 ∧ (∃ r', Qu w' B.q B.qp 1 r' [] ∧ ∀ k, r' = some k → r = some k ∨ w3.heap.size < k) ∧ OnL (B.mb :: B.qp :: r.toList) w3 w') (blk_cell hL.a rfl) (blk_cell hL.b rfl) ((with_global h4.wb h4.mc h4.qu n1 n2 n3 0).mono (fun e w' hx => by
      obtain ⟨he, ⟨ra, rcc, hrc, hm⟩, ⟨r', hq, hr'⟩, hl⟩ := hx
      have hG : w3.heap.size ∉ B.mb :: B.qp :: r.toList := by
        simp only [List.mem_cons, not_or, Option.mem_toList]
        exact ⟨by omega, by omega, fun e => by have := lr _ e; omega⟩
      have hrk : ∀ k, r' = some k → r = some k ∨ w3.heap.size < k := fun k hk => (hr' k hk).imp id (fun h => by simp at h; omega)
      refine ⟨he, (hl.block _ (by simp) hG).trans (heap_alloc_new _ _), fun w2 ho => ⟨ra, rcc, hrc, hm.kept (ho.block _ hm.lt (by simp; omega)), ⟨r', ⟨(ho.block _ hq.lt (by simp; omega)).trans hq.hq, hq.hb.kept (ho.block _ hq.hb.lt (by simp; omega)) (fun k hk => ho.block k (hq.hb.rlt k hk) (by
        simp
        rcases hrk k hk with h | h
        · have := lr _ h; omega
        · omega)), hq.ne, hq.nr, hq.lo, hq.hi⟩, hrk⟩, ((OnL.of_below hba).trans hl).fresh ho (Nat.le_refl _)⟩⟩))
    refine (step_do (cloV pw pi) false _ h3.mc.sct hgo (fun w1 hb => by obtain ⟨ra, rcc, hrc, hm, _⟩ := hb; exact hm.sct) (by omega) (by omega)).mono ?_
    rintro e w' ⟨w5, ⟨ra, rcc, hrc, hm5, ⟨r', hq, hr'⟩, hl5⟩, he, rfl⟩
    simp only [Bool.false_eq_true, if_false]
    have ho : OnL [B.mb] w5 ((w5.setCell ⟨B.mb, 13 + 2, none⟩ (.int .i64 3)).setCell ⟨B.mb, 13 + 4, none⟩ (.int .i64 (0 + 1))) := (OnL.set _ _ _ _ (by simp)).trans (OnL.set _ _ _ _ (by simp))
    refine ⟨he, ra, rcc, hrc, (hm5.up15 3).up17 (0 + 1), ⟨r', ⟨(ho.block _ hq.lt (by simp; exact Ne.symm n3)).trans hq.hq, hq.hb.kept (ho.block _ hq.hb.lt (by simp; exact Ne.symm n1)) (fun k hk => ho.block k (hq.hb.rlt k hk) (by
      simp
      intro e; subst e
      rcases hr' _ hk with h | h
      · exact n2 h
      · omega)), hq.ne, hq.nr, hq.lo, hq.hi⟩, fun k hk => (hr' k hk).imp id (fun h => by omega)⟩, hl5.trans (ho.mono (by simp))⟩
  · rintro e w' ⟨he, w1, hb1, w2, hb2, w3, hb3, ra, rcc, hrc, hm, ⟨r', hq, hr'⟩, hl⟩
    have h3 := ((h.below hb1).below hb2).below hb3
    have ne := h.nd
    have ro := h.ro
    refine ⟨he, r', ra, rcc, hrc, h3.upd hl (fun k hk => ?_) hm (h3.m1k hl ?_ ?_) h3.l1 h3.c1 hq hr'⟩
    · simp only [List.mem_cons, Option.mem_toList] at hk
      rcases hk with rfl | rfl | hk
      · exact .inl rfl
      · exact .inr (.inr (.inr (.inr (.inr (.inl rfl)))))
      · exact .inr (.inr (.inr (.inr (.inr (.inr hk)))))
    · simp only [List.mem_cons, not_or, Option.mem_toList]
      exact ⟨ne 1 10 (by decide) (by decide), ne 1 9 (by decide) (by decide), fun e => (ro _ e).1 (by simp [Bs.l])⟩
    · simp only [List.mem_cons, not_or, Option.mem_toList]
      exact ⟨ne 2 10 (by decide) (by decide), ne 2 9 (by decide) (by decide), fun e => (ro _ e).1 (by simp [Bs.l])⟩
/-- A section is over, and what it found tells where its machine goes on. -/
theorem wfree (h : Wd w0 w B r lg xs ys c d n evs qs pl g got true rest bk s0 s1 3 0 s4 yes) (h0 : pl ≠ 0) (h16 : pl ≠ 16) (hs1 : 0 ≤ s1) (hs9 : s1 < 9) (hx : xs.getD s1.toNat 0 = 0) (hc : c + 2 ≤ 1000)
    (HG : ∀ w3, Wb w3 B.W B.b1 B.b2 B.rb B.tb B.q B.sb B.ib B.mb B.rc lg → Mc w3 B.mb pl 0 g (-1) got (-1) 0 false false rest bk 0 0 0 0 0 0 0 yes 0 → Calls Tryz.prog 141 #[.pointer (some ⟨B.W, 0, none⟩), .int .i64 0] w3 fun e w' => e = .returned (.tuple #[]) ∧ Mc w' B.mb pl' 0 g (-1) got (-1) 0 false false rest bk' 0 0 0 0 0 0 0 yes 0 ∧ OnL [B.mb] w3 w') :
    Calls Tryz.prog 36 #[.pointer (some ⟨B.W, 0, none⟩), stepV] w fun e w' => e = .returned (.bool true) ∧ Wd w0 w' B r lg (xs.set s1.toNat 1) ys (c + 2) d n evs qs pl' g got false rest bk' 0 0 0 0 0 yes := by
  refine (step_pick (fun w1 w' => ∃ w2, Below w1.heap.size w1 w2 ∧ ∃ w3, Below w2.heap.size w2 w3 ∧ Mc w' B.mb pl' 0 g (-1) got (-1) 0 false false rest bk' 0 0 0 0 0 0 0 yes 0 ∧ Mem w' B.b1 B.g1 (xs.set s1.toNat 1) (c + 2) ∧ OnL [B.mb, B.b1, B.g1] w3 w') (fun w1 hb1 => ?_)).mono ?_
  · have h1 := h.below hb1
    refine pick_in _ h1.wb h1.mc h0 h16 (fun w2 hb2 => ?_)
    have h2 := h1.below hb2
    refine locked_free (fun w3 w' => Mem w' B.b1 B.g1 (xs.set s1.toNat 1) (c + 2) ∧ Wb w' B.W B.b1 B.b2 B.rb B.tb B.q B.sb B.ib B.mb B.rc lg ∧ OnL [B.mb, B.b1, B.g1] w3 w') _ (rest' := rest) (yes' := yes) (t0 := s0) (t1 := s1) (t2 := 4) (t3 := 0) (t4 := s4) h2.wb h2.mc (fun w3 pw pi hL => ?_) (fun w3 w4 w5 hb3 hx hl5 hm5 => ?_)
    · have h3 := h2.below hL.bl
      have hlen := h3.l1
      have hcc := h3.c1
      have lm := h3.mc.lt
      have l1 := h3.m1.sb
      have l2 := h3.m1.sg
      have a1 := h2.mc.lt
      have a2 := h2.m1.sb
      have a3 := h2.m1.sg
      have a4 := hL.la
      have a5 := hL.lb
      refine (step_free (cloV pw pi) h3.mc.sct h3.m1 h3.sb.1 h3.sb.2 (by omega) hs1 (by omega) hx (by unfold inU; omega)).mono ?_
      rintro e w' ⟨he, hs, hm', ho⟩
      rw [show U (0 + 1) = 1 from U_of (by unfold inU; omega)] at hm'
      have hl : OnL [B.mb, B.b1, B.g1] w3 w' := OnL.of_on3 ho (by simp) (by simp) (by simp)
      have ne := h.nd
      exact ⟨he, h3.mc.on3 ho hs, ⟨blk_cell ((hl.block pw (blk_lt hL.a) (by simp; omega)).trans hL.a) rfl, blk_cell ((hl.block pi (blk_lt hL.b) (by simp; omega)).trans hL.b) rfl⟩, hm', h3.wb.kept (hl.block _ h3.wb.lt (by simp; exact ⟨ne 0 10 (by decide) (by decide), ne 0 1 (by decide) (by decide), ne 0 2 (by decide) (by decide)⟩)), hl⟩
    · obtain ⟨hm1, hwb, hl4⟩ := hx
      have hwb5 := hwb.kept (w' := w5) (hl5.block _ hwb.lt (by simp; exact h.nW))
      refine (HG w5 hwb5 hm5).mono ?_
      rintro e w' ⟨he, hm, hl⟩
      have hl' := hl5.trans hl
      exact ⟨he, hm, hm1.blocks (hl'.block _ hm1.sb (by simp; exact Ne.symm h.sb.1)) (hl'.block _ hm1.sg (by simp; exact Ne.symm h.sb.2)), hl4.trans (hl'.mono (by simp))⟩
  · rintro e w' ⟨he, w1, hb1, w2, hb2, w3, hb3, hm, hm1, hl⟩
    have h3 := ((h.below hb1).below hb2).below hb3
    exact ⟨he, h3.sect hl hm hm1 (by simp [h.l1]) hc⟩
/-- The dispatch: its goroutine runs. -/
theorem wdispatch (h : Wd w0 w B r lg xs ys c d n evs qs 20 g 0 false (.slice ra rn rcc) bk s0 s1 s2 s3 s4 yes) :
    Calls Tryz.prog 36 #[.pointer (some ⟨B.W, 0, none⟩), stepV] w fun e w' => e = .returned (.bool true) ∧ ∃ lg', Wb w' B.W B.b1 B.b2 B.rb B.tb B.q B.sb B.ib B.mb B.rc lg' ∧ Mc w' B.mb 0 0 0 (-1) (-1) (-1) 0 false false (.slice ra rn rcc) bk 0 0 s0 s1 s2 s3 s4 yes 0 ∧ Mem w' B.b2 B.g2 (ys.set 8 2) (d + 1) ∧ Lg w' w0.heap.size lg' (n + 1) (evs ++ [.int .i64 2, .int .i64 0, .int .i64 0, .int .i64 0, .int .i64 0]) ∧ lg'.ownBlock ≠ some B.W ∧ Below w0.heap.size w0 w' ∧ (∀ k, lg'.ownBlock = some k → k ≠ B.b2 ∧ k ≠ B.g2) ∧ B.W ≠ B.b2 ∧ B.W ≠ B.g2 := by
  have ne := h.nd
  have lo := h.lo
  refine (step_pick (fun w1 w' => ∃ w2, Below w1.heap.size w1 w2 ∧ ∃ w3, SeeP B.W B.b1 B.g1 B.b2 B.g2 B.rb B.tb B.q B.sb B.ib B.mb B.rc w0.heap.size lg n evs xs ys c d 2 2 0 0 0 w2 w3 ∧ Mc w' B.mb 0 0 0 (-1) (-1) (-1) 0 false false (.slice ra rn rcc) bk 0 0 s0 s1 s2 s3 s4 yes 0 ∧ OnL [B.mb] w3 w') (fun w1 hb1 => ?_)).mono ?_
  · have h1 := h.below hb1
    refine pick_pass 20 _ h1.wb h1.mc h1.T1 (by decide) (by decide) (by decide) (by decide) (by decide) (fun w2 hb2 => ?_)
    have h2 := h1.below hb2
    have c1 := h2.c1
    have c2 := h2.c2
    refine (pass_dispatch h2.wb h2.mc h2.lgr h2.n1 h2.bl.size h2.m1 h2.m2 (by omega) (by omega) h2.l1 h2.l2 h2.T2 h2.T3 ⟨ne 1 3 (by decide) (by decide), ne 1 4 (by decide) (by decide), ne 2 3 (by decide) (by decide), ne 2 4 (by decide) (by decide), ne 0 1 (by decide) (by decide), ne 0 2 (by decide) (by decide), ne 0 3 (by decide) (by decide), ne 0 4 (by decide) (by decide)⟩
      (fun k hk => by have := (lo k hk).1; simp [Bs.l] at this; omega) ⟨Ne.symm h.nW, h.sb.1, h.sb.2, Ne.symm (ne 3 10 (by decide) (by decide)), Ne.symm (ne 4 10 (by decide) (by decide))⟩ (fun e => (lo _ e).1 (by simp [Bs.l]))).mono ?_
    rintro e w' ⟨he, w3, hs, hm, hl⟩
    exact ⟨he, w3, hs, hm, hl⟩
  · rintro e w' ⟨he, w1, hb1, w2, hb2, w3, ⟨lg', hwb, hlg, hm1, hm2, hnW, hown, hl3⟩, hm, hl⟩
    have h2 := (h.below hb1).below hb2
    have n10 := Ne.symm h.nW
    have hS : ∀ k ∈ B.W :: B.b1 :: B.g1 :: B.b2 :: B.g2 :: lg.ownBlock.toList, w0.heap.size ≤ k := fun k hk => by
      simp only [List.mem_cons, Option.mem_toList] at hk
      rcases hk with rfl | rfl | rfl | rfl | rfl | hk
      · exact h.ge _ (by simp [Bs.l])
      · exact h.ge _ (by simp [Bs.l])
      · exact h.ge _ (by simp [Bs.l])
      · exact h.ge _ (by simp [Bs.l])
      · exact h.ge _ (by simp [Bs.l])
      · exact (h.lgr.lt k hk).1
    have hb3 := hl3.below hS h2.bl.size
    have hb4 := hl.below (B := w0.heap.size) (by simp; exact h.ge _ (by simp [Bs.l])) (Nat.le_trans h2.bl.size hl3.size)
    refine ⟨he, lg', hwb.kept (hl.block _ hwb.lt (by simp; exact h.nW)), hm, hm2.blocks (hl.block _ hm2.sb (by simp; exact ne 3 10 (by decide) (by decide))) (hl.block _ hm2.sg (by simp; exact ne 4 10 (by decide) (by decide))), hlg.kept (fun k hk => hl.block k (hlg.lt k hk).2 (by
      simp
      intro e; subst e
      rcases hown _ hk with h' | h'
      · exact (lo _ h').1 (by simp [Bs.l])
      · have := h2.mc.lt; omega)), hnW, (h2.bl.trans (hb3.mono (Nat.le_refl _))).trans hb4, fun k hk => ?_, ne 0 3 (by decide) (by decide), ne 0 4 (by decide) (by decide)⟩
    rcases hown k hk with h' | h'
    · have := (lo k h').1
      simp [Bs.l] at this
      exact ⟨by omega, by omega⟩
    · have := h2.al B.b2 (by simp [Bs.l])
      have := h2.al B.g2 (by simp [Bs.l])
      exact ⟨by omega, by omega⟩
end
end Go.Proofs.YtfpkgkjmpcoppaaGreatDoor
