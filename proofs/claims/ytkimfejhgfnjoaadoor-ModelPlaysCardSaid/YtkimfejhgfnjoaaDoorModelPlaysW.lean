/- The walk of the statement ModelPlays: the law answers true and turns nothing that was there. (written by wip/tools/genmp.py) -/
import Derived.Test.YtkimfejhgfnjoaaDoorMoL
import Derived.Test.YtkimfejhgfnjoaaDoorLives17
import Derived.OpenShut
import Derived.BigQuiet
import Derived.Deep.RegionHeld3
import Derived.Deep.CutRange
namespace Go.Proofs.YtkimfejhgfnjoaaDoor.modelPlays
open Go.RowKit
set_option linter.unusedVariables false
set_option linter.unusedSimpArgs false
set_option maxRecDepth 20000
theorem stat {w : World} {lo hi b : Nat} {s : Ms} (h : Mdl w lo hi b s) (a : Int) : Calls Tryd.prog 10 #[.pointer (some ⟨b, 0, none⟩), .int .i64 a] w fun e w' => e = .returned (.int .u64 (s.st a)) ∧ w' = w := by
  obtain ⟨b1, b2, b3, hm, _⟩ := h
  exact mstatus hm a
theorem runn {w : World} {lo hi b : Nat} {s : Ms} (h : Mdl w lo hi b s) : Calls Tryd.prog 13 #[.pointer (some ⟨b, 0, none⟩)] w fun e w' => e = .returned (.int .i64 s.nr) ∧ w' = w := by
  obtain ⟨b1, b2, b3, hm, _⟩ := h
  exact mrunning hm
theorem runs {w : World} {lo hi b : Nat} {s : Ms} (h : Mdl w lo hi b s) (a : Int) : Calls Tryd.prog 11 #[.pointer (some ⟨b, 0, none⟩), .int .i64 a] w fun e w' => e = .returned (runsV (s.ru a)) ∧ Below w.heap.size w w' := by
  obtain ⟨b1, b2, b3, hm, _⟩ := h
  exact mruns hm a
theorem wrong_le {s : Ms} {k g m p v : Int} {x : Nat} (h : wrongM s k g m p v = some x) : x ≤ 3 := by
  unfold wrongM at h
  split at h
  · cases h; omega
  · split at h
    · cases h; omega
    · split at h
      · cases h; omega
      · split at h
        · cases h; omega
        · cases h
theorem evs_of {w : World} {a : Option Addr} {len cap : Nat} {Z : Nat → Nat → Int} (h : IsStructs [.i64, .i64, .i64, .i64, .i64] w a len cap Z) : ∀ w', Below w.heap.size w w' → Evs w' a len Z := by
  intro w' hb h0
  obtain ⟨bx, off, rfl, hc⟩ := h.open h0 (by simp)
  have hlt : bx < w.heap.size := cell_ltE (hc w (Below.refl _ _) 0 h0 0 .i64 rfl).1
  refine ⟨bx, off, rfl, by have := hb.size; omega, fun j hj i hi => ?_⟩
  have ht : [IntKind.i64, .i64, .i64, .i64, .i64][i]? = some .i64 := by
    match i, hi with
    | 0, _ | 1, _ | 2, _ | 3, _ | 4, _ => rfl
  have := (hc w' hb j hj i .i64 ht).1
  simpa [Nat.add_assoc] using this
theorem infoRe : (Tryd.prog.info? 33).map (fun i => (i.zero, i.size, i.bytes)) = some (some (.agg #[.int .i64 0, .int .i64 0, .int .i64 0, .int .i64 0, .int .i64 0]), 5, 40) := by kernel_rfl
theorem i64_small (x : Int) (h0 : 0 ≤ x) (h6 : x ≤ 255) : IntKind.i64.wrap x = x := by
  have hb : IntKind.i64.bits = 64 := rfl
  have hs : IntKind.i64.signed = true := rfl
  simp [IntKind.wrap, hb, hs]
  split <;> omega
set_option maxHeartbeats 32000000 in
theorem walk (a0 a1 a2 : Int) (a3 : Option Addr) (len3 cap3 : Nat) (z3 : Nat → Nat → Int) (w : World) (w0 : (Lit.int .i64 a0).wf = true) (w1 : (Lit.int .i64 a1).wf = true) (w2 : (Lit.int .i64 a2).wf = true)
    (w3 : IsStructs [.i64, .i64, .i64, .i64, .i64] w a3 len3 cap3 z3) (T2 : EvNames w) (T3 : EvSteps w) :
    Calls Tryd.prog 3 #[.int .i64 a0, .int .i64 a1, .int .i64 a2, .slice a3 len3 cap3] w fun e w' => e = .returned (.bool true) ∧ Below w.heap.size w w' := by
  have TN := hid T2
  have TS := hid T3
  clear T2 T3
  by_cases hbig : (40 : Int) < len3 ∨ 8 < a1 ∨ 30 < a2
  · clear w3
    rcases (show (40 : Int) < len3 ∨ ((len3 : Int) ≤ 40 ∧ 8 < a1) ∨ ((len3 : Int) ≤ 40 ∧ a1 ≤ 8 ∧ 30 < a2) by omega) with t1 | ⟨t1, t2⟩ | ⟨t1, t2, t3⟩
    all_goals
      clear hbig
      go_enter Tryd.func3, Tryd.ntmps3
      go_wp2_with fail
      refine (lives17 _ TN.out TS.out).mono ?_
      rintro e w2 ⟨rfl, hb1⟩
      have HB1 := hid hb1
      clear hb1
      go_wp2_with fail
      refine (lives17 _ (TN.out.at HB1.out) (TS.out.at HB1.out)).mono ?_
      rintro e w3 ⟨rfl, hb2⟩
      go_wp2
      go_ret
      exact ⟨rfl, HB1.out.trans (hb2.mono HB1.out.size)⟩
  · have l3 : len3 ≤ 40 := by omega
    have t1 : (len3 : Int) ≤ 40 := by omega
    have t2 : a1 ≤ 8 := by omega
    have t3 : a2 ≤ 30 := by omega
    obtain ⟨K, hK⟩ : ∃ K : Nat, (K : Int) = max a1 0 := ⟨(max a1 0).toNat, by omega⟩
    obtain ⟨C, hC⟩ : ∃ C : Nat, (C : Int) = max a2 0 := ⟨(max a2 0).toNat, by omega⟩
    obtain ⟨P, hP⟩ : ∃ P : Int, P = max a0 0 := ⟨_, rfl⟩
    have hK8 : K ≤ 8 := by omega
    have hC30 : C ≤ 30 := by omega
    have W3 := hid w3
    have EV := hid (evs_of w3)
    have NW := hid (fun w => mnew_any a0 a1 a2 P K C w hP.symm hK.symm hC.symm)
    have MX : Hid (((0 ≤ a0 ∧ P = a0) ∨ (a0 < 0 ∧ P = 0)) ∧ ((0 ≤ a1 ∧ (K : Int) = a1) ∨ (a1 < 0 ∧ K = 0)) ∧ ((0 ≤ a2 ∧ (C : Int) = a2) ∨ (a2 < 0 ∧ C = 0))) := hid (by omega)
    clear hbig w3 hK hC hP w0 w1 w2
    go_enter Tryd.func3, Tryd.ntmps3
    go_wp2_with fail
    refine (lives17 _ TN.out TS.out).mono ?_
    rintro e w1 ⟨rfl, hb⟩
    have B1 := hid hb
    clear hb
    go_wp2_with fail
    refine (NW.out w1).mono ?_
    rintro e w2 ⟨b, rfl, hm, hb⟩
    have B2 := hid (B1.out.trans (hb.mono B1.out.size))
    obtain ⟨hi, hhi⟩ : ∃ x, x = w2.heap.size := ⟨_, rfl⟩
    have C0 : Hid (Mq w hi b (newM P K C) z3 0 (.slice none 0 0) (.slice none 0 0) w2) := hid (by
      obtain ⟨b1, b2, b3, m1, m2⟩ := hm
      have k := m2.h
      have := B1.out.size
      exact ⟨⟨b1, b2, b3, m1, ⟨by rw [hhi]; omega⟩⟩, World.ownsRow_nil _ _ _ _, World.ownsRow_nil _ _ _ _, fun x h => by simp [Value.ownBlock] at h, B2.out, by omega, by rw [hhi]; exact B2.out.size⟩)
    clear hm hb hhi B1 B2
    go_upto_region 4 with (fail)
    go_cut [10, 11, 12] from 53 to 218 (fun s10 s11 s12 wc => s10 = .int .i64 P ∧ s11 = .int .i64 K ∧ s12 = .int .i64 C ∧ wc = w2)
    case first =>
      obtain ⟨m1, m2, m3⟩ := MX.out
      rcases m1 with ⟨m1, rfl⟩ | ⟨m1, rfl⟩ <;> rcases m2 with ⟨m2, hk⟩ | ⟨m2, rfl⟩ <;> rcases m3 with ⟨m3, hc⟩ | ⟨m3, rfl⟩
      all_goals (go_wp2; go_meet; exact ⟨by go_num, by first | go_num | rw [hk], by first | go_num | rw [hc], rfl⟩)
    case rest =>
    obtain ⟨rfl, rfl, rfl, rfl⟩ := hcut
    clear MX
    obtain ⟨s0, hs0⟩ : ∃ s, s = newM P K C := ⟨_, rfl⟩
    have RLA : Hid (∀ q, Rl P K C (mst s0 z3 q) (lts s0 z3 q)) := hid (by rw [hs0]; exact rl_all P K C z3)
    have HS0 := hid hs0
    rw [← hs0] at C0
    clear hs0
    go_wp2_with fail
    go_loopw [13, 14, 61] (fun v13 v14 i wr => ∃ q : Nat, q ≤ len3 ∧ i = .int .i64 q ∧ Hid (Mq w hi b s0 z3 q v13 v14 wr)) (fun _ _ i _ => len3 - (intOf i).toNat)
    case atStart => exact ⟨0, by omega, rfl, C0⟩
    case round =>
      clear C0
      obtain ⟨q, hq, rfl, C1⟩ := hrel
      by_cases hlt : q < len3
      · obtain ⟨bx, off, rfl, hbx, hcell⟩ := EV.out w (Below.refl _ _) (by omega)
        have c0 := (C1.out.bl.cell (p := ⟨bx, off + q * 5 + 0, none⟩) hbx).trans (hcell q hlt 0 (by omega))
        have c1 := (C1.out.bl.cell (p := ⟨bx, off + q * 5 + 1, none⟩) hbx).trans (hcell q hlt 1 (by omega))
        have c2 := (C1.out.bl.cell (p := ⟨bx, off + q * 5 + 2, none⟩) hbx).trans (hcell q hlt 2 (by omega))
        have c3 := (C1.out.bl.cell (p := ⟨bx, off + q * 5 + 3, none⟩) hbx).trans (hcell q hlt 3 (by omega))
        have c4 := (C1.out.bl.cell (p := ⟨bx, off + q * 5 + 4, none⟩) hbx).trans (hcell q hlt 4 (by omega))
        rw [Nat.add_zero] at c0
        obtain ⟨x0, hx0⟩ : ∃ x, x = z3 q 0 := ⟨_, rfl⟩
        obtain ⟨x1, hx1⟩ : ∃ x, x = z3 q 1 := ⟨_, rfl⟩
        obtain ⟨x2, hx2⟩ : ∃ x, x = z3 q 2 := ⟨_, rfl⟩
        obtain ⟨x3, hx3⟩ : ∃ x, x = z3 q 3 := ⟨_, rfl⟩
        obtain ⟨x4, hx4⟩ : ∃ x, x = z3 q 4 := ⟨_, rfl⟩
        rw [← hx0] at c0
        rw [← hx1] at c1
        rw [← hx2] at c2
        rw [← hx3] at c3
        rw [← hx4] at c4
        have LL := hid (lts_len s0 z3 q)
        have FL := hid (fnd_len s0 z3 q)
        have RD1 := hid (C1.out.rd)
        have WR := hid (fun w2 (hb : Below wr.heap.size wr w2) => rwrong_any w2 P C K _ (lts s0 z3 q) x0 x1 x2 x3 x4 (RD1.out.below hb) (by have := LL.out; omega) (by omega))
        have ME := hid ((RLA.out q).wrong x0 x1 x2 x3 x4)
        obtain ⟨u, hu⟩ : ∃ u, u = wrongM (mst s0 z3 q) x0 x1 x2 x3 x4 := ⟨_, rfl⟩
        have HU : Hid (wrongM (mst s0 z3 q) (z3 q 0) (z3 q 1) (z3 q 2) (z3 q 3) (z3 q 4) = u) := hid (by rw [hu, hx0, hx1, hx2, hx3, hx4])
        rw [← hu] at ME
        rw [ME.out] at WR
        have HUX : Hid (wrongM (mst s0 z3 q) x0 x1 x2 x3 x4 = u) := hid hu.symm
        have C1HS := hid C1.out.hs
        have HE : Hid (evZ z3 q = (x0, x1, x2, x3, x4)) := hid (by unfold evZ; rw [hx0, hx1, hx2, hx3, hx4])
        have HST : Hid (mst s0 z3 (q + 1) = addM (mst s0 z3 q) x0 x1 x2 x3 x4) := hid (by rw [hx0, hx1, hx2, hx3, hx4]; rfl)
        have RF := hid (ref_any x0 x1 x2 x3 x4)
        clear hx0 hx1 hx2 hx3 hx4 hcell hu ME RD1
        go_upto_region 10 with (fail)
        have CA := hid (C1.out.below (bl_ad wr (.cells #[.int .i64 x0, .int .i64 x1, .int .i64 x2, .int .i64 x3, .int .i64 x4] 30)))
        have hbx2 := heap_alloc_new wr (.cells #[.int .i64 x0, .int .i64 x1, .int .i64 x2, .int .i64 x3, .int .i64 x4] 30)
        have BA := hid (bl_ad wr (.cells #[.int .i64 x0, .int .i64 x1, .int .i64 x2, .int .i64 x3, .int .i64 x4] 30))
        have EX := hid (fun w2 (hb : Below (wr.alloc (.cells #[.int .i64 x0, .int .i64 x1, .int .i64 x2, .int .i64 x3, .int .i64 x4] 30)).heap.size (wr.alloc (.cells #[.int .i64 x0, .int .i64 x1, .int .i64 x2, .int .i64 x3, .int .i64 x4] 30)) w2) => (hb.block _ (Array.getElem?_eq_some_iff.1 hbx2).1).trans hbx2)
        clear hbx c0 c1 c2 c3 c4 C1 hbx2
        generalize wr.alloc (.cells #[.int .i64 x0, .int .i64 x1, .int .i64 x2, .int .i64 x3, .int .i64 x4] 30) = w3 at *
        obtain ⟨c0, c1, c2, c3, c4⟩ := ev5q (EX.out w3 (Below.refl _ _))


        have HSZ := hid (show hi ≤ wr.heap.size from C1HS.out)
        have AD := hid (fun w2 (hb : Below w3.heap.size w3 w2) => (madd (CA.out.below hb).m (CA.out.below hb).hs (TN.out.at (CA.out.below hb).bl) (TS.out.at (CA.out.below hb).bl) x0 x1 x2 x3 x4).mono (R' := fun e w' => e = .returned (.tuple #[.int .u8 ((u.getD 0 : Nat) : Int), .bool u.isNone]) ∧ Mt w hi b s0 z3 q _ _ w' ∧ w'.heap[wr.heap.size]? = some (.cells #[.int .i64 x0, .int .i64 x1, .int .i64 x2, .int .i64 x3, .int .i64 x4] 30 (0, 0)))
          fun e w' ⟨h1, h2, h3⟩ => ⟨by rw [h1, HUX.out], (CA.out.below hb).add (by rw [HST.out]; exact h2) h3, by
            have hx := EX.out w2 hb
            exact (h3.block _ (Array.getElem?_eq_some_iff.1 hx).1 (.inr HSZ.out)).trans hx⟩)
        go_wp2_with fail
        refine (RF.out _).mono ?_
        rintro e w4 ⟨rfl, hb4⟩
        have B4 := hid hb4
        clear hb4 c0 c1 c2 c3 c4
        have WR4 := hid (WR.out w4 (BA.out.trans (B4.out.mono BA.out.size)))
        rcases u with _ | x
        · dsimp only at WR4
          simp only [Option.getD_none, Option.isNone_none, Int.natCast_zero] at AD
          go_wp2_with fail
          refine WR4.out.mono ?_
          rintro e w5 ⟨rfl, hb5⟩
          have B5 := hid (B4.out.trans (hb5.mono B4.out.size))
          clear hb5 B4 WR WR4
          obtain ⟨c0, c1, c2, c3, c4⟩ := ev5q (EX.out w5 B5.out)
          have AD5 := hid (AD.out w5 B5.out)
          clear AD CA EX B5 BA
          go_wp2_with fail
          refine AD5.out.mono ?_
          rintro e w6 ⟨rfl, hM, hX⟩
          have M6 := hid hM
          clear hM AD5 c0 c1 c2 c3 c4
          obtain ⟨c0, c1, c2, c3, c4⟩ := ev5q hX
          clear hX
          go_wp2_with fail
          refine (RF.out _).mono ?_
          rintro e w7 ⟨rfl, hb7⟩
          have M7 := hid (M6.out.below hb7)
          clear hb7 M6 c0 c1 c2 c3 c4
          have M8 := hid (M7.out.below (bl_ad w7 (.cells #[.int .i64 x0, .int .i64 x1, .int .i64 x2, .int .i64 x3, .int .i64 x4] 33)))
          have NW7 := hid (news_ev w7 (x0, x1, x2, x3, x4) 33)
          obtain ⟨i0, hi0, hz0, hz1, hz2⟩ := info_parts infoRe
          have hz := hid (And.intro hi0 (And.intro hz0 (And.intro hz1 hz2)))
          have HL := hid (show (lts s0 z3 q).length ≤ 100 by have := LL.out; omega)
          clear hi0 hz0 hz1 hz2 M7
          go_wp2_with (at_builtin; refine wpList_append_own_at _ rfl _ _ 26 rfl hi 33 i0 _ 5 40 Tryd.underlying26 hz.out.1 hz.out.2.1 hz.out.2.2.1 hz.out.2.2.2 rfl (by decide) _ _ _ rfl M8.out.o13 ⟨w7.heap.size, 0, none⟩ 1 1 (fe [(x0, x1, x2, x3, x4)]) rfl rfl NW7.out (fe_ones _) (by have := HL.out; unfold maxLen; omega) (by have := HL.out; omega) M8.out.hs ?_)
          intro v' w8 hown hgrow _ hxo
          have C6 := hid (M8.out.let HU.out (by rw [HE.out]; exact hown) hgrow (by simpa using hxo))
          clear hown hgrow hxo M8 NW7 hz
          have RL := hid (RLA.out (q + 1))
          have LL6 := hid (lts_len s0 z3 (q + 1))
          have hst6 := hid (fun k => statL_ok (lts s0 z3 (q + 1)) k)
          have RD6 := hid (C6.out.rd)
          have MD6 := hid (C6.out.m)
          generalize mst s0 z3 (q + 1) = s6 at *
          have SL := hid (fun w9 (hb : Below w8.heap.size w8 w9) k => rstat_any w9 _ (lts s0 z3 (q + 1)) k (RD6.out.below hb) (by have := LL6.out; omega))
          have RU := hid (fun w9 (hb : Below w8.heap.size w8 w9) k => rruns_any w9 _ (lts s0 z3 (q + 1)) k (RD6.out.below hb) (by have := LL6.out; omega))
          have ST := hid (fun w9 (hb : Below w8.heap.size w8 w9) k => stat (MD6.out.below hb) k)
          have RN := hid (fun w9 (hb : Below w8.heap.size w8 w9) k => runs (MD6.out.below hb) k)
          obtain ⟨i1, hi1, hy0, hy1, hy2⟩ := info_parts infoInt
          have hy := hid (And.intro hi1 (And.intro hy0 (And.intro hy1 hy2)))
          clear hi1 hy0 hy1 hy2
          obtain ⟨wo, hwo⟩ : ∃ wo : World, wo = wr := ⟨_, rfl⟩
          clear hwo
          go_wp2_with fail
          go_loopw [20, 113] (fun v20 i w9 => ∃ k : Nat, k ≤ C ∧ i = .int .i64 k ∧ Hid (Owns w9 w8.heap.size v20 (rq s6.st k)) ∧ Hid (Below w8.heap.size w8 w9)) (fun _ i _ => C - (intOf i).toNat)
          case atStart => exact ⟨0, by omega, rfl, hid (World.ownsRow_nil _ _ _ _), hid (Below.refl _ _)⟩
          case round =>
            obtain ⟨k, hkC, rfl, OW, B⟩ := hrel
            by_cases hkl : k < C
            · have S1 := hid (SL.out _ B.out k)
              have S2 := hid (fun w9 (hb : Below w8.heap.size w8 w9) => ST.out w9 hb k)
              have S3 := hid (RL.out.st k)
              rw [← S3.out] at S1
              have S4 := hst6.out k
              rw [← S3.out] at S4
              have RQ := hid (show rq s6.st (k + 1) = rq s6.st k ++ if s6.st k = 1 then [(k : Int)] else [] from rfl)
              have RL8 := hid (rq_len s6.st k)
              generalize s6.st k = y at *
              have yw := i64_small y (by omega) (by omega)
              have yy : (y != y) = false := by simp
              go_wp2_with fail
              refine S1.out.mono ?_
              rintro e w9 ⟨rfl, hb⟩
              have B9 := hid (B.out.trans (hb.mono B.out.size))
              have OW9 := hid (show Owns w9 w8.heap.size _ (rq s6.st k) from own_belowE OW.out hb)
              clear hb S1
              have S29 := hid (S2.out w9 B9.out)
              clear OW B S2
              go_wp2_with fail
              refine S29.out.mono ?_
              rintro e w10 ⟨rfl, rfl⟩
              clear S29
              by_cases hy1 : y = 1
              · rw [if_pos hy1] at RQ
                subst hy1
                obtain ⟨j, hj⟩ : ∃ j, j = (rq s6.st k).length := ⟨_, rfl⟩
                have HJ := hid hj
                have hjl : j ≤ 30 := by have := RL8.out; omega
                have hO4 := hid (show (w10.alloc (.cells #[.int .i64 k] 3)).ownsRow w8.heap.size 3 1 _ j ((rq s6.st k).map (Value.int .i64)) from by rw [hj]; exact World.ownsRow.alloc OW9.out (.cells #[.int .i64 k] 3))
                have NWk := hid (World.news_of_block (cs := #[.int .i64 k]) (t := 3) (fr := (0, 0)) (heap_alloc_new w10 (.cells #[.int .i64 k] 3)))
                have OWL := hid (World.ownsRow.lt hO4.out)
                have B10 := hid (B9.out.alloc B9.out.size (.cells #[.int .i64 k] 3))
                clear OW9 B9 hj
                go_wp2_with (at_builtin; refine wpList_append_own _ rfl _ _ 39 rfl w8.heap.size 3 i1 (.int .i64 0) 1 8 Tryd.underlying39 hy.out.1 hy.out.2.1 hy.out.2.2.1 hy.out.2.2.2 rfl (by decide) _ _ _ rfl hO4.out ⟨w10.heap.size, 0, none⟩ 1 1 [.int .i64 k] rfl rfl NWk.out (by intro u hu; simp only [List.mem_singleton] at hu; subst hu; rfl) (by unfold maxLen; omega) (by omega) B10.out.size ?_)
                intro v20 w11 hown hgrow _
                have O11 := hid (show Owns w11 w8.heap.size v20 (rq s6.st (k + 1)) by
                  rw [RQ.out]
                  unfold Owns
                  rw [List.length_append, List.map_append, ← HJ.out]
                  exact hown)
                have B11 := hid (B10.out.grown hgrow B10.out.size (fun g e => (OWL.out g e).1))
                clear hown hgrow hO4 OWL B10 NWk
                go_wp2
                go_roundw
                case rel => exact ⟨k + 1, by omega, by go_num, O11, B11⟩
                case measure => simp [intOf]; omega
              · rw [if_neg hy1, List.append_nil] at RQ
                have hy2 : (y == 1) = false := by simpa using hy1
                rw [← RQ.out] at OW9
                go_wp2
                go_roundw
                case rel => exact ⟨k + 1, by omega, by go_num, OW9, B9⟩
                case measure => simp [intOf]; omega
            · obtain rfl : k = C := by omega
              obtain ⟨w7, rfl⟩ : ∃ w7 : World, w7 = wr := ⟨_, rfl⟩
              have B7 := hid B.out
              have OW7 := hid OW.out
              have RK := hid (show s6.ru K = none from by
                rcases hr : s6.ru K with _ | x
                · rfl
                · have := RL.out.rng _ _ hr; omega)
              have RCE := hid (rc_out (K := K) RK.out)
              clear SL B OW
              go_wp2_with fail
              go_loopw [23, 134] (fun r i w9 => ∃ (j n : Nat), j ≤ K + 1 ∧ n ≤ j ∧ r = .int .i64 n ∧ i = .int .i64 j ∧ Hid (n = rc s6.ru j) ∧ Hid (Below w7.heap.size w7 w9)) (fun _ i _ => K + 1 - (intOf i).toNat)
              case atStart => exact ⟨0, 0, by omega, by omega, rfl, rfl, hid rfl, hid (Below.refl _ _)⟩
              case round =>
                obtain ⟨j, n, hj, hnj, rfl, rfl, HN, B⟩ := hrel
                by_cases hjl : j < K + 1
                · have B8 := hid (B7.out.trans (B.out.mono B7.out.size))
                  have R1 := hid (RN.out _ B8.out j)
                  have R2 := hid (fun w9 (hb : Below w8.heap.size w8 w9) => RU.out w9 hb j)
                  rw [← RL.out.ru j] at R2
                  have RS := hid (show rc s6.ru (j + 1) = rc s6.ru j + if (s6.ru j).isSome then 1 else 0 from rfl)
                  have RJ := hid (show j = K → s6.ru j = none from fun e => by rw [e]; exact RK.out)
                  generalize s6.ru j = rr at *
                  unfold runsV at R1 R2
                  rcases rr with _ | ⟨x, y⟩
                  · simp only [Option.getD_none, Option.isSome_none] at R1 R2
                    have N2 := hid (show n = rc s6.ru (j + 1) by rw [RS.out, HN.out]; rfl)
                    clear HN RS
                    go_wp2_with fail
                    refine R1.out.mono ?_
                    rintro e w9 ⟨rfl, hb⟩
                    have B9 := hid (B.out.trans (hb.mono B.out.size))
                    have B89 := hid (B8.out.trans (hb.mono B8.out.size))
                    clear hb R1 B B8
                    go_wp2_with fail
                    refine (R2.out _ B89.out).mono ?_
                    rintro e w10 ⟨rfl, hb⟩
                    have B10 := hid (B9.out.trans (hb.mono B9.out.size))
                    clear hb R2 B9 B89
                    rcases (show ((j : Int) == (K : Int)) = true ∨ ((j : Int) == (K : Int)) = false by cases ((j : Int) == (K : Int)) <;> simp) with jk | jk
                    all_goals
                      go_wp2
                      go_roundw
                      case rel => exact ⟨j + 1, n, by omega, by omega, rfl, by go_num, N2, B10⟩
                      case measure => simp [intOf]; omega
                  · simp only [Option.getD_some, Option.isSome_some] at R1 R2
                    have jk : ((j : Int) == (K : Int)) = false := by
                      have : j ≠ K := fun e => by have := RJ.out e; cases this
                      have : (j : Int) ≠ (K : Int) := by omega
                      simpa using this
                    have N2 := hid (show n + 1 = rc s6.ru (j + 1) by rw [RS.out, HN.out]; rfl)
                    have xx : (x == x) = true := by simp
                    have yy : (y == y) = true := by simp
                    clear HN RS
                    go_wp2_with fail
                    refine R1.out.mono ?_
                    rintro e w9 ⟨rfl, hb⟩
                    have B9 := hid (B.out.trans (hb.mono B.out.size))
                    have B89 := hid (B8.out.trans (hb.mono B8.out.size))
                    clear hb R1 B B8
                    go_wp2_with fail
                    refine (R2.out _ B89.out).mono ?_
                    rintro e w10 ⟨rfl, hb⟩
                    have B10 := hid (B9.out.trans (hb.mono B9.out.size))
                    clear hb R2 B9 B89
                    go_wp2
                    go_roundw
                    case rel => exact ⟨j + 1, n + 1, by omega, by omega, by go_num, by go_num, N2, B10⟩
                    case measure => simp [intOf]; omega
                · obtain rfl : j = K + 1 := by omega
                  have B8 := hid (B7.out.trans (B.out.mono B7.out.size))
                  have HN2 := hid (show s6.nr = n by rw [HN.out, RCE.out]; exact RL.out.nr)
                  have RUN := hid (fun w9 (hb : Below w8.heap.size w8 w9) => runn (MD6.out.below hb))
                  have RBL := hid (fun w9 (hb : Below w8.heap.size w8 w9) => mrunnable (MD6.out.below hb) k (by omega) (fun a ha => RL.out.stg a (by omega)))
                  have SG := hid (show s6.st (-1) = 0 ∧ s6.st k = 0 from by
                    constructor
                    · rcases Int.lt_trichotomy (s6.st (-1)) 0 with h | h | h
                      · have := RL.out.stg (-1) (by omega); omega
                      · exact h
                      · have := RL.out.stg (-1) (by omega); omega
                    · rcases Int.lt_trichotomy (s6.st k) 0 with h | h | h
                      · have := RL.out.stg k (by omega); omega
                      · exact h
                      · have := RL.out.stg k (by omega); omega)
                  have R8 := hid (RUN.out _ B8.out)
                  rw [HN2.out] at R8
                  have OWJ := hid (OW7.out.reads.of_below B.out)
                  have RQL := hid (rq_len s6.st k)
                  clear HN RK RCE RN RU B RUN
                  go_wp2_with fail
                  refine R8.out.mono ?_
                  rintro e w9 ⟨rfl, rfl⟩
                  have RB8 := hid (RBL.out _ B8.out)
                  clear R8 RBL
                  go_wp2_with fail
                  refine RB8.out.mono ?_
                  rintro e w10 ⟨v10, rfl, ho, hb⟩
                  have B10 := hid (B8.out.trans (hb.mono B8.out.size))
                  have SA := hid (same_any v10 _ (rq s6.st k) (rq s6.st k) true (by simp) w10 ho.reads (OWJ.out.of_below hb) (by have := RQL.out; omega) (by have := RQL.out; omega))
                  clear ho hb RB8 OWJ B8
                  go_wp2_with fail
                  refine SA.out.mono ?_
                  rintro e w11 ⟨rfl, hqt⟩
                  have B11 := hid (B10.out.trans (hqt.below w10.heap.size |>.mono B10.out.size))
                  clear hqt SA B10
                  have S1 := hid (ST.out _ B11.out (-1))
                  rw [SG.out.1] at S1
                  go_wp2_with fail
                  refine S1.out.mono ?_
                  rintro e w12 ⟨rfl, rfl⟩
                  have S2 := hid (ST.out _ B11.out k)
                  rw [SG.out.2] at S2
                  clear S1 ST
                  go_wp2_with fail
                  refine S2.out.mono ?_
                  rintro e w13 ⟨rfl, rfl⟩
                  have C13 := hid (C6.out.below B11.out)
                  clear S2 C6
                  go_wp2_with fail
                  go_roundw
                  case rel => exact ⟨q + 1, by omega, by go_num, C13⟩
                  case measure => simp [intOf]; omega
        · have hx3 := wrong_le HU.out
          dsimp only at WR4
          simp only [Option.getD_some, Option.isNone_some] at AD
          have xw := i64_small (x : Int) (by omega) (by omega)
          have xn : ¬ ((x : Int) < 0) := by omega
          have xx : ((x : Int) != (x : Int)) = false := by simp
          go_wp2_with fail
          refine WR4.out.mono ?_
          rintro e w5 ⟨rfl, hb5⟩
          have B5 := hid (B4.out.trans (hb5.mono B4.out.size))
          clear hb5 B4 WR WR4
          obtain ⟨c0, c1, c2, c3, c4⟩ := ev5q (EX.out w5 B5.out)
          have AD5 := hid (AD.out w5 B5.out)
          clear AD CA EX B5 BA
          go_wp2_with fail
          refine AD5.out.mono ?_
          rintro e w6 ⟨rfl, hM, hX⟩
          have M6 := hid hM
          clear hM AD5 c0 c1 c2 c3 c4 hX
          have M8 := hid (M6.out.below (bl_ad w6 (.cells #[.int .u8 x, .int .i64 q] 38)))
          have NW7 := hid (World.news_of_block (cs := #[.int .u8 x, .int .i64 q]) (t := 38) (fr := (0, 0)) (heap_alloc_new w6 (.cells #[.int .u8 x, .int .i64 q] 38)))
          obtain ⟨i0, hi0, hz0, hz1, hz2⟩ := info_parts infoF
          have hz := hid (And.intro hi0 (And.intro hz0 (And.intro hz1 hz2)))
          have HL := hid (show (fnd s0 z3 q).length ≤ 100 by have := FL.out; omega)
          clear hi0 hz0 hz1 hz2 M6
          go_wp2_with (at_builtin; refine wpList_append_own_at _ rfl _ _ 27 rfl hi 38 i0 _ 2 16 Tryd.underlying27 hz.out.1 hz.out.2.1 hz.out.2.2.1 hz.out.2.2.2 rfl (by decide) _ _ _ rfl M8.out.o14 ⟨w6.heap.size, 0, none⟩ 1 1 [.int .u8 x, .int .i64 q] rfl rfl NW7.out (by intro u hu; simp at hu; rcases hu with rfl | rfl <;> rfl) (by have := HL.out; unfold maxLen; omega) (by have := HL.out; omega) M8.out.hs ?_)
          intro v' w8 hown hgrow _ hxo
          have C6 := hid (M8.out.bad HU.out hown hgrow (by simpa using hxo))
          clear hown hgrow hxo M8 NW7 hz
          have RL := hid (RLA.out (q + 1))
          have LL6 := hid (lts_len s0 z3 (q + 1))
          have hst6 := hid (fun k => statL_ok (lts s0 z3 (q + 1)) k)
          have RD6 := hid (C6.out.rd)
          have MD6 := hid (C6.out.m)
          generalize mst s0 z3 (q + 1) = s6 at *
          have SL := hid (fun w9 (hb : Below w8.heap.size w8 w9) k => rstat_any w9 _ (lts s0 z3 (q + 1)) k (RD6.out.below hb) (by have := LL6.out; omega))
          have RU := hid (fun w9 (hb : Below w8.heap.size w8 w9) k => rruns_any w9 _ (lts s0 z3 (q + 1)) k (RD6.out.below hb) (by have := LL6.out; omega))
          have ST := hid (fun w9 (hb : Below w8.heap.size w8 w9) k => stat (MD6.out.below hb) k)
          have RN := hid (fun w9 (hb : Below w8.heap.size w8 w9) k => runs (MD6.out.below hb) k)
          obtain ⟨i1, hi1, hy0, hy1, hy2⟩ := info_parts infoInt
          have hy := hid (And.intro hi1 (And.intro hy0 (And.intro hy1 hy2)))
          clear hi1 hy0 hy1 hy2
          obtain ⟨wo, hwo⟩ : ∃ wo : World, wo = wr := ⟨_, rfl⟩
          clear hwo
          go_wp2_with fail
          go_loopw [20, 113] (fun v20 i w9 => ∃ k : Nat, k ≤ C ∧ i = .int .i64 k ∧ Hid (Owns w9 w8.heap.size v20 (rq s6.st k)) ∧ Hid (Below w8.heap.size w8 w9)) (fun _ i _ => C - (intOf i).toNat)
          case atStart => exact ⟨0, by omega, rfl, hid (World.ownsRow_nil _ _ _ _), hid (Below.refl _ _)⟩
          case round =>
            obtain ⟨k, hkC, rfl, OW, B⟩ := hrel
            by_cases hkl : k < C
            · have S1 := hid (SL.out _ B.out k)
              have S2 := hid (fun w9 (hb : Below w8.heap.size w8 w9) => ST.out w9 hb k)
              have S3 := hid (RL.out.st k)
              rw [← S3.out] at S1
              have S4 := hst6.out k
              rw [← S3.out] at S4
              have RQ := hid (show rq s6.st (k + 1) = rq s6.st k ++ if s6.st k = 1 then [(k : Int)] else [] from rfl)
              have RL8 := hid (rq_len s6.st k)
              generalize s6.st k = y at *
              have yw := i64_small y (by omega) (by omega)
              have yy : (y != y) = false := by simp
              go_wp2_with fail
              refine S1.out.mono ?_
              rintro e w9 ⟨rfl, hb⟩
              have B9 := hid (B.out.trans (hb.mono B.out.size))
              have OW9 := hid (show Owns w9 w8.heap.size _ (rq s6.st k) from own_belowE OW.out hb)
              clear hb S1
              have S29 := hid (S2.out w9 B9.out)
              clear OW B S2
              go_wp2_with fail
              refine S29.out.mono ?_
              rintro e w10 ⟨rfl, rfl⟩
              clear S29
              by_cases hy1 : y = 1
              · rw [if_pos hy1] at RQ
                subst hy1
                obtain ⟨j, hj⟩ : ∃ j, j = (rq s6.st k).length := ⟨_, rfl⟩
                have HJ := hid hj
                have hjl : j ≤ 30 := by have := RL8.out; omega
                have hO4 := hid (show (w10.alloc (.cells #[.int .i64 k] 3)).ownsRow w8.heap.size 3 1 _ j ((rq s6.st k).map (Value.int .i64)) from by rw [hj]; exact World.ownsRow.alloc OW9.out (.cells #[.int .i64 k] 3))
                have NWk := hid (World.news_of_block (cs := #[.int .i64 k]) (t := 3) (fr := (0, 0)) (heap_alloc_new w10 (.cells #[.int .i64 k] 3)))
                have OWL := hid (World.ownsRow.lt hO4.out)
                have B10 := hid (B9.out.alloc B9.out.size (.cells #[.int .i64 k] 3))
                clear OW9 B9 hj
                go_wp2_with (at_builtin; refine wpList_append_own _ rfl _ _ 39 rfl w8.heap.size 3 i1 (.int .i64 0) 1 8 Tryd.underlying39 hy.out.1 hy.out.2.1 hy.out.2.2.1 hy.out.2.2.2 rfl (by decide) _ _ _ rfl hO4.out ⟨w10.heap.size, 0, none⟩ 1 1 [.int .i64 k] rfl rfl NWk.out (by intro u hu; simp only [List.mem_singleton] at hu; subst hu; rfl) (by unfold maxLen; omega) (by omega) B10.out.size ?_)
                intro v20 w11 hown hgrow _
                have O11 := hid (show Owns w11 w8.heap.size v20 (rq s6.st (k + 1)) by
                  rw [RQ.out]
                  unfold Owns
                  rw [List.length_append, List.map_append, ← HJ.out]
                  exact hown)
                have B11 := hid (B10.out.grown hgrow B10.out.size (fun g e => (OWL.out g e).1))
                clear hown hgrow hO4 OWL B10 NWk
                go_wp2
                go_roundw
                case rel => exact ⟨k + 1, by omega, by go_num, O11, B11⟩
                case measure => simp [intOf]; omega
              · rw [if_neg hy1, List.append_nil] at RQ
                have hy2 : (y == 1) = false := by simpa using hy1
                rw [← RQ.out] at OW9
                go_wp2
                go_roundw
                case rel => exact ⟨k + 1, by omega, by go_num, OW9, B9⟩
                case measure => simp [intOf]; omega
            · obtain rfl : k = C := by omega
              obtain ⟨w7, rfl⟩ : ∃ w7 : World, w7 = wr := ⟨_, rfl⟩
              have B7 := hid B.out
              have OW7 := hid OW.out
              have RK := hid (show s6.ru K = none from by
                rcases hr : s6.ru K with _ | x
                · rfl
                · have := RL.out.rng _ _ hr; omega)
              have RCE := hid (rc_out (K := K) RK.out)
              clear SL B OW
              go_wp2_with fail
              go_loopw [23, 134] (fun r i w9 => ∃ (j n : Nat), j ≤ K + 1 ∧ n ≤ j ∧ r = .int .i64 n ∧ i = .int .i64 j ∧ Hid (n = rc s6.ru j) ∧ Hid (Below w7.heap.size w7 w9)) (fun _ i _ => K + 1 - (intOf i).toNat)
              case atStart => exact ⟨0, 0, by omega, by omega, rfl, rfl, hid rfl, hid (Below.refl _ _)⟩
              case round =>
                obtain ⟨j, n, hj, hnj, rfl, rfl, HN, B⟩ := hrel
                by_cases hjl : j < K + 1
                · have B8 := hid (B7.out.trans (B.out.mono B7.out.size))
                  have R1 := hid (RN.out _ B8.out j)
                  have R2 := hid (fun w9 (hb : Below w8.heap.size w8 w9) => RU.out w9 hb j)
                  rw [← RL.out.ru j] at R2
                  have RS := hid (show rc s6.ru (j + 1) = rc s6.ru j + if (s6.ru j).isSome then 1 else 0 from rfl)
                  have RJ := hid (show j = K → s6.ru j = none from fun e => by rw [e]; exact RK.out)
                  generalize s6.ru j = rr at *
                  unfold runsV at R1 R2
                  rcases rr with _ | ⟨x, y⟩
                  · simp only [Option.getD_none, Option.isSome_none] at R1 R2
                    have N2 := hid (show n = rc s6.ru (j + 1) by rw [RS.out, HN.out]; rfl)
                    clear HN RS
                    go_wp2_with fail
                    refine R1.out.mono ?_
                    rintro e w9 ⟨rfl, hb⟩
                    have B9 := hid (B.out.trans (hb.mono B.out.size))
                    have B89 := hid (B8.out.trans (hb.mono B8.out.size))
                    clear hb R1 B B8
                    go_wp2_with fail
                    refine (R2.out _ B89.out).mono ?_
                    rintro e w10 ⟨rfl, hb⟩
                    have B10 := hid (B9.out.trans (hb.mono B9.out.size))
                    clear hb R2 B9 B89
                    rcases (show ((j : Int) == (K : Int)) = true ∨ ((j : Int) == (K : Int)) = false by cases ((j : Int) == (K : Int)) <;> simp) with jk | jk
                    all_goals
                      go_wp2
                      go_roundw
                      case rel => exact ⟨j + 1, n, by omega, by omega, rfl, by go_num, N2, B10⟩
                      case measure => simp [intOf]; omega
                  · simp only [Option.getD_some, Option.isSome_some] at R1 R2
                    have jk : ((j : Int) == (K : Int)) = false := by
                      have : j ≠ K := fun e => by have := RJ.out e; cases this
                      have : (j : Int) ≠ (K : Int) := by omega
                      simpa using this
                    have N2 := hid (show n + 1 = rc s6.ru (j + 1) by rw [RS.out, HN.out]; rfl)
                    have xx : (x == x) = true := by simp
                    have yy : (y == y) = true := by simp
                    clear HN RS
                    go_wp2_with fail
                    refine R1.out.mono ?_
                    rintro e w9 ⟨rfl, hb⟩
                    have B9 := hid (B.out.trans (hb.mono B.out.size))
                    have B89 := hid (B8.out.trans (hb.mono B8.out.size))
                    clear hb R1 B B8
                    go_wp2_with fail
                    refine (R2.out _ B89.out).mono ?_
                    rintro e w10 ⟨rfl, hb⟩
                    have B10 := hid (B9.out.trans (hb.mono B9.out.size))
                    clear hb R2 B9 B89
                    go_wp2
                    go_roundw
                    case rel => exact ⟨j + 1, n + 1, by omega, by omega, by go_num, by go_num, N2, B10⟩
                    case measure => simp [intOf]; omega
                · obtain rfl : j = K + 1 := by omega
                  have B8 := hid (B7.out.trans (B.out.mono B7.out.size))
                  have HN2 := hid (show s6.nr = n by rw [HN.out, RCE.out]; exact RL.out.nr)
                  have RUN := hid (fun w9 (hb : Below w8.heap.size w8 w9) => runn (MD6.out.below hb))
                  have RBL := hid (fun w9 (hb : Below w8.heap.size w8 w9) => mrunnable (MD6.out.below hb) k (by omega) (fun a ha => RL.out.stg a (by omega)))
                  have SG := hid (show s6.st (-1) = 0 ∧ s6.st k = 0 from by
                    constructor
                    · rcases Int.lt_trichotomy (s6.st (-1)) 0 with h | h | h
                      · have := RL.out.stg (-1) (by omega); omega
                      · exact h
                      · have := RL.out.stg (-1) (by omega); omega
                    · rcases Int.lt_trichotomy (s6.st k) 0 with h | h | h
                      · have := RL.out.stg k (by omega); omega
                      · exact h
                      · have := RL.out.stg k (by omega); omega)
                  have R8 := hid (RUN.out _ B8.out)
                  rw [HN2.out] at R8
                  have OWJ := hid (OW7.out.reads.of_below B.out)
                  have RQL := hid (rq_len s6.st k)
                  clear HN RK RCE RN RU B RUN
                  go_wp2_with fail
                  refine R8.out.mono ?_
                  rintro e w9 ⟨rfl, rfl⟩
                  have RB8 := hid (RBL.out _ B8.out)
                  clear R8 RBL
                  go_wp2_with fail
                  refine RB8.out.mono ?_
                  rintro e w10 ⟨v10, rfl, ho, hb⟩
                  have B10 := hid (B8.out.trans (hb.mono B8.out.size))
                  have SA := hid (same_any v10 _ (rq s6.st k) (rq s6.st k) true (by simp) w10 ho.reads (OWJ.out.of_below hb) (by have := RQL.out; omega) (by have := RQL.out; omega))
                  clear ho hb RB8 OWJ B8
                  go_wp2_with fail
                  refine SA.out.mono ?_
                  rintro e w11 ⟨rfl, hqt⟩
                  have B11 := hid (B10.out.trans (hqt.below w10.heap.size |>.mono B10.out.size))
                  clear hqt SA B10
                  have S1 := hid (ST.out _ B11.out (-1))
                  rw [SG.out.1] at S1
                  go_wp2_with fail
                  refine S1.out.mono ?_
                  rintro e w12 ⟨rfl, rfl⟩
                  have S2 := hid (ST.out _ B11.out k)
                  rw [SG.out.2] at S2
                  clear S1 ST
                  go_wp2_with fail
                  refine S2.out.mono ?_
                  rintro e w13 ⟨rfl, rfl⟩
                  have C13 := hid (C6.out.below B11.out)
                  clear S2 C6
                  go_wp2_with fail
                  go_roundw
                  case rel => exact ⟨q + 1, by omega, by go_num, C13⟩
                  case measure => simp [intOf]; omega
      · obtain rfl : q = len3 := by omega
        have CK := hid (mcheck_of a0 a1 a2 P K C a3 q cap3 z3 wr (EV.out wr C1.out.bl) (by omega) (NW.out wr) (TN.out.at C1.out.bl) (TS.out.at C1.out.bl))
        rw [← HS0.out] at CK
        have FL := hid (fnd_len s0 z3 q)
        have R14 := hid (own_rdF C1.out.o14)
        have BL := hid C1.out.bl
        clear EV NW RLA HS0 C1
        go_wp2_with fail
        refine CK.out.mono ?_
        rintro e w5 ⟨v31, rfl, ho, hb⟩
        have R31 := hid (own_rdF ho)
        have R14b := hid (R14.out.below hb)
        have B5 := hid (BL.out.trans (hb.mono BL.out.size))
        clear ho hb CK R14 BL
        generalize fnd s0 z3 q = F at *
        obtain ⟨a31, c31, rfl, hc31, h31⟩ := R31.out
        obtain ⟨a14, c14, e14, hc14, h14⟩ := R14b.out
        subst e14
        have H31 := hid h31
        have H14 := hid h14
        obtain ⟨m, hm⟩ : ∃ m, m = F.length := ⟨_, rfl⟩
        have HM := hid hm
        have mF : m ≤ 40 := by have := FL.out; omega
        rw [← hm] at hc31 hc14 ⊢
        have mm : ((m : Int) != (m : Int)) = false := by simp
        clear h31 h14 R31 R14b hm FL
        go_wp2_with fail
        go_loopw [206] (fun i w9 => ∃ k : Nat, k ≤ m ∧ i = .int .i64 k ∧ Hid (Below w5.heap.size w5 w9)) (fun i _ => m - (intOf i).toNat)
        case atStart => exact ⟨0, by omega, rfl, hid (Below.refl _ _)⟩
        case round =>
          obtain ⟨k, hk, rfl, B⟩ := hrel
          by_cases hkl : k < m
          · obtain ⟨g1, rfl, hg1, hc1⟩ := H31.out (by have := HM.out; omega)
            obtain ⟨g2, rfl, hg2, hc2⟩ := H14.out (by have := HM.out; omega)
            have hkF : k < F.length := by have := HM.out; omega
            have d1 := (B.out.cell (p := ⟨g1, k * 2, none⟩) hg1).trans (hc1 k hkF).1
            have d2 := (B.out.cell (p := ⟨g1, k * 2 + 1, none⟩) hg1).trans (hc1 k hkF).2
            have d3 := (B.out.cell (p := ⟨g2, k * 2, none⟩) hg2).trans (hc2 k hkF).1
            have d4 := (B.out.cell (p := ⟨g2, k * 2 + 1, none⟩) hg2).trans (hc2 k hkF).2
            generalize F[k] = fk at *
            obtain ⟨f1, f2⟩ := fk
            simp only at d1 d2 d3 d4
            have EQ := equalIn_fd f1 f2 f1 f2
            rw [decide_eq_true rfl] at EQ
            clear hc1 hc2 hkF
            go_upto_region 49 with (fail)
            go_quiet (fail)
            have B9 := hid (B.out.trans ((Quiet.below ⟨nq, rfl⟩ wr.heap.size : Below wr.heap.size wr (wr.drewN nq)).mono B.out.size))
            go_wp2
            go_roundw
            case rel => exact ⟨k + 1, by omega, by go_num, B9⟩
            case measure => simp [intOf]; omega
          · obtain rfl : k = m := by omega
            go_wp2
            go_ret
            exact ⟨rfl, B5.out.trans (B.out.mono B5.out.size)⟩
end Go.Proofs.YtkimfejhgfnjoaaDoor.modelPlays
