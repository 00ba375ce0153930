/- The walk of the statement ModelAnother: the law answers true and turns nothing that was there. -/
import Derived.Test.YtgfamjbpdomjfaaDoorLives17
namespace Go.Proofs.YtgfamjbpdomjfaaDoor.modelAnother
open Go.RowKit
set_option linter.unusedVariables false
set_option linter.unusedSimpArgs false

/-- One model alone, another one in which somebody else runs besides: of the first goroutine they say the same. -/
structure Rel (a b : Ms) : Prop where
  cP : a.P = 2 ∧ b.P = 2 ∧ a.M = 2 ∧ b.M = 2 ∧ a.G = 2 ∧ b.G = 2
  st : a.st 0 = b.st 0
  s1 : b.st 1 = 2
  ru : a.ru 0 = b.ru 0
  tk : a.tk 0 = b.tk 0
  na : a.nr = if (a.ru 0).isSome then 1 else 0
  nb : b.nr = a.nr + 1
theorem rel0 : Rel (newM 2 2 2) (addM (addM (newM 2 2 2) 0 1 (-1) (-1) 0) 2 1 1 1 0) := by
  refine ⟨by decide, by decide, by decide, by decide, by decide, by decide, by decide⟩
theorem Rel.wrong {a b : Ms} (h : Rel a b) (k : Int) : wrongM a k 0 0 0 0 = wrongM b k 0 0 0 0 := by
  obtain ⟨h1, h2, h3, h4, h5, h6⟩ := h.cP
  unfold wrongM shapedB stepsB takenB isAtB
  rw [h1, h2, h3, h4, h5, h6, h.st, h.ru, h.tk]
theorem Rel.add {a b : Ms} (h : Rel a b) (k : Int) : Rel (addM a k 0 0 0 0) (addM b k 0 0 0 0) := by
  unfold addM
  rw [← h.wrong k]
  by_cases hw : wrongM a k 0 0 0 0 = none
  · rw [if_pos hw, if_pos hw]
    unfold doM
    by_cases h2 : k = 2
    · subst h2
      rw [if_pos rfl, if_pos rfl]
      have hr : a.ru 0 = none := by
        unfold wrongM at hw
        split at hw
        · cases hw
        · split at hw
          · cases hw
          · split at hw
            · cases hw
            · rename_i _ _ h3
              unfold takenB at h3
              cases hr : a.ru 0 with
              | none => rfl
              | some x => rw [hr] at h3; simp at h3
      have hn : a.nr = 0 := by rw [h.na, hr]; rfl
      refine ⟨h.cP, by simp [upf], by simpa [upf] using h.s1, by simp [upf], by simp [upf], by simp [upf, hn], by simp [h.nb]⟩
    · rw [if_neg h2, if_neg h2]
      by_cases hl : leavesB k = true
      · rw [if_pos hl, if_pos hl]
        have hr : (a.ru 0).isSome = true := by
          unfold wrongM at hw
          split at hw
          · cases hw
          · split at hw
            · cases hw
            · split at hw
              · cases hw
              · split at hw
                · cases hw
                · rename_i _ _ _ h3
                  unfold isAtB at h3
                  rw [hl] at h3
                  cases hr : a.ru 0 with
                  | none => rw [hr] at h3; simp at h3
                  | some x => rfl
        have hn : a.nr = 1 := by rw [h.na, hr]; rfl
        refine ⟨h.cP, by simp [upf], by simpa [upf] using h.s1, by simp [upf], by simp [upf], by simp [upf, hn], by simp [h.nb, hn]⟩
      · rw [if_neg hl, if_neg hl]
        refine ⟨h.cP, by simp [upf], by simpa [upf] using h.s1, h.ru, h.tk, h.na, h.nb⟩
  · rw [if_neg hw, if_neg hw]
    exact h
/-- All that stands. -/
structure St (w : World) (m1 m2 pa pb : Nat) (a b : Ms) (wr : World) : Prop where
  A : Mdl wr w.heap.size m1 pa a
  B : Mdl wr m1 m2 pb b
  bl : Below w.heap.size w wr
  s1 : w.heap.size ≤ m1
  s2 : m1 ≤ m2
  s3 : m2 ≤ wr.heap.size
theorem St.below {w wr w' : World} {m1 m2 pa pb : Nat} {a b : Ms} (h : St w m1 m2 pa pb a b wr) (hb : Below wr.heap.size wr w') : St w m1 m2 pa pb a b w' :=
  ⟨h.A.below hb, h.B.below hb, h.bl.trans (hb.mono h.bl.size), h.s1, h.s2, Nat.le_trans h.s3 hb.size⟩
theorem St.addA {w wr w' : World} {m1 m2 pa pb : Nat} {a a' b : Ms} (h : St w m1 m2 pa pb a b wr) (hm : Mdl w' w.heap.size m1 pa a') (ho : OM w.heap.size m1 wr w') : St w m1 m2 pa pb a' b w' :=
  ⟨hm, h.B.other ho (.inr (Nat.le_refl _)), h.bl.trans (ho.below (Nat.le_refl _) h.bl.size), h.s1, h.s2, Nat.le_trans h.s3 ho.size⟩
theorem St.addB {w wr w' : World} {m1 m2 pa pb : Nat} {a b b' : Ms} (h : St w m1 m2 pa pb a b wr) (hm : Mdl w' m1 m2 pb b') (ho : OM m1 m2 wr w') : St w m1 m2 pa pb a b' w' :=
  ⟨h.A.other ho (.inl (Nat.le_refl _)), hm, h.bl.trans (ho.below h.s1 h.bl.size), h.s1, h.s2, Nat.le_trans h.s3 ho.size⟩
theorem stat {w : World} {lo hi b : Nat} {s : Ms} (h : Mdl w lo hi b s) (a : Int) : Calls Tryd.prog 10 #[.pointer (some ⟨b, 0, none⟩), .int .i64 a] w fun e w' => e = .returned (.int .u64 (s.st a)) ∧ w' = w := by
  obtain ⟨b1, b2, b3, h1, _⟩ := h
  exact mstatus h1 a
theorem runn {w : World} {lo hi b : Nat} {s : Ms} (h : Mdl w lo hi b s) : Calls Tryd.prog 11 #[.pointer (some ⟨b, 0, none⟩)] w fun e w' => e = .returned (.int .i64 s.nr) ∧ w' = w := by
  obtain ⟨b1, b2, b3, h1, _⟩ := h
  exact mrunning h1
set_option maxRecDepth 100000 in
set_option maxHeartbeats 16000000 in
theorem walk (a0 : Option Addr) (len0 cap0 : Nat) (z0 : List Int) (w : World) (w0 : IsRow .u8 w a0 len0 cap0 z0) (T2 : EvNames w) (T3 : EvSteps w) :
    Calls Tryd.prog 3 #[.slice a0 len0 cap0] w fun e w' => e = .returned (.bool true) ∧ Below w.heap.size w w' := by
  have TN := hid T2
  have TS := hid T3
  clear T2 T3
  by_cases hlen : (30 : Int) < len0
  · go_enter Tryd.func3, Tryd.ntmps3
    go_wp2_with fail
    refine (lives17 _ TN.out TS.out).mono ?_
    rintro e w2 ⟨rfl, hb1⟩
    have HB1 := hid hb1
    clear hb1
    go_wp2_with fail
    refine (lives17 _ (TN.out.at HB1.out) (TS.out.at HB1.out)).mono ?_
    rintro e w3 ⟨rfl, hb2⟩
    go_wp2
    go_ret
    exact ⟨rfl, HB1.out.trans (hb2.mono HB1.out.size)⟩
  · have hlen' : len0 ≤ 30 := by omega
    have W0 := hid w0
    clear w0 hlen
    go_enter Tryd.func3, Tryd.ntmps3
    go_wp2_with fail
    refine (lives17 _ TN.out TS.out).mono ?_
    rintro e w1 ⟨rfl, hb1⟩
    have B1 := hid hb1
    have NA := hid (mnew 2 2 2 w1 (by omega) (by omega) (by omega))
    clear hb1
    go_wp2_with fail
    refine (NA.out).mono ?_
    rintro e w2 ⟨pa, rfl, ma, hb2⟩
    have MA := hid ma
    have B2 := hid hb2
    have NB := hid (mnew 2 2 2 w2 (by omega) (by omega) (by omega))
    clear hb2 ma NA
    go_wp2_with fail
    refine (NB.out).mono ?_
    rintro e w3 ⟨pb, rfl, mb, hb3⟩
    obtain ⟨m1, hm1⟩ : ∃ x, x = w2.heap.size := ⟨_, rfl⟩
    obtain ⟨m2, hm2⟩ : ∃ x, x = w3.heap.size := ⟨_, rfl⟩
    have S3 : Hid (St w1 m1 m2 pa pb (newM 2 2 2) (newM 2 2 2) w3) := ⟨by rw [hm1]; exact MA.out.below hb3, by rw [hm1, hm2]; exact mb, B2.out.trans (hb3.mono B2.out.size), by rw [hm1]; exact B2.out.size, by rw [hm1, hm2]; exact hb3.size, by rw [hm2]; exact Nat.le_refl _⟩
    clear mb hb3 MA B2 NB hm1 hm2
    have TN1 := hid (TN.out.at B1.out)
    have TS1 := hid (TS.out.at B1.out)
    have A1 := hid (madd S3.out.B S3.out.s3 (TN1.out.at S3.out.bl) (TS1.out.at S3.out.bl) 0 1 (-1) (-1) 0)
    go_wp2_with fail
    refine (A1.out).mono ?_
    rintro e w4 ⟨rfl, m4, o4⟩
    have S4 := hid (S3.out.addB m4 o4)
    clear m4 o4 A1 S3
    have A2 := hid (madd S4.out.B S4.out.s3 (TN1.out.at S4.out.bl) (TS1.out.at S4.out.bl) 2 1 1 1 0)
    go_wp2_with fail
    refine (A2.out).mono ?_
    rintro e w5 ⟨rfl, m5, o5⟩
    have S5 := hid (S4.out.addB m5 o5)
    have R5 := hid rel0
    clear m5 o5 A2 S4
    go_wp2_with fail
    go_loopw [30] (fun i wr => ∃ (q : Nat) (sa sb : Ms), q ≤ len0 ∧ i = .int .i64 q ∧ Hid (Rel sa sb) ∧ Hid (St w1 m1 m2 pa pb sa sb wr))
      (fun i _ => len0 - (intOf i).toNat)
    case atStart => exact ⟨0, _, _, by omega, rfl, R5, S5⟩
    case round =>
      clear R5 S5
      obtain ⟨q, sa, sb, hq, rfl, R, S⟩ := hrel
      by_cases hlt : q < len0
      · obtain ⟨g, off, rfl, hzl, hwf, hcell⟩ := W0.out.open.resolve_left (by omega)
        have hc := hcell _ (B1.out.trans (S.out.bl.mono B1.out.size)) q hlt
        obtain ⟨a, ha⟩ : ∃ a, a = z0.getD q 0 := ⟨_, rfl⟩
        have hk' : q < z0.length := by omega
        have hab : (Lit.int .u8 a).wf = true := hwf _ (by rw [ha, show z0.getD q 0 = z0[q] by simp [hk']]; exact List.getElem_mem hk')
        rw [← ha] at hc
        have hb := bounds_u8 hab
        obtain ⟨k, hk⟩ : ∃ k, k = a % 8 := ⟨_, rfl⟩
        have k0 : a.tmod 8 = k := by rw [Int.tmod_eq_emod_of_nonneg (by omega), hk]
        have k1 : IntKind.u8.wrap k = k := IntWalk.u8_in _ (by omega)
        have k2 : IntKind.i64.wrap k = k := IntWalk.i64_in _ (by omega)
        have k3 : a % 8 = k := hk.symm
        clear ha hab hwf hcell hb hzl hk' hk
        have SA := hid (S.out.below (bl_ad wr (.cells #[.int .i64 k, .int .i64 0, .int .i64 0, .int .i64 0, .int .i64 0] 30)))
        have XB := hid (heap_alloc_new wr (.cells #[.int .i64 k, .int .i64 0, .int .i64 0, .int .i64 0, .int .i64 0] 30))
        have HWR := hid (show m2 ≤ wr.heap.size from S.out.s3)
        have AA := hid (madd SA.out.A (Nat.le_trans SA.out.s2 SA.out.s3) (TN1.out.at SA.out.bl) (TS1.out.at SA.out.bl) k 0 0 0 0)
        obtain ⟨u, hu⟩ : ∃ u, u = wrongM sa k 0 0 0 0 := ⟨_, rfl⟩
        have HU2 := hid (show wrongM sb k 0 0 0 0 = u by rw [hu]; exact (R.out.wrong k).symm)
        unfold AddPost at AA
        rw [← hu] at AA
        clear hu S
        obtain ⟨un, hun⟩ : ∃ un : Int, un = ((u.getD 0 : Nat) : Int) := ⟨_, rfl⟩
        obtain ⟨ub, hub⟩ : ∃ ub : Bool, ub = u.isNone := ⟨_, rfl⟩
        have HUN := hid hun
        have HUB := hid hub
        rw [← hun, ← hub] at AA
        clear hun hub
        go_wp2_with fail
        refine (AA.out).mono ?_
        rintro e w6 ⟨rfl, m6, o6⟩
        have S6 := hid (SA.out.addA m6 o6)
        have E6 := hid ((o6.block wr.heap.size (by simp) (.inr (Nat.le_trans SA.out.s2 HWR.out))).trans XB.out)
        obtain ⟨c0, c1, c2, c3, c4⟩ := ev5 E6.out
        have AB := hid (madd S6.out.B S6.out.s3 (TN1.out.at S6.out.bl) (TS1.out.at S6.out.bl) k 0 0 0 0)
        unfold AddPost at AB
        rw [HU2.out, ← HUN.out, ← HUB.out] at AB
        clear m6 o6 AA SA XB
        go_wp2_with fail
        refine (AB.out).mono ?_
        rintro e w7 ⟨rfl, m7, o7⟩
        have S7 := hid (S6.out.addB m7 o7)
        have R7 := hid (R.out.add k)
        have G1 := hid (stat S7.out.A 0)
        have G2 := hid (stat S7.out.B 0)
        have G3 := hid (stat S7.out.B 1)
        rw [← R7.out.st] at G2
        rw [R7.out.s1] at G3
        obtain ⟨x, hx⟩ : ∃ x, x = (addM sa k 0 0 0 0).st 0 := ⟨_, rfl⟩
        rw [← hx] at G1 G2
        have t1 : (un != un) = false := by simp
        have t2 : (ub != ub) = false := by simp
        have t3 : (x != x) = false := by simp
        clear m7 o7 AB S6 c0 c1 c2 c3 c4 E6 hx
        go_wp2_with fail
        refine (G1.out).mono ?_
        rintro e w8 ⟨rfl, rfl⟩
        go_wp2_with fail
        refine (G2.out).mono ?_
        rintro e w9 ⟨rfl, rfl⟩
        go_wp2_with fail
        refine (G3.out).mono ?_
        rintro e w10 ⟨rfl, rfl⟩
        clear G1 G2 G3
        go_wp2
        go_roundw
        case rel => exact ⟨q + 1, _, _, by omega, by go_num, R7, S7⟩
        case measure => simp [intOf]; omega
      · have G1 := hid (runn S.out.B)
        have G2 := hid (runn S.out.A)
        rw [R.out.nb] at G1
        obtain ⟨n, hn⟩ : ∃ n, n = sa.nr := ⟨_, rfl⟩
        have hn1 : n ≤ 1 := by rw [hn, R.out.na]; split <;> omega
        rw [← hn] at G1 G2
        have HF := hid (B1.out.trans (S.out.bl.mono B1.out.size))
        clear hn
        go_wp2_with fail
        refine (G1.out).mono ?_
        rintro e w8 ⟨rfl, rfl⟩
        go_wp2_with fail
        refine (G2.out).mono ?_
        rintro e w9 ⟨rfl, rfl⟩
        go_wp2
        go_ret
        exact ⟨rfl, HF.out⟩
end Go.Proofs.YtgfamjbpdomjfaaDoor.modelAnother
