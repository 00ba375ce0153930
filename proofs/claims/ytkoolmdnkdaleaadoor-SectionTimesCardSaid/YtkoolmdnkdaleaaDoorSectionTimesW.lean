/- The walk of the statement SectionTimes: the law answers true and turns nothing that was there. -/
import Derived.Test.YtkoolmdnkdaleaaDoorSect4
import Derived.OpenShut
namespace Go.Proofs.YtkoolmdnkdaleaaDoor.sectionTimes
open Go.RowKit
set_option linter.unusedVariables false
set_option linter.unusedSimpArgs false

/-- Where a section is behind j steps that is to do k times: its stage, how often it did. -/
def Ph (k j n u : Nat) : Prop := (j = 0 ∧ n = 0 ∧ u = 0) ∨ (j = 1 ∧ n = 1 ∧ u = 0) ∨ (2 ≤ j ∧ j ≤ k + 1 ∧ n = 2 ∧ u = j - 2) ∨ (j = k + 2 ∧ n = 3 ∧ u = k) ∨ (j = k + 3 ∧ n = 4 ∧ u = k)
/-- All that stands. -/
structure St (w0 : World) (s b g pw pk : Nat) (k n u : Nat) (q : Nat) (w : World) : Prop where
  sc : ∃ tk, Sct w s 0 2 5 n tk u ∧ (1 ≤ n → tk = 0)
  m : ∃ xs, xs.getD 2 0 = Nx 0 n ∧ xs.getD 5 0 = Sx 0 n ∧ Me w0 w b g xs q
  a : w.heap[pw]? = some (.cells #[.int .i64 u] 3 (0, 0))
  c : w.heap[pk]? = some (.cells #[.int .i64 k] 3 (0, 0))
  hs : w0.heap.size ≤ s
  ha : w0.heap.size ≤ pw
  hk : w0.heap.size ≤ pk
  n1 : s ≠ b
  n2 : s ≠ g
  n3 : pw ≠ s ∧ pw ≠ b ∧ pw ≠ g
  n4 : pk ≠ s ∧ pk ≠ b ∧ pk ≠ g
  n5 : pw ≠ pk
theorem St.below {w0 w w' : World} {s b g pw pk k n u q : Nat} (h : St w0 s b g pw pk k n u q w) (hb : Below w.heap.size w w') : St w0 s b g pw pk k n u q w' := by
  obtain ⟨tk, h1, h2⟩ := h.sc
  obtain ⟨xs, h3, h4, h5⟩ := h.m
  exact ⟨⟨tk, h1.kept (hb.block _ h1.lt), h2⟩, ⟨xs, h3, h4, h5.below hb⟩, (hb.block _ (blk_lt h.a)).trans h.a, (hb.block _ (blk_lt h.c)).trans h.c, h.hs, h.ha, h.hk, h.n1, h.n2, h.n3, h.n4, h.n5⟩
/-- What a step leaves: 'right' is true still. -/
def NextP (w0 : World) (s b g pw pk pr : Nat) (k n u q : Nat) (w : World) (e : Ending) (w' : World) : Prop :=
  (∃ r, e = .returned (.bool r)) ∧ St w0 s b g pw pk k n u (q + 2) w' ∧ w'.heap[pr]? = some (.cells #[.bool true] 4 (0, 0))
theorem tstep {w0 w : World} {s b g pw pk pr k j n u q n' u' : Nat} (h : St w0 s b g pw pk k n u q w) (hr : w.heap[pr]? = some (.cells #[.bool true] 4 (0, 0))) (hpr : w0.heap.size ≤ pr) (r1 : pr ≠ s ∧ pr ≠ b ∧ pr ≠ g) (r2 : pw ≠ pr) (r3 : pr ≠ pk) (hp : Ph k j n u) (hj : j < k + 3) (hk : 1 ≤ k) (hk40 : k ≤ 40) (hp' : Ph k (j + 1) n' u') (hq : q ≤ 1000) :
    Calls Tryd.prog 11 #[.pointer (some ⟨s, 0, none⟩), .pointer (some ⟨b, 0, none⟩), .func (.func 12) #[] #[.pointer (some ⟨pw, 0, none⟩), .pointer (some ⟨pr, 0, none⟩), .pointer (some ⟨pk, 0, none⟩)]] w (NextP w0 s b g pw pk pr k n' u' q w) := by
  obtain ⟨tk, hsc, htk⟩ := h.sc
  obtain ⟨xs, hn, hs, hm⟩ := h.m
  obtain ⟨c, hc, hmem⟩ := hm.m
  have hl := hm.l
  have h0 : inU 0 := by unfold inU; omega
  have fin : ∀ (m : Nat) (r : Bool), m = n' → u = u' → ∀ e w', NPost r s 0 b g 2 5 0 m u xs c w e w' → NextP w0 s b g pw pk pr k n' u' q w e w' := by
    rintro m r rfl rfl e w' ⟨tk', he, hs', rfl, ⟨c', hc', hm'⟩, ho3⟩
    have keep : ∀ p, w0.heap.size ≤ p → p ≠ s ∧ p ≠ b ∧ p ≠ g → p < w.heap.size → w'.heap[p]? = w.heap[p]? := fun p _ h1 h2 => ho3.block p h2 h1.1 h1.2.1 h1.2.2
    refine ⟨⟨r, he⟩, ⟨⟨0, hs', fun _ => rfl⟩, ⟨_, ?_, ?_, hm.step ho3 h.hs hm' (by simp [hl]) (by omega)⟩, (keep pw h.ha h.n3 (blk_lt h.a)).trans h.a, (keep pk h.hk h.n4 (blk_lt h.c)).trans h.c, h.hs, h.ha, h.hk, h.n1, h.n2, h.n3, h.n4, h.n5⟩, (keep pr hpr r1 (blk_lt hr)).trans hr⟩
    · show (((xs.set 2 (Nx 0 m)).set 5 (Sx 0 m))).getD 2 0 = Nx 0 m
      rw [getD_set_ne (by decide), getD_set_eq (by omega)]
    · show (((xs.set 2 (Nx 0 m)).set 5 (Sx 0 m))).getD 5 0 = Sx 0 m
      rw [getD_set_eq (by simp [hl])]
  unfold Ph at hp hp'
  rcases hp with ⟨e1, rfl, rfl⟩ | ⟨e1, rfl, rfl⟩ | ⟨e1, e2, rfl, e3⟩ | ⟨e1, rfl, rfl⟩ | ⟨e1, _, _⟩
  · exact (nstep_0 _ hsc hmem h.n1 h.n2 (by omega) (by omega) (by omega) (by omega) (by omega) (by omega) hn hs h0).mono (fin 1 false (by omega) (by omega))
  · obtain rfl := htk (by omega)
    exact (nstep_1 _ hsc hmem h.n1 h.n2 (by omega) (by omega) (by omega) hn hs h0).mono (fin 2 false (by omega) (by omega))
  · obtain rfl := htk (by omega)
    obtain ⟨r, hrr⟩ : ∃ r, decide ((u : Int) + 1 < (k : Int)) = r := ⟨_, rfl⟩
    have hT : Tv w pw pr pk u k := ⟨h.a, hr, h.c⟩
    have hgo := goes_times pw pr pk u k w r hrr hT r2 h.n5 r3 (by omega) (by omega)
    refine (step_do _ r (TvPost pw pr pk (u + 1) k w) hsc hgo (fun w1 hb => hsc.kept (hb.2.block _ hsc.lt (Ne.symm h.n3.1) (Ne.symm r1.1))) (by omega) (by omega)).mono ?_
    rintro e w' ⟨w1, ⟨hT1, ho1⟩, he, rfl⟩
    have h1' := hsc.kept (ho1.block _ hsc.lt (Ne.symm h.n3.1) (Ne.symm r1.1))
    have hm1 := hmem.other ho1 (Ne.symm h.n3.2.1) (Ne.symm r1.2.1) (Ne.symm h.n3.2.2) (Ne.symm r1.2.2)
    have hM1 : Me w0 w1 b g xs q := ⟨⟨c, hc, hm1⟩, hl, hm.B.trans (ho1.below h.ha hpr hm.B.size), hm.hb, hm.hg, hm.T.eq (ho1.block _ hm.T.lt (by have := hm.t; have := h.ha; omega) (by have := hm.t; omega)), hm.t⟩
    have hu' : u' = u + 1 := by omega
    subst hu'
    have fin2 : ∀ w2, On3 s 0 b g w1 w2 → Sct w2 s 0 2 5 n' 0 ((u + 1 : Nat) : Int) → Mem w2 b g xs c → xs.getD 2 0 = Nx 0 n' → xs.getD 5 0 = Sx 0 n' → NextP w0 s b g pw pk pr k n' (u + 1) q w e w2 := by
      intro w2 ho3 hsc2 hmem2 hx1 hx2
      have keep : ∀ p, p ≠ s ∧ p ≠ b ∧ p ≠ g → p < w1.heap.size → w2.heap[p]? = w1.heap[p]? := fun p h1 h2 => ho3.block p h2 h1.1 h1.2.1 h1.2.2
      refine ⟨⟨_, he⟩, ⟨⟨0, hsc2, fun _ => rfl⟩, ⟨xs, hx1, hx2, hM1.step ho3 h.hs hmem2 hl (by omega)⟩, ?_, (keep pk h.n4 (blk_lt hT1.c)).trans hT1.c, h.hs, h.ha, h.hk, h.n1, h.n2, h.n3, h.n4, h.n5⟩, (keep pr r1 (blk_lt hT1.b)).trans hT1.b⟩
      have := (keep pw h.n3 (blk_lt hT1.a)).trans hT1.a
      rw [this]; rfl
    rcases r with _ | _
    · have hlt : ¬ (u : Int) + 1 < k := by simpa using hrr
      obtain rfl : n' = 3 := by omega
      simp only [Bool.false_eq_true, if_false]
      exact fin2 _ ((On3.set w1 _ _ (by omega)).trans (On3.set _ _ _ (by omega))) ((h1'.stage 3).times _) (mem_set (mem_set hm1 h.n1 h.n2) h.n1 h.n2) (hn.trans rfl) (hs.trans rfl)
    · have hlt : (u : Int) + 1 < k := by simpa using hrr
      obtain rfl : n' = 2 := by omega
      simp only [if_true]
      exact fin2 _ (On3.set w1 _ _ (by omega)) (h1'.times _) (mem_set hm1 h.n1 h.n2) hn hs
  · obtain rfl := htk (by omega)
    exact (nstep_3 _ hsc hmem h.n1 h.n2 (by omega) (by omega) (by omega) hn hs h0).mono (fin 4 true (by omega) (by omega))
  · omega

set_option maxHeartbeats 8000000 in
set_option maxRecDepth 100000 in
theorem walk (a0 : Int) (w : World) (w0 : (Lit.int .u8 a0).wf = true) (T1 : WdTab w) :
    Calls Tryd.prog 3 #[.int .u8 a0] w fun e w' => e = .returned (.bool true) ∧ Below w.heap.size w w' := by
  have HT := hid T1
  have hb0 := bounds_u8 w0
  have h0 := hb0.1
  have h1 := hb0.2
  obtain ⟨k, hk⟩ : ∃ k : Nat, 1 + a0 % 40 = k := ⟨(1 + a0 % 40).toNat, by omega⟩
  have hk1 : 1 ≤ k := by omega
  have hk40 : k ≤ 40 := by omega
  have HK := hid hk
  clear T1 w0 hb0
  go_enter Tryd.func3, Tryd.ntmps3
  go_wp2_with fail
  refine (lives18 _ HT.out).mono ?_
  rintro e wl ⟨rfl, hbl⟩
  have BL := hid hbl
  clear hbl
  go_wp2_with fail
  refine (new_z 8 8 rfl _).mono ?_
  rintro e w1 ⟨b, g, xs, rfl, hm1, hl1, hz1, hb1, hg1, hB1⟩
  have M1 := hid (show Me w w1 b g xs 0 from ⟨⟨0, by omega, hm1⟩, hl1, BL.out.trans (hB1.mono BL.out.size), Nat.le_trans BL.out.size hb1, Nat.le_trans BL.out.size hg1, HT.out.at (BL.out.trans (hB1.mono BL.out.size)), HT.out.lt⟩)
  have HZ := hid hz1
  clear hm1 hl1 hz1 hb1 hg1 hB1
  go_wp2_with fail
  refine (lock18 _ M1.out.T).mono ?_
  rintro e w2 ⟨rfl, hb2⟩
  have B2 := hid hb2
  clear hb2
  go_wp2_with fail
  refine (begin_any 2 5 _).mono ?_
  rintro e w3 ⟨rfl, hb3⟩
  have B3 := hid (B2.out.trans (hb3.mono B2.out.size))
  clear hb3
  have hmf : ∀ (fn : Fn) (first cap : Array Value) (w : World), (Instr.makeFunc fn first cap).run Tryd.prog w = .ok (.func fn first cap) w := fun _ _ _ _ => rfl
  go_wp2_with fail
  clear hk
  obtain ⟨w4, hw4⟩ : ∃ w4, w4 = w3.alloc (.cells #[.int .i64 2, .int .i64 5, .int .i64 0, .int .u64 0, .int .i64 0] 29) := ⟨_, rfl⟩
  obtain ⟨s, hs⟩ : ∃ s, s = w3.heap.size := ⟨_, rfl⟩
  rw [← hw4, ← hs]
  have NEW := hid (al_new M1.out B3.out hw4 (HZ.out 2) (HZ.out 5))
  rw [← hs] at NEW
  have s4 : w4.heap.size = s + 1 := by rw [hw4, hs]; simp
  obtain ⟨w5, hw5⟩ : ∃ w5, w5 = w4.alloc (.cells #[.int .i64 0] 3) := ⟨_, rfl⟩
  rw [← hw5]
  have s5 : w5.heap.size = s + 2 := by rw [hw5]; simp [s4]
  obtain ⟨w6, hw6⟩ : ∃ w6, w6 = w5.alloc (.cells #[.int .i64 k] 3) := ⟨_, rfl⟩
  rw [← hw6]
  obtain ⟨pw, hpw⟩ : ∃ pw, pw = s + 1 := ⟨_, rfl⟩
  rw [← hpw]
  obtain ⟨pk, hpk⟩ : ∃ pk, pk = pw + 1 := ⟨_, rfl⟩
  rw [← hpk]
  have S0 := hid (show St w s b g pw pk k 0 0 0 w6 from by
    have hb45 : Below w4.heap.size w4 w5 := by rw [hw5]; exact (Below.refl _ _).alloc (Nat.le_refl _) _
    have hb56 : Below w5.heap.size w5 w6 := by rw [hw6]; exact (Below.refl _ _).alloc (Nat.le_refl _) _
    have hb46 : Below w4.heap.size w4 w6 := hb45.trans (hb56.mono (by omega))
    obtain ⟨hA, hM, n1, n2, hge, _⟩ := NEW.out
    have hA' := hA.kept (hb46.block _ hA.lt) (xs' := xs) rfl rfl
    obtain ⟨tk, h1, h2⟩ := hA'.c
    obtain ⟨c, _, hmem⟩ := hM.m
    have b1 := hmem.sb
    have b2 := hmem.sg
    refine ⟨⟨tk, h1, h2⟩, ⟨xs, hA'.hn, hA'.hs, hM.below hb46⟩, ?_, ?_, hge, by omega, by omega, n1, n2, by omega, by omega, by omega⟩
    · rw [hb56.block _ (by omega), hw5, hpw, ← s4]; exact Deep.blk_alloc_new _ _
    · rw [hw6, show pk = w5.heap.size by omega]; exact Deep.blk_alloc_new _ _)
  clear hw4 hs NEW M1 B2 B3 HZ s4 hw5 s5 hw6 hpw hpk
  go_loopw [19] (fun i wr => ∃ (j n u q : Nat), j ≤ k + 3 ∧ q ≤ 2 * j ∧ i = .int .i64 j ∧ Hid (Ph k j n u) ∧ Hid (St w s b g pw pk k n u q wr)) (fun i _ => (k + 3) - (intOf i).toNat)
  case atStart => exact ⟨0, 0, 0, 0, by omega, by omega, rfl, hid (.inl ⟨rfl, rfl, rfl⟩), S0⟩
  case round =>
    clear S0 xs
    obtain ⟨j, n, u, q, hj, hq, rfl, HP, HS⟩ := hrel
    obtain ⟨wo, rfl⟩ : ∃ wo : World, wo = wr := ⟨_, rfl⟩
    by_cases hlt : j < k + 3
    · obtain ⟨n', u', HP'⟩ : ∃ n' u', Ph k (j + 1) n' u' := by
        by_cases a0 : j = 0
        · exact ⟨1, 0, .inr (.inl ⟨by omega, rfl, rfl⟩)⟩
        · by_cases a1 : j ≤ k
          · exact ⟨2, j - 1, .inr (.inr (.inl ⟨by omega, by omega, rfl, by omega⟩))⟩
          · by_cases a2 : j = k + 1
            · exact ⟨3, k, .inr (.inr (.inr (.inl ⟨by omega, rfl, rfl⟩)))⟩
            · exact ⟨4, k, .inr (.inr (.inr (.inr ⟨by omega, rfl, rfl⟩)))⟩
      have HPP := hid HP'
      have hba : Below wo.heap.size wo (wo.alloc (.cells #[.bool true] 4)) := (Below.refl _ _).alloc (Nat.le_refl _) _
      have ST := hid (tstep (pr := wo.heap.size) (HS.out.below hba) (Deep.blk_alloc_new _ _) (by obtain ⟨_, _, _, h⟩ := HS.out.m; exact h.B.size) (by
        obtain ⟨_, h1, _⟩ := HS.out.sc
        obtain ⟨_, _, _, h⟩ := HS.out.m
        obtain ⟨_, _, hm⟩ := h.m
        have := h1.lt; have := hm.sb; have := hm.sg
        omega) (by have := blk_lt HS.out.a; omega) (by have := blk_lt HS.out.c; omega) HP.out hlt hk1 hk40 HPP.out (by omega))
      have hlti : (j : Int) < (k : Int) + 3 := by omega
      clear hba HP'
      go_wp2_with fail
      refine ST.out.mono ?_
      rintro e w5 ⟨⟨r, rfl⟩, hS, hR⟩
      obtain ⟨pr, hpr⟩ : ∃ pr, pr = wo.heap.size := ⟨_, rfl⟩
      rw [← hpr] at hR ⊢
      have k1 : w5.cell? ⟨pr, 0, none⟩ = some (.bool true) := cell_of_blk (i := 0) hR rfl
      have k2 : w5.cell? ⟨pw, 0, none⟩ = some (.int .i64 u') := cell_of_blk (i := 0) hS.a rfl
      have k3 : w5.cell? ⟨s, 4, none⟩ = some (.int .i64 u') := by obtain ⟨_, h1, _⟩ := hS.sc; exact h1.c4
      have t : ((u' : Int) != u') = false := by simp
      have S2 := hid hS
      clear hR hS hpr ST
      go_wp2
      go_roundw
      case rel => exact ⟨j + 1, n', u', q + 2, by omega, by omega, by go_num, HPP, S2⟩
      case measure => simp [intOf]; omega
    · have hjk : j = k + 3 := by omega
      have hnu : n = 4 ∧ u = k := by have := HP.out; unfold Ph at this; omega
      have HN := hid hnu.1
      have HU := hid hnu.2
      have HS2 := HS.out
      rw [hnu.1, hnu.2] at HS2
      have k2 : wo.cell? ⟨pw, 0, none⟩ = some (.int .i64 k) := cell_of_blk (i := 0) HS2.a rfl
      have k3 : wo.cell? ⟨s, 2, none⟩ = some (.int .i64 4) := by obtain ⟨_, h1, _⟩ := HS2.sc; exact h1.c2
      have k4 : wo.cell? ⟨pk, 0, none⟩ = some (.int .i64 k) := cell_of_blk (i := 0) HS2.c rfl
      have tt : ((k : Int) == k) = true := by simp
      obtain ⟨xs, hx1, hx2, hM⟩ := HS2.m
      have M := hid hM
      have X1 := hid hx1
      have X2 := hid hx2
      have hnlt : ¬ (j : Int) < (k : Int) + 3 := by omega
      clear hnu HS2 hx1 hx2 hM hjk
      go_wp2_with fail
      refine (lock18 _ M.out.T).mono ?_
      rintro e w6 ⟨rfl, hb6⟩
      have M6 := hid (M.out.below hb6)
      clear hb6
      obtain ⟨c, hc, hmem⟩ := M6.out.m
      have MM := hid hmem
      have HL := hid M6.out.l
      have hcb : c ≤ 1000 := by omega
      have BZ := hid (fun w => busy_in b g xs c 2 5 w)
      clear hmem hc
      go_wp2_with fail
      refine (busy_in b g xs c 2 5 _ MM.out (by omega) (by omega) (by have := HL.out; omega) (by omega) (by have := HL.out; omega) (Sx 0 4) (Nx 0 4) X2.out X1.out false (by simp [Nx, Sx])).mono ?_
      rintro e w7 ⟨rfl, hm7, ho7⟩
      have B7 := hid (M6.out.B.trans (ho7.below M6.out.hb M6.out.hg M6.out.B.size))
      clear hm7 ho7 BZ
      go_wp2
      go_ret
      exact ⟨rfl, B7.out⟩
end Go.Proofs.YtkoolmdnkdaleaaDoor.sectionTimes
