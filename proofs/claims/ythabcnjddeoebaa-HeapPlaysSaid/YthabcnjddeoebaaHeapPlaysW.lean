/- The walk of the statement HeapPlays. -/
import Derived.Test.YthabcnjddeoebaaHeapPlaysA
namespace Go.Proofs.Ythabcnjddeoebaa.heapPlays
open Go.RowKit
set_option linter.unusedVariables false
set_option linter.unusedSimpArgs false

theorem rest_cnt (g : Int) (es : List (Int × Int × Int)) : ((sortE es).length - (rest g (sortE es)).length : Nat) = es.length - (rest g es).length := by
  have h : (rest g (sortE es)).Perm (rest g es) := (sortE_perm es).filter _
  rw [Tk.sort_len, h.length_eq]
theorem rest_sort {g : Int} {es T : List (Int × Int × Int)} (h : ∀ x, T.count x = (rest g es).count x) : rest g (sortE es) = sortE T :=
  (Tk.sort_filter _ es T (List.perm_iff_count.2 h)).symm
theorem rm_len {g : Int} {es T : List (Int × Int × Int)} (h : ∀ x, T.count x = (rest g es).count x) : T.length ≤ es.length :=
  Nat.le_trans (Nat.le_of_eq (List.perm_iff_count.2 h).length_eq) (rest_len g es)
set_option pp.deepTerms true in
set_option pp.maxSteps 10000000 in
set_option maxRecDepth 100000 in
set_option maxHeartbeats 40000000 in
theorem walk (a0 : Option Addr) (len0 cap0 : Nat) (z0 : Nat → Nat → Int) (w : World) (w0 : IsStructs [.u8, .i64, .u64, .i64] w a0 len0 cap0 z0) :
    Calls Try.prog 4 #[.slice a0 len0 cap0] w fun e w' => e = .returned (.bool true) ∧ Below w.heap.size w w' := by
  by_cases h80 : (80 : Int) < len0
  · go_enter Try.func4, Try.ntmps4
    go_wp2_with fail
    refine (lives9 _).mono ?_
    rintro e w2 ⟨rfl, hb1⟩
    go_wp2_with fail
    refine (lives9 _).mono ?_
    rintro e w3 ⟨rfl, hb2⟩
    go_wp2
    go_ret
    exact ⟨rfl, hb1.trans (hb2.mono hb1.size)⟩
  have h80' : len0 ≤ 80 := by omega
  have W0 := hid w0
  clear w0
  go_enter Try.func4, Try.ntmps4
  go_wp2_with fail
  refine (lives9 _).mono ?_
  rintro e w2 ⟨rfl, hb1⟩
  have S0 : Hid (Pl w w2.heap.size 0 [] (sortE []) (.slice none 0 0) (.slice none 0 0) (w2.alloc (.cells #[.slice none 0 0] 25))) :=
    ⟨⟨Deep.blk_alloc_new _ _, ⟨by simp [fl], .inl ⟨rfl, rfl⟩⟩, by simp [Value.ownBlock], by simp⟩, fun k h1 h2 => by simp at h2, ⟨none, 0, by simp [sortE], by simp [sortE], by simp, fun h => by simp [sortE] at h⟩, fun g hg => by simp [sb] at hg, hb1.alloc hb1.size _, by simp, by simp, hb1.size⟩
  clear hb1
  go_wp2_with fail
  generalize hP : w2.heap.size = P at *
  generalize w2.alloc (.cells #[.slice none 0 0] 25) = w3 at *
  clear hP
  go_loopw [4, 24] (fun vw i wr => ∃ (q : Nat) (v : Value) (es : List (Int × Int × Int)), q ≤ len0 ∧ i = .int .i64 q ∧ Hid (Pl w P q es (sortE es) v vw wr))
    (fun _ i _ => len0 - (intOf i).toNat)
  case atStart => exact ⟨0, _, [], by omega, rfl, S0⟩
  case round =>
    clear S0
    obtain ⟨q, v, es, hq, rfl, S⟩ := hrel
    by_cases hlt : q < len0
    · obtain ⟨bx, off, rfl, hcell⟩ := W0.out.open (by omega) (by simp)
      obtain ⟨h0, hw0⟩ := hcell _ S.out.bl q hlt 0 .u8 rfl
      obtain ⟨h1, hw1⟩ := hcell _ S.out.bl q hlt 1 .i64 rfl
      obtain ⟨h2, hw2⟩ := hcell _ S.out.bl q hlt 2 .u64 rfl
      obtain ⟨h3, hw3⟩ := hcell _ S.out.bl q hlt 3 .i64 rfl
      have hr8 := bounds_u8 hw0
      obtain ⟨kd, hkd⟩ : ∃ x, x = z0 q 0 := ⟨_, rfl⟩
      obtain ⟨x1, hx1⟩ : ∃ x, x = z0 q 1 := ⟨_, rfl⟩
      obtain ⟨x2, hx2⟩ : ∃ x, x = z0 q 2 := ⟨_, rfl⟩
      obtain ⟨x3, hx3⟩ : ∃ x, x = z0 q 3 := ⟨_, rfl⟩
      rw [← hkd] at h0 hr8
      rw [← hx1] at h1
      rw [← hx2] at h2
      rw [← hx3] at h3
      simp only [List.length_cons, List.length_nil, Nat.reduceAdd, Nat.add_zero] at h0 h1 h2 h3
      rw [← Nat.add_assoc] at h1 h2 h3
      have kd0 := hr8.1
      have kd1 := hr8.2
      clear hkd hx1 hx2 hx3 hcell hw0 hw1 hw2 hw3 hr8
      have SA := hid (S.out.below ((Below.refl _ _).alloc (Nat.le_refl _) (.cells #[.int .u8 kd, .int .i64 x1, .int .u64 x2, .int .i64 x3] 37)))
      have XB := hid (Deep.blk_alloc_new wr (.cells #[.int .u8 kd, .int .i64 x1, .int .u64 x2, .int .i64 x3] 37))
      have SZ := hid S.out.sz
      have OW := hid (fun e => (S.out.hp.own_lt wr.heap.size e).2)
      clear S
      have HK := hid SA.out.len
      obtain ⟨n, hn⟩ : ∃ n, n = es.length := ⟨_, rfl⟩
      have HN := hid hn
      obtain ⟨a4, c4, rfl, hc4, hm4⟩ : ∃ a c, u4 = .slice a n c ∧ n ≤ c ∧ c ≤ 9223372036854775807 := by
        obtain ⟨a, c, h1, h2, h3, _⟩ := SA.out.rd
        rw [Tk.sort_len, ← hn] at h1 h2
        exact ⟨a, c, h1, h2, by unfold maxLen at h3; omega⟩
      have hn80 : n ≤ 80 := by rw [hn]; have := HK.out; omega
      clear hn
      go_upto_block 2 with (fail)
      go_cut [4, 24] from 25 to 129 (fun s4 s24 wc => ∃ (v2 : Value) (es2 : List (Int × Int × Int)), s24 = .int .i64 q ∧ Hid (Pl w P (q + 1) es2 (sortE es2) v2 s4 wc))
      case first => as_aux_lemma =>
        by_cases d3 : kd % 7 = 3
        · have t3 : (kd % 7 == 3) = true := by simp [d3]
          clear d3
          by_cases hz : n = 0
          · have hnil : es = [] := List.length_eq_zero_iff.1 (by rw [← HN.out]; exact hz)
            have TN := hid (take_none _ (P + 1) P v (by have := SA.out.hp; rwa [hnil] at this))
            have HNIL := hid hnil
            have dz : decide (0 < n) = false := decide_eq_false (by omega)
            clear hz hnil
            go_wp2_with fail
            refine (TN.out).mono ?_
            rintro e w5 ⟨rfl, h5⟩
            have S5 := hid ((SA.out.below h5).grow (B' := q + 1) (by omega))
            have S6 := hid (S5.out.below ((Below.refl _ _).alloc (Nat.le_refl _) (.cells #[.int .i64 0, .int .u64 0, .int .i64 0] 28)))
            clear h5 SA XB TN
            obtain ⟨f0, f1, f2⟩ := cell_new3 w5 (.int .i64 0) (.int .u64 0) (.int .i64 0) 28
            go_wp2_with fail
            go_quiet (fail)
            go_wp2
            go_meet
            exact ⟨_, _, rfl, hid (S6.out.below (Quiet.below ((Quiet.refl _).drewN _) _))⟩
          · obtain ⟨m, rfl⟩ : ∃ m, n = m + 1 := ⟨n - 1, by omega⟩
            have hm : es.length = m + 1 := HN.out.symm
            obtain ⟨g, c, rfl, hs⟩ := SA.out.hp.hs (by omega)
            rw [hm] at hs
            obtain ⟨y1, y2, y3, hy⟩ : ∃ y1 y2 y3, enAt es 0 = (y1, y2, y3) := ⟨_, _, _, rfl⟩
            have TK := hid (take_some _ (P + 1) P g m c es hs y1 y2 y3 hy)
            have TO := hid (take_ord SA.out.ord hm)
            have TL := hid (show (sinkF (m + 1) ((sw es 0 m).take m) m 0).length = m by rw [sink_len, List.length_take, sw_len]; omega)
            have TS := hid (Tk.sort_take SA.out.ord hm)
            rw [hy] at TS
            obtain ⟨hg1, hg2, hg3⟩ := hs.ge
            have HG1 := hid hg1
            obtain ⟨T, hT⟩ : ∃ T, T = sinkF (m + 1) ((sw es 0 m).take m) m 0 := ⟨_, rfl⟩
            rw [← hT] at TK TO TL TS
            clear hs hy hz hm hg1 hg2 hg3 hT
            go_wp2_with fail
            refine (TK.out).mono ?_
            rintro e w5 ⟨rfl, h5⟩
            have S5 := hid ((SA.out.act (B' := q + 1) h5.hp TO.out (OnlyQ.of_h h5.ho rfl) (OnlyV.of_h h5.ho HG1.out) (fun _ e => .inl e) (by rw [TL.out]; have := HK.out; have := HN.out; omega)).to TS.out)
            have S6 := hid (S5.out.below ((Below.refl _ _).alloc (Nat.le_refl _) (.cells #[.int .i64 y1, .int .u64 y2, .int .i64 y3] 28)))
            obtain ⟨g4, o4, c9, hv9, hg9, hd9⟩ := rd_lt S6.out.rd (by simp)
            simp only [Value.slice.injEq] at hv9
            obtain ⟨rfl, hv8, rfl⟩ := hv9
            obtain ⟨p0, p1, p2⟩ := hd9 0 (by simp)
            simp only [Nat.zero_mul, Nat.add_zero, enAt, List.getElem_cons_zero, List.getElem?_cons_zero, Option.getD_some] at p0 p1 p2
            obtain ⟨f0, f1, f2⟩ := cell_new3 w5 (.int .i64 y1) (.int .u64 y2) (.int .i64 y3) 28
            have e1 : (y1 == y1) = true := by simp
            have e2 : (y2 == y2) = true := by simp
            have e3 : (y3 == y3) = true := by simp
            have dz : decide ((0 : Int) < ((m + 1 : Nat) : Int)) = true := decide_eq_true (by omega)
            have TLm := hid (show m = (sortE T).length by rw [Tk.sort_len, TL.out])
            have hc0 : 0 < c4 := by omega
            clear h5 SA XB TK TO TS hd9 hg9 S5 HG1 hv8
            go_wp2_with fail
            go_quiet (fail)
            go_wp2
            · go_meet
              exact ⟨_, _, rfl, hid ((S6.out.nilrow TLm.out (by omega)).below (Quiet.below ((Quiet.refl _).drewN _) _))⟩
            · go_meet
              exact ⟨_, _, rfl, hid ((S6.out.tail TLm.out hc0).below (Quiet.below ((Quiet.refl _).drewN _) _))⟩

        · have t3 : (kd % 7 == 3) = false := by simpa using d3
          by_cases d4 : kd % 7 = 4
          · have t4 : (kd % 7 == 4) = true := by simp [d4]
            clear d3 d4
            by_cases hz : n = 0
            · have hnil : es = [] := List.length_eq_zero_iff.1 (by rw [← HN.out]; exact hz)
              have TN := hid (take_none _ (P + 1) P v (by have := SA.out.hp; rwa [hnil] at this))
              have HNIL := hid hnil
              have dz : decide (0 < n) = false := decide_eq_false (by omega)
              clear hz hnil
              go_wp2_with fail
              refine (TN.out).mono ?_
              rintro e w5 ⟨rfl, h5⟩
              have S5 := hid ((SA.out.below h5).grow (B' := q + 1) (by omega))
              have S6 := hid (S5.out.below ((Below.refl _ _).alloc (Nat.le_refl _) (.cells #[.int .i64 0, .int .u64 0, .int .i64 0] 28)))
              clear h5 SA XB TN
              obtain ⟨f0, f1, f2⟩ := cell_new3 w5 (.int .i64 0) (.int .u64 0) (.int .i64 0) 28
              go_wp2_with fail
              go_quiet (fail)
              go_wp2
              go_meet
              exact ⟨_, _, rfl, hid (S6.out.below (Quiet.below ((Quiet.refl _).drewN _) _))⟩
            · obtain ⟨m, rfl⟩ : ∃ m, n = m + 1 := ⟨n - 1, by omega⟩
              have hm : es.length = m + 1 := HN.out.symm
              obtain ⟨g, c, rfl, hs⟩ := SA.out.hp.hs (by omega)
              rw [hm] at hs
              obtain ⟨y1, y2, y3, hy⟩ : ∃ y1 y2 y3, enAt es 0 = (y1, y2, y3) := ⟨_, _, _, rfl⟩
              have TK := hid (take_some _ (P + 1) P g m c es hs y1 y2 y3 hy)
              have TO := hid (take_ord SA.out.ord hm)
              have TL := hid (show (sinkF (m + 1) ((sw es 0 m).take m) m 0).length = m by rw [sink_len, List.length_take, sw_len]; omega)
              have TS := hid (Tk.sort_take SA.out.ord hm)
              rw [hy] at TS
              obtain ⟨hg1, hg2, hg3⟩ := hs.ge
              have HG1 := hid hg1
              obtain ⟨T, hT⟩ : ∃ T, T = sinkF (m + 1) ((sw es 0 m).take m) m 0 := ⟨_, rfl⟩
              rw [← hT] at TK TO TL TS
              clear hs hy hz hm hg1 hg2 hg3 hT
              go_wp2_with fail
              refine (TK.out).mono ?_
              rintro e w5 ⟨rfl, h5⟩
              have S5 := hid ((SA.out.act (B' := q + 1) h5.hp TO.out (OnlyQ.of_h h5.ho rfl) (OnlyV.of_h h5.ho HG1.out) (fun _ e => .inl e) (by rw [TL.out]; have := HK.out; have := HN.out; omega)).to TS.out)
              have S6 := hid (S5.out.below ((Below.refl _ _).alloc (Nat.le_refl _) (.cells #[.int .i64 y1, .int .u64 y2, .int .i64 y3] 28)))
              obtain ⟨g4, o4, c9, hv9, hg9, hd9⟩ := rd_lt S6.out.rd (by simp)
              simp only [Value.slice.injEq] at hv9
              obtain ⟨rfl, hv8, rfl⟩ := hv9
              obtain ⟨p0, p1, p2⟩ := hd9 0 (by simp)
              simp only [Nat.zero_mul, Nat.add_zero, enAt, List.getElem_cons_zero, List.getElem?_cons_zero, Option.getD_some] at p0 p1 p2
              obtain ⟨f0, f1, f2⟩ := cell_new3 w5 (.int .i64 y1) (.int .u64 y2) (.int .i64 y3) 28
              have e1 : (y1 == y1) = true := by simp
              have e2 : (y2 == y2) = true := by simp
              have e3 : (y3 == y3) = true := by simp
              have dz : decide ((0 : Int) < ((m + 1 : Nat) : Int)) = true := decide_eq_true (by omega)
              have TLm := hid (show m = (sortE T).length by rw [Tk.sort_len, TL.out])
              have hc0 : 0 < c4 := by omega
              clear h5 SA XB TK TO TS hd9 hg9 S5 HG1 hv8
              go_wp2_with fail
              go_quiet (fail)
              go_wp2
              · go_meet
                exact ⟨_, _, rfl, hid ((S6.out.nilrow TLm.out (by omega)).below (Quiet.below ((Quiet.refl _).drewN _) _))⟩
              · go_meet
                exact ⟨_, _, rfl, hid ((S6.out.tail TLm.out hc0).below (Quiet.below ((Quiet.refl _).drewN _) _))⟩
          · have t4 : (kd % 7 == 4) = false := by simpa using d4
            by_cases d5 : kd % 7 = 5
            · have t5 : (kd % 7 == 5) = true := by simp [d5]
              clear d3 d4 d5
              have RR := hid (refrem (.slice a4 n c4) (sortE es) x3 _ SA.out.rd (by rw [Tk.sort_len, ← HN.out]; omega))
              go_wp2_with fail
              refine (RR.out).mono ?_
              rintro e w5 ⟨v5, m, rfl, hm, o5, b5⟩
              have S5 := hid (SA.out.row o5 b5)
              have hm2 : m ≤ 80 := by have := HN.out; rw [Tk.sort_len] at hm; omega
              have hE := (b5.block _ (by simp)).trans XB.out
              have c3 := cell_ent (i := 3) hE rfl
              have RM := hid (hremove_c m _ (P + 1) P v es x3 S5.out.hp (by rw [rest_cnt] at hm; omega))
              have mm : ((m : Int) != m) = false := by simp
              clear hm o5 b5 hE RR SA XB
              go_wp2_with fail
              refine (RM.out).mono ?_
              rintro e w6 ⟨v6, T, rfl, h6, o6, c6, q6, n6, k6⟩
              have S6 := hid ((S5.out.act (B' := q + 1) h6 (o6 S5.out.ord) q6 k6 (fun q e => .inl (n6 q e)) (Nat.le_trans (rm_len c6) (by have := S5.out.len; omega))).to (rest_sort c6))
              clear h6 o6 c6 q6 n6 k6 RM S5 c3
              go_wp2
              go_meet
              exact ⟨_, _, rfl, S6⟩
            · have t5 : (kd % 7 == 5) = false := by simpa using d5
              by_cases d6 : kd % 7 = 6
              · have t6 : (kd % 7 == 6) = true := by simp [d6]
                clear d3 d4 d5 d6
                have CP := hid (hcopy _ (P + 1) P v es SA.out.hp)
                obtain ⟨wa, hwa⟩ : ∃ wa, wa = wr.alloc (.cells #[.int .u8 kd, .int .i64 x1, .int .u64 x2, .int .i64 x3] 37) := ⟨_, rfl⟩
                have HWA := hid hwa
                have HBX := hid (show wr.heap.size < wa.heap.size by rw [hwa]; simp)
                rw [← hwa] at SA XB CP
                clear hwa
                go_wp2_with fail
                rw [← HWA.out]
                refine (CP.out).mono ?_
                rintro e w5 ⟨qc, vc, rfl, hq5, h5, b5⟩
                have B5 := hid b5
                have TA := hid (take_any w5 _ qc vc es h5 b5.size hq5)
                have HQ5 := hid hq5
                clear CP h5 b5 hq5
                go_wp2_with fail
                refine (TA.out).mono ?_
                rintro e w6 ⟨r6, v6, T6, rfl, h6, k6, l6⟩
                have B6 := hid (B5.out.trans (k6.below (Nat.le_refl _) HQ5.out B5.out.size))
                have hE := (B6.out.block _ HBX.out).trans XB.out
                have c1 := cell_ent (i := 1) hE rfl
                have c2 := cell_ent (i := 2) hE rfl
                have c3 := cell_ent (i := 3) hE rfl
                have PT := hid (put_sep w6 _ qc v6 T6 x1 x2 x3 h6 B6.out.size (by have := HN.out; omega))
                clear TA h6 k6 l6 hE
                go_wp2_with fail
                refine (PT.out).mono ?_
                rintro e w7 ⟨rfl, v7, h7, k7, q7, n7⟩
                have S7 := hid ((SA.out.below (B6.out.trans (k7.below (Nat.le_refl _) HQ5.out B6.out.size))).grow (B' := q + 1) (by omega))
                clear h7 k7 q7 n7 PT SA XB B5 B6
                go_wp2
                go_meet
                exact ⟨_, _, rfl, S7⟩
              · have t6 : (kd % 7 == 6) = false := by simpa using d6
                clear d3 d4 d5 d6
                have PT := hid (put_sep _ (P + 1) P v es x1 x2 x3 SA.out.hp (by have := SA.out.sz; omega) (by have := HN.out; omega))
                go_wp2_with fail
                refine (PT.out).mono ?_
                rintro e w5 ⟨rfl, v5, h5, k5, q5, n5⟩
                have S5 := hid (SA.out.act (B' := q + 1) h5 (put_ord SA.out.ord _) q5 k5 n5 (by rw [rise_len]; have := HK.out; simp; omega))
                have hE := q5.blk XB.out (by have := SZ.out; omega) (fun e => by have := OW.out e; omega)
                have c1 := cell_ent (i := 1) hE rfl
                have c2 := cell_ent (i := 2) hE rfl
                have c3 := cell_ent (i := 3) hE rfl
                have RP := hid (refput (.slice a4 n c4) (sortE es) x1 x2 x3 w5 S5.out.rd (by rw [Tk.sort_len, ← HN.out]; omega))
                clear h5 k5 q5 n5 PT hE SA XB
                go_wp2_with fail
                refine (RP.out).mono ?_
                rintro e w6 ⟨v6, rfl, o6, b6⟩
                have S6 := hid ((S5.out.row o6 b6).to (Tk.sort_put es _).symm)
                clear o6 b6 RP S5 c1 c2 c3
                go_wp2
                go_meet
                exact ⟨_, _, rfl, S6⟩
      case rest =>
        clear SA XB SZ OW HK HN
        obtain ⟨v2, es2, rfl, C⟩ := hcut
        obtain ⟨n, hn⟩ : ∃ n, n = es2.length := ⟨_, rfl⟩
        have HN := hid hn
        obtain ⟨a4, c4, rfl, hc4, hm4⟩ : ∃ a c, u4 = .slice a n c ∧ n ≤ c ∧ c ≤ 9223372036854775807 := by
          obtain ⟨a, c, h1, h2, h3, _⟩ := C.out.rd
          rw [Tk.sort_len, ← hn] at h1 h2
          exact ⟨a, c, h1, h2, by unfold maxLen at h3; omega⟩
        have hn81 : n ≤ 81 := by rw [hn]; have := C.out.len; omega
        have nn : ((n : Int) != n) = false := by simp
        clear hn
        by_cases hz : n = 0
        · have hnil : es2 = [] := List.length_eq_zero_iff.1 (by rw [← HN.out]; exact hz)
          have FS := hid (first_none _ (P + 1) P v2 (by have := C.out.hp; rwa [hnil] at this))
          have HZ := hid hz
          clear hz hnil
          go_wp2_with fail
          refine (FS.out).mono ?_
          rintro e w5 ⟨rfl, h5⟩
          have S5 := hid (C.out.below h5)
          clear h5 FS C
          have S6 := hid (S5.out.below ((Below.refl _ _).alloc (Nat.le_refl _) (.cells #[.int .i64 0, .int .u64 0, .int .i64 0] 28)))
          have NB := hid (Deep.blk_alloc_new w5 (.cells #[.int .i64 0, .int .u64 0, .int .i64 0] 28))
          have SX := hid (fun (y : World) (hb : Below (w5.alloc (.cells #[.int .i64 0, .int .u64 0, .int .i64 0] 28)).heap.size (w5.alloc (.cells #[.int .i64 0, .int .u64 0, .int .i64 0] 28)) y) => (show (fun w' : World => True) y from trivial))
          have LN := hid (hlen (w5.alloc (.cells #[.int .i64 0, .int .u64 0, .int .i64 0] 28)).drew (P + 1) P _ es2 (S6.out.below (Quiet.below ⟨1, rfl⟩ _)).hp)
          rw [← HN.out] at LN
          have SO := hid (hsorted (w5.alloc (.cells #[.int .i64 0, .int .u64 0, .int .i64 0] 28)).drew (P + 1) P _ es2 (S6.out.below (Quiet.below ⟨1, rfl⟩ _)).hp)
          have HD := hid (show Below (w5.alloc (.cells #[.int .i64 0, .int .u64 0, .int .i64 0] 28)).heap.size (w5.alloc (.cells #[.int .i64 0, .int .u64 0, .int .i64 0] 28)) (w5.alloc (.cells #[.int .i64 0, .int .u64 0, .int .i64 0] 28)).drew from Quiet.below ⟨1, rfl⟩ _)
          go_upto_region 28 with (fail)
          refine wp_region_held_drew (S := fun w' => True) (by kernel_rfl) (SX.out _ HD.out) (fun hHeld => ?_)
          refine wpAnyH_take (i := 1) (oi := _) (v := ?_) rfl (by kernel_rfl) (by kernel_rfl) (by kernel_rfl) (fun _ _ _ h => h) (Or.inl ⟨by rfl, ?_⟩) (by assumption) ?_
          rotate_left
          · intro w hSw
            try dsimp only at hSw
            go_simp
            with_reducible rfl
          try simp only [Act.put, List.getElem_toArray, List.getElem_cons_zero, List.getElem_cons_succ, List.setIfInBounds_toArray, List.set_cons_zero, List.set_cons_succ]
          refine wpAnyH_take (i := 2) (oi := _) (v := ?_) rfl (by kernel_rfl) (by kernel_rfl) (by kernel_rfl) (fun _ _ _ h => h) (Or.inl ⟨by rfl, ?_⟩) (by assumption) ?_
          rotate_left
          · intro w hSw
            try dsimp only at hSw
            go_simp
            with_reducible rfl
          try simp only [Act.put, List.getElem_toArray, List.getElem_cons_zero, List.getElem_cons_succ, List.setIfInBounds_toArray, List.set_cons_zero, List.set_cons_succ]
          refine wpAnyH_ready (rs := [0]) (by kernel_rfl) (by simp) ?_
          refine AllReadyH.cons (o := _) rfl (fun K hK => ?_) AllReadyH.nil
          go_simp
          go_at_call 12
          with_reducible refine (LN.out).mono ?_
          rintro e w7 ⟨rfl, rfl⟩
          go_wp2_with fail
          refine hK.out _ _ (SX.out _ HD.out) (fun hHeld => ?_)
          clear hK K
          try simp only [Act.put, List.getElem_toArray, List.getElem_cons_zero, List.getElem_cons_succ, List.setIfInBounds_toArray, List.set_cons_zero, List.set_cons_succ]
          refine wpAnyH_take (i := 3) (oi := _) (v := ?_) rfl (by kernel_rfl) (by kernel_rfl) (by kernel_rfl) (fun _ _ _ h => h) (Or.inl ⟨by rfl, ?_⟩) (by assumption) ?_
          rotate_left
          · intro w hSw
            try dsimp only at hSw
            go_simp
            with_reducible rfl
          try simp only [Act.put, List.getElem_toArray, List.getElem_cons_zero, List.getElem_cons_succ, List.setIfInBounds_toArray, List.set_cons_zero, List.set_cons_succ]
          refine wpAnyH_take (i := 4) (oi := _) (v := ?_) rfl (by kernel_rfl) (by kernel_rfl) (by kernel_rfl) (fun _ _ _ h => h) (Or.inl ⟨by rfl, ?_⟩) (by assumption) ?_
          rotate_left
          · intro w hSw
            try dsimp only at hSw
            go_simp
            with_reducible rfl
          try simp only [Act.put, List.getElem_toArray, List.getElem_cons_zero, List.getElem_cons_succ, List.setIfInBounds_toArray, List.set_cons_zero, List.set_cons_succ]
          refine wpAnyH_take (i := 6) (oi := _) (v := ?_) rfl (by kernel_rfl) (by kernel_rfl) (by kernel_rfl) (fun _ _ _ h => h) (Or.inl ⟨by rfl, ?_⟩) (by assumption) ?_
          rotate_left
          · intro w hSw
            try dsimp only at hSw
            go_simp
            with_reducible rfl
          try simp only [Act.put, List.getElem_toArray, List.getElem_cons_zero, List.getElem_cons_succ, List.setIfInBounds_toArray, List.set_cons_zero, List.set_cons_succ]
          refine wpAnyH_ready (rs := [5]) (by kernel_rfl) (by simp) ?_
          refine AllReadyH.cons (o := _) rfl (fun K hK => ?_) AllReadyH.nil
          go_simp
          go_at_call 13
          with_reducible refine (SO.out).mono ?_
          rintro e w9 ⟨v9, rfl, o9, b9⟩
          have B9 := hid b9
          have S9 := hid (S6.out.below (HD.out.trans (b9.mono HD.out.size)))
          have SY := hid (same_yes v9 _ (sortE es2) _ (own_rd3 o9) S9.out.rd (by rw [Tk.sort_len, ← HN.out]; omega))
          clear o9 b9
          go_wp2_with fail
          refine hK.out _ _ (SX.out _ (HD.out.trans (B9.out.mono HD.out.size))) (fun hHeld => ?_)
          clear hK K
          try simp only [Act.put, List.getElem_toArray, List.getElem_cons_zero, List.getElem_cons_succ, List.setIfInBounds_toArray, List.set_cons_zero, List.set_cons_succ]
          refine wpAnyH_ready (rs := [7]) (by kernel_rfl) (by simp) ?_
          refine AllReadyH.cons (o := _) rfl (fun K hK => ?_) AllReadyH.nil
          go_simp
          go_at_call 19
          with_reducible refine (SY.out).mono ?_
          rintro e w10 ⟨rfl, q10⟩
          have B10 := hid (HD.out.trans (B9.out.mono HD.out.size) |>.trans ((Quiet.below q10 _).mono (Nat.le_trans HD.out.size B9.out.size)))
          clear q10
          go_wp2_with fail
          refine hK.out _ _ (SX.out _ B10.out) (fun hHeld => ?_)
          clear hK K
          try simp only [Act.put, List.getElem_toArray, List.getElem_cons_zero, List.getElem_cons_succ, List.setIfInBounds_toArray, List.set_cons_zero, List.set_cons_succ]
          refine wpAnyH_take (i := 8) (oi := _) (v := ?_) rfl (by kernel_rfl) (by kernel_rfl) (by kernel_rfl) (fun _ _ _ h => h) (Or.inl ⟨by rfl, ?_⟩) (by assumption) ?_
          rotate_left
          · intro w hSw
            try dsimp only at hSw
            go_simp
            with_reducible rfl
          try simp only [Act.put, List.getElem_toArray, List.getElem_cons_zero, List.getElem_cons_succ, List.setIfInBounds_toArray, List.set_cons_zero, List.set_cons_succ]
          refine wpAnyH_take (i := 9) (oi := _) (v := ?_) rfl (by kernel_rfl) (by kernel_rfl) (by kernel_rfl) (fun _ _ _ h => h) (Or.inl ⟨by rfl, ?_⟩) (by assumption) ?_
          rotate_left
          · intro w hSw
            try dsimp only at hSw
            go_simp
            with_reducible rfl
          try simp only [Act.put, List.getElem_toArray, List.getElem_cons_zero, List.getElem_cons_succ, List.setIfInBounds_toArray, List.set_cons_zero, List.set_cons_succ]
          refine wpAnyH_take (i := 10) (oi := _) (v := ?_) rfl (by kernel_rfl) (by kernel_rfl) (by kernel_rfl) (fun _ _ _ h => h) (Or.inl ⟨by rfl, ?_⟩) (by assumption) ?_
          rotate_left
          · intro w hSw
            try dsimp only at hSw
            go_simp
            with_reducible rfl
          try simp only [Act.put, List.getElem_toArray, List.getElem_cons_zero, List.getElem_cons_succ, List.setIfInBounds_toArray, List.set_cons_zero, List.set_cons_succ]
          refine wpAnyH_take (i := 11) (oi := _) (v := ?_) rfl (by kernel_rfl) (by kernel_rfl) (by kernel_rfl) (fun _ _ _ h => h) (Or.inl ⟨by rfl, ?_⟩) (by assumption) ?_
          rotate_left
          · intro w hSw
            try dsimp only at hSw
            go_simp
            with_reducible rfl
          try simp only [Act.put, List.getElem_toArray, List.getElem_cons_zero, List.getElem_cons_succ, List.setIfInBounds_toArray, List.set_cons_zero, List.set_cons_succ]
          refine wpAnyH_take (i := 12) (oi := _) (v := ?_) rfl (by kernel_rfl) (by kernel_rfl) (by kernel_rfl) (fun _ _ _ h => h) (Or.inl ⟨by rfl, ?_⟩) (by assumption) ?_
          rotate_left
          · intro w hSw
            try dsimp only at hSw
            go_simp
            with_reducible rfl
          try simp only [Act.put, List.getElem_toArray, List.getElem_cons_zero, List.getElem_cons_succ, List.setIfInBounds_toArray, List.set_cons_zero, List.set_cons_succ]
          refine wpAnyH_take (i := 13) (oi := _) (v := ?_) rfl (by kernel_rfl) (by kernel_rfl) (by kernel_rfl) (fun _ _ _ h => h) (Or.inl ⟨by rfl, ?_⟩) (by assumption) ?_
          rotate_left
          · intro w hSw
            try dsimp only at hSw
            go_simp
            with_reducible rfl
          try simp only [Act.put, List.getElem_toArray, List.getElem_cons_zero, List.getElem_cons_succ, List.setIfInBounds_toArray, List.set_cons_zero, List.set_cons_succ]
          refine wpAnyH_take (i := 14) (oi := _) (v := .bool false) rfl (by kernel_rfl) (by kernel_rfl) (by kernel_rfl) (fun _ _ _ h => h) (Or.inl ⟨by rfl, ?_⟩) (by assumption) ?_
          · intro w hSw
            try dsimp only at hSw
            go_simp
            first | exact HZ.out | exact dz | omega
          try simp only [Act.put, List.getElem_toArray, List.getElem_cons_zero, List.getElem_cons_succ, List.setIfInBounds_toArray, List.set_cons_zero, List.set_cons_succ]
          refine wpAnyH_take (i := 15) (oi := _) (v := ?_) rfl (by kernel_rfl) (by kernel_rfl) (by kernel_rfl) (fun _ _ _ h => h) (Or.inl ⟨by rfl, ?_⟩) (by assumption) ?_
          rotate_left
          · intro w hSw
            try dsimp only at hSw
            go_simp
            with_reducible rfl
          try simp only [Act.put, List.getElem_toArray, List.getElem_cons_zero, List.getElem_cons_succ, List.setIfInBounds_toArray, List.set_cons_zero, List.set_cons_succ]
          refine wpAnyH_take (i := 16) (oi := _) (v := ?_) rfl (by kernel_rfl) (by kernel_rfl) (by kernel_rfl) (fun _ _ _ h => h) (Or.inl ⟨by rfl, ?_⟩) (by assumption) ?_
          rotate_left
          · intro w hSw
            try dsimp only at hSw
            go_simp
            with_reducible rfl
          try simp only [Act.put, List.getElem_toArray, List.getElem_cons_zero, List.getElem_cons_succ, List.setIfInBounds_toArray, List.set_cons_zero, List.set_cons_succ]
          refine wpAnyH_take (i := 17) (oi := _) (v := ?_) rfl (by kernel_rfl) (by kernel_rfl) (by kernel_rfl) (fun _ _ _ h => h) (Or.inl ⟨by rfl, ?_⟩) (by assumption) ?_
          rotate_left
          · intro w hSw
            try dsimp only at hSw
            go_simp
            with_reducible rfl
          try simp only [Act.put, List.getElem_toArray, List.getElem_cons_zero, List.getElem_cons_succ, List.setIfInBounds_toArray, List.set_cons_zero, List.set_cons_succ]
          refine wpAnyH_take (i := 18) (oi := _) (v := ?_) rfl (by kernel_rfl) (by kernel_rfl) (by kernel_rfl) (fun _ _ _ h => h) (Or.inl ⟨by rfl, ?_⟩) (by assumption) ?_
          rotate_left
          · intro w hSw
            try dsimp only at hSw
            go_simp
            with_reducible rfl
          try simp only [Act.put, List.getElem_toArray, List.getElem_cons_zero, List.getElem_cons_succ, List.setIfInBounds_toArray, List.set_cons_zero, List.set_cons_succ]
          refine wpAnyH_take (i := 19) (oi := _) (v := ?_) rfl (by kernel_rfl) (by kernel_rfl) (by kernel_rfl) (fun _ _ _ h => h) (Or.inl ⟨by rfl, ?_⟩) (by assumption) ?_
          rotate_left
          · intro w hSw
            try dsimp only at hSw
            go_simp
            with_reducible rfl
          try simp only [Act.put, List.getElem_toArray, List.getElem_cons_zero, List.getElem_cons_succ, List.setIfInBounds_toArray, List.set_cons_zero, List.set_cons_succ]
          refine wpAnyH_take (i := 20) (oi := _) (v := undef) rfl (by kernel_rfl) (by kernel_rfl) (by kernel_rfl) (fun _ _ _ h => h) (Or.inr ⟨by rfl, rfl⟩) (by assumption) ?_
          try simp only [Act.put, List.getElem_toArray, List.getElem_cons_zero, List.getElem_cons_succ, List.setIfInBounds_toArray, List.set_cons_zero, List.set_cons_succ]
          refine wpAnyH_take (i := 21) (oi := _) (v := undef) rfl (by kernel_rfl) (by kernel_rfl) (by kernel_rfl) (fun _ _ _ h => h) (Or.inr ⟨by rfl, rfl⟩) (by assumption) ?_
          try simp only [Act.put, List.getElem_toArray, List.getElem_cons_zero, List.getElem_cons_succ, List.setIfInBounds_toArray, List.set_cons_zero, List.set_cons_succ]
          refine wpAnyH_take (i := 22) (oi := _) (v := undef) rfl (by kernel_rfl) (by kernel_rfl) (by kernel_rfl) (fun _ _ _ h => h) (Or.inr ⟨by rfl, rfl⟩) (by assumption) ?_
          try simp only [Act.put, List.getElem_toArray, List.getElem_cons_zero, List.getElem_cons_succ, List.setIfInBounds_toArray, List.set_cons_zero, List.set_cons_succ]
          refine wpAnyH_take (i := 23) (oi := _) (v := undef) rfl (by kernel_rfl) (by kernel_rfl) (by kernel_rfl) (fun _ _ _ h => h) (Or.inr ⟨by rfl, rfl⟩) (by assumption) ?_
          try simp only [Act.put, List.getElem_toArray, List.getElem_cons_zero, List.getElem_cons_succ, List.setIfInBounds_toArray, List.set_cons_zero, List.set_cons_succ]
          refine wpAnyH_take (i := 24) (oi := _) (v := undef) rfl (by kernel_rfl) (by kernel_rfl) (by kernel_rfl) (fun _ _ _ h => h) (Or.inr ⟨by rfl, rfl⟩) (by assumption) ?_
          try simp only [Act.put, List.getElem_toArray, List.getElem_cons_zero, List.getElem_cons_succ, List.setIfInBounds_toArray, List.set_cons_zero, List.set_cons_succ]
          refine wpAnyH_take (i := 25) (oi := _) (v := ?_) rfl (by kernel_rfl) (by kernel_rfl) (by kernel_rfl) (fun _ _ _ h => h) (Or.inl ⟨by rfl, ?_⟩) (by assumption) ?_
          rotate_left
          · intro w hSw
            try dsimp only at hSw
            go_simp
            with_reducible rfl
          try simp only [Act.put, List.getElem_toArray, List.getElem_cons_zero, List.getElem_cons_succ, List.setIfInBounds_toArray, List.set_cons_zero, List.set_cons_succ]
          refine wpAnyH_take (i := 26) (oi := _) (v := ?_) rfl (by kernel_rfl) (by kernel_rfl) (by kernel_rfl) (fun _ _ _ h => h) (Or.inl ⟨by rfl, ?_⟩) (by assumption) ?_
          rotate_left
          · intro w hSw
            try dsimp only at hSw
            go_simp
            with_reducible rfl
          try simp only [Act.put, List.getElem_toArray, List.getElem_cons_zero, List.getElem_cons_succ, List.setIfInBounds_toArray, List.set_cons_zero, List.set_cons_succ]
          refine wpAnyH_done (by kernel_rfl) ?_ _
          have S10 := hid (S6.out.below B10.out)
          clear hHeld SX LN SO HD S6 S9 B9 B10 SY
          go_wp2
          go_roundw
          case rel => exact ⟨q + 1, _, es2, by omega, by go_num, S10⟩
          case measure => simp [intOf]; omega
        · have hpos : 0 < es2.length := by rw [← HN.out]; omega
          obtain ⟨m, rfl⟩ : ∃ m, n = m + 1 := ⟨n - 1, by omega⟩
          obtain ⟨g, c, rfl, hs⟩ := C.out.hp.hs hpos
          rw [← HN.out] at hs
          obtain ⟨y1, y2, y3, hy⟩ : ∃ y1 y2 y3, enAt es2 0 = (y1, y2, y3) := ⟨_, _, _, rfl⟩
          obtain ⟨l2, hsl⟩ := Tk.sort_head C.out.ord hpos
          rw [hy] at hsl
          have FS := hid (first_some _ (P + 1) P g (m + 1) c es2 hs (by omega) y1 y2 y3 hy)
          clear hs hy hpos hz
          go_wp2_with fail
          refine (FS.out).mono ?_
          rintro e w5 ⟨rfl, h5⟩
          have S5 := hid (C.out.below h5)
          clear h5 FS C
          have S6 := hid (S5.out.below ((Below.refl _ _).alloc (Nat.le_refl _) (.cells #[.int .i64 y1, .int .u64 y2, .int .i64 y3] 28)))
          have NB := hid (Deep.blk_alloc_new w5 (.cells #[.int .i64 y1, .int .u64 y2, .int .i64 y3] 28))
          have hrd := S6.out.rd
          rw [hsl] at hrd
          obtain ⟨a, c9, hv1, hc1, hm1, hr1⟩ := hrd
          simp only [Value.slice.injEq] at hv1
          obtain ⟨rfl, hv2, rfl⟩ := hv1
          obtain ⟨g4, o4, rfl, hg4, hd4⟩ := hr1 (by simp)
          obtain ⟨p0, p1, p2⟩ := hd4 0 (by simp)
          simp only [Nat.zero_mul, Nat.add_zero, enAt, List.getElem_cons_zero, List.getElem?_cons_zero, Option.getD_some] at p0 p1 p2
          have P0 := hid p0
          have P1 := hid p1
          have P2 := hid p2
          have HG4 := hid hg4
          have YB := hid (show w5.heap.size < (w5.alloc (.cells #[.int .i64 y1, .int .u64 y2, .int .i64 y3] 28)).heap.size by simp)
          clear p0 p1 p2 hd4 hg4 hr1 hc1 hm1 hsl hv2
          have e1 : (y1 != y1) = false := by simp
          have e2 : (y2 != y2) = false := by simp
          have e3 : (y3 != y3) = false := by simp
          have e1' : (y1 == y1) = true := by simp
          have e2' : (y2 == y2) = true := by simp
          have e3' : (y3 == y3) = true := by simp
          have dz : decide ((0 : Int) < ((m + 1 : Nat) : Int)) = true := decide_eq_true (by omega)
          have SX := hid (fun (y : World) (hb : Below (w5.alloc (.cells #[.int .i64 y1, .int .u64 y2, .int .i64 y3] 28)).heap.size (w5.alloc (.cells #[.int .i64 y1, .int .u64 y2, .int .i64 y3] 28)) y) => (show (fun w' : World => w'.cell? ⟨w5.heap.size, 0, none⟩ = some (.int .i64 y1) ∧ w'.cell? ⟨w5.heap.size, 1, none⟩ = some (.int .u64 y2) ∧ w'.cell? ⟨w5.heap.size, 2, none⟩ = some (.int .i64 y3) ∧ w'.cell? ⟨g4, o4, none⟩ = some (.int .i64 y1) ∧ w'.cell? ⟨g4, o4 + 1, none⟩ = some (.int .u64 y2) ∧ w'.cell? ⟨g4, o4 + 2, none⟩ = some (.int .i64 y3)) y from ⟨(hb.cell YB.out).trans (cell_ent (i := 0) NB.out rfl), (hb.cell YB.out).trans (cell_ent (i := 1) NB.out rfl), (hb.cell YB.out).trans (cell_ent (i := 2) NB.out rfl), (hb.cell HG4.out).trans P0.out, (hb.cell HG4.out).trans P1.out, (hb.cell HG4.out).trans P2.out⟩))
          have LN := hid (hlen (w5.alloc (.cells #[.int .i64 y1, .int .u64 y2, .int .i64 y3] 28)).drew (P + 1) P _ es2 (S6.out.below (Quiet.below ⟨1, rfl⟩ _)).hp)
          rw [← HN.out] at LN
          have SO := hid (hsorted (w5.alloc (.cells #[.int .i64 y1, .int .u64 y2, .int .i64 y3] 28)).drew (P + 1) P _ es2 (S6.out.below (Quiet.below ⟨1, rfl⟩ _)).hp)
          have HD := hid (show Below (w5.alloc (.cells #[.int .i64 y1, .int .u64 y2, .int .i64 y3] 28)).heap.size (w5.alloc (.cells #[.int .i64 y1, .int .u64 y2, .int .i64 y3] 28)) (w5.alloc (.cells #[.int .i64 y1, .int .u64 y2, .int .i64 y3] 28)).drew from Quiet.below ⟨1, rfl⟩ _)
          go_upto_region 28 with (fail)
          refine wp_region_held_drew (S := fun w' => w'.cell? ⟨w5.heap.size, 0, none⟩ = some (.int .i64 y1) ∧ w'.cell? ⟨w5.heap.size, 1, none⟩ = some (.int .u64 y2) ∧ w'.cell? ⟨w5.heap.size, 2, none⟩ = some (.int .i64 y3) ∧ w'.cell? ⟨g4, o4, none⟩ = some (.int .i64 y1) ∧ w'.cell? ⟨g4, o4 + 1, none⟩ = some (.int .u64 y2) ∧ w'.cell? ⟨g4, o4 + 2, none⟩ = some (.int .i64 y3)) (by kernel_rfl) (SX.out _ HD.out) (fun hHeld => ?_)
          refine wpAnyH_take (i := 1) (oi := _) (v := ?_) rfl (by kernel_rfl) (by kernel_rfl) (by kernel_rfl) (fun _ _ _ h => h) (Or.inl ⟨by rfl, ?_⟩) (by assumption) ?_
          rotate_left
          · intro w hSw
            try dsimp only at hSw
            go_simp
            with_reducible rfl
          try simp only [Act.put, List.getElem_toArray, List.getElem_cons_zero, List.getElem_cons_succ, List.setIfInBounds_toArray, List.set_cons_zero, List.set_cons_succ]
          refine wpAnyH_take (i := 2) (oi := _) (v := ?_) rfl (by kernel_rfl) (by kernel_rfl) (by kernel_rfl) (fun _ _ _ h => h) (Or.inl ⟨by rfl, ?_⟩) (by assumption) ?_
          rotate_left
          · intro w hSw
            try dsimp only at hSw
            go_simp
            with_reducible rfl
          try simp only [Act.put, List.getElem_toArray, List.getElem_cons_zero, List.getElem_cons_succ, List.setIfInBounds_toArray, List.set_cons_zero, List.set_cons_succ]
          refine wpAnyH_ready (rs := [0]) (by kernel_rfl) (by simp) ?_
          refine AllReadyH.cons (o := _) rfl (fun K hK => ?_) AllReadyH.nil
          go_simp
          go_at_call 12
          with_reducible refine (LN.out).mono ?_
          rintro e w7 ⟨rfl, rfl⟩
          go_wp2_with fail
          refine hK.out _ _ (SX.out _ HD.out) (fun hHeld => ?_)
          clear hK K
          try simp only [Act.put, List.getElem_toArray, List.getElem_cons_zero, List.getElem_cons_succ, List.setIfInBounds_toArray, List.set_cons_zero, List.set_cons_succ]
          refine wpAnyH_take (i := 3) (oi := _) (v := ?_) rfl (by kernel_rfl) (by kernel_rfl) (by kernel_rfl) (fun _ _ _ h => h) (Or.inl ⟨by rfl, ?_⟩) (by assumption) ?_
          rotate_left
          · intro w hSw
            try dsimp only at hSw
            go_simp
            with_reducible rfl
          try simp only [Act.put, List.getElem_toArray, List.getElem_cons_zero, List.getElem_cons_succ, List.setIfInBounds_toArray, List.set_cons_zero, List.set_cons_succ]
          refine wpAnyH_take (i := 4) (oi := _) (v := ?_) rfl (by kernel_rfl) (by kernel_rfl) (by kernel_rfl) (fun _ _ _ h => h) (Or.inl ⟨by rfl, ?_⟩) (by assumption) ?_
          rotate_left
          · intro w hSw
            try dsimp only at hSw
            go_simp
            with_reducible rfl
          try simp only [Act.put, List.getElem_toArray, List.getElem_cons_zero, List.getElem_cons_succ, List.setIfInBounds_toArray, List.set_cons_zero, List.set_cons_succ]
          refine wpAnyH_take (i := 6) (oi := _) (v := ?_) rfl (by kernel_rfl) (by kernel_rfl) (by kernel_rfl) (fun _ _ _ h => h) (Or.inl ⟨by rfl, ?_⟩) (by assumption) ?_
          rotate_left
          · intro w hSw
            try dsimp only at hSw
            go_simp
            with_reducible rfl
          try simp only [Act.put, List.getElem_toArray, List.getElem_cons_zero, List.getElem_cons_succ, List.setIfInBounds_toArray, List.set_cons_zero, List.set_cons_succ]
          refine wpAnyH_ready (rs := [5]) (by kernel_rfl) (by simp) ?_
          refine AllReadyH.cons (o := _) rfl (fun K hK => ?_) AllReadyH.nil
          go_simp
          go_at_call 13
          with_reducible refine (SO.out).mono ?_
          rintro e w9 ⟨v9, rfl, o9, b9⟩
          have B9 := hid b9
          have S9 := hid (S6.out.below (HD.out.trans (b9.mono HD.out.size)))
          have SY := hid (same_yes v9 _ (sortE es2) _ (own_rd3 o9) S9.out.rd (by rw [Tk.sort_len, ← HN.out]; omega))
          clear o9 b9
          go_wp2_with fail
          refine hK.out _ _ (SX.out _ (HD.out.trans (B9.out.mono HD.out.size))) (fun hHeld => ?_)
          clear hK K
          try simp only [Act.put, List.getElem_toArray, List.getElem_cons_zero, List.getElem_cons_succ, List.setIfInBounds_toArray, List.set_cons_zero, List.set_cons_succ]
          refine wpAnyH_ready (rs := [7]) (by kernel_rfl) (by simp) ?_
          refine AllReadyH.cons (o := _) rfl (fun K hK => ?_) AllReadyH.nil
          go_simp
          go_at_call 19
          with_reducible refine (SY.out).mono ?_
          rintro e w10 ⟨rfl, q10⟩
          have B10 := hid (HD.out.trans (B9.out.mono HD.out.size) |>.trans ((Quiet.below q10 _).mono (Nat.le_trans HD.out.size B9.out.size)))
          clear q10
          go_wp2_with fail
          refine hK.out _ _ (SX.out _ B10.out) (fun hHeld => ?_)
          clear hK K
          try simp only [Act.put, List.getElem_toArray, List.getElem_cons_zero, List.getElem_cons_succ, List.setIfInBounds_toArray, List.set_cons_zero, List.set_cons_succ]
          refine wpAnyH_take (i := 8) (oi := _) (v := ?_) rfl (by kernel_rfl) (by kernel_rfl) (by kernel_rfl) (fun _ _ _ h => h) (Or.inl ⟨by rfl, ?_⟩) (by assumption) ?_
          rotate_left
          · intro w hSw
            try dsimp only at hSw
            go_simp
            with_reducible rfl
          try simp only [Act.put, List.getElem_toArray, List.getElem_cons_zero, List.getElem_cons_succ, List.setIfInBounds_toArray, List.set_cons_zero, List.set_cons_succ]
          refine wpAnyH_take (i := 9) (oi := _) (v := ?_) rfl (by kernel_rfl) (by kernel_rfl) (by kernel_rfl) (fun _ _ _ h => h) (Or.inl ⟨by rfl, ?_⟩) (by assumption) ?_
          rotate_left
          · intro w hSw
            try dsimp only at hSw
            go_simp
            with_reducible rfl
          try simp only [Act.put, List.getElem_toArray, List.getElem_cons_zero, List.getElem_cons_succ, List.setIfInBounds_toArray, List.set_cons_zero, List.set_cons_succ]
          refine wpAnyH_take (i := 10) (oi := _) (v := ?_) rfl (by kernel_rfl) (by kernel_rfl) (by kernel_rfl) (fun _ _ _ h => h) (Or.inl ⟨by rfl, ?_⟩) (by assumption) ?_
          rotate_left
          · intro w hSw
            try dsimp only at hSw
            go_simp
            with_reducible rfl
          try simp only [Act.put, List.getElem_toArray, List.getElem_cons_zero, List.getElem_cons_succ, List.setIfInBounds_toArray, List.set_cons_zero, List.set_cons_succ]
          refine wpAnyH_take (i := 11) (oi := _) (v := ?_) rfl (by kernel_rfl) (by kernel_rfl) (by kernel_rfl) (fun _ _ _ h => h) (Or.inl ⟨by rfl, ?_⟩) (by assumption) ?_
          rotate_left
          · intro w hSw
            try dsimp only at hSw
            go_simp
            with_reducible rfl
          try simp only [Act.put, List.getElem_toArray, List.getElem_cons_zero, List.getElem_cons_succ, List.setIfInBounds_toArray, List.set_cons_zero, List.set_cons_succ]
          refine wpAnyH_take (i := 12) (oi := _) (v := ?_) rfl (by kernel_rfl) (by kernel_rfl) (by kernel_rfl) (fun _ _ _ h => h) (Or.inl ⟨by rfl, ?_⟩) (by assumption) ?_
          rotate_left
          · intro w hSw
            try dsimp only at hSw
            go_simp
            with_reducible rfl
          try simp only [Act.put, List.getElem_toArray, List.getElem_cons_zero, List.getElem_cons_succ, List.setIfInBounds_toArray, List.set_cons_zero, List.set_cons_succ]
          refine wpAnyH_take (i := 13) (oi := _) (v := ?_) rfl (by kernel_rfl) (by kernel_rfl) (by kernel_rfl) (fun _ _ _ h => h) (Or.inl ⟨by rfl, ?_⟩) (by assumption) ?_
          rotate_left
          · intro w hSw
            try dsimp only at hSw
            go_simp
            with_reducible rfl
          try simp only [Act.put, List.getElem_toArray, List.getElem_cons_zero, List.getElem_cons_succ, List.setIfInBounds_toArray, List.set_cons_zero, List.set_cons_succ]
          refine wpAnyH_take (i := 14) (oi := _) (v := ?_) rfl (by kernel_rfl) (by kernel_rfl) (by kernel_rfl) (fun _ _ _ h => h) (Or.inl ⟨by rfl, ?_⟩) (by assumption) ?_
          rotate_left
          · intro w hSw
            try dsimp only at hSw
            go_simp
            with_reducible rfl
          try simp only [Act.put, List.getElem_toArray, List.getElem_cons_zero, List.getElem_cons_succ, List.setIfInBounds_toArray, List.set_cons_zero, List.set_cons_succ]
          refine wpAnyH_take (i := 15) (oi := _) (v := ?_) rfl (by kernel_rfl) (by kernel_rfl) (by kernel_rfl) (fun _ _ _ h => h) (Or.inl ⟨by rfl, ?_⟩) (by assumption) ?_
          rotate_left
          · intro w hSw
            try dsimp only at hSw
            go_simp
            with_reducible rfl
          try simp only [Act.put, List.getElem_toArray, List.getElem_cons_zero, List.getElem_cons_succ, List.setIfInBounds_toArray, List.set_cons_zero, List.set_cons_succ]
          refine wpAnyH_take (i := 16) (oi := _) (v := ?_) rfl (by kernel_rfl) (by kernel_rfl) (by kernel_rfl) (fun _ _ _ h => h) (Or.inl ⟨by rfl, ?_⟩) (by assumption) ?_
          rotate_left
          · intro w hSw
            try dsimp only at hSw
            go_simp
            with_reducible rfl
          try simp only [Act.put, List.getElem_toArray, List.getElem_cons_zero, List.getElem_cons_succ, List.setIfInBounds_toArray, List.set_cons_zero, List.set_cons_succ]
          refine wpAnyH_take (i := 17) (oi := _) (v := ?_) rfl (by kernel_rfl) (by kernel_rfl) (by kernel_rfl) (fun _ _ _ h => h) (Or.inl ⟨by rfl, ?_⟩) (by assumption) ?_
          rotate_left
          · intro w hSw
            try dsimp only at hSw
            go_simp
            with_reducible rfl
          try simp only [Act.put, List.getElem_toArray, List.getElem_cons_zero, List.getElem_cons_succ, List.setIfInBounds_toArray, List.set_cons_zero, List.set_cons_succ]
          refine wpAnyH_take (i := 18) (oi := _) (v := ?_) rfl (by kernel_rfl) (by kernel_rfl) (by kernel_rfl) (fun _ _ _ h => h) (Or.inl ⟨by rfl, ?_⟩) (by assumption) ?_
          rotate_left
          · intro w hSw
            try dsimp only at hSw
            go_simp
            with_reducible rfl
          try simp only [Act.put, List.getElem_toArray, List.getElem_cons_zero, List.getElem_cons_succ, List.setIfInBounds_toArray, List.set_cons_zero, List.set_cons_succ]
          refine wpAnyH_take (i := 19) (oi := _) (v := ?_) rfl (by kernel_rfl) (by kernel_rfl) (by kernel_rfl) (fun _ _ _ h => h) (Or.inl ⟨by rfl, ?_⟩) (by assumption) ?_
          rotate_left
          · intro w hSw
            try dsimp only at hSw
            go_simp
            with_reducible rfl
          try simp only [Act.put, List.getElem_toArray, List.getElem_cons_zero, List.getElem_cons_succ, List.setIfInBounds_toArray, List.set_cons_zero, List.set_cons_succ]
          refine wpAnyH_take (i := 20) (oi := _) (v := ?_) rfl (by kernel_rfl) (by kernel_rfl) (by kernel_rfl) (fun _ _ _ h => h) (Or.inl ⟨by rfl, ?_⟩) (by assumption) ?_
          rotate_left
          · intro w hSw
            try dsimp only at hSw
            go_simp
            with_reducible rfl
          try simp only [Act.put, List.getElem_toArray, List.getElem_cons_zero, List.getElem_cons_succ, List.setIfInBounds_toArray, List.set_cons_zero, List.set_cons_succ]
          refine wpAnyH_take (i := 21) (oi := _) (v := ?_) rfl (by kernel_rfl) (by kernel_rfl) (by kernel_rfl) (fun _ _ _ h => h) (Or.inl ⟨by rfl, ?_⟩) (by assumption) ?_
          rotate_left
          · intro w hSw
            try dsimp only at hSw
            go_simp
            with_reducible rfl
          try simp only [Act.put, List.getElem_toArray, List.getElem_cons_zero, List.getElem_cons_succ, List.setIfInBounds_toArray, List.set_cons_zero, List.set_cons_succ]
          refine wpAnyH_take (i := 22) (oi := _) (v := ?_) rfl (by kernel_rfl) (by kernel_rfl) (by kernel_rfl) (fun _ _ _ h => h) (Or.inl ⟨by rfl, ?_⟩) (by assumption) ?_
          rotate_left
          · intro w hSw
            try dsimp only at hSw
            go_simp
            with_reducible rfl
          try simp only [Act.put, List.getElem_toArray, List.getElem_cons_zero, List.getElem_cons_succ, List.setIfInBounds_toArray, List.set_cons_zero, List.set_cons_succ]
          refine wpAnyH_take (i := 23) (oi := _) (v := ?_) rfl (by kernel_rfl) (by kernel_rfl) (by kernel_rfl) (fun _ _ _ h => h) (Or.inl ⟨by rfl, ?_⟩) (by assumption) ?_
          rotate_left
          · intro w hSw
            try dsimp only at hSw
            go_simp
            with_reducible rfl
          try simp only [Act.put, List.getElem_toArray, List.getElem_cons_zero, List.getElem_cons_succ, List.setIfInBounds_toArray, List.set_cons_zero, List.set_cons_succ]
          refine wpAnyH_take (i := 24) (oi := _) (v := ?_) rfl (by kernel_rfl) (by kernel_rfl) (by kernel_rfl) (fun _ _ _ h => h) (Or.inl ⟨by rfl, ?_⟩) (by assumption) ?_
          rotate_left
          · intro w hSw
            try dsimp only at hSw
            go_simp
            with_reducible rfl
          try simp only [Act.put, List.getElem_toArray, List.getElem_cons_zero, List.getElem_cons_succ, List.setIfInBounds_toArray, List.set_cons_zero, List.set_cons_succ]
          refine wpAnyH_take (i := 25) (oi := _) (v := ?_) rfl (by kernel_rfl) (by kernel_rfl) (by kernel_rfl) (fun _ _ _ h => h) (Or.inl ⟨by rfl, ?_⟩) (by assumption) ?_
          rotate_left
          · intro w hSw
            try dsimp only at hSw
            go_simp
            with_reducible rfl
          try simp only [Act.put, List.getElem_toArray, List.getElem_cons_zero, List.getElem_cons_succ, List.setIfInBounds_toArray, List.set_cons_zero, List.set_cons_succ]
          refine wpAnyH_take (i := 26) (oi := _) (v := ?_) rfl (by kernel_rfl) (by kernel_rfl) (by kernel_rfl) (fun _ _ _ h => h) (Or.inl ⟨by rfl, ?_⟩) (by assumption) ?_
          rotate_left
          · intro w hSw
            try dsimp only at hSw
            go_simp
            with_reducible rfl
          try simp only [Act.put, List.getElem_toArray, List.getElem_cons_zero, List.getElem_cons_succ, List.setIfInBounds_toArray, List.set_cons_zero, List.set_cons_succ]
          refine wpAnyH_done (by kernel_rfl) ?_ _
          have S10 := hid (S6.out.below B10.out)
          clear hHeld SX LN SO HD S6 S9 B9 B10 SY
          go_wp2
          go_roundw
          case rel => exact ⟨q + 1, _, es2, by omega, by go_num, S10⟩
          case measure => simp [intOf]; omega
    · have HB := hid S.out.bl
      go_wp2
      go_ret
      exact ⟨rfl, HB.out⟩
end Go.Proofs.Ythabcnjddeoebaa.heapPlays
