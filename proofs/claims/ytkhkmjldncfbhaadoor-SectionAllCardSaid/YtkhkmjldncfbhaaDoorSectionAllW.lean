/- The walk of the statement SectionAll: the law answers true and turns nothing that was there. -/
import Derived.Test.YtkhkmjldncfbhaaDoorSecAllS
import Derived.OpenShut
namespace Go.Proofs.YtkhkmjldncfbhaaDoor.sectionAll
open Go.RowKit
set_option linter.unusedVariables false
set_option linter.unusedSimpArgs false
section
variable {w0 w w' : World} {A b g po pe k e c d c' d' c2 d2 i q n : Nat} {z : Bool} {v : Value}
theorem Sa.turn (h : Sa w0 A b g po pe k e z c d c' d' k q n v w) (hn : Nxt e z c d c' d') (hc : c ≤ k) : Sa w0 A b g po pe k e false c' d' c2 d2 0 q n v w := by
  obtain ⟨xs, x1, x2, hM⟩ := h.m
  refine ⟨fun j hj => ?_, ⟨xs, ?_, ?_, hM⟩, h.o, h.own, h.oe, h.ne, h.nv, h.k1⟩
  · have := h.sc j hj
    rw [sg_next _ _ _ _ _ _ _ hj, tk_next _ _ _ hj, tm_next _ _ _ _ _ _ _ _ hj] at this
    rw [sg_first, tk_first, tm_first]; exact this
  · rw [x1, nx_next]
  · rw [x2, sv_next hn hc]
theorem lf_step (hn : Nxt e z c d c' d') (he : 1 ≤ e) (hd : d ≤ e) : (sgB false c' d' i = 4 ∧ lfI z c (i + 1) = lfI z c i) ∨ (sgB false c' d' i ≠ 4 ∧ lfI z c (i + 1) = lfI z c i + 1) := by
  rcases deed (i := i) hn he hd with ⟨hz, d1, d2⟩ | ⟨hz, d0, d1, d2, d3, d4, d5⟩ | ⟨hz, d0, d1, d2, d3, d3', d4, d5⟩ | ⟨hz, d0, d1, d2, d3, d3', d4, d5⟩ | ⟨hz, d0, d1, d2, d3, d3', d4, d5⟩ | ⟨hz, d0, d1, d2, d2', d3, d4, d4', d5⟩
  · subst hz; exact .inr ⟨by rw [d1]; decide, by unfold lfI; rfl⟩
  · subst hz; exact .inl ⟨d1, by unfold lfI; simp only [Bool.false_eq_true, if_false]; omega⟩
  · subst hz; exact .inl ⟨d1, by unfold lfI; simp only [Bool.false_eq_true, if_false]; omega⟩
  · subst hz; exact .inr ⟨by rw [d1]; decide, by unfold lfI; simp only [Bool.false_eq_true, if_false]; omega⟩
  · subst hz; exact .inr ⟨by rw [d1]; decide, by unfold lfI; simp only [Bool.false_eq_true, if_false]; omega⟩
  · subst hz; exact .inr ⟨by rw [d1]; split <;> decide, by unfold lfI; simp only [Bool.false_eq_true, if_false]; omega⟩
theorem nxt_ex (e : Nat) (z : Bool) (c d : Nat) (hz : z = true → c = 0 ∧ d = 0) (hd : d ≤ e) : ∃ c' d', Nxt e z c d c' d' := by
  cases z
  · by_cases h : d < e
    · exact ⟨c, d + 1, .inr (.inl ⟨rfl, h, rfl, rfl⟩)⟩
    · exact ⟨c + 1, 0, .inr (.inr ⟨rfl, by omega, rfl, rfl⟩)⟩
  · exact ⟨0, 0, .inl ⟨rfl, (hz rfl).1, (hz rfl).2, rfl, rfl⟩⟩
/-- Where a round may begin. -/
def Ok (k e : Nat) (z : Bool) (c d : Nat) : Prop := (z = true → c = 0 ∧ d = 0) ∧ d ≤ e ∧ (c < k ∨ (c = k ∧ d ≤ 1))
def Fin (k : Nat) (z : Bool) (c d : Nat) : Prop := z = false ∧ c = k ∧ d = 1
theorem Ok.next (h : Ok k e z c d) (he : 1 ≤ e) (hk : 1 ≤ k) (hf : ¬ Fin k z c d) (hn : Nxt e z c d c' d') : Ok k e false c' d' ∧ (c < k ∨ (c = k ∧ d = 0)) := by
  obtain ⟨h1, h2, h3⟩ := h
  unfold Fin at hf
  have h4 : c < k ∨ (c = k ∧ d = 0) := by
    rcases h3 with h3 | ⟨h3, h5⟩
    · exact .inl h3
    · cases z
      · exact .inr ⟨h3, by have : ¬ d = 1 := fun h => hf ⟨rfl, h3, h⟩; omega⟩
      · obtain ⟨e1, e2⟩ := h1 rfl; omega
  refine ⟨⟨fun h => (by cases h), ?_⟩, h4⟩
  unfold Nxt at hn
  rcases hn with ⟨rfl, rfl, rfl, rfl, rfl⟩ | ⟨rfl, g1, g2, g3⟩ | ⟨rfl, g1, g2, g3⟩ <;> omega
theorem rd_le (h : Ok k e z c d) (he : 1 ≤ e) : rdB z e c d ≤ k * (e + 1) + 2 := by
  obtain ⟨h1, h2, h3⟩ := h
  unfold rdB
  cases z
  · rw [ifF]
    rcases h3 with h3 | ⟨rfl, h5⟩
    · have : (c + 1) * (e + 1) ≤ k * (e + 1) := Nat.mul_le_mul_right _ h3
      rw [Nat.succ_mul] at this; omega
    · omega
  · simp
theorem rd_lt (h : Ok k e z c d) (he : 1 ≤ e) (hk : 1 ≤ k) (hf : ¬ Fin k z c d) : rdB z e c d < k * (e + 1) + 2 := by
  obtain ⟨c', d', hn⟩ := nxt_ex e z c d h.1 h.2.1
  have := rd_le (h.next he hk hf hn).1 he
  have := rd_next hn
  omega
theorem lf_pos (h : Ok k e z c d) (hk : 1 ≤ k) (hf : ¬ Fin k z c d) : 0 < lfB z k c d := by
  obtain ⟨h1, h2, h3⟩ := h
  unfold Fin at hf; unfold lfB
  cases z
  · rw [ifF]
    have : c = k → ¬ d = 1 := fun a h => hf ⟨rfl, a, h⟩
    split <;> omega
  · simp; omega
end
set_option maxHeartbeats 16000000 in
set_option maxRecDepth 100000 in
theorem walk (a0 a1 : Int) (w : World) (w0 : (Lit.int .u8 a0).wf = true) (w1 : (Lit.int .u8 a1).wf = true) (T1 : WdTab w) :
    Calls Tryd.prog 3 #[.int .u8 a0, .int .u8 a1] w fun e w' => e = .returned (.bool true) ∧ Below w.heap.size w w' := by
  have HT := hid T1
  have hb0 := bounds_u8 w0
  have hb1 := bounds_u8 w1
  have h00 := hb0.1
  have h01 := hb0.2
  have h10 := hb1.1
  have h11 := hb1.2
  obtain ⟨k, hk⟩ : ∃ k : Nat, 1 + a0 % 8 = k := ⟨(1 + a0 % 8).toNat, by omega⟩
  obtain ⟨e, he⟩ : ∃ e : Nat, 1 + a1 % 5 = e := ⟨(1 + a1 % 5).toNat, by omega⟩
  have hk1 : 1 ≤ k := by omega
  have hk8 : k ≤ 8 := by omega
  have he1 : 1 ≤ e := by omega
  have he5 : e ≤ 5 := by omega
  clear T1 w0 w1 hb0 hb1
  go_enter Tryd.func3, Tryd.ntmps3
  go_wp2_with fail
  refine (lives18 _ HT.out).mono ?_
  rintro x wl ⟨rfl, hbl⟩
  have BL := hid hbl
  clear hbl
  go_wp2_with fail
  obtain ⟨pe, hpe⟩ : ∃ pe, pe = wl.heap.size := ⟨_, rfl⟩
  obtain ⟨wa, hwa⟩ : ∃ wa, wa = wl.alloc (.cells #[.int .i64 e] 3) := ⟨_, rfl⟩
  rw [← hpe, ← hwa]
  have PE := hid (show wa.heap[pe]? = some (.cells #[.int .i64 e] 3 (0, 0)) by rw [hwa, hpe]; exact heap_alloc_new _ _)
  have BA := hid (show Below w.heap.size w wa from BL.out.trans (by rw [hwa]; exact ((Below.refl wl.heap.size wl).alloc (Nat.le_refl _) _).mono BL.out.size))
  have PG := hid (show w.heap.size ≤ pe by rw [hpe]; exact BL.out.size)
  clear hwa hpe BL hk he h00 h01 h10 h11
  refine (new_z 8 8 rfl _).mono ?_
  rintro x w1 ⟨b, g, xs, rfl, hm1, hl1, hz1, hb1, hg1, hB1⟩
  have M1 := hid (show Me w w1 b g xs 0 from ⟨⟨0, by omega, hm1⟩, hl1, BA.out.trans (hB1.mono BA.out.size), Nat.le_trans BA.out.size hb1, Nat.le_trans BA.out.size hg1, HT.out.at (BA.out.trans (hB1.mono BA.out.size)), HT.out.lt⟩)
  have PE1 := hid ((hB1.block _ (blk_lta PE.out)).trans PE.out)
  have NE1 := hid (show pe ≠ b ∧ pe ≠ g by have := blk_lta PE.out; omega)
  have HZ := hid hz1
  clear hm1 hl1 hz1 hb1 hg1 hB1 PE BA
  obtain ⟨i0, hi, hz0, hzs, hzb⟩ := info_parts (show (Tryd.prog.info? 30).map (fun i => (i.zero, i.size, i.bytes)) = some (some (.agg #[.int .i64 0, .int .i64 0, .int .i64 0, .int .u64 0, .int .i64 0]), 5, 40) by kernel_rfl)
  have hmk := fun W : World => run_make (P := Tryd.prog) W 25 30 i0 _ Tryd.underlying25 hi hz0 .i64 .i64 (k : Int) (k : Int) (by omega) (by omega) (by rw [hzb]; omega) (by omega)
  have hmk2 : ∀ W : World, (Instr.makeSlice 25 (.int .i64 (k : Int)) (.int .i64 (k : Int))).run Tryd.prog W = .ok (.slice (some ⟨W.heap.size, 0, none⟩) k k) (W.alloc (.cells (madeCells #[.int .i64 0, .int .i64 0, .int .i64 0, .int .u64 0, .int .i64 0] (k * 5)) 30)) := fun W => by
    have := hmk W
    rw [hzs] at this
    simpa [Value.cells] using this
  clear hmk hi hz0 hzs hzb
  go_wp2_with fail
  obtain ⟨A, hA⟩ : ∃ A, A = w1.heap.size := ⟨_, rfl⟩
  obtain ⟨w2, hw2⟩ : ∃ w2, w2 = w1.alloc (.cells (madeCells #[.int .i64 0, .int .i64 0, .int .i64 0, .int .u64 0, .int .i64 0] (k * 5)) 30) := ⟨_, rfl⟩
  rw [← hA, ← hw2]
  have b12 : Below w1.heap.size w1 w2 := by rw [hw2]; exact (Below.refl _ _).alloc (Nat.le_refl _) _
  have M2 := hid (M1.out.below b12)
  have PE2 := hid ((b12.block _ (blk_lta PE1.out)).trans PE1.out)
  have NA := hid (show A ≠ b ∧ A ≠ g ∧ A ≠ pe ∧ w.heap.size ≤ A by
    obtain ⟨cc, _, hm⟩ := M1.out.m
    have := hm.sb; have := hm.sg; have := blk_lta PE1.out; have := M1.out.B.size
    omega)
  have S0 := hid (show ∀ j, j < k → Sct w2 A (j * 5) (if j < 0 then 2 else 0) (if j < 0 then 5 else 0) 0 0 0 from fun j hj => by
    rw [if_neg (by omega), if_neg (by omega), hw2, hA]; exact sct_made w1 k j _ hj)
  clear hmk2 hA hw2 b12 M1 PE1
  go_loopw [31] (fun i wr => ∃ (j : Nat), j ≤ k ∧ i = .int .i64 j ∧ Hid (∀ m, m < k → Sct wr A (m * 5) (if m < j then 2 else 0) (if m < j then 5 else 0) 0 0 0) ∧ Hid (Me w wr b g xs 0) ∧ Hid (wr.heap[pe]? = some (.cells #[.int .i64 e] 3 (0, 0)))) (fun i _ => k - (intOf i).toNat)
  case atStart => exact ⟨0, by omega, rfl, S0, M2, PE2⟩
  case round =>
    clear S0 M2 PE2
    obtain ⟨j, hj, rfl, S, M, P⟩ := hrel
    by_cases hlt : j < k
    · have hltI : (j : Int) < (k : Int) := by omega
      go_wp2_with fail
      refine (lock18 _ M.out.T).mono ?_
      rintro x w3 ⟨rfl, hb3⟩
      go_wp2_with fail
      refine (begin_any 2 5 _).mono ?_
      rintro x w4 ⟨rfl, hb4⟩
      have hb := hb3.trans (hb4.mono hb3.size)
      have SJ := (S.out j hlt)
      rw [if_neg (Nat.lt_irrefl _), if_neg (Nat.lt_irrefl _)] at SJ
      have S4 := hid (fun m (hm : m < k) => (S.out m hm).kept (hb.block _ (S.out m hm).lt))
      have SJ4 := SJ.kept (hb.block _ SJ.lt)
      have HJ := hid SJ4
      have M4 := hid (M.out.below hb)
      have P4 := hid ((hb.block _ (blk_lta P.out)).trans P.out)
      have c0 := SJ4.c0
      have c1 := SJ4.c1
      have c2 := SJ4.c2
      have c3 := SJ4.c3
      have c4 := SJ4.c4
      have ff := SJ4.fz
      clear hb3 hb4 hb SJ SJ4 S M P
      go_wp2
      go_roundw
      case rel =>
        refine ⟨j + 1, by omega, by go_num, hid fun m hm => ?_, hid (me_store M4.out NA.out.1 NA.out.2.1 NA.out.2.2.2), hid ((blk_store (Ne.symm NA.out.2.2.1)).trans P4.out)⟩
        by_cases hmj : m = j
        · subst hmj
          rw [if_pos (by omega), if_pos (by omega)]
          exact sct_store HJ.out
        · have h1 := S4.out m hm
          have e1 : (m < j + 1) = (m < j) := propext ⟨fun h => by omega, fun h => by omega⟩
          simp only [e1]
          exact sct_other h1 (by omega)
      case measure => simp [intOf]; omega
    · obtain rfl : j = k := by omega
      have hnlt : ¬ (j : Int) < (j : Int) := by omega
      go_wp2_with fail
      obtain ⟨po, hpo⟩ : ∃ po, po = wr.heap.size := ⟨_, rfl⟩
      obtain ⟨w5, hw5⟩ : ∃ w5, w5 = wr.alloc (.cells #[.slice none 0 0] 33) := ⟨_, rfl⟩
      rw [← hpo, ← hw5]
      obtain ⟨c1, d1, hN⟩ := nxt_ex e true 0 0 (fun _ => ⟨rfl, rfl⟩) (by omega)
      have b5 : Below wr.heap.size wr w5 := by rw [hw5]; exact (Below.refl _ _).alloc (Nat.le_refl _) _
      have G0 := hid (show Sa w A b g po pe j e true 0 0 c1 d1 0 0 0 (.slice none 0 0) w5 from by
        obtain ⟨cc, hcc, hm⟩ := M.out.m
        have l1 := hm.sb; have l2 := hm.sg; have l3 := blk_lta P.out
        have l4 := (S.out 0 (by omega)).lt
        have l5 := M.out.B.size
        refine ⟨fun m hm => ?_, ⟨xs, ?_, ?_, M.out.below b5⟩, by rw [hw5, hpo]; exact heap_alloc_new _ _, ⟨by simp [ordL], .inl ⟨rfl, rfl⟩⟩, (b5.block _ l3).trans P.out, ?_, (fun q hq => by cases hq), hk1⟩
        · have := (S.out m hm).kept (b5.block _ (S.out m hm).lt)
          rw [if_pos hm, if_pos hm] at this
          rw [sg_first, tk_first, tm_first]; exact this
        · exact HZ.out 2
        · exact HZ.out 5
        · have := NA.out; have := NE1.out; have := PG.out; omega)
      have HZ2 := hid hN
      clear S M P hpo hw5 b5 hN HZ hnlt
      obtain ⟨wo, hwo⟩ : ∃ wo : World, wo = w5 := ⟨_, rfl⟩
      rw [← hwo] at G0 ⊢
      clear hwo
      go_loopw [11, 12] (fun rd lf wr => ∃ (z : Bool) (c d c' d' q n : Nat) (v : Value) (R L : Nat), Hid (R = rdB z e c d) ∧ Hid (L = lfB z j c d) ∧ Hid (Ok j e z c d) ∧ Hid (q ≤ 16 * R) ∧ Hid (n = olI z e c d 0) ∧ rd = .int .i64 R ∧ lf = .int .i64 L ∧ Hid (Sa w A b g po pe j e z c d c' d' 0 q n v wr)) (fun rd _ _ => 100 - (intOf rd).toNat)
      case atStart => exact ⟨true, 0, 0, c1, d1, 0, 0, _, 0, j, hid (by simp [rdB]), hid (by simp [lfB]), hid ⟨fun _ => ⟨rfl, rfl⟩, by omega, .inl (by omega)⟩, hid (by omega), hid (by simp [olI]), rfl, rfl, G0⟩
      case round =>
        clear G0 HZ2
        obtain ⟨z, c, d, c', d', q, n, v, R, L, HR, HL, HOK, HQ, HN, rfl, rfl, H⟩ := hrel
        obtain ⟨wx, rfl⟩ : ∃ wx : World, wx = wr := ⟨_, rfl⟩
        by_cases hf : Fin j z c d
        · obtain ⟨hz, hc, hd⟩ := hf
          subst hz; subst hd
          obtain ⟨P, hP⟩ : ∃ P, j * e = P := ⟨_, rfl⟩
          have hP2 : P ≤ 40 := by rw [← hP]; exact Nat.mul_le_mul hk8 he5
          have hRR : R = P + j + 2 := by rw [HR.out, ← hP, hc]; unfold rdB; rw [ifF, Nat.mul_succ]; omega
          have hnP : n = P := by rw [HN.out, ← hP, hc]; unfold olI; rw [ifF, if_neg (by omega)]; omega
          have hLL : L = 0 := by rw [HL.out, hc]; unfold lfB; rw [ifF, if_neg (by omega)]; omega
          have hQ : ((e : Int) + 3) * (j : Int) = (P : Int) + 3 * j := by rw [← hP, Int.add_mul, Int.natCast_mul, Int.mul_comm (e : Int)]
          have hQ2 : (j : Int) * (e : Int) = (P : Int) := by rw [← hP, Int.natCast_mul]
          have hL0 : ¬ (0 : Int) < (L : Int) := by omega
          have hR0 : ¬ (P : Int) + 3 * j + 1 < (R : Int) := by omega
          rw [hnP] at H
          have HO := hid H.out.o
          obtain ⟨a, cp, hv⟩ := H.out.own.slice
          rw [ordL_len] at hv
          subst hv
          have k1 : wx.cell? ⟨po, 0, none⟩ = some (.slice a P cp) := cell_of_blk (i := 0) HO.out rfl
          have k2 : wx.cell? ⟨pe, 0, none⟩ = some (.int .i64 e) := cell_of_blk (i := 0) H.out.oe rfl
          have t0 : ((P : Int) != P) = false := by simp
          have HC := hid hc
          have HQ9 := hid (show q ≤ 10000 by have := HQ.out; omega)
          clear hP hRR hnP hLL hc HR HL HOK HQ HN HO
          go_wp2_with fail
          go_loopw [86] (fun i wr => ∃ (m : Nat), m ≤ P ∧ i = .int .i64 m ∧ Hid (Sa w A b g po pe j e false c 1 c' d' 0 q P (.slice a P cp) wr)) (fun i _ => P - (intOf i).toNat)
          case atStart => exact ⟨0, by omega, rfl, H⟩
          case round =>
            clear H k1 k2
            obtain ⟨m, hm, rfl, H⟩ := hrel
            by_cases hlt : m < P
            · have hltI : (m : Int) < (P : Int) := by omega
              obtain ⟨a', cp', he', _, hrd⟩ := H.out.own.reads
              rw [ordL_len] at hrd he'
              simp only [Value.slice.injEq, true_and] at he'
              obtain ⟨g', off, ha', hg', hcell⟩ := hrd (by omega)
              have haa : a = some ⟨g', off, none⟩ := by rw [he'.1]; exact ha'
              subst haa
              have k1 := hcell m hlt
              rw [ordL_get _ _ _ hlt] at k1
              have k2 : wr.cell? ⟨pe, 0, none⟩ = some (.int .i64 e) := cell_of_blk (i := 0) H.out.oe rfl
              obtain ⟨X, hX⟩ : ∃ X : Int, X = ((m / e : Nat) : Int) := ⟨_, rfl⟩
              rw [← hX] at k1
              have t1 : (m : Int).tdiv (e : Int) = X := by rw [hX]; rfl
              have t2 : (m : Int) / (e : Int) = X := by rw [hX]; rfl
              have t3 : (X != X) = false := by simp
              have x0 : 0 ≤ X := by rw [hX]; exact Int.natCast_nonneg _
              have x1 : X ≤ 40 := by rw [hX]; exact Int.ofNat_le.2 (Nat.le_trans (Nat.div_le_self _ _) (Nat.le_trans (Nat.le_of_lt hlt) hP2))
              clear hrd hcell he' ha' hX
              go_wp2
              go_roundw
              case rel => exact ⟨m + 1, by omega, by go_num, H⟩
              case measure => simp [intOf]; omega
            · obtain rfl : m = P := by omega
              have hnl : ¬ (m : Int) < (m : Int) := by omega
              obtain ⟨xs, x1, x2, hM⟩ := H.out.m
              have x1' : xs.getD 2 0 = (j : Int) := x1
              have x2' : xs.getD 5 0 = (j : Int) := by rw [x2]; unfold svI; rw [ifF, if_neg (by omega)]; rw [HC.out]
              have M := hid hM
              have X1 := hid x1'
              have X2 := hid x2'
              clear x1 x2 x1' x2' hM H
              go_wp2_with fail
              refine (lock18 _ M.out.T).mono ?_
              rintro x w6 ⟨rfl, hb6⟩
              have M6 := hid (M.out.below hb6)
              clear hb6
              obtain ⟨cc, hcc, hmem⟩ := M6.out.m
              have MM := hid hmem
              have HL := hid M6.out.l
              have hcb := hid hcc
              clear hmem hcc
              go_wp2_with fail
              refine (busy_in b g xs cc 2 5 _ MM.out (by have := hcb.out; have := HQ9.out; omega) (by omega) (by have := HL.out; omega) (by omega) (by have := HL.out; omega) (j : Int) (j : Int) X2.out X1.out false (by simp)).mono ?_
              rintro x w7 ⟨rfl, hm7, ho7⟩
              have B7 := hid (M6.out.B.trans (ho7.below M6.out.hb M6.out.hg M6.out.B.size))
              clear hm7 ho7
              go_wp2
              go_ret
              exact ⟨rfl, B7.out⟩
        · obtain ⟨c2, d2, hN⟩ := nxt_ex e z c d HOK.out.1 HOK.out.2.1
          have hke : j * (e + 1) ≤ 8 * 6 := Nat.mul_le_mul hk8 (by omega)
          have r1 := rd_lt HOK.out he1 hk1 hf
          have r2 := lf_pos HOK.out hk1 hf
          rw [← HR.out] at r1
          rw [← HL.out] at r2
          have hL0 : (0 : Int) < (L : Int) := by omega
          have hR0 : (R : Int) < 4000 := by omega
          have hR1 : R < 60 := by omega
          have G1 := hid (show Sa w A b g po pe j e z c d c2 d2 0 q n v wx from ⟨fun m hm => by have := H.out.sc m hm; rw [sg_first, tk_first, tm_first] at this ⊢; exact this, H.out.m, H.out.o, H.out.own, H.out.oe, H.out.ne, H.out.nv, H.out.k1⟩)
          have NX := hid hN
          have HF := hid hf
          have HNX := hid (HOK.out.next he1 hk1 hf hN)
          clear H hN hf hke r1 r2
          go_wp2_with fail
          go_loopw [12, 51] (fun lf i wi => ∃ (m q' : Nat) (v' : Value) (M : Nat), m ≤ j ∧ lf = .int .i64 M ∧ Hid (M = lfI z c m) ∧ i = .int .i64 m ∧ Hid (q' ≤ q + 2 * m) ∧ Hid (Sa w A b g po pe j e z c d c2 d2 m q' (olI z e c d m) v' wi)) (fun _ i _ => j - (intOf i).toNat)
          case atStart => exact ⟨0, q, v, 0, by omega, rfl, hid (by unfold lfI; split <;> simp), rfl, hid (by omega), by rw [HN.out] at G1; exact G1⟩
          case round =>
            clear G1
            obtain ⟨m, q', v', M, hm, rfl, HM, rfl, HQ', H⟩ := hrel
            obtain ⟨wi, rfl⟩ : ∃ wi : World, wi = wr := ⟨_, rfl⟩
            by_cases hlt : m < j
            · have hltI : (m : Int) < (j : Int) := by omega
              have hba : Below wi.heap.size wi (wi.alloc (.cells #[.int .i64 m] 3)) := (Below.refl _ _).alloc (Nat.le_refl _) _
              obtain ⟨pi, hpi⟩ : ∃ pi, pi = wi.heap.size := ⟨_, rfl⟩
              have HB := hid (show (wi.alloc (.cells #[.int .i64 m] 3)).heap[pi]? = some (.cells #[.int .i64 m] 3 (0, 0)) by rw [hpi]; exact heap_alloc_new _ _)
              have ST := hid (sstep (H.out.below hba) NX.out he1 he5 HOK.out.2.1 hlt hk8 (by have := HOK.out.2.2; omega) rfl (by have := HQ'.out; have := HQ.out; omega) pi HB.out (by
                obtain ⟨_, _, _, hM⟩ := H.out.m
                obtain ⟨_, _, hm⟩ := hM.m
                have := H.out.ltA; have := hm.sb; have := hm.sg; have := blk_lta H.out.o; have := blk_lta H.out.oe
                omega) (fun q hq => by have := (H.out.own.lt q hq).2; omega))
              have k0 : (wi.alloc (.cells #[.int .i64 m] 3)).cell? ⟨pi, 0, none⟩ = some (.int .i64 m) := cell_of_blk (i := 0) HB.out rfl
              have hmf : ∀ (fn : Fn) (first cap : Array Value) (w : World), (Instr.makeFunc fn first cap).run Tryd.prog w = .ok (.func fn first cap) w := fun _ _ _ _ => rfl
              clear hba H
              go_wp2_with fail
              rw [← hpi]
              clear hpi
              go_wp2_with fail
              refine ST.out.mono ?_
              rintro x w7 ⟨⟨r, rfl⟩, v2, h7, hp7⟩
              have k1 : w7.cell? ⟨pi, 0, none⟩ = some (.int .i64 m) := cell_of_blk (i := 0) hp7 rfl
              have hs7 := h7.sc m hlt
              rw [sg_new] at hs7
              have k2 := hs7.c2
              have H7 := hid h7
              have LF := hid (lf_step (i := m) NX.out he1 HOK.out.2.1)
              obtain ⟨s, hs⟩ : ∃ s, s = sgB false c2 d2 m := ⟨_, rfl⟩
              rw [← hs] at k2 LF
              clear hs7 hs h7 hp7 ST k0 HB
              rcases LF with ⟨s4, l1⟩ | ⟨s4, l1⟩
              · have k3 : w7.cell? ⟨A, m * 5 + 2, none⟩ = some (.int .i64 4) := by rw [s4] at k2; exact k2
                have HM2 := hid (show M = lfI z c (m + 1) by rw [l1]; exact HM.out)
                clear k2 s4 l1
                go_wp2
                go_roundw
                case rel => exact ⟨m + 1, q' + 2, v2, M, by omega, rfl, HM2, by go_num, hid (by have := HQ'.out; omega), H7⟩
                case measure => simp [intOf]; omega
              · have t4 : ((s : Int) != 4) = true := by rw [bne_iff_ne]; omega
                have HM2 := hid (show M + 1 = lfI z c (m + 1) by rw [l1, ← HM.out])
                have hM9 : (M : Int) < 100 := by
                  have := HM.out
                  have : lfI z c m ≤ m := by unfold lfI; split <;> omega
                  omega
                clear s4 l1
                go_wp2
                go_roundw
                case rel => exact ⟨m + 1, q' + 2, v2, M + 1, by omega, by go_num, HM2, by go_num, hid (by have := HQ'.out; omega), H7⟩
                case measure => simp [intOf]; omega
            · obtain rfl : m = j := by omega
              have hnl : ¬ (m : Int) < (m : Int) := by omega
              have FIN := hid (show ∃ c' d' n', n' = olI false e c2 d2 0 ∧ Sa w A b g po pe m e false c2 d2 c' d' 0 q' n' v' wi from ⟨0, 0, _, rfl, by have := Sa.turn (c2 := 0) (d2 := 0) H.out NX.out (by have := HNX.out.2; omega); rw [ol_next NX.out he1 HNX.out.2] at this; exact this⟩)
              have HM2 := hid (show M = lfB false m c2 d2 by rw [HM.out]; exact lf_next NX.out he1 HNX.out.2)
              have HR2 := hid (show R + 1 = rdB false e c2 d2 by rw [HR.out]; exact rd_next NX.out)
              have HQ2 := hid (show q' ≤ 16 * (R + 1) by have := HQ'.out; have := HQ.out; omega)
              clear H
              go_wp2
              go_roundw
              case rel =>
                obtain ⟨c3, d3, n', hn', h'⟩ := FIN.out
                exact ⟨false, c2, d2, c3, d3, q', n', v', R + 1, M, HR2, HM2, hid HNX.out.1, HQ2, hid hn', by go_num, rfl, hid h'⟩
              case measure => simp [intOf]; omega
      
end Go.Proofs.YtkhkmjldncfbhaaDoor.sectionAll
