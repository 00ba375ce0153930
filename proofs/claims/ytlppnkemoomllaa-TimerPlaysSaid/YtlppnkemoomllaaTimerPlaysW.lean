/- The walk of the statement TimerPlays: the law answers true and turns nothing that was there. Written by wip/tools/gen_tpl10.py. -/
import Derived.Test.YtlppnkemoomllaaTAll
import Derived.Test.YtlppnkemoomllaaTSame
import Derived.Test.YtlppnkemoomllaaLives10
import Derived.Test.YtlppnkemoomllaaStructs
import Derived.OpenShut
import Derived.Deep.CutRange
import Derived.Deep.CutBlock
import Derived.Deep.RegionHeld3
namespace Go.Proofs.Ytlppnkemoomllaa.timerPlays
open Go.RowKit Tk
set_option linter.unusedVariables false
set_option linter.unusedSimpArgs false

set_option maxRecDepth 100000 in
set_option maxHeartbeats 8000000 in
theorem walk (a0 : Int) (a1 : Option Addr) (len1 cap1 : Nat) (z1 : Nat → Nat → Int) (a2 : Int) (w : World) (w0 : (Lit.int .i64 a0).wf = true) (w1 : IsStructs [.u8, .i64, .i64, .i64] w a1 len1 cap1 z1) (w2 : (Lit.int .i64 a2).wf = true) :
    Calls Try.prog 3 #[.int .i64 a0, .slice a1 len1 cap1, .int .i64 a2] w fun e w' => e = .returned (.bool true) ∧ Below w.heap.size w w' := by
  clear w0 w2
  by_cases hlen : (60 : Int) < len1
  · go_enter Try.func3, Try.ntmps3
    go_wp2_with fail
    refine (lives10 _).mono ?_
    rintro e w2 ⟨rfl, hb1⟩
    go_wp2_with fail
    refine (lives10 _).mono ?_
    rintro e w3 ⟨rfl, hb2⟩
    go_wp2
    go_ret
    exact ⟨rfl, hb1.trans (hb2.mono hb1.size)⟩
  · have hlen' : len1 ≤ 60 := by omega
    have W0 := hid w1
    clear w1 hlen
    obtain ⟨n, hn⟩ : ∃ n : Nat, clampT a0 = (n : Int) := ⟨(clampT a0).toNat, by have := clampT_range a0; omega⟩
    have hnr := clampT_range a0
    rw [hn] at hnr
    obtain ⟨hn1, hn2⟩ := hnr
    have HN := hid hn
    clear hn
    go_enter Try.func3, Try.ntmps3
    go_wp2_with fail
    refine (lives10 _).mono ?_
    rintro e w2 ⟨rfl, hb1⟩
    have HB1 := hid hb1
    clear hb1
    go_wp2_with fail
    refine (te_new_c a0 n HN.out _).mono ?_
    rintro e w3 ⟨rfl, ht3, hb3⟩
    have HT3 := hid ht3
    have HB3 := hid hb3
    clear ht3 hb3
    obtain ⟨t, ht⟩ : ∃ t, t = w2.heap.size + 1 := ⟨_, rfl⟩
    rw [← ht] at HT3 ⊢
    clear ht
    go_wp2_with fail
    refine (rtnew a0 _).mono ?_
    rintro e w4 ⟨rfl, hb4⟩
    rw [HN.out]
    have S0 := hid (TW.start HB1.out HT3.out HB3.out hb4)
    obtain ⟨B, hB⟩ : ∃ B, B = w4.heap.size := ⟨_, rfl⟩
    rw [← hB] at S0
    clear hb4 HB1 HT3 HB3
    go_wp2_with fail
    rw [← hB]
    clear hB
    generalize w4.alloc (.cells #[.int .i64 n, .slice none 0 0, .int .u64 0] 29) = w5 at *
    go_loopw [38] (fun i wr => ∃ (k : Nat) (D : List Tr) (o : Nat) (vD : Value), k ≤ len1 ∧ i = .int .i64 k ∧ Hid (TW w t n B k [] D o D o vD wr) ∧ Below w.heap.size w wr) (fun i _ => len1 - (intOf i).toNat)
    case atStart => exact ⟨0, [], 0, _, by omega, rfl, S0, S0.out.bl⟩
    case round =>
      clear S0
      obtain ⟨k, D, o, vD, hk, rfl, F, hbr⟩ := hrel
      by_cases hlt : k < len1
      · obtain ⟨bx, off, rfl, hcell⟩ := W0.out.open (by omega) (by simp)
        obtain ⟨hq0, hw0⟩ := hcell _ hbr k hlt 0 .u8 rfl
        obtain ⟨hq1, hw1⟩ := hcell _ hbr k hlt 1 .i64 rfl
        obtain ⟨hq2, hw2⟩ := hcell _ hbr k hlt 2 .i64 rfl
        obtain ⟨hq3, hw3⟩ := hcell _ hbr k hlt 3 .i64 rfl
        obtain ⟨K, hK⟩ : ∃ x, x = z1 k 0 := ⟨_, rfl⟩
        obtain ⟨P, hP⟩ : ∃ x, x = z1 k 1 := ⟨_, rfl⟩
        obtain ⟨G, hG⟩ : ∃ x, x = z1 k 2 := ⟨_, rfl⟩
        obtain ⟨X, hX⟩ : ∃ x, x = z1 k 3 := ⟨_, rfl⟩
        rw [← hK] at hq0 hw0
        rw [← hP] at hq1
        rw [← hG] at hq2
        rw [← hX] at hq3
        obtain ⟨K0, K1⟩ := bounds_u8 hw0
        simp only [List.length_cons, List.length_nil, Nat.reduceAdd, Nat.add_zero] at hq0 hq1 hq2 hq3
        rw [← Nat.add_assoc] at hq1 hq2 hq3
        clear hcell hw0 hw1 hw2 hw3 hK hP hG hX hbr
        have FA := hid ((F.out.box (.cells #[.int .u8 K, .int .i64 P, .int .i64 G, .int .i64 X] 32)).more)
        obtain ⟨E, hE⟩ : ∃ E, E = wr.heap.size := ⟨_, rfl⟩
        rw [← hE] at FA
        have hk60 : k < 60 := by omega
        obtain ⟨⟨hDk, _⟩, hok, _⟩ := F.out.ln
        clear F
        go_upto_block 2 with (fail)
        rw [← hE]
        clear hE
        generalize wr.alloc (.cells #[.int .u8 K, .int .i64 P, .int .i64 G, .int .i64 X] 32) = wA at *
        go_cut [11, 12, 13, 14, 15, 16, 17, 18, 19, 20, 21, 22, 23, 38] from 39 to 190 (fun s11 s12 s13 s14 s15 s16 s17 s18 s19 s20 s21 s22 s23 s38 wc => ∃ (D2 : List Tr) (o2 : Nat) (vD2 : Value), s38 = .int .i64 k ∧ Hid (TW w t n B (k + 1) [(E, .cells #[.int .u8 K, .int .i64 P, .int .i64 G, .int .i64 X] 32)] D2 o2 D2 o2 vD2 wc))
        case first => as_aux_lemma =>
          rcases (show (K % 6 = 0 ∨ K % 6 = 1 ∨ K % 6 = 2) ∨ (K % 6 = 3 ∨ K % 6 = 4) ∨ K % 6 = 5 by omega) with (hq | hq | hq) | (hq | hq) | hq
          · as_aux_lemma =>
              have t3 : (K % 6 == 3) = false := by simp [hq]
              have t4 : (K % 6 == 4) = false := by simp [hq]
              have t5 : (K % 6 == 5) = false := by simp [hq]
              clear hq
              obtain ⟨aD, nD, cD, rfl, HND, hnd⟩ := FA.out.dt.sl
              have y0 := blk_cell FA.out.bx (i := 0) rfl
              have y1 := blk_cell FA.out.bx (i := 1) rfl
              have y2 := blk_cell FA.out.bx (i := 2) rfl
              have EX := (FA.out.xs _ (.head _)).1
              have e0 := blk_cell EX (i := 0) rfl
              have e1 := blk_cell EX (i := 1) rfl
              have e2 := blk_cell EX (i := 2) rfl
              have e3 := blk_cell EX (i := 3) rfl
              clear EX
              have PE : ∃ pe, addE n D P G = pe := ⟨_, rfl⟩
              obtain ⟨pe, hpe⟩ := PE
              obtain ⟨o5, ho5⟩ : ∃ o5, addO n D P G o = o5 := ⟨_, rfl⟩
              obtain ⟨D5, hD5⟩ : ∃ D5, addD n D P G X o = D5 := ⟨_, rfl⟩
              have lD5 : D5.length ≤ k + 1 := by rw [← hD5]; have := addD_len n D P G X o; omega
              have lo5 : o5 ≤ k + 1 := by rw [← ho5]; have := addO_le n D P G o; omega
              have DC := rtadd_all wA n o _ D FA.out.dt (by omega) (by omega) P G X
              rw [hpe, ho5, hD5] at DC
              have DC := hid DC
              have EQ := hid (And.intro hpe (And.intro ho5 hD5))
              clear hpe ho5 hD5
              go_wp2_with fail
              refine DC.out.mono ?_
              rintro e w5 ⟨vD5, rfl, d5, hb5, k5⟩
              obtain ⟨a5, n5, c5, rfl, _, _⟩ := d5.sl
              have P6 := hid (FA.out.doc2 d5 hb5 k5 (k' := k + 1) (o' := o5) (by omega))
              obtain ⟨b, hb⟩ : ∃ b, b = w5.heap.size := ⟨_, rfl⟩
              have HBN := hid hb
              rw [← hb] at P6
              clear d5 hb5 k5 DC y0 y1 y2 e0 e1 e2 e3 hb
              have x0 := (P6.out.xs _ (.head _)).1
              have XB := hid x0
              have EX := (P6.out.xs _ (.tail _ (.head _))).1
              have e1 := blk_cell EX (i := 1) rfl
              have e2 := blk_cell EX (i := 2) rfl
              have e3 := blk_cell EX (i := 3) rfl
              have BN := hid P6.out.bx
              have P7 := hid (P6.out.move (X' := [(E, .cells #[.int .u8 K, .int .i64 P, .int .i64 G, .int .i64 X] 32)]) (.head _) FA.out.ge (fun x hx => by
                obtain rfl := List.mem_singleton.1 hx
                exact ⟨.tail _ (.head _), (FA.out.xs _ (.head _)).2⟩))
              have EX7 := (P7.out.xs _ (.head _)).1
              clear EX x0
              go_wp2_with (first
                | (refine wpList_load_known (by rfl) 29 (.tmp 17) rfl w5.heap.size rfl 29 #[.int .i64 n, .slice a5 n5 c5, .int .u64 o5] (0, 0) _ (by rw [← HBN.out]; exact BN.out) Try.underlying29 rfl (by kernel_rfl) ?_)
                | (refine wpList_store_row rfl 29 (.tmp 8) (.tmp 56) rfl B #[.int .i64 n, .slice a5 n5 c5, .int .u64 o5] rfl rfl 29 _ XB.out (by kernel_rfl) (by rfl) (by simp [Value.oneCell']) ?_; clear e1 e2 e3; have e1 := blk_cell EX7 (i := 1) rfl; have e2 := blk_cell EX7 (i := 2) rfl; have e3 := blk_cell EX7 (i := 3) rfl))
              have PC := P7.out.padd (by omega) (by omega) (by omega) P G X
              rw [EQ.out.1, EQ.out.2.1, EQ.out.2.2] at PC
              refine PC.mono ?_
              rintro e w7 ⟨rfl, P8⟩
              have P8 := hid P8
              clear PC P7 P6 FA e1 e2 e3 EX7 XB BN EQ
              go_wp2_with fail
              go_meet
              exact ⟨_, _, _, rfl, P8⟩
          · as_aux_lemma =>
              have t3 : (K % 6 == 3) = false := by simp [hq]
              have t4 : (K % 6 == 4) = false := by simp [hq]
              have t5 : (K % 6 == 5) = false := by simp [hq]
              clear hq
              obtain ⟨aD, nD, cD, rfl, HND, hnd⟩ := FA.out.dt.sl
              have y0 := blk_cell FA.out.bx (i := 0) rfl
              have y1 := blk_cell FA.out.bx (i := 1) rfl
              have y2 := blk_cell FA.out.bx (i := 2) rfl
              have EX := (FA.out.xs _ (.head _)).1
              have e0 := blk_cell EX (i := 0) rfl
              have e1 := blk_cell EX (i := 1) rfl
              have e2 := blk_cell EX (i := 2) rfl
              have e3 := blk_cell EX (i := 3) rfl
              clear EX
              have PE : ∃ pe, addE n D P G = pe := ⟨_, rfl⟩
              obtain ⟨pe, hpe⟩ := PE
              obtain ⟨o5, ho5⟩ : ∃ o5, addO n D P G o = o5 := ⟨_, rfl⟩
              obtain ⟨D5, hD5⟩ : ∃ D5, addD n D P G X o = D5 := ⟨_, rfl⟩
              have lD5 : D5.length ≤ k + 1 := by rw [← hD5]; have := addD_len n D P G X o; omega
              have lo5 : o5 ≤ k + 1 := by rw [← ho5]; have := addO_le n D P G o; omega
              have DC := rtadd_all wA n o _ D FA.out.dt (by omega) (by omega) P G X
              rw [hpe, ho5, hD5] at DC
              have DC := hid DC
              have EQ := hid (And.intro hpe (And.intro ho5 hD5))
              clear hpe ho5 hD5
              go_wp2_with fail
              refine DC.out.mono ?_
              rintro e w5 ⟨vD5, rfl, d5, hb5, k5⟩
              obtain ⟨a5, n5, c5, rfl, _, _⟩ := d5.sl
              have P6 := hid (FA.out.doc2 d5 hb5 k5 (k' := k + 1) (o' := o5) (by omega))
              obtain ⟨b, hb⟩ : ∃ b, b = w5.heap.size := ⟨_, rfl⟩
              have HBN := hid hb
              rw [← hb] at P6
              clear d5 hb5 k5 DC y0 y1 y2 e0 e1 e2 e3 hb
              have x0 := (P6.out.xs _ (.head _)).1
              have XB := hid x0
              have EX := (P6.out.xs _ (.tail _ (.head _))).1
              have e1 := blk_cell EX (i := 1) rfl
              have e2 := blk_cell EX (i := 2) rfl
              have e3 := blk_cell EX (i := 3) rfl
              have BN := hid P6.out.bx
              have P7 := hid (P6.out.move (X' := [(E, .cells #[.int .u8 K, .int .i64 P, .int .i64 G, .int .i64 X] 32)]) (.head _) FA.out.ge (fun x hx => by
                obtain rfl := List.mem_singleton.1 hx
                exact ⟨.tail _ (.head _), (FA.out.xs _ (.head _)).2⟩))
              have EX7 := (P7.out.xs _ (.head _)).1
              clear EX x0
              go_wp2_with (first
                | (refine wpList_load_known (by rfl) 29 (.tmp 17) rfl w5.heap.size rfl 29 #[.int .i64 n, .slice a5 n5 c5, .int .u64 o5] (0, 0) _ (by rw [← HBN.out]; exact BN.out) Try.underlying29 rfl (by kernel_rfl) ?_)
                | (refine wpList_store_row rfl 29 (.tmp 8) (.tmp 56) rfl B #[.int .i64 n, .slice a5 n5 c5, .int .u64 o5] rfl rfl 29 _ XB.out (by kernel_rfl) (by rfl) (by simp [Value.oneCell']) ?_; clear e1 e2 e3; have e1 := blk_cell EX7 (i := 1) rfl; have e2 := blk_cell EX7 (i := 2) rfl; have e3 := blk_cell EX7 (i := 3) rfl))
              have PC := P7.out.padd (by omega) (by omega) (by omega) P G X
              rw [EQ.out.1, EQ.out.2.1, EQ.out.2.2] at PC
              refine PC.mono ?_
              rintro e w7 ⟨rfl, P8⟩
              have P8 := hid P8
              clear PC P7 P6 FA e1 e2 e3 EX7 XB BN EQ
              go_wp2_with fail
              go_meet
              exact ⟨_, _, _, rfl, P8⟩
          · as_aux_lemma =>
              have t3 : (K % 6 == 3) = false := by simp [hq]
              have t4 : (K % 6 == 4) = false := by simp [hq]
              have t5 : (K % 6 == 5) = false := by simp [hq]
              clear hq
              obtain ⟨aD, nD, cD, rfl, HND, hnd⟩ := FA.out.dt.sl
              have y0 := blk_cell FA.out.bx (i := 0) rfl
              have y1 := blk_cell FA.out.bx (i := 1) rfl
              have y2 := blk_cell FA.out.bx (i := 2) rfl
              have EX := (FA.out.xs _ (.head _)).1
              have e0 := blk_cell EX (i := 0) rfl
              have e1 := blk_cell EX (i := 1) rfl
              have e2 := blk_cell EX (i := 2) rfl
              have e3 := blk_cell EX (i := 3) rfl
              clear EX
              have PE : ∃ pe, addE n D P G = pe := ⟨_, rfl⟩
              obtain ⟨pe, hpe⟩ := PE
              obtain ⟨o5, ho5⟩ : ∃ o5, addO n D P G o = o5 := ⟨_, rfl⟩
              obtain ⟨D5, hD5⟩ : ∃ D5, addD n D P G X o = D5 := ⟨_, rfl⟩
              have lD5 : D5.length ≤ k + 1 := by rw [← hD5]; have := addD_len n D P G X o; omega
              have lo5 : o5 ≤ k + 1 := by rw [← ho5]; have := addO_le n D P G o; omega
              have DC := rtadd_all wA n o _ D FA.out.dt (by omega) (by omega) P G X
              rw [hpe, ho5, hD5] at DC
              have DC := hid DC
              have EQ := hid (And.intro hpe (And.intro ho5 hD5))
              clear hpe ho5 hD5
              go_wp2_with fail
              refine DC.out.mono ?_
              rintro e w5 ⟨vD5, rfl, d5, hb5, k5⟩
              obtain ⟨a5, n5, c5, rfl, _, _⟩ := d5.sl
              have P6 := hid (FA.out.doc2 d5 hb5 k5 (k' := k + 1) (o' := o5) (by omega))
              obtain ⟨b, hb⟩ : ∃ b, b = w5.heap.size := ⟨_, rfl⟩
              have HBN := hid hb
              rw [← hb] at P6
              clear d5 hb5 k5 DC y0 y1 y2 e0 e1 e2 e3 hb
              have x0 := (P6.out.xs _ (.head _)).1
              have XB := hid x0
              have EX := (P6.out.xs _ (.tail _ (.head _))).1
              have e1 := blk_cell EX (i := 1) rfl
              have e2 := blk_cell EX (i := 2) rfl
              have e3 := blk_cell EX (i := 3) rfl
              have BN := hid P6.out.bx
              have P7 := hid (P6.out.move (X' := [(E, .cells #[.int .u8 K, .int .i64 P, .int .i64 G, .int .i64 X] 32)]) (.head _) FA.out.ge (fun x hx => by
                obtain rfl := List.mem_singleton.1 hx
                exact ⟨.tail _ (.head _), (FA.out.xs _ (.head _)).2⟩))
              have EX7 := (P7.out.xs _ (.head _)).1
              clear EX x0
              go_wp2_with (first
                | (refine wpList_load_known (by rfl) 29 (.tmp 17) rfl w5.heap.size rfl 29 #[.int .i64 n, .slice a5 n5 c5, .int .u64 o5] (0, 0) _ (by rw [← HBN.out]; exact BN.out) Try.underlying29 rfl (by kernel_rfl) ?_)
                | (refine wpList_store_row rfl 29 (.tmp 8) (.tmp 56) rfl B #[.int .i64 n, .slice a5 n5 c5, .int .u64 o5] rfl rfl 29 _ XB.out (by kernel_rfl) (by rfl) (by simp [Value.oneCell']) ?_; clear e1 e2 e3; have e1 := blk_cell EX7 (i := 1) rfl; have e2 := blk_cell EX7 (i := 2) rfl; have e3 := blk_cell EX7 (i := 3) rfl))
              have PC := P7.out.padd (by omega) (by omega) (by omega) P G X
              rw [EQ.out.1, EQ.out.2.1, EQ.out.2.2] at PC
              refine PC.mono ?_
              rintro e w7 ⟨rfl, P8⟩
              have P8 := hid P8
              clear PC P7 P6 FA e1 e2 e3 EX7 XB BN EQ
              go_wp2_with fail
              go_meet
              exact ⟨_, _, _, rfl, P8⟩
          · as_aux_lemma =>
              have t3 : (K % 6 == 3) = true := by simp [hq]
              have t4 : (K % 6 == 4) = false := by simp [hq]
              have t5 : (K % 6 == 5) = false := by simp [hq]
              clear hq
              obtain ⟨aD, nD, cD, rfl, HND, hnd⟩ := FA.out.dt.sl
              have y0 := blk_cell FA.out.bx (i := 0) rfl
              have y1 := blk_cell FA.out.bx (i := 1) rfl
              have y2 := blk_cell FA.out.bx (i := 2) rfl
              have EX := (FA.out.xs _ (.head _)).1
              have e0 := blk_cell EX (i := 0) rfl
              have e1 := blk_cell EX (i := 1) rfl
              have e2 := blk_cell EX (i := 2) rfl
              have e3 := blk_cell EX (i := 3) rfl
              clear EX
              obtain ⟨m, hm⟩ : ∃ m, tkE D X = m := ⟨_, rfl⟩
              obtain ⟨m1, m2, m3⟩ := m
              obtain ⟨D5, hD5⟩ : ∃ D5, tkD D X = D5 := ⟨_, rfl⟩
              obtain ⟨du, hdu⟩ : ∃ du, dueT D X = du := ⟨_, rfl⟩
              have lD5 : D5.length ≤ k := by rw [← hD5]; have := tkD_len D X; omega
              have DC := rttake_all wA n o _ D FA.out.dt X
              rw [hm, hdu, hD5] at DC
              have DC := hid DC
              have EQ := hid (And.intro hm (And.intro hdu hD5))
              clear hm hdu hD5
              go_wp2_with fail
              refine DC.out.mono ?_
              rintro e w5 ⟨vD5, rfl, d5, hb5, k5⟩
              obtain ⟨a5, n5, c5, rfl, _, _⟩ := d5.sl
              have P6 := hid (FA.out.doc2 d5 hb5 k5 (k' := k + 1) (o' := o) (by omega))
              have P7 := P6.out.box (.cells #[.int .i64 m1, .int .u64 m2, .int .i64 m3] 34)
              simp only [World.size_alloc] at P7
              have P7 := hid P7
              have lB : B < w5.heap.size + 1 := by have := blk_ltO (P6.out.xs _ (.head _)).1; simpa using this
              clear d5 hb5 k5 DC y0 y1 y2 e0 e1 e2 e3
              dsimp only
              have e3 := blk_cell (P7.out.xs _ (.tail _ (.tail _ (.head _)))).1 (i := 3) rfl
              go_wp2_with fail
              have PC := P7.out.ptake X
              rw [EQ.out.1, EQ.out.2.1, EQ.out.2.2] at PC
              dsimp only at PC
              refine PC.mono ?_
              rintro e w7 ⟨rfl, p8⟩
              have P9 := hid (p8.box (.cells #[.int .i64 m1, .int .u64 m2, .int .i64 m3] 37))
              have BN := hid P9.out.bx
              have XB := hid (P9.out.xs _ (.tail _ (.tail _ (.head _)))).1
              have lB7 : B < w7.heap.size := blk_ltO (p8.xs _ (.tail _ (.head _))).1
              have P10 := hid (P9.out.move (X' := [(w7.heap.size, .cells #[.int .i64 m1, .int .u64 m2, .int .i64 m3] 37), (w5.heap.size + 1, .cells #[.int .i64 m1, .int .u64 m2, .int .i64 m3] 34), (E, .cells #[.int .u8 K, .int .i64 P, .int .i64 G, .int .i64 X] 32)]) (.tail _ (.tail _ (.head _))) FA.out.ge (fun x hx => by
                simp only [List.mem_cons, List.not_mem_nil, or_false] at hx
                rcases hx with rfl | rfl | rfl
                · exact ⟨.head _, by simp only; omega⟩
                · exact ⟨.tail _ (.head _), by simp only; omega⟩
                · exact ⟨.tail _ (.tail _ (.tail _ (.head _))), (FA.out.xs _ (.head _)).2⟩))
              have P11 := hid P10.out.drop.drop
              have h1 := (P10.out.xs _ (.head _)).1
              have h2 := (P10.out.xs _ (.tail _ (.head _))).1
              have x0 := blk_cell h1 (i := 0) rfl
              have x1 := blk_cell h1 (i := 1) rfl
              have x2 := blk_cell h1 (i := 2) rfl
              have v0 := blk_cell h2 (i := 0) rfl
              have v1 := blk_cell h2 (i := 1) rfl
              have v2 := blk_cell h2 (i := 2) rfl
              have q0 : (m1 == m1) = true := by simp
              have q1 : (m2 == m2) = true := by simp
              have q2 : (m3 == m3) = true := by simp
              have dd : (du != du) = false := by simp
              clear p8 P6 P7 P9 P10 h1 h2 FA PC EQ e3
              go_wp2_with (first
                | (refine wpList_load_known (by rfl) 29 (.tmp 11) rfl w5.heap.size rfl 29 #[.int .i64 n, .slice a5 n5 c5, .int .u64 o] (0, 0) _ BN.out Try.underlying29 rfl (by kernel_rfl) ?_)
                | (refine wpList_store_row rfl 29 (.tmp 8) (.tmp 85) rfl B #[.int .i64 n, .slice a5 n5 c5, .int .u64 o] rfl rfl 29 _ XB.out (by kernel_rfl) (by rfl) (by simp [Value.oneCell']) ?_))
              go_meet
              exact ⟨_, _, _, rfl, P11⟩
          · as_aux_lemma =>
              have t3 : (K % 6 == 3) = false := by simp [hq]
              have t4 : (K % 6 == 4) = true := by simp [hq]
              have t5 : (K % 6 == 5) = false := by simp [hq]
              clear hq
              obtain ⟨aD, nD, cD, rfl, HND, hnd⟩ := FA.out.dt.sl
              have y0 := blk_cell FA.out.bx (i := 0) rfl
              have y1 := blk_cell FA.out.bx (i := 1) rfl
              have y2 := blk_cell FA.out.bx (i := 2) rfl
              have EX := (FA.out.xs _ (.head _)).1
              have e0 := blk_cell EX (i := 0) rfl
              have e1 := blk_cell EX (i := 1) rfl
              have e2 := blk_cell EX (i := 2) rfl
              have e3 := blk_cell EX (i := 3) rfl
              clear EX
              obtain ⟨m, hm⟩ : ∃ m, tkE D X = m := ⟨_, rfl⟩
              obtain ⟨m1, m2, m3⟩ := m
              obtain ⟨D5, hD5⟩ : ∃ D5, tkD D X = D5 := ⟨_, rfl⟩
              obtain ⟨du, hdu⟩ : ∃ du, dueT D X = du := ⟨_, rfl⟩
              have lD5 : D5.length ≤ k := by rw [← hD5]; have := tkD_len D X; omega
              have DC := rttake_all wA n o _ D FA.out.dt X
              rw [hm, hdu, hD5] at DC
              have DC := hid DC
              have EQ := hid (And.intro hm (And.intro hdu hD5))
              clear hm hdu hD5
              go_wp2_with fail
              refine DC.out.mono ?_
              rintro e w5 ⟨vD5, rfl, d5, hb5, k5⟩
              obtain ⟨a5, n5, c5, rfl, _, _⟩ := d5.sl
              have P6 := hid (FA.out.doc2 d5 hb5 k5 (k' := k + 1) (o' := o) (by omega))
              have P7 := P6.out.box (.cells #[.int .i64 m1, .int .u64 m2, .int .i64 m3] 34)
              simp only [World.size_alloc] at P7
              have P7 := hid P7
              have lB : B < w5.heap.size + 1 := by have := blk_ltO (P6.out.xs _ (.head _)).1; simpa using this
              clear d5 hb5 k5 DC y0 y1 y2 e0 e1 e2 e3
              dsimp only
              have e3 := blk_cell (P7.out.xs _ (.tail _ (.tail _ (.head _)))).1 (i := 3) rfl
              go_wp2_with fail
              have PC := P7.out.ptake X
              rw [EQ.out.1, EQ.out.2.1, EQ.out.2.2] at PC
              dsimp only at PC
              refine PC.mono ?_
              rintro e w7 ⟨rfl, p8⟩
              have P9 := hid (p8.box (.cells #[.int .i64 m1, .int .u64 m2, .int .i64 m3] 37))
              have BN := hid P9.out.bx
              have XB := hid (P9.out.xs _ (.tail _ (.tail _ (.head _)))).1
              have lB7 : B < w7.heap.size := blk_ltO (p8.xs _ (.tail _ (.head _))).1
              have P10 := hid (P9.out.move (X' := [(w7.heap.size, .cells #[.int .i64 m1, .int .u64 m2, .int .i64 m3] 37), (w5.heap.size + 1, .cells #[.int .i64 m1, .int .u64 m2, .int .i64 m3] 34), (E, .cells #[.int .u8 K, .int .i64 P, .int .i64 G, .int .i64 X] 32)]) (.tail _ (.tail _ (.head _))) FA.out.ge (fun x hx => by
                simp only [List.mem_cons, List.not_mem_nil, or_false] at hx
                rcases hx with rfl | rfl | rfl
                · exact ⟨.head _, by simp only; omega⟩
                · exact ⟨.tail _ (.head _), by simp only; omega⟩
                · exact ⟨.tail _ (.tail _ (.tail _ (.head _))), (FA.out.xs _ (.head _)).2⟩))
              have P11 := hid P10.out.drop.drop
              have h1 := (P10.out.xs _ (.head _)).1
              have h2 := (P10.out.xs _ (.tail _ (.head _))).1
              have x0 := blk_cell h1 (i := 0) rfl
              have x1 := blk_cell h1 (i := 1) rfl
              have x2 := blk_cell h1 (i := 2) rfl
              have v0 := blk_cell h2 (i := 0) rfl
              have v1 := blk_cell h2 (i := 1) rfl
              have v2 := blk_cell h2 (i := 2) rfl
              have q0 : (m1 == m1) = true := by simp
              have q1 : (m2 == m2) = true := by simp
              have q2 : (m3 == m3) = true := by simp
              have dd : (du != du) = false := by simp
              clear p8 P6 P7 P9 P10 h1 h2 FA PC EQ e3
              go_wp2_with (first
                | (refine wpList_load_known (by rfl) 29 (.tmp 11) rfl w5.heap.size rfl 29 #[.int .i64 n, .slice a5 n5 c5, .int .u64 o] (0, 0) _ BN.out Try.underlying29 rfl (by kernel_rfl) ?_)
                | (refine wpList_store_row rfl 29 (.tmp 8) (.tmp 85) rfl B #[.int .i64 n, .slice a5 n5 c5, .int .u64 o] rfl rfl 29 _ XB.out (by kernel_rfl) (by rfl) (by simp [Value.oneCell']) ?_))
              go_meet
              exact ⟨_, _, _, rfl, P11⟩
          · as_aux_lemma =>
              have t3 : (K % 6 == 3) = false := by simp [hq]
              have t4 : (K % 6 == 4) = false := by simp [hq]
              have t5 : (K % 6 == 5) = true := by simp [hq]
              clear hq
              obtain ⟨aD, nD, cD, rfl, HND, hnd⟩ := FA.out.dt.sl
              have y0 := blk_cell FA.out.bx (i := 0) rfl
              have y1 := blk_cell FA.out.bx (i := 1) rfl
              have y2 := blk_cell FA.out.bx (i := 2) rfl
              have EX := (FA.out.xs _ (.head _)).1
              have e0 := blk_cell EX (i := 0) rfl
              have e1 := blk_cell EX (i := 1) rfl
              have e2 := blk_cell EX (i := 2) rfl
              have e3 := blk_cell EX (i := 3) rfl
              clear EX
              have PC := FA.out.pcopy (by omega) (by omega) (by omega)
              clear y0 y1 y2 e0 e1 e2 e3
              go_wp2_with fail
              refine PC.mono ?_
              rintro e w5 ⟨rfl, hc5⟩
              have AC := hid (hc5.add (by omega))
              clear PC hc5
              obtain ⟨c, hc⟩ : ∃ c, c = wA.heap.size + 1 := ⟨_, rfl⟩
              rw [← hc] at AC ⊢
              clear hc
              go_wp2_with fail
              refine AC.out.mono ?_
              rintro e w6 ⟨⟨r, rfl⟩, hb6, es6, L6, ad6, ht6⟩
              have TC := hid (cpy_take hb6 ht6 9223372036854775807)
              clear AC hb6 ht6
              go_wp2_with fail
              refine TC.out.mono ?_
              rintro e w7 ⟨⟨r1, r2, r3, r4, rfl⟩, hb7⟩
              have P8 := hid (FA.out.below hb7)
              clear TC FA hb7
              go_wp2_with fail
              go_meet
              exact ⟨_, _, _, rfl, P8⟩
        case rest =>
          obtain ⟨D2, o2, vD2, rfl, P2⟩ := hcut
          clear FA
          obtain ⟨aD, nD, cD, rfl, _, _⟩ := P2.out.dt.sl
          obtain ⟨HQ, hHQ⟩ : ∃ HQ : World → Prop, HQ = fun y => TW w t n B (k + 1) [(E, .cells #[.int .u8 K, .int .i64 P, .int .i64 G, .int .i64 X] 32)] D2 o2 D2 o2 (.slice aD nD cD) y := ⟨_, rfl⟩
          have H0 : HQ wc := by rw [hHQ]; exact P2.out
          have UQ : Hid (∀ y, HQ y → TW w t n B (k + 1) [(E, .cells #[.int .u8 K, .int .i64 P, .int .i64 G, .int .i64 X] 32)] D2 o2 D2 o2 (.slice aD nD cD) y) := hid (fun y hy => by rw [hHQ] at hy; exact hy)
          have HB : Hid (∀ y y', HQ y → Below y.heap.size y y' → HQ y') := hid (fun y y' hy hb => by rw [hHQ] at hy ⊢; exact hy.below hb)
          have HS0 : Hid (∀ y, HQ y → y.cell? ⟨B, 0, none⟩ = some (.int .i64 n) ∧ y.cell? ⟨B, 1, none⟩ = some (.slice aD nD cD) ∧ y.cell? ⟨B, 2, none⟩ = some (.int .u64 o2) ∧ y.cell? ⟨E, 2, none⟩ = some (.int .i64 G) ∧ y.cell? ⟨E, 3, none⟩ = some (.int .i64 X)) := hid (fun y hy => by
            rw [hHQ] at hy
            exact ⟨blk_cell hy.bx rfl, blk_cell hy.bx rfl, blk_cell hy.bx rfl, blk_cell (hy.xs _ (.head _)).1 rfl, blk_cell (hy.xs _ (.head _)).1 rfl⟩)
          have hln := P2.out.ln
          have hnl : (firstE D2).length = D2.length := by unfold firstE; rw [sort_len, List.length_map]
          have CO := hid (fun (p : Nat) (y : World) (hy : HQ y) => (UQ.out y hy).ofp (by omega) p)
          have RO := hid (fun (p : Int) (y : World) (hy : HQ y) => rtof_any y n o2 _ D2 (UQ.out y hy).dt p)
          have RA := hid (fun (y : World) (hy : HQ y) => (rtof_any y n o2 _ D2 (UQ.out y hy).dt (-1)).mono (R' := fun e y' => ∃ aa ca, e = .returned (.slice aa (firstE D2).length ca) ∧ Rd3 y' (.slice aa (firstE D2).length ca) (firstE D2) ∧ HQ y') (fun e y' h => by
            obtain ⟨v, rfl, h1, h2⟩ := h
            rw [ofL_all] at h1
            have h3 := h1
            obtain ⟨aa, ca, rfl, _⟩ := h1
            exact ⟨aa, ca, rfl, h3, HB.out y y' hy h2⟩))
          have CN := hid (fun (y : World) (hy : HQ y) => (UQ.out y hy).next.mono (fun e y' (h : _ ∧ _) => And.intro h.1 (And.intro (HB.out y y' hy h.2) h.2)))
          have CL0 := hid (fun (y : World) (hy : HQ y) => (UQ.out y hy).len.mono (R' := fun e y' => e = .returned (.int .i64 (firstE D2).length) ∧ y' = y) (fun e y' h => by rw [hnl]; exact h))
          have CH0 := hid (fun (g : Int) (y : World) (hy : HQ y) => (UQ.out y hy).has g)
          have RH0 := hid (fun (g : Int) (y : World) (hy : HQ y) => rthas_any y n o2 _ D2 (UQ.out y hy).dt g _ rfl)
          have CD0 := hid (fun (y : World) (hy : HQ y) => (UQ.out y hy).due X)
          obtain ⟨y0, y1, y2, e2, e3⟩ := HS0.out wc H0
          have hl1000 : (firstE D2).length ≤ 1000 := by rw [hnl]; omega
          have SL := hid (fun p => show (sortE (ofL p D2)).length ≤ 1000 by rw [sort_len]; have := ofL_len p D2; omega)
          have isb : Hid (decide (0 < D2.length) = decide (0 < (firstE D2).length)) := hid (by rw [hnl])
          rw [isb.out] at CN
          clear P2 hHQ hln hnl isb
          go_wp2_with fail
          refine (RA.out _ H0).mono ?_
          rintro e z1 ⟨aa, ca, rfl, rd1, H1⟩
          have RD1 := hid rd1
          clear RA H0 y0 y1 y2 e2 e3 rd1
          obtain ⟨is, his⟩ : ∃ is, is = decide (0 < (firstE D2).length) := ⟨_, rfl⟩
          obtain ⟨nx, hnx⟩ : ∃ nx, nx = nextT D2 := ⟨_, rfl⟩
          rw [← his, ← hnx] at CN
          go_wp2_with fail
          refine (CN.out _ H1).mono ?_
          rintro e z2 ⟨rfl, H2, b2⟩
          have RD := hid (RD1.out.below b2)
          clear RD1 CN H1 b2
          obtain ⟨mL, hmL⟩ : ∃ mL, mL = (firstE D2).length := ⟨_, rfl⟩
          rw [← hmL] at RD CL0 hl1000 ⊢
          have HIS := hid his
          have HNX := hid hnx
          have HML := hid hmL
          clear his hnx hmL
          obtain ⟨HR, hHR⟩ : ∃ HR : World → Prop, HR = fun y => HQ y ∧ Rd3 y (.slice aa mL ca) (firstE D2) := ⟨_, rfl⟩
          have H4 : HR z2 := by rw [hHR]; exact ⟨H2, RD.out⟩
          have RQ := hid (show ∀ y, HR y → HQ y ∧ Rd3 y (.slice aa mL ca) (firstE D2) from fun y hy => by rw [hHR] at hy; exact hy)
          have RB := hid (show ∀ y y', HR y → Below y.heap.size y y' → HR y' from fun y y' hy hb => by rw [hHR] at hy ⊢; exact ⟨HB.out y y' hy.1 hb, hy.2.below hb⟩)
          have CH := hid (fun (g : Int) (y : World) (hy : HR y) => (CH0.out g y (RQ.out y hy).1).mono (R' := fun e y' => e = .returned (.bool (thasb D2 g)) ∧ HR y') (fun e y' h => ⟨h.1, by rw [h.2]; exact hy⟩))
          have RH := hid (fun (g : Int) (y : World) (hy : HR y) => (RH0.out g y (RQ.out y hy).1).mono (fun e y' (h : _ ∧ _) => And.intro h.1 (RB.out y y' hy h.2)))
          have CL1 := hid (fun (y : World) (hy : HR y) => (CL0.out y (RQ.out y hy).1).mono (R' := fun e y' => e = .returned (.int .i64 mL) ∧ HR y') (fun e y' h => ⟨h.1, by rw [h.2]; exact hy⟩))
          have CD1 := hid (fun (y : World) (hy : HR y) => (CD0.out y (RQ.out y hy).1).mono (fun e y' (h : _ ∧ _) => And.intro h.1 (RB.out y y' hy h.2)))
          clear hHR CH0 RH0 CL0 CD0 H2 RD
          go_upto_region 25 with (fail)
          go_cut [38, 159] from 39 to 190 (fun s38 s159 wx => s38 = .int .i64 k ∧ s159 = .bool false ∧ HR wx)
          case first => as_aux_lemma =>
            have HD := RB.out _ _ H4 (bl_drw z2 _)
            have CH1 := hid (CH.out a2)
            have CH2 := hid (CH.out G)
            have RH1 := hid (RH.out a2)
            have RH2 := hid (RH.out G)
            have b1n : (thasb D2 a2 != thasb D2 a2) = false := by simp
            have b2n : (thasb D2 G != thasb D2 G) = false := by simp
            generalize thasb D2 a2 = ba at *
            generalize thasb D2 G = bg at *
            rcases hL : firstE D2 with _ | ⟨⟨y1, y2, y3⟩, l⟩
            · as_aux_lemma =>
                obtain rfl : mL = 0 := by have := HML.out; rw [hL] at this; exact this
                obtain rfl : is = false := by have := HIS.out; rw [hL] at this; exact this
                obtain rfl : nx = 0 := by have := HNX.out; unfold nextT at this; rw [hL] at this; exact this
                have CL := CL1
                rw [show ((0 : Nat) : Int) = 0 from rfl] at CL
                have nn : ((0 : Int) != 0) = false := by simp
                have HS := hid (fun y (hy : HR y) => HS0.out y (RQ.out y hy).1)
                clear hL HML HIS HNX CL1
                refine wp_region_held_drew (S := fun w' => w'.cell? ⟨B, 0, none⟩ = some (.int .i64 n) ∧ w'.cell? ⟨B, 1, none⟩ = some (.slice aD nD cD) ∧ w'.cell? ⟨B, 2, none⟩ = some (.int .u64 o2) ∧ w'.cell? ⟨E, 2, none⟩ = some (.int .i64 G) ∧ w'.cell? ⟨E, 3, none⟩ = some (.int .i64 X)) (by kernel_rfl) (HS.out _ HD) (fun hHeld => ?_)
                refine wpAnyH_take (i := 0) (oi := _) (v := ?_) rfl (by kernel_rfl) (by kernel_rfl) (by kernel_rfl) (fun _ _ _ h => h) (Or.inl ⟨by rfl, ?_⟩) (by assumption) ?_
                rotate_left
                · intro w hSw
                  try dsimp only at hSw
                  go_simp
                  with_reducible rfl
                try simp only [Act.put, List.getElem_toArray, List.getElem_cons_zero, List.getElem_cons_succ, List.setIfInBounds_toArray, List.set_cons_zero, List.set_cons_succ]
                refine wpAnyH_take (i := 2) (oi := _) (v := ?_) rfl (by kernel_rfl) (by kernel_rfl) (by kernel_rfl) (fun _ _ _ h => h) (Or.inl ⟨by rfl, ?_⟩) (by assumption) ?_
                rotate_left
                · intro w hSw
                  try dsimp only at hSw
                  go_simp
                  with_reducible rfl
                try simp only [Act.put, List.getElem_toArray, List.getElem_cons_zero, List.getElem_cons_succ, List.setIfInBounds_toArray, List.set_cons_zero, List.set_cons_succ]
                refine wpAnyH_take (i := 3) (oi := _) (v := ?_) rfl (by kernel_rfl) (by kernel_rfl) (by kernel_rfl) (fun _ _ _ h => h) (Or.inl ⟨by rfl, ?_⟩) (by assumption) ?_
                rotate_left
                · intro w hSw
                  try dsimp only at hSw
                  go_simp
                  with_reducible rfl
                try simp only [Act.put, List.getElem_toArray, List.getElem_cons_zero, List.getElem_cons_succ, List.setIfInBounds_toArray, List.set_cons_zero, List.set_cons_succ]
                refine wpAnyH_ready (rs := [1]) (by kernel_rfl) (by simp) ?_
                refine AllReadyH.cons (o := _) rfl (fun K hK => ?_) AllReadyH.nil
                go_simp
                go_at_call 14
                (with_reducible refine (CL.out _ HD).mono ?_)
                rintro e u1 ⟨rfl, H5⟩
                go_wp2_with fail
                refine hK.out _ _ (HS.out _ H5) (fun hHeld => ?_)
                clear hK K
                try simp only [Act.put, List.getElem_toArray, List.getElem_cons_zero, List.getElem_cons_succ, List.setIfInBounds_toArray, List.set_cons_zero, List.set_cons_succ]
                refine wpAnyH_take (i := 4) (oi := _) (v := .bool false) rfl (by kernel_rfl) (by kernel_rfl) (by kernel_rfl) (fun _ _ _ h => h) (Or.inl ⟨by rfl, ?_⟩) (by assumption) ?_
                · intro w hSw
                  try dsimp only at hSw
                  go_simp
                  all_goals (first | with_reducible rfl | simp [nn, b1n, b2n])
                try simp only [Act.put, List.getElem_toArray, List.getElem_cons_zero, List.getElem_cons_succ, List.setIfInBounds_toArray, List.set_cons_zero, List.set_cons_succ]
                refine wpAnyH_take (i := 5) (oi := _) (v := ?_) rfl (by kernel_rfl) (by kernel_rfl) (by kernel_rfl) (fun _ _ _ h => h) (Or.inl ⟨by rfl, ?_⟩) (by assumption) ?_
                rotate_left
                · intro w hSw
                  try dsimp only at hSw
                  go_simp
                  with_reducible rfl
                try simp only [Act.put, List.getElem_toArray, List.getElem_cons_zero, List.getElem_cons_succ, List.setIfInBounds_toArray, List.set_cons_zero, List.set_cons_succ]
                refine wpAnyH_take (i := 6) (oi := _) (v := ?_) rfl (by kernel_rfl) (by kernel_rfl) (by kernel_rfl) (fun _ _ _ h => h) (Or.inl ⟨by rfl, ?_⟩) (by assumption) ?_
                rotate_left
                · intro w hSw
                  try dsimp only at hSw
                  go_simp
                  with_reducible rfl
                try simp only [Act.put, List.getElem_toArray, List.getElem_cons_zero, List.getElem_cons_succ, List.setIfInBounds_toArray, List.set_cons_zero, List.set_cons_succ]
                refine wpAnyH_take (i := 7) (oi := _) (v := ?_) rfl (by kernel_rfl) (by kernel_rfl) (by kernel_rfl) (fun _ _ _ h => h) (Or.inl ⟨by rfl, ?_⟩) (by assumption) ?_
                rotate_left
                · intro w hSw
                  try dsimp only at hSw
                  go_simp
                  with_reducible rfl
                try simp only [Act.put, List.getElem_toArray, List.getElem_cons_zero, List.getElem_cons_succ, List.setIfInBounds_toArray, List.set_cons_zero, List.set_cons_succ]
                refine wpAnyH_take (i := 8) (oi := _) (v := ?_) rfl (by kernel_rfl) (by kernel_rfl) (by kernel_rfl) (fun _ _ _ h => h) (Or.inl ⟨by rfl, ?_⟩) (by assumption) ?_
                rotate_left
                · intro w hSw
                  try dsimp only at hSw
                  go_simp
                  with_reducible rfl
                try simp only [Act.put, List.getElem_toArray, List.getElem_cons_zero, List.getElem_cons_succ, List.setIfInBounds_toArray, List.set_cons_zero, List.set_cons_succ]
                refine wpAnyH_take (i := 9) (oi := _) (v := .bool false) rfl (by kernel_rfl) (by kernel_rfl) (by kernel_rfl) (fun _ _ _ h => h) (Or.inl ⟨by rfl, ?_⟩) (by assumption) ?_
                · intro w hSw
                  try dsimp only at hSw
                  go_simp
                  all_goals (first | with_reducible rfl | simp [nn, b1n, b2n])
                try simp only [Act.put, List.getElem_toArray, List.getElem_cons_zero, List.getElem_cons_succ, List.setIfInBounds_toArray, List.set_cons_zero, List.set_cons_succ]
                refine wpAnyH_take (i := 10) (oi := _) (v := .bool false) rfl (by kernel_rfl) (by kernel_rfl) (by kernel_rfl) (fun _ _ _ h => h) (Or.inl ⟨by rfl, ?_⟩) (by assumption) ?_
                · intro w hSw
                  try dsimp only at hSw
                  go_simp
                  all_goals (first | with_reducible rfl | simp [nn, b1n, b2n])
                try simp only [Act.put, List.getElem_toArray, List.getElem_cons_zero, List.getElem_cons_succ, List.setIfInBounds_toArray, List.set_cons_zero, List.set_cons_succ]
                refine wpAnyH_take (i := 11) (oi := _) (v := ?_) rfl (by kernel_rfl) (by kernel_rfl) (by kernel_rfl) (fun _ _ _ h => h) (Or.inl ⟨by rfl, ?_⟩) (by assumption) ?_
                rotate_left
                · intro w hSw
                  try dsimp only at hSw
                  go_simp
                  with_reducible rfl
                try simp only [Act.put, List.getElem_toArray, List.getElem_cons_zero, List.getElem_cons_succ, List.setIfInBounds_toArray, List.set_cons_zero, List.set_cons_succ]
                refine wpAnyH_take (i := 12) (oi := _) (v := ?_) rfl (by kernel_rfl) (by kernel_rfl) (by kernel_rfl) (fun _ _ _ h => h) (Or.inl ⟨by rfl, ?_⟩) (by assumption) ?_
                rotate_left
                · intro w hSw
                  try dsimp only at hSw
                  go_simp
                  with_reducible rfl
                try simp only [Act.put, List.getElem_toArray, List.getElem_cons_zero, List.getElem_cons_succ, List.setIfInBounds_toArray, List.set_cons_zero, List.set_cons_succ]
                refine wpAnyH_take (i := 13) (oi := _) (v := ?_) rfl (by kernel_rfl) (by kernel_rfl) (by kernel_rfl) (fun _ _ _ h => h) (Or.inl ⟨by rfl, ?_⟩) (by assumption) ?_
                rotate_left
                · intro w hSw
                  try dsimp only at hSw
                  go_simp
                  with_reducible rfl
                try simp only [Act.put, List.getElem_toArray, List.getElem_cons_zero, List.getElem_cons_succ, List.setIfInBounds_toArray, List.set_cons_zero, List.set_cons_succ]
                refine wpAnyH_take (i := 14) (oi := _) (v := ?_) rfl (by kernel_rfl) (by kernel_rfl) (by kernel_rfl) (fun _ _ _ h => h) (Or.inl ⟨by rfl, ?_⟩) (by assumption) ?_
                rotate_left
                · intro w hSw
                  try dsimp only at hSw
                  go_simp
                  with_reducible rfl
                try simp only [Act.put, List.getElem_toArray, List.getElem_cons_zero, List.getElem_cons_succ, List.setIfInBounds_toArray, List.set_cons_zero, List.set_cons_succ]
                refine wpAnyH_take (i := 15) (oi := _) (v := undef) rfl (by kernel_rfl) (by kernel_rfl) (by kernel_rfl) (fun _ _ _ h => h) (Or.inr ⟨by rfl, rfl⟩) (by assumption) ?_
                try simp only [Act.put, List.getElem_toArray, List.getElem_cons_zero, List.getElem_cons_succ, List.setIfInBounds_toArray, List.set_cons_zero, List.set_cons_succ]
                refine wpAnyH_take (i := 16) (oi := _) (v := undef) rfl (by kernel_rfl) (by kernel_rfl) (by kernel_rfl) (fun _ _ _ h => h) (Or.inr ⟨by rfl, rfl⟩) (by assumption) ?_
                try simp only [Act.put, List.getElem_toArray, List.getElem_cons_zero, List.getElem_cons_succ, List.setIfInBounds_toArray, List.set_cons_zero, List.set_cons_succ]
                refine wpAnyH_take (i := 17) (oi := _) (v := undef) rfl (by kernel_rfl) (by kernel_rfl) (by kernel_rfl) (fun _ _ _ h => h) (Or.inr ⟨by rfl, rfl⟩) (by assumption) ?_
                try simp only [Act.put, List.getElem_toArray, List.getElem_cons_zero, List.getElem_cons_succ, List.setIfInBounds_toArray, List.set_cons_zero, List.set_cons_succ]
                refine wpAnyH_take (i := 18) (oi := _) (v := undef) rfl (by kernel_rfl) (by kernel_rfl) (by kernel_rfl) (fun _ _ _ h => h) (Or.inr ⟨by rfl, rfl⟩) (by assumption) ?_
                try simp only [Act.put, List.getElem_toArray, List.getElem_cons_zero, List.getElem_cons_succ, List.setIfInBounds_toArray, List.set_cons_zero, List.set_cons_succ]
                refine wpAnyH_take (i := 19) (oi := _) (v := undef) rfl (by kernel_rfl) (by kernel_rfl) (by kernel_rfl) (fun _ _ _ h => h) (Or.inr ⟨by rfl, rfl⟩) (by assumption) ?_
                try simp only [Act.put, List.getElem_toArray, List.getElem_cons_zero, List.getElem_cons_succ, List.setIfInBounds_toArray, List.set_cons_zero, List.set_cons_succ]
                refine wpAnyH_take (i := 20) (oi := _) (v := undef) rfl (by kernel_rfl) (by kernel_rfl) (by kernel_rfl) (fun _ _ _ h => h) (Or.inr ⟨by rfl, rfl⟩) (by assumption) ?_
                try simp only [Act.put, List.getElem_toArray, List.getElem_cons_zero, List.getElem_cons_succ, List.setIfInBounds_toArray, List.set_cons_zero, List.set_cons_succ]
                refine wpAnyH_take (i := 21) (oi := _) (v := ?_) rfl (by kernel_rfl) (by kernel_rfl) (by kernel_rfl) (fun _ _ _ h => h) (Or.inl ⟨by rfl, ?_⟩) (by assumption) ?_
                rotate_left
                · intro w hSw
                  try dsimp only at hSw
                  go_simp
                  with_reducible rfl
                try simp only [Act.put, List.getElem_toArray, List.getElem_cons_zero, List.getElem_cons_succ, List.setIfInBounds_toArray, List.set_cons_zero, List.set_cons_succ]
                refine wpAnyH_take (i := 22) (oi := _) (v := ?_) rfl (by kernel_rfl) (by kernel_rfl) (by kernel_rfl) (fun _ _ _ h => h) (Or.inl ⟨by rfl, ?_⟩) (by assumption) ?_
                rotate_left
                · intro w hSw
                  try dsimp only at hSw
                  go_simp
                  with_reducible rfl
                try simp only [Act.put, List.getElem_toArray, List.getElem_cons_zero, List.getElem_cons_succ, List.setIfInBounds_toArray, List.set_cons_zero, List.set_cons_succ]
                refine wpAnyH_take (i := 23) (oi := _) (v := ?_) rfl (by kernel_rfl) (by kernel_rfl) (by kernel_rfl) (fun _ _ _ h => h) (Or.inl ⟨by rfl, ?_⟩) (by assumption) ?_
                rotate_left
                · intro w hSw
                  try dsimp only at hSw
                  go_simp
                  with_reducible rfl
                try simp only [Act.put, List.getElem_toArray, List.getElem_cons_zero, List.getElem_cons_succ, List.setIfInBounds_toArray, List.set_cons_zero, List.set_cons_succ]
                refine wpAnyH_take (i := 24) (oi := _) (v := ?_) rfl (by kernel_rfl) (by kernel_rfl) (by kernel_rfl) (fun _ _ _ h => h) (Or.inl ⟨by rfl, ?_⟩) (by assumption) ?_
                rotate_left
                · intro w hSw
                  try dsimp only at hSw
                  go_simp
                  with_reducible rfl
                try simp only [Act.put, List.getElem_toArray, List.getElem_cons_zero, List.getElem_cons_succ, List.setIfInBounds_toArray, List.set_cons_zero, List.set_cons_succ]
                refine wpAnyH_take (i := 25) (oi := _) (v := ?_) rfl (by kernel_rfl) (by kernel_rfl) (by kernel_rfl) (fun _ _ _ h => h) (Or.inl ⟨by rfl, ?_⟩) (by assumption) ?_
                rotate_left
                · intro w hSw
                  try dsimp only at hSw
                  go_simp
                  with_reducible rfl
                try simp only [Act.put, List.getElem_toArray, List.getElem_cons_zero, List.getElem_cons_succ, List.setIfInBounds_toArray, List.set_cons_zero, List.set_cons_succ]
                refine wpAnyH_take (i := 26) (oi := _) (v := ?_) rfl (by kernel_rfl) (by kernel_rfl) (by kernel_rfl) (fun _ _ _ h => h) (Or.inl ⟨by rfl, ?_⟩) (by assumption) ?_
                rotate_left
                · intro w hSw
                  try dsimp only at hSw
                  go_simp
                  with_reducible rfl
                try simp only [Act.put, List.getElem_toArray, List.getElem_cons_zero, List.getElem_cons_succ, List.setIfInBounds_toArray, List.set_cons_zero, List.set_cons_succ]
                refine wpAnyH_take (i := 27) (oi := _) (v := ?_) rfl (by kernel_rfl) (by kernel_rfl) (by kernel_rfl) (fun _ _ _ h => h) (Or.inl ⟨by rfl, ?_⟩) (by assumption) ?_
                rotate_left
                · intro w hSw
                  try dsimp only at hSw
                  go_simp
                  with_reducible rfl
                try simp only [Act.put, List.getElem_toArray, List.getElem_cons_zero, List.getElem_cons_succ, List.setIfInBounds_toArray, List.set_cons_zero, List.set_cons_succ]
                refine wpAnyH_take (i := 28) (oi := _) (v := .bool false) rfl (by kernel_rfl) (by kernel_rfl) (by kernel_rfl) (fun _ _ _ h => h) (Or.inl ⟨by rfl, ?_⟩) (by assumption) ?_
                · intro w hSw
                  try dsimp only at hSw
                  go_simp
                  all_goals (first | with_reducible rfl | simp [nn, b1n, b2n])
                try simp only [Act.put, List.getElem_toArray, List.getElem_cons_zero, List.getElem_cons_succ, List.setIfInBounds_toArray, List.set_cons_zero, List.set_cons_succ]
                refine wpAnyH_take (i := 29) (oi := _) (v := ?_) rfl (by kernel_rfl) (by kernel_rfl) (by kernel_rfl) (fun _ _ _ h => h) (Or.inl ⟨by rfl, ?_⟩) (by assumption) ?_
                rotate_left
                · intro w hSw
                  try dsimp only at hSw
                  go_simp
                  with_reducible rfl
                try simp only [Act.put, List.getElem_toArray, List.getElem_cons_zero, List.getElem_cons_succ, List.setIfInBounds_toArray, List.set_cons_zero, List.set_cons_succ]
                refine wpAnyH_take (i := 30) (oi := _) (v := ?_) rfl (by kernel_rfl) (by kernel_rfl) (by kernel_rfl) (fun _ _ _ h => h) (Or.inl ⟨by rfl, ?_⟩) (by assumption) ?_
                rotate_left
                · intro w hSw
                  try dsimp only at hSw
                  go_simp
                  with_reducible rfl
                try simp only [Act.put, List.getElem_toArray, List.getElem_cons_zero, List.getElem_cons_succ, List.setIfInBounds_toArray, List.set_cons_zero, List.set_cons_succ]
                refine wpAnyH_take (i := 31) (oi := _) (v := ?_) rfl (by kernel_rfl) (by kernel_rfl) (by kernel_rfl) (fun _ _ _ h => h) (Or.inl ⟨by rfl, ?_⟩) (by assumption) ?_
                rotate_left
                · intro w hSw
                  try dsimp only at hSw
                  go_simp
                  with_reducible rfl
                try simp only [Act.put, List.getElem_toArray, List.getElem_cons_zero, List.getElem_cons_succ, List.setIfInBounds_toArray, List.set_cons_zero, List.set_cons_succ]
                refine wpAnyH_take (i := 32) (oi := _) (v := ?_) rfl (by kernel_rfl) (by kernel_rfl) (by kernel_rfl) (fun _ _ _ h => h) (Or.inl ⟨by rfl, ?_⟩) (by assumption) ?_
                rotate_left
                · intro w hSw
                  try dsimp only at hSw
                  go_simp
                  with_reducible rfl
                try simp only [Act.put, List.getElem_toArray, List.getElem_cons_zero, List.getElem_cons_succ, List.setIfInBounds_toArray, List.set_cons_zero, List.set_cons_succ]
                refine wpAnyH_take (i := 33) (oi := _) (v := ?_) rfl (by kernel_rfl) (by kernel_rfl) (by kernel_rfl) (fun _ _ _ h => h) (Or.inl ⟨by rfl, ?_⟩) (by assumption) ?_
                rotate_left
                · intro w hSw
                  try dsimp only at hSw
                  go_simp
                  with_reducible rfl
                try simp only [Act.put, List.getElem_toArray, List.getElem_cons_zero, List.getElem_cons_succ, List.setIfInBounds_toArray, List.set_cons_zero, List.set_cons_succ]
                refine wpAnyH_take (i := 35) (oi := _) (v := ?_) rfl (by kernel_rfl) (by kernel_rfl) (by kernel_rfl) (fun _ _ _ h => h) (Or.inl ⟨by rfl, ?_⟩) (by assumption) ?_
                rotate_left
                · intro w hSw
                  try dsimp only at hSw
                  go_simp
                  with_reducible rfl
                try simp only [Act.put, List.getElem_toArray, List.getElem_cons_zero, List.getElem_cons_succ, List.setIfInBounds_toArray, List.set_cons_zero, List.set_cons_succ]
                refine wpAnyH_take (i := 36) (oi := _) (v := ?_) rfl (by kernel_rfl) (by kernel_rfl) (by kernel_rfl) (fun _ _ _ h => h) (Or.inl ⟨by rfl, ?_⟩) (by assumption) ?_
                rotate_left
                · intro w hSw
                  try dsimp only at hSw
                  go_simp
                  with_reducible rfl
                try simp only [Act.put, List.getElem_toArray, List.getElem_cons_zero, List.getElem_cons_succ, List.setIfInBounds_toArray, List.set_cons_zero, List.set_cons_succ]
                refine wpAnyH_ready (rs := [34]) (by kernel_rfl) (by simp) ?_
                refine AllReadyH.cons (o := _) rfl (fun K hK => ?_) AllReadyH.nil
                go_simp
                go_at_call 15
                (with_reducible refine (CH1.out _ H5).mono ?_)
                rintro e u2 ⟨rfl, H6⟩
                go_wp2_with fail
                refine hK.out _ _ (HS.out _ H6) (fun hHeld => ?_)
                clear hK K
                try simp only [Act.put, List.getElem_toArray, List.getElem_cons_zero, List.getElem_cons_succ, List.setIfInBounds_toArray, List.set_cons_zero, List.set_cons_succ]
                refine wpAnyH_ready (rs := [37]) (by kernel_rfl) (by simp) ?_
                refine AllReadyH.cons (o := _) rfl (fun K hK => ?_) AllReadyH.nil
                go_simp
                go_at_call 16
                (with_reducible refine (RH1.out _ H6).mono ?_)
                rintro e u3 ⟨rfl, H7⟩
                go_wp2_with fail
                refine hK.out _ _ (HS.out _ H7) (fun hHeld => ?_)
                clear hK K
                try simp only [Act.put, List.getElem_toArray, List.getElem_cons_zero, List.getElem_cons_succ, List.setIfInBounds_toArray, List.set_cons_zero, List.set_cons_succ]
                refine wpAnyH_take (i := 38) (oi := _) (v := .bool false) rfl (by kernel_rfl) (by kernel_rfl) (by kernel_rfl) (fun _ _ _ h => h) (Or.inl ⟨by rfl, ?_⟩) (by assumption) ?_
                · intro w hSw
                  try dsimp only at hSw
                  go_simp
                  all_goals (first | with_reducible rfl | simp [nn, b1n, b2n])
                try simp only [Act.put, List.getElem_toArray, List.getElem_cons_zero, List.getElem_cons_succ, List.setIfInBounds_toArray, List.set_cons_zero, List.set_cons_succ]
                refine wpAnyH_take (i := 39) (oi := _) (v := ?_) rfl (by kernel_rfl) (by kernel_rfl) (by kernel_rfl) (fun _ _ _ h => h) (Or.inl ⟨by rfl, ?_⟩) (by assumption) ?_
                rotate_left
                · intro w hSw
                  try dsimp only at hSw
                  go_simp
                  with_reducible rfl
                try simp only [Act.put, List.getElem_toArray, List.getElem_cons_zero, List.getElem_cons_succ, List.setIfInBounds_toArray, List.set_cons_zero, List.set_cons_succ]
                refine wpAnyH_take (i := 40) (oi := _) (v := ?_) rfl (by kernel_rfl) (by kernel_rfl) (by kernel_rfl) (fun _ _ _ h => h) (Or.inl ⟨by rfl, ?_⟩) (by assumption) ?_
                rotate_left
                · intro w hSw
                  try dsimp only at hSw
                  go_simp
                  with_reducible rfl
                try simp only [Act.put, List.getElem_toArray, List.getElem_cons_zero, List.getElem_cons_succ, List.setIfInBounds_toArray, List.set_cons_zero, List.set_cons_succ]
                refine wpAnyH_take (i := 41) (oi := _) (v := ?_) rfl (by kernel_rfl) (by kernel_rfl) (by kernel_rfl) (fun _ _ _ h => h) (Or.inl ⟨by rfl, ?_⟩) (by assumption) ?_
                rotate_left
                · intro w hSw
                  try dsimp only at hSw
                  go_simp
                  with_reducible rfl
                try simp only [Act.put, List.getElem_toArray, List.getElem_cons_zero, List.getElem_cons_succ, List.setIfInBounds_toArray, List.set_cons_zero, List.set_cons_succ]
                refine wpAnyH_take (i := 42) (oi := _) (v := ?_) rfl (by kernel_rfl) (by kernel_rfl) (by kernel_rfl) (fun _ _ _ h => h) (Or.inl ⟨by rfl, ?_⟩) (by assumption) ?_
                rotate_left
                · intro w hSw
                  try dsimp only at hSw
                  go_simp
                  with_reducible rfl
                try simp only [Act.put, List.getElem_toArray, List.getElem_cons_zero, List.getElem_cons_succ, List.setIfInBounds_toArray, List.set_cons_zero, List.set_cons_succ]
                refine wpAnyH_take (i := 43) (oi := _) (v := ?_) rfl (by kernel_rfl) (by kernel_rfl) (by kernel_rfl) (fun _ _ _ h => h) (Or.inl ⟨by rfl, ?_⟩) (by assumption) ?_
                rotate_left
                · intro w hSw
                  try dsimp only at hSw
                  go_simp
                  with_reducible rfl
                try simp only [Act.put, List.getElem_toArray, List.getElem_cons_zero, List.getElem_cons_succ, List.setIfInBounds_toArray, List.set_cons_zero, List.set_cons_succ]
                refine wpAnyH_take (i := 45) (oi := _) (v := ?_) rfl (by kernel_rfl) (by kernel_rfl) (by kernel_rfl) (fun _ _ _ h => h) (Or.inl ⟨by rfl, ?_⟩) (by assumption) ?_
                rotate_left
                · intro w hSw
                  try dsimp only at hSw
                  go_simp
                  with_reducible rfl
                try simp only [Act.put, List.getElem_toArray, List.getElem_cons_zero, List.getElem_cons_succ, List.setIfInBounds_toArray, List.set_cons_zero, List.set_cons_succ]
                refine wpAnyH_take (i := 46) (oi := _) (v := ?_) rfl (by kernel_rfl) (by kernel_rfl) (by kernel_rfl) (fun _ _ _ h => h) (Or.inl ⟨by rfl, ?_⟩) (by assumption) ?_
                rotate_left
                · intro w hSw
                  try dsimp only at hSw
                  go_simp
                  with_reducible rfl
                try simp only [Act.put, List.getElem_toArray, List.getElem_cons_zero, List.getElem_cons_succ, List.setIfInBounds_toArray, List.set_cons_zero, List.set_cons_succ]
                refine wpAnyH_take (i := 47) (oi := _) (v := ?_) rfl (by kernel_rfl) (by kernel_rfl) (by kernel_rfl) (fun _ _ _ h => h) (Or.inl ⟨by rfl, ?_⟩) (by assumption) ?_
                rotate_left
                · intro w hSw
                  try dsimp only at hSw
                  go_simp
                  with_reducible rfl
                try simp only [Act.put, List.getElem_toArray, List.getElem_cons_zero, List.getElem_cons_succ, List.setIfInBounds_toArray, List.set_cons_zero, List.set_cons_succ]
                refine wpAnyH_ready (rs := [44]) (by kernel_rfl) (by simp) ?_
                refine AllReadyH.cons (o := _) rfl (fun K hK => ?_) AllReadyH.nil
                go_simp
                go_at_call 15
                (with_reducible refine (CH2.out _ H7).mono ?_)
                rintro e u4 ⟨rfl, H8⟩
                go_wp2_with fail
                refine hK.out _ _ (HS.out _ H8) (fun hHeld => ?_)
                clear hK K
                try simp only [Act.put, List.getElem_toArray, List.getElem_cons_zero, List.getElem_cons_succ, List.setIfInBounds_toArray, List.set_cons_zero, List.set_cons_succ]
                refine wpAnyH_ready (rs := [48]) (by kernel_rfl) (by simp) ?_
                refine AllReadyH.cons (o := _) rfl (fun K hK => ?_) AllReadyH.nil
                go_simp
                go_at_call 16
                (with_reducible refine (RH2.out _ H8).mono ?_)
                rintro e u5 ⟨rfl, H9⟩
                go_wp2_with fail
                refine hK.out _ _ (HS.out _ H9) (fun hHeld => ?_)
                clear hK K
                try simp only [Act.put, List.getElem_toArray, List.getElem_cons_zero, List.getElem_cons_succ, List.setIfInBounds_toArray, List.set_cons_zero, List.set_cons_succ]
                refine wpAnyH_take (i := 49) (oi := _) (v := .bool false) rfl (by kernel_rfl) (by kernel_rfl) (by kernel_rfl) (fun _ _ _ h => h) (Or.inl ⟨by rfl, ?_⟩) (by assumption) ?_
                · intro w hSw
                  try dsimp only at hSw
                  go_simp
                  all_goals (first | with_reducible rfl | simp [nn, b1n, b2n])
                try simp only [Act.put, List.getElem_toArray, List.getElem_cons_zero, List.getElem_cons_succ, List.setIfInBounds_toArray, List.set_cons_zero, List.set_cons_succ]
                refine wpAnyH_take (i := 50) (oi := _) (v := ?_) rfl (by kernel_rfl) (by kernel_rfl) (by kernel_rfl) (fun _ _ _ h => h) (Or.inl ⟨by rfl, ?_⟩) (by assumption) ?_
                rotate_left
                · intro w hSw
                  try dsimp only at hSw
                  go_simp
                  with_reducible rfl
                try simp only [Act.put, List.getElem_toArray, List.getElem_cons_zero, List.getElem_cons_succ, List.setIfInBounds_toArray, List.set_cons_zero, List.set_cons_succ]
                refine wpAnyH_done (by kernel_rfl) ?_ _
                go_wp2_with fail
                go_meet
                exact ⟨rfl, rfl, H9⟩
            · as_aux_lemma =>
                obtain ⟨ml, hml⟩ : ∃ ml, ml = l.length := ⟨_, rfl⟩
                obtain rfl : mL = ml + 1 := by have := HML.out; rw [hL] at this; rw [hml]; exact this
                obtain rfl : is = true := by have := HIS.out; rw [hL] at this; simpa using this
                obtain rfl : nx = y1 := by have := HNX.out; unfold nextT at this; rw [hL] at this; exact this
                have CL := CL1
                rw [show ((ml + 1 : Nat) : Int) = (ml : Int) + 1 from rfl] at CL
                have nn : ((ml : Int) + 1 != (ml : Int) + 1) = false := by simp
                have b3n : (nx != nx) = false := by simp
                have hrd := (RQ.out _ H4).2
                rw [hL] at hrd
                obtain ⟨g, off3, rfl⟩ := hrd.addr
                clear hrd
                have HS : Hid (∀ w', HR w' → w'.cell? ⟨B, 0, none⟩ = some (.int .i64 n) ∧ w'.cell? ⟨B, 1, none⟩ = some (.slice aD nD cD) ∧ w'.cell? ⟨B, 2, none⟩ = some (.int .u64 o2) ∧ w'.cell? ⟨E, 2, none⟩ = some (.int .i64 G) ∧ w'.cell? ⟨E, 3, none⟩ = some (.int .i64 X) ∧ w'.cell? ⟨g, off3, none⟩ = some (.int .i64 nx)) := hid (fun y hy => by
                  have h1 := HS0.out y (RQ.out y hy).1
                  have h2 := (RQ.out y hy).2
                  rw [hL] at h2
                  exact ⟨h1.1, h1.2.1, h1.2.2.1, h1.2.2.2.1, h1.2.2.2.2, h2.first⟩)
                clear hL HML HIS HNX CL1 hml
                refine wp_region_held_drew (S := fun w' => w'.cell? ⟨B, 0, none⟩ = some (.int .i64 n) ∧ w'.cell? ⟨B, 1, none⟩ = some (.slice aD nD cD) ∧ w'.cell? ⟨B, 2, none⟩ = some (.int .u64 o2) ∧ w'.cell? ⟨E, 2, none⟩ = some (.int .i64 G) ∧ w'.cell? ⟨E, 3, none⟩ = some (.int .i64 X) ∧ w'.cell? ⟨g, off3, none⟩ = some (.int .i64 nx)) (by kernel_rfl) (HS.out _ HD) (fun hHeld => ?_)
                refine wpAnyH_take (i := 0) (oi := _) (v := ?_) rfl (by kernel_rfl) (by kernel_rfl) (by kernel_rfl) (fun _ _ _ h => h) (Or.inl ⟨by rfl, ?_⟩) (by assumption) ?_
                rotate_left
                · intro w hSw
                  try dsimp only at hSw
                  go_simp
                  with_reducible rfl
                try simp only [Act.put, List.getElem_toArray, List.getElem_cons_zero, List.getElem_cons_succ, List.setIfInBounds_toArray, List.set_cons_zero, List.set_cons_succ]
                refine wpAnyH_take (i := 2) (oi := _) (v := ?_) rfl (by kernel_rfl) (by kernel_rfl) (by kernel_rfl) (fun _ _ _ h => h) (Or.inl ⟨by rfl, ?_⟩) (by assumption) ?_
                rotate_left
                · intro w hSw
                  try dsimp only at hSw
                  go_simp
                  with_reducible rfl
                try simp only [Act.put, List.getElem_toArray, List.getElem_cons_zero, List.getElem_cons_succ, List.setIfInBounds_toArray, List.set_cons_zero, List.set_cons_succ]
                refine wpAnyH_take (i := 3) (oi := _) (v := ?_) rfl (by kernel_rfl) (by kernel_rfl) (by kernel_rfl) (fun _ _ _ h => h) (Or.inl ⟨by rfl, ?_⟩) (by assumption) ?_
                rotate_left
                · intro w hSw
                  try dsimp only at hSw
                  go_simp
                  with_reducible rfl
                try simp only [Act.put, List.getElem_toArray, List.getElem_cons_zero, List.getElem_cons_succ, List.setIfInBounds_toArray, List.set_cons_zero, List.set_cons_succ]
                refine wpAnyH_ready (rs := [1]) (by kernel_rfl) (by simp) ?_
                refine AllReadyH.cons (o := _) rfl (fun K hK => ?_) AllReadyH.nil
                go_simp
                go_at_call 14
                (with_reducible refine (CL.out _ HD).mono ?_)
                rintro e u1 ⟨rfl, H5⟩
                go_wp2_with fail
                refine hK.out _ _ (HS.out _ H5) (fun hHeld => ?_)
                clear hK K
                try simp only [Act.put, List.getElem_toArray, List.getElem_cons_zero, List.getElem_cons_succ, List.setIfInBounds_toArray, List.set_cons_zero, List.set_cons_succ]
                refine wpAnyH_take (i := 4) (oi := _) (v := .bool false) rfl (by kernel_rfl) (by kernel_rfl) (by kernel_rfl) (fun _ _ _ h => h) (Or.inl ⟨by rfl, ?_⟩) (by assumption) ?_
                · intro w hSw
                  try dsimp only at hSw
                  go_simp
                  all_goals (first | with_reducible rfl | simp [nn, b1n, b2n, b3n])
                try simp only [Act.put, List.getElem_toArray, List.getElem_cons_zero, List.getElem_cons_succ, List.setIfInBounds_toArray, List.set_cons_zero, List.set_cons_succ]
                refine wpAnyH_take (i := 5) (oi := _) (v := ?_) rfl (by kernel_rfl) (by kernel_rfl) (by kernel_rfl) (fun _ _ _ h => h) (Or.inl ⟨by rfl, ?_⟩) (by assumption) ?_
                rotate_left
                · intro w hSw
                  try dsimp only at hSw
                  go_simp
                  with_reducible rfl
                try simp only [Act.put, List.getElem_toArray, List.getElem_cons_zero, List.getElem_cons_succ, List.setIfInBounds_toArray, List.set_cons_zero, List.set_cons_succ]
                refine wpAnyH_take (i := 6) (oi := _) (v := ?_) rfl (by kernel_rfl) (by kernel_rfl) (by kernel_rfl) (fun _ _ _ h => h) (Or.inl ⟨by rfl, ?_⟩) (by assumption) ?_
                rotate_left
                · intro w hSw
                  try dsimp only at hSw
                  go_simp
                  with_reducible rfl
                try simp only [Act.put, List.getElem_toArray, List.getElem_cons_zero, List.getElem_cons_succ, List.setIfInBounds_toArray, List.set_cons_zero, List.set_cons_succ]
                refine wpAnyH_take (i := 7) (oi := _) (v := ?_) rfl (by kernel_rfl) (by kernel_rfl) (by kernel_rfl) (fun _ _ _ h => h) (Or.inl ⟨by rfl, ?_⟩) (by assumption) ?_
                rotate_left
                · intro w hSw
                  try dsimp only at hSw
                  go_simp
                  with_reducible rfl
                try simp only [Act.put, List.getElem_toArray, List.getElem_cons_zero, List.getElem_cons_succ, List.setIfInBounds_toArray, List.set_cons_zero, List.set_cons_succ]
                refine wpAnyH_take (i := 8) (oi := _) (v := ?_) rfl (by kernel_rfl) (by kernel_rfl) (by kernel_rfl) (fun _ _ _ h => h) (Or.inl ⟨by rfl, ?_⟩) (by assumption) ?_
                rotate_left
                · intro w hSw
                  try dsimp only at hSw
                  go_simp
                  with_reducible rfl
                try simp only [Act.put, List.getElem_toArray, List.getElem_cons_zero, List.getElem_cons_succ, List.setIfInBounds_toArray, List.set_cons_zero, List.set_cons_succ]
                refine wpAnyH_take (i := 9) (oi := _) (v := .bool true) rfl (by kernel_rfl) (by kernel_rfl) (by kernel_rfl) (fun _ _ _ h => h) (Or.inl ⟨by rfl, ?_⟩) (by assumption) ?_
                · intro w hSw
                  try dsimp only at hSw
                  go_simp
                  all_goals (first | with_reducible rfl | (simp; omega))
                try simp only [Act.put, List.getElem_toArray, List.getElem_cons_zero, List.getElem_cons_succ, List.setIfInBounds_toArray, List.set_cons_zero, List.set_cons_succ]
                refine wpAnyH_take (i := 10) (oi := _) (v := .bool false) rfl (by kernel_rfl) (by kernel_rfl) (by kernel_rfl) (fun _ _ _ h => h) (Or.inl ⟨by rfl, ?_⟩) (by assumption) ?_
                · intro w hSw
                  try dsimp only at hSw
                  go_simp
                  all_goals (first | with_reducible rfl | simp [nn, b1n, b2n, b3n])
                try simp only [Act.put, List.getElem_toArray, List.getElem_cons_zero, List.getElem_cons_succ, List.setIfInBounds_toArray, List.set_cons_zero, List.set_cons_succ]
                refine wpAnyH_take (i := 11) (oi := _) (v := ?_) rfl (by kernel_rfl) (by kernel_rfl) (by kernel_rfl) (fun _ _ _ h => h) (Or.inl ⟨by rfl, ?_⟩) (by assumption) ?_
                rotate_left
                · intro w hSw
                  try dsimp only at hSw
                  go_simp
                  with_reducible rfl
                try simp only [Act.put, List.getElem_toArray, List.getElem_cons_zero, List.getElem_cons_succ, List.setIfInBounds_toArray, List.set_cons_zero, List.set_cons_succ]
                refine wpAnyH_take (i := 12) (oi := _) (v := ?_) rfl (by kernel_rfl) (by kernel_rfl) (by kernel_rfl) (fun _ _ _ h => h) (Or.inl ⟨by rfl, ?_⟩) (by assumption) ?_
                rotate_left
                · intro w hSw
                  try dsimp only at hSw
                  go_simp
                  with_reducible rfl
                try simp only [Act.put, List.getElem_toArray, List.getElem_cons_zero, List.getElem_cons_succ, List.setIfInBounds_toArray, List.set_cons_zero, List.set_cons_succ]
                refine wpAnyH_take (i := 13) (oi := _) (v := ?_) rfl (by kernel_rfl) (by kernel_rfl) (by kernel_rfl) (fun _ _ _ h => h) (Or.inl ⟨by rfl, ?_⟩) (by assumption) ?_
                rotate_left
                · intro w hSw
                  try dsimp only at hSw
                  go_simp
                  with_reducible rfl
                try simp only [Act.put, List.getElem_toArray, List.getElem_cons_zero, List.getElem_cons_succ, List.setIfInBounds_toArray, List.set_cons_zero, List.set_cons_succ]
                refine wpAnyH_take (i := 14) (oi := _) (v := ?_) rfl (by kernel_rfl) (by kernel_rfl) (by kernel_rfl) (fun _ _ _ h => h) (Or.inl ⟨by rfl, ?_⟩) (by assumption) ?_
                rotate_left
                · intro w hSw
                  try dsimp only at hSw
                  go_simp
                  with_reducible rfl
                try simp only [Act.put, List.getElem_toArray, List.getElem_cons_zero, List.getElem_cons_succ, List.setIfInBounds_toArray, List.set_cons_zero, List.set_cons_succ]
                refine wpAnyH_take (i := 15) (oi := _) (v := ?_) rfl (by kernel_rfl) (by kernel_rfl) (by kernel_rfl) (fun _ _ _ h => h) (Or.inl ⟨by rfl, ?_⟩) (by assumption) ?_
                rotate_left
                · intro w hSw
                  try dsimp only at hSw
                  go_simp
                  with_reducible rfl
                try simp only [Act.put, List.getElem_toArray, List.getElem_cons_zero, List.getElem_cons_succ, List.setIfInBounds_toArray, List.set_cons_zero, List.set_cons_succ]
                refine wpAnyH_take (i := 16) (oi := _) (v := ?_) rfl (by kernel_rfl) (by kernel_rfl) (by kernel_rfl) (fun _ _ _ h => h) (Or.inl ⟨by rfl, ?_⟩) (by assumption) ?_
                rotate_left
                · intro w hSw
                  try dsimp only at hSw
                  go_simp
                  with_reducible rfl
                try simp only [Act.put, List.getElem_toArray, List.getElem_cons_zero, List.getElem_cons_succ, List.setIfInBounds_toArray, List.set_cons_zero, List.set_cons_succ]
                refine wpAnyH_take (i := 17) (oi := _) (v := ?_) rfl (by kernel_rfl) (by kernel_rfl) (by kernel_rfl) (fun _ _ _ h => h) (Or.inl ⟨by rfl, ?_⟩) (by assumption) ?_
                rotate_left
                · intro w hSw
                  try dsimp only at hSw
                  go_simp
                  with_reducible rfl
                try simp only [Act.put, List.getElem_toArray, List.getElem_cons_zero, List.getElem_cons_succ, List.setIfInBounds_toArray, List.set_cons_zero, List.set_cons_succ]
                refine wpAnyH_take (i := 18) (oi := _) (v := ?_) rfl (by kernel_rfl) (by kernel_rfl) (by kernel_rfl) (fun _ _ _ h => h) (Or.inl ⟨by rfl, ?_⟩) (by assumption) ?_
                rotate_left
                · intro w hSw
                  try dsimp only at hSw
                  go_simp
                  with_reducible rfl
                try simp only [Act.put, List.getElem_toArray, List.getElem_cons_zero, List.getElem_cons_succ, List.setIfInBounds_toArray, List.set_cons_zero, List.set_cons_succ]
                refine wpAnyH_take (i := 19) (oi := _) (v := ?_) rfl (by kernel_rfl) (by kernel_rfl) (by kernel_rfl) (fun _ _ _ h => h) (Or.inl ⟨by rfl, ?_⟩) (by assumption) ?_
                rotate_left
                · intro w hSw
                  try dsimp only at hSw
                  go_simp
                  with_reducible rfl
                try simp only [Act.put, List.getElem_toArray, List.getElem_cons_zero, List.getElem_cons_succ, List.setIfInBounds_toArray, List.set_cons_zero, List.set_cons_succ]
                refine wpAnyH_take (i := 20) (oi := _) (v := .bool false) rfl (by kernel_rfl) (by kernel_rfl) (by kernel_rfl) (fun _ _ _ h => h) (Or.inl ⟨by rfl, ?_⟩) (by assumption) ?_
                · intro w hSw
                  try dsimp only at hSw
                  go_simp
                  all_goals (first | with_reducible rfl | simp [nn, b1n, b2n, b3n])
                try simp only [Act.put, List.getElem_toArray, List.getElem_cons_zero, List.getElem_cons_succ, List.setIfInBounds_toArray, List.set_cons_zero, List.set_cons_succ]
                refine wpAnyH_take (i := 21) (oi := _) (v := ?_) rfl (by kernel_rfl) (by kernel_rfl) (by kernel_rfl) (fun _ _ _ h => h) (Or.inl ⟨by rfl, ?_⟩) (by assumption) ?_
                rotate_left
                · intro w hSw
                  try dsimp only at hSw
                  go_simp
                  with_reducible rfl
                try simp only [Act.put, List.getElem_toArray, List.getElem_cons_zero, List.getElem_cons_succ, List.setIfInBounds_toArray, List.set_cons_zero, List.set_cons_succ]
                refine wpAnyH_take (i := 22) (oi := _) (v := ?_) rfl (by kernel_rfl) (by kernel_rfl) (by kernel_rfl) (fun _ _ _ h => h) (Or.inl ⟨by rfl, ?_⟩) (by assumption) ?_
                rotate_left
                · intro w hSw
                  try dsimp only at hSw
                  go_simp
                  with_reducible rfl
                try simp only [Act.put, List.getElem_toArray, List.getElem_cons_zero, List.getElem_cons_succ, List.setIfInBounds_toArray, List.set_cons_zero, List.set_cons_succ]
                refine wpAnyH_take (i := 23) (oi := _) (v := ?_) rfl (by kernel_rfl) (by kernel_rfl) (by kernel_rfl) (fun _ _ _ h => h) (Or.inl ⟨by rfl, ?_⟩) (by assumption) ?_
                rotate_left
                · intro w hSw
                  try dsimp only at hSw
                  go_simp
                  with_reducible rfl
                try simp only [Act.put, List.getElem_toArray, List.getElem_cons_zero, List.getElem_cons_succ, List.setIfInBounds_toArray, List.set_cons_zero, List.set_cons_succ]
                refine wpAnyH_take (i := 24) (oi := _) (v := ?_) rfl (by kernel_rfl) (by kernel_rfl) (by kernel_rfl) (fun _ _ _ h => h) (Or.inl ⟨by rfl, ?_⟩) (by assumption) ?_
                rotate_left
                · intro w hSw
                  try dsimp only at hSw
                  go_simp
                  with_reducible rfl
                try simp only [Act.put, List.getElem_toArray, List.getElem_cons_zero, List.getElem_cons_succ, List.setIfInBounds_toArray, List.set_cons_zero, List.set_cons_succ]
                refine wpAnyH_take (i := 25) (oi := _) (v := ?_) rfl (by kernel_rfl) (by kernel_rfl) (by kernel_rfl) (fun _ _ _ h => h) (Or.inl ⟨by rfl, ?_⟩) (by assumption) ?_
                rotate_left
                · intro w hSw
                  try dsimp only at hSw
                  go_simp
                  with_reducible rfl
                try simp only [Act.put, List.getElem_toArray, List.getElem_cons_zero, List.getElem_cons_succ, List.setIfInBounds_toArray, List.set_cons_zero, List.set_cons_succ]
                refine wpAnyH_take (i := 26) (oi := _) (v := ?_) rfl (by kernel_rfl) (by kernel_rfl) (by kernel_rfl) (fun _ _ _ h => h) (Or.inl ⟨by rfl, ?_⟩) (by assumption) ?_
                rotate_left
                · intro w hSw
                  try dsimp only at hSw
                  go_simp
                  with_reducible rfl
                try simp only [Act.put, List.getElem_toArray, List.getElem_cons_zero, List.getElem_cons_succ, List.setIfInBounds_toArray, List.set_cons_zero, List.set_cons_succ]
                refine wpAnyH_take (i := 27) (oi := _) (v := undef) rfl (by kernel_rfl) (by kernel_rfl) (by kernel_rfl) (fun _ _ _ h => h) (Or.inr ⟨by rfl, rfl⟩) (by assumption) ?_
                try simp only [Act.put, List.getElem_toArray, List.getElem_cons_zero, List.getElem_cons_succ, List.setIfInBounds_toArray, List.set_cons_zero, List.set_cons_succ]
                refine wpAnyH_take (i := 28) (oi := _) (v := undef) rfl (by kernel_rfl) (by kernel_rfl) (by kernel_rfl) (fun _ _ _ h => h) (Or.inr ⟨by rfl, rfl⟩) (by assumption) ?_
                try simp only [Act.put, List.getElem_toArray, List.getElem_cons_zero, List.getElem_cons_succ, List.setIfInBounds_toArray, List.set_cons_zero, List.set_cons_succ]
                refine wpAnyH_take (i := 29) (oi := _) (v := ?_) rfl (by kernel_rfl) (by kernel_rfl) (by kernel_rfl) (fun _ _ _ h => h) (Or.inl ⟨by rfl, ?_⟩) (by assumption) ?_
                rotate_left
                · intro w hSw
                  try dsimp only at hSw
                  go_simp
                  with_reducible rfl
                try simp only [Act.put, List.getElem_toArray, List.getElem_cons_zero, List.getElem_cons_succ, List.setIfInBounds_toArray, List.set_cons_zero, List.set_cons_succ]
                refine wpAnyH_take (i := 30) (oi := _) (v := ?_) rfl (by kernel_rfl) (by kernel_rfl) (by kernel_rfl) (fun _ _ _ h => h) (Or.inl ⟨by rfl, ?_⟩) (by assumption) ?_
                rotate_left
                · intro w hSw
                  try dsimp only at hSw
                  go_simp
                  with_reducible rfl
                try simp only [Act.put, List.getElem_toArray, List.getElem_cons_zero, List.getElem_cons_succ, List.setIfInBounds_toArray, List.set_cons_zero, List.set_cons_succ]
                refine wpAnyH_take (i := 31) (oi := _) (v := ?_) rfl (by kernel_rfl) (by kernel_rfl) (by kernel_rfl) (fun _ _ _ h => h) (Or.inl ⟨by rfl, ?_⟩) (by assumption) ?_
                rotate_left
                · intro w hSw
                  try dsimp only at hSw
                  go_simp
                  with_reducible rfl
                try simp only [Act.put, List.getElem_toArray, List.getElem_cons_zero, List.getElem_cons_succ, List.setIfInBounds_toArray, List.set_cons_zero, List.set_cons_succ]
                refine wpAnyH_take (i := 32) (oi := _) (v := ?_) rfl (by kernel_rfl) (by kernel_rfl) (by kernel_rfl) (fun _ _ _ h => h) (Or.inl ⟨by rfl, ?_⟩) (by assumption) ?_
                rotate_left
                · intro w hSw
                  try dsimp only at hSw
                  go_simp
                  with_reducible rfl
                try simp only [Act.put, List.getElem_toArray, List.getElem_cons_zero, List.getElem_cons_succ, List.setIfInBounds_toArray, List.set_cons_zero, List.set_cons_succ]
                refine wpAnyH_take (i := 33) (oi := _) (v := ?_) rfl (by kernel_rfl) (by kernel_rfl) (by kernel_rfl) (fun _ _ _ h => h) (Or.inl ⟨by rfl, ?_⟩) (by assumption) ?_
                rotate_left
                · intro w hSw
                  try dsimp only at hSw
                  go_simp
                  with_reducible rfl
                try simp only [Act.put, List.getElem_toArray, List.getElem_cons_zero, List.getElem_cons_succ, List.setIfInBounds_toArray, List.set_cons_zero, List.set_cons_succ]
                refine wpAnyH_take (i := 35) (oi := _) (v := ?_) rfl (by kernel_rfl) (by kernel_rfl) (by kernel_rfl) (fun _ _ _ h => h) (Or.inl ⟨by rfl, ?_⟩) (by assumption) ?_
                rotate_left
                · intro w hSw
                  try dsimp only at hSw
                  go_simp
                  with_reducible rfl
                try simp only [Act.put, List.getElem_toArray, List.getElem_cons_zero, List.getElem_cons_succ, List.setIfInBounds_toArray, List.set_cons_zero, List.set_cons_succ]
                refine wpAnyH_take (i := 36) (oi := _) (v := ?_) rfl (by kernel_rfl) (by kernel_rfl) (by kernel_rfl) (fun _ _ _ h => h) (Or.inl ⟨by rfl, ?_⟩) (by assumption) ?_
                rotate_left
                · intro w hSw
                  try dsimp only at hSw
                  go_simp
                  with_reducible rfl
                try simp only [Act.put, List.getElem_toArray, List.getElem_cons_zero, List.getElem_cons_succ, List.setIfInBounds_toArray, List.set_cons_zero, List.set_cons_succ]
                refine wpAnyH_ready (rs := [34]) (by kernel_rfl) (by simp) ?_
                refine AllReadyH.cons (o := _) rfl (fun K hK => ?_) AllReadyH.nil
                go_simp
                go_at_call 15
                (with_reducible refine (CH1.out _ H5).mono ?_)
                rintro e u2 ⟨rfl, H6⟩
                go_wp2_with fail
                refine hK.out _ _ (HS.out _ H6) (fun hHeld => ?_)
                clear hK K
                try simp only [Act.put, List.getElem_toArray, List.getElem_cons_zero, List.getElem_cons_succ, List.setIfInBounds_toArray, List.set_cons_zero, List.set_cons_succ]
                refine wpAnyH_ready (rs := [37]) (by kernel_rfl) (by simp) ?_
                refine AllReadyH.cons (o := _) rfl (fun K hK => ?_) AllReadyH.nil
                go_simp
                go_at_call 16
                (with_reducible refine (RH1.out _ H6).mono ?_)
                rintro e u3 ⟨rfl, H7⟩
                go_wp2_with fail
                refine hK.out _ _ (HS.out _ H7) (fun hHeld => ?_)
                clear hK K
                try simp only [Act.put, List.getElem_toArray, List.getElem_cons_zero, List.getElem_cons_succ, List.setIfInBounds_toArray, List.set_cons_zero, List.set_cons_succ]
                refine wpAnyH_take (i := 38) (oi := _) (v := .bool false) rfl (by kernel_rfl) (by kernel_rfl) (by kernel_rfl) (fun _ _ _ h => h) (Or.inl ⟨by rfl, ?_⟩) (by assumption) ?_
                · intro w hSw
                  try dsimp only at hSw
                  go_simp
                  all_goals (first | with_reducible rfl | simp [nn, b1n, b2n, b3n])
                try simp only [Act.put, List.getElem_toArray, List.getElem_cons_zero, List.getElem_cons_succ, List.setIfInBounds_toArray, List.set_cons_zero, List.set_cons_succ]
                refine wpAnyH_take (i := 39) (oi := _) (v := ?_) rfl (by kernel_rfl) (by kernel_rfl) (by kernel_rfl) (fun _ _ _ h => h) (Or.inl ⟨by rfl, ?_⟩) (by assumption) ?_
                rotate_left
                · intro w hSw
                  try dsimp only at hSw
                  go_simp
                  with_reducible rfl
                try simp only [Act.put, List.getElem_toArray, List.getElem_cons_zero, List.getElem_cons_succ, List.setIfInBounds_toArray, List.set_cons_zero, List.set_cons_succ]
                refine wpAnyH_take (i := 40) (oi := _) (v := ?_) rfl (by kernel_rfl) (by kernel_rfl) (by kernel_rfl) (fun _ _ _ h => h) (Or.inl ⟨by rfl, ?_⟩) (by assumption) ?_
                rotate_left
                · intro w hSw
                  try dsimp only at hSw
                  go_simp
                  with_reducible rfl
                try simp only [Act.put, List.getElem_toArray, List.getElem_cons_zero, List.getElem_cons_succ, List.setIfInBounds_toArray, List.set_cons_zero, List.set_cons_succ]
                refine wpAnyH_take (i := 41) (oi := _) (v := ?_) rfl (by kernel_rfl) (by kernel_rfl) (by kernel_rfl) (fun _ _ _ h => h) (Or.inl ⟨by rfl, ?_⟩) (by assumption) ?_
                rotate_left
                · intro w hSw
                  try dsimp only at hSw
                  go_simp
                  with_reducible rfl
                try simp only [Act.put, List.getElem_toArray, List.getElem_cons_zero, List.getElem_cons_succ, List.setIfInBounds_toArray, List.set_cons_zero, List.set_cons_succ]
                refine wpAnyH_take (i := 42) (oi := _) (v := ?_) rfl (by kernel_rfl) (by kernel_rfl) (by kernel_rfl) (fun _ _ _ h => h) (Or.inl ⟨by rfl, ?_⟩) (by assumption) ?_
                rotate_left
                · intro w hSw
                  try dsimp only at hSw
                  go_simp
                  with_reducible rfl
                try simp only [Act.put, List.getElem_toArray, List.getElem_cons_zero, List.getElem_cons_succ, List.setIfInBounds_toArray, List.set_cons_zero, List.set_cons_succ]
                refine wpAnyH_take (i := 43) (oi := _) (v := ?_) rfl (by kernel_rfl) (by kernel_rfl) (by kernel_rfl) (fun _ _ _ h => h) (Or.inl ⟨by rfl, ?_⟩) (by assumption) ?_
                rotate_left
                · intro w hSw
                  try dsimp only at hSw
                  go_simp
                  with_reducible rfl
                try simp only [Act.put, List.getElem_toArray, List.getElem_cons_zero, List.getElem_cons_succ, List.setIfInBounds_toArray, List.set_cons_zero, List.set_cons_succ]
                refine wpAnyH_take (i := 45) (oi := _) (v := ?_) rfl (by kernel_rfl) (by kernel_rfl) (by kernel_rfl) (fun _ _ _ h => h) (Or.inl ⟨by rfl, ?_⟩) (by assumption) ?_
                rotate_left
                · intro w hSw
                  try dsimp only at hSw
                  go_simp
                  with_reducible rfl
                try simp only [Act.put, List.getElem_toArray, List.getElem_cons_zero, List.getElem_cons_succ, List.setIfInBounds_toArray, List.set_cons_zero, List.set_cons_succ]
                refine wpAnyH_take (i := 46) (oi := _) (v := ?_) rfl (by kernel_rfl) (by kernel_rfl) (by kernel_rfl) (fun _ _ _ h => h) (Or.inl ⟨by rfl, ?_⟩) (by assumption) ?_
                rotate_left
                · intro w hSw
                  try dsimp only at hSw
                  go_simp
                  with_reducible rfl
                try simp only [Act.put, List.getElem_toArray, List.getElem_cons_zero, List.getElem_cons_succ, List.setIfInBounds_toArray, List.set_cons_zero, List.set_cons_succ]
                refine wpAnyH_take (i := 47) (oi := _) (v := ?_) rfl (by kernel_rfl) (by kernel_rfl) (by kernel_rfl) (fun _ _ _ h => h) (Or.inl ⟨by rfl, ?_⟩) (by assumption) ?_
                rotate_left
                · intro w hSw
                  try dsimp only at hSw
                  go_simp
                  with_reducible rfl
                try simp only [Act.put, List.getElem_toArray, List.getElem_cons_zero, List.getElem_cons_succ, List.setIfInBounds_toArray, List.set_cons_zero, List.set_cons_succ]
                refine wpAnyH_ready (rs := [44]) (by kernel_rfl) (by simp) ?_
                refine AllReadyH.cons (o := _) rfl (fun K hK => ?_) AllReadyH.nil
                go_simp
                go_at_call 15
                (with_reducible refine (CH2.out _ H7).mono ?_)
                rintro e u4 ⟨rfl, H8⟩
                go_wp2_with fail
                refine hK.out _ _ (HS.out _ H8) (fun hHeld => ?_)
                clear hK K
                try simp only [Act.put, List.getElem_toArray, List.getElem_cons_zero, List.getElem_cons_succ, List.setIfInBounds_toArray, List.set_cons_zero, List.set_cons_succ]
                refine wpAnyH_ready (rs := [48]) (by kernel_rfl) (by simp) ?_
                refine AllReadyH.cons (o := _) rfl (fun K hK => ?_) AllReadyH.nil
                go_simp
                go_at_call 16
                (with_reducible refine (RH2.out _ H8).mono ?_)
                rintro e u5 ⟨rfl, H9⟩
                go_wp2_with fail
                refine hK.out _ _ (HS.out _ H9) (fun hHeld => ?_)
                clear hK K
                try simp only [Act.put, List.getElem_toArray, List.getElem_cons_zero, List.getElem_cons_succ, List.setIfInBounds_toArray, List.set_cons_zero, List.set_cons_succ]
                refine wpAnyH_take (i := 49) (oi := _) (v := .bool false) rfl (by kernel_rfl) (by kernel_rfl) (by kernel_rfl) (fun _ _ _ h => h) (Or.inl ⟨by rfl, ?_⟩) (by assumption) ?_
                · intro w hSw
                  try dsimp only at hSw
                  go_simp
                  all_goals (first | with_reducible rfl | simp [nn, b1n, b2n, b3n])
                try simp only [Act.put, List.getElem_toArray, List.getElem_cons_zero, List.getElem_cons_succ, List.setIfInBounds_toArray, List.set_cons_zero, List.set_cons_succ]
                refine wpAnyH_take (i := 50) (oi := _) (v := ?_) rfl (by kernel_rfl) (by kernel_rfl) (by kernel_rfl) (fun _ _ _ h => h) (Or.inl ⟨by rfl, ?_⟩) (by assumption) ?_
                rotate_left
                · intro w hSw
                  try dsimp only at hSw
                  go_simp
                  with_reducible rfl
                try simp only [Act.put, List.getElem_toArray, List.getElem_cons_zero, List.getElem_cons_succ, List.setIfInBounds_toArray, List.set_cons_zero, List.set_cons_succ]
                refine wpAnyH_done (by kernel_rfl) ?_ _
                go_wp2_with fail
                go_meet
                exact ⟨rfl, rfl, H9⟩
          case rest => as_aux_lemma =>
            obtain ⟨rfl, rfl, H4⟩ := hcut
            clear CH RH CL1
            go_upto_region 27 with (fail)
            go_cut [38, 176] from 39 to 190 (fun s38 s176 wx => s38 = .int .i64 k ∧ s176 = .bool false ∧ HR wx)
            case first => as_aux_lemma =>
              have HD := RB.out _ _ H4 (bl_drw wc _)
              rcases hL : firstE D2 with _ | ⟨⟨y1, y2, y3⟩, l⟩
              · as_aux_lemma =>
                  obtain rfl : mL = 0 := by have := HML.out; rw [hL] at this; exact this
                  obtain rfl : is = false := by have := HIS.out; rw [hL] at this; exact this
                  obtain rfl : nx = 0 := by have := HNX.out; unfold nextT at this; rw [hL] at this; exact this
                  have CD := CD1
                  rw [show dueT D2 X = false by unfold dueT dueL; rw [hL]] at CD
                  have dd : (false != false) = false := rfl
                  have HS := hid (fun y (hy : HR y) => HS0.out y (RQ.out y hy).1)
                  clear hL HML HIS HNX CD1
                  refine wp_region_held_drew (S := fun w' => w'.cell? ⟨B, 0, none⟩ = some (.int .i64 n) ∧ w'.cell? ⟨B, 1, none⟩ = some (.slice aD nD cD) ∧ w'.cell? ⟨B, 2, none⟩ = some (.int .u64 o2) ∧ w'.cell? ⟨E, 2, none⟩ = some (.int .i64 G) ∧ w'.cell? ⟨E, 3, none⟩ = some (.int .i64 X)) (by kernel_rfl) (HS.out _ HD) (fun hHeld => ?_)
                  refine wpAnyH_take (i := 0) (oi := _) (v := ?_) rfl (by kernel_rfl) (by kernel_rfl) (by kernel_rfl) (fun _ _ _ h => h) (Or.inl ⟨by rfl, ?_⟩) (by assumption) ?_
                  rotate_left
                  · intro w hSw
                    try dsimp only at hSw
                    go_simp
                    with_reducible rfl
                  try simp only [Act.put, List.getElem_toArray, List.getElem_cons_zero, List.getElem_cons_succ, List.setIfInBounds_toArray, List.set_cons_zero, List.set_cons_succ]
                  refine wpAnyH_take (i := 1) (oi := _) (v := ?_) rfl (by kernel_rfl) (by kernel_rfl) (by kernel_rfl) (fun _ _ _ h => h) (Or.inl ⟨by rfl, ?_⟩) (by assumption) ?_
                  rotate_left
                  · intro w hSw
                    try dsimp only at hSw
                    go_simp
                    with_reducible rfl
                  try simp only [Act.put, List.getElem_toArray, List.getElem_cons_zero, List.getElem_cons_succ, List.setIfInBounds_toArray, List.set_cons_zero, List.set_cons_succ]
                  refine wpAnyH_take (i := 2) (oi := _) (v := ?_) rfl (by kernel_rfl) (by kernel_rfl) (by kernel_rfl) (fun _ _ _ h => h) (Or.inl ⟨by rfl, ?_⟩) (by assumption) ?_
                  rotate_left
                  · intro w hSw
                    try dsimp only at hSw
                    go_simp
                    with_reducible rfl
                  try simp only [Act.put, List.getElem_toArray, List.getElem_cons_zero, List.getElem_cons_succ, List.setIfInBounds_toArray, List.set_cons_zero, List.set_cons_succ]
                  refine wpAnyH_take (i := 4) (oi := _) (v := ?_) rfl (by kernel_rfl) (by kernel_rfl) (by kernel_rfl) (fun _ _ _ h => h) (Or.inl ⟨by rfl, ?_⟩) (by assumption) ?_
                  rotate_left
                  · intro w hSw
                    try dsimp only at hSw
                    go_simp
                    with_reducible rfl
                  try simp only [Act.put, List.getElem_toArray, List.getElem_cons_zero, List.getElem_cons_succ, List.setIfInBounds_toArray, List.set_cons_zero, List.set_cons_succ]
                  refine wpAnyH_take (i := 5) (oi := _) (v := ?_) rfl (by kernel_rfl) (by kernel_rfl) (by kernel_rfl) (fun _ _ _ h => h) (Or.inl ⟨by rfl, ?_⟩) (by assumption) ?_
                  rotate_left
                  · intro w hSw
                    try dsimp only at hSw
                    go_simp
                    with_reducible rfl
                  try simp only [Act.put, List.getElem_toArray, List.getElem_cons_zero, List.getElem_cons_succ, List.setIfInBounds_toArray, List.set_cons_zero, List.set_cons_succ]
                  refine wpAnyH_take (i := 6) (oi := _) (v := .bool false) rfl (by kernel_rfl) (by kernel_rfl) (by kernel_rfl) (fun _ _ _ h => h) (Or.inl ⟨by rfl, ?_⟩) (by assumption) ?_
                  · intro w hSw
                    try dsimp only at hSw
                    go_simp
                    all_goals (first | with_reducible rfl | simp)
                  try simp only [Act.put, List.getElem_toArray, List.getElem_cons_zero, List.getElem_cons_succ, List.setIfInBounds_toArray, List.set_cons_zero, List.set_cons_succ]
                  refine wpAnyH_ready (rs := [3]) (by kernel_rfl) (by simp) ?_
                  refine AllReadyH.cons (o := _) rfl (fun K hK => ?_) AllReadyH.nil
                  go_simp
                  go_at_call 17
                  (with_reducible refine (CD.out _ HD).mono ?_)
                  rintro e u1 ⟨rfl, H5⟩
                  go_wp2_with fail
                  refine hK.out _ _ (HS.out _ H5) (fun hHeld => ?_)
                  clear hK K
                  try simp only [Act.put, List.getElem_toArray, List.getElem_cons_zero, List.getElem_cons_succ, List.setIfInBounds_toArray, List.set_cons_zero, List.set_cons_succ]
                  refine wpAnyH_take (i := 7) (oi := _) (v := ?_) rfl (by kernel_rfl) (by kernel_rfl) (by kernel_rfl) (fun _ _ _ h => h) (Or.inl ⟨by rfl, ?_⟩) (by assumption) ?_
                  rotate_left
                  · intro w hSw
                    try dsimp only at hSw
                    go_simp
                    with_reducible rfl
                  try simp only [Act.put, List.getElem_toArray, List.getElem_cons_zero, List.getElem_cons_succ, List.setIfInBounds_toArray, List.set_cons_zero, List.set_cons_succ]
                  refine wpAnyH_take (i := 8) (oi := _) (v := undef) rfl (by kernel_rfl) (by kernel_rfl) (by kernel_rfl) (fun _ _ _ h => h) (Or.inr ⟨by rfl, rfl⟩) (by assumption) ?_
                  try simp only [Act.put, List.getElem_toArray, List.getElem_cons_zero, List.getElem_cons_succ, List.setIfInBounds_toArray, List.set_cons_zero, List.set_cons_succ]
                  refine wpAnyH_take (i := 9) (oi := _) (v := undef) rfl (by kernel_rfl) (by kernel_rfl) (by kernel_rfl) (fun _ _ _ h => h) (Or.inr ⟨by rfl, rfl⟩) (by assumption) ?_
                  try simp only [Act.put, List.getElem_toArray, List.getElem_cons_zero, List.getElem_cons_succ, List.setIfInBounds_toArray, List.set_cons_zero, List.set_cons_succ]
                  refine wpAnyH_take (i := 10) (oi := _) (v := undef) rfl (by kernel_rfl) (by kernel_rfl) (by kernel_rfl) (fun _ _ _ h => h) (Or.inr ⟨by rfl, rfl⟩) (by assumption) ?_
                  try simp only [Act.put, List.getElem_toArray, List.getElem_cons_zero, List.getElem_cons_succ, List.setIfInBounds_toArray, List.set_cons_zero, List.set_cons_succ]
                  refine wpAnyH_take (i := 11) (oi := _) (v := undef) rfl (by kernel_rfl) (by kernel_rfl) (by kernel_rfl) (fun _ _ _ h => h) (Or.inr ⟨by rfl, rfl⟩) (by assumption) ?_
                  try simp only [Act.put, List.getElem_toArray, List.getElem_cons_zero, List.getElem_cons_succ, List.setIfInBounds_toArray, List.set_cons_zero, List.set_cons_succ]
                  refine wpAnyH_take (i := 12) (oi := _) (v := undef) rfl (by kernel_rfl) (by kernel_rfl) (by kernel_rfl) (fun _ _ _ h => h) (Or.inr ⟨by rfl, rfl⟩) (by assumption) ?_
                  try simp only [Act.put, List.getElem_toArray, List.getElem_cons_zero, List.getElem_cons_succ, List.setIfInBounds_toArray, List.set_cons_zero, List.set_cons_succ]
                  refine wpAnyH_take (i := 13) (oi := _) (v := undef) rfl (by kernel_rfl) (by kernel_rfl) (by kernel_rfl) (fun _ _ _ h => h) (Or.inr ⟨by rfl, rfl⟩) (by assumption) ?_
                  try simp only [Act.put, List.getElem_toArray, List.getElem_cons_zero, List.getElem_cons_succ, List.setIfInBounds_toArray, List.set_cons_zero, List.set_cons_succ]
                  refine wpAnyH_take (i := 14) (oi := _) (v := undef) rfl (by kernel_rfl) (by kernel_rfl) (by kernel_rfl) (fun _ _ _ h => h) (Or.inr ⟨by rfl, rfl⟩) (by assumption) ?_
                  try simp only [Act.put, List.getElem_toArray, List.getElem_cons_zero, List.getElem_cons_succ, List.setIfInBounds_toArray, List.set_cons_zero, List.set_cons_succ]
                  refine wpAnyH_take (i := 15) (oi := _) (v := ?_) rfl (by kernel_rfl) (by kernel_rfl) (by kernel_rfl) (fun _ _ _ h => h) (Or.inl ⟨by rfl, ?_⟩) (by assumption) ?_
                  rotate_left
                  · intro w hSw
                    try dsimp only at hSw
                    go_simp
                    with_reducible rfl
                  try simp only [Act.put, List.getElem_toArray, List.getElem_cons_zero, List.getElem_cons_succ, List.setIfInBounds_toArray, List.set_cons_zero, List.set_cons_succ]
                  refine wpAnyH_take (i := 16) (oi := _) (v := .bool false) rfl (by kernel_rfl) (by kernel_rfl) (by kernel_rfl) (fun _ _ _ h => h) (Or.inl ⟨by rfl, ?_⟩) (by assumption) ?_
                  · intro w hSw
                    try dsimp only at hSw
                    go_simp
                    all_goals (first | with_reducible rfl | simp [dd])
                  try simp only [Act.put, List.getElem_toArray, List.getElem_cons_zero, List.getElem_cons_succ, List.setIfInBounds_toArray, List.set_cons_zero, List.set_cons_succ]
                  refine wpAnyH_done (by kernel_rfl) ?_ _
                  go_wp2_with fail
                  go_meet
                  exact ⟨rfl, rfl, H5⟩
              · as_aux_lemma =>
                  obtain ⟨ml, hml⟩ : ∃ ml, ml = l.length := ⟨_, rfl⟩
                  obtain rfl : mL = ml + 1 := by have := HML.out; rw [hL] at this; rw [hml]; exact this
                  obtain rfl : is = true := by have := HIS.out; rw [hL] at this; simpa using this
                  obtain rfl : nx = y1 := by have := HNX.out; unfold nextT at this; rw [hL] at this; exact this
                  have CD := CD1
                  rw [show dueT D2 X = decide (nx ≤ X) by unfold dueT dueL; rw [hL]] at CD
                  have dd : (decide (nx ≤ X) != decide (nx ≤ X)) = false := by simp
                  have hrd := (RQ.out _ H4).2
                  rw [hL] at hrd
                  obtain ⟨g, off3, rfl⟩ := hrd.addr
                  clear hrd
                  have HS : Hid (∀ w', HR w' → w'.cell? ⟨B, 0, none⟩ = some (.int .i64 n) ∧ w'.cell? ⟨B, 1, none⟩ = some (.slice aD nD cD) ∧ w'.cell? ⟨B, 2, none⟩ = some (.int .u64 o2) ∧ w'.cell? ⟨E, 2, none⟩ = some (.int .i64 G) ∧ w'.cell? ⟨E, 3, none⟩ = some (.int .i64 X) ∧ w'.cell? ⟨g, off3, none⟩ = some (.int .i64 nx)) := hid (fun y hy => by
                    have h1 := HS0.out y (RQ.out y hy).1
                    have h2 := (RQ.out y hy).2
                    rw [hL] at h2
                    exact ⟨h1.1, h1.2.1, h1.2.2.1, h1.2.2.2.1, h1.2.2.2.2, h2.first⟩)
                  clear hL HML HIS HNX CD1 hml
                  refine wp_region_held_drew (S := fun w' => w'.cell? ⟨B, 0, none⟩ = some (.int .i64 n) ∧ w'.cell? ⟨B, 1, none⟩ = some (.slice aD nD cD) ∧ w'.cell? ⟨B, 2, none⟩ = some (.int .u64 o2) ∧ w'.cell? ⟨E, 2, none⟩ = some (.int .i64 G) ∧ w'.cell? ⟨E, 3, none⟩ = some (.int .i64 X) ∧ w'.cell? ⟨g, off3, none⟩ = some (.int .i64 nx)) (by kernel_rfl) (HS.out _ HD) (fun hHeld => ?_)
                  refine wpAnyH_take (i := 0) (oi := _) (v := ?_) rfl (by kernel_rfl) (by kernel_rfl) (by kernel_rfl) (fun _ _ _ h => h) (Or.inl ⟨by rfl, ?_⟩) (by assumption) ?_
                  rotate_left
                  · intro w hSw
                    try dsimp only at hSw
                    go_simp
                    with_reducible rfl
                  try simp only [Act.put, List.getElem_toArray, List.getElem_cons_zero, List.getElem_cons_succ, List.setIfInBounds_toArray, List.set_cons_zero, List.set_cons_succ]
                  refine wpAnyH_take (i := 1) (oi := _) (v := ?_) rfl (by kernel_rfl) (by kernel_rfl) (by kernel_rfl) (fun _ _ _ h => h) (Or.inl ⟨by rfl, ?_⟩) (by assumption) ?_
                  rotate_left
                  · intro w hSw
                    try dsimp only at hSw
                    go_simp
                    with_reducible rfl
                  try simp only [Act.put, List.getElem_toArray, List.getElem_cons_zero, List.getElem_cons_succ, List.setIfInBounds_toArray, List.set_cons_zero, List.set_cons_succ]
                  refine wpAnyH_take (i := 2) (oi := _) (v := ?_) rfl (by kernel_rfl) (by kernel_rfl) (by kernel_rfl) (fun _ _ _ h => h) (Or.inl ⟨by rfl, ?_⟩) (by assumption) ?_
                  rotate_left
                  · intro w hSw
                    try dsimp only at hSw
                    go_simp
                    with_reducible rfl
                  try simp only [Act.put, List.getElem_toArray, List.getElem_cons_zero, List.getElem_cons_succ, List.setIfInBounds_toArray, List.set_cons_zero, List.set_cons_succ]
                  refine wpAnyH_take (i := 4) (oi := _) (v := ?_) rfl (by kernel_rfl) (by kernel_rfl) (by kernel_rfl) (fun _ _ _ h => h) (Or.inl ⟨by rfl, ?_⟩) (by assumption) ?_
                  rotate_left
                  · intro w hSw
                    try dsimp only at hSw
                    go_simp
                    with_reducible rfl
                  try simp only [Act.put, List.getElem_toArray, List.getElem_cons_zero, List.getElem_cons_succ, List.setIfInBounds_toArray, List.set_cons_zero, List.set_cons_succ]
                  refine wpAnyH_take (i := 5) (oi := _) (v := ?_) rfl (by kernel_rfl) (by kernel_rfl) (by kernel_rfl) (fun _ _ _ h => h) (Or.inl ⟨by rfl, ?_⟩) (by assumption) ?_
                  rotate_left
                  · intro w hSw
                    try dsimp only at hSw
                    go_simp
                    with_reducible rfl
                  try simp only [Act.put, List.getElem_toArray, List.getElem_cons_zero, List.getElem_cons_succ, List.setIfInBounds_toArray, List.set_cons_zero, List.set_cons_succ]
                  refine wpAnyH_take (i := 6) (oi := _) (v := .bool true) rfl (by kernel_rfl) (by kernel_rfl) (by kernel_rfl) (fun _ _ _ h => h) (Or.inl ⟨by rfl, ?_⟩) (by assumption) ?_
                  · intro w hSw
                    try dsimp only at hSw
                    go_simp
                    all_goals (first | with_reducible rfl | (simp; omega))
                  try simp only [Act.put, List.getElem_toArray, List.getElem_cons_zero, List.getElem_cons_succ, List.setIfInBounds_toArray, List.set_cons_zero, List.set_cons_succ]
                  refine wpAnyH_ready (rs := [3]) (by kernel_rfl) (by simp) ?_
                  refine AllReadyH.cons (o := _) rfl (fun K hK => ?_) AllReadyH.nil
                  go_simp
                  go_at_call 17
                  (with_reducible refine (CD.out _ HD).mono ?_)
                  rintro e u1 ⟨rfl, H5⟩
                  go_wp2_with fail
                  refine hK.out _ _ (HS.out _ H5) (fun hHeld => ?_)
                  clear hK K
                  try simp only [Act.put, List.getElem_toArray, List.getElem_cons_zero, List.getElem_cons_succ, List.setIfInBounds_toArray, List.set_cons_zero, List.set_cons_succ]
                  refine wpAnyH_take (i := 7) (oi := _) (v := ?_) rfl (by kernel_rfl) (by kernel_rfl) (by kernel_rfl) (fun _ _ _ h => h) (Or.inl ⟨by rfl, ?_⟩) (by assumption) ?_
                  rotate_left
                  · intro w hSw
                    try dsimp only at hSw
                    go_simp
                    with_reducible rfl
                  try simp only [Act.put, List.getElem_toArray, List.getElem_cons_zero, List.getElem_cons_succ, List.setIfInBounds_toArray, List.set_cons_zero, List.set_cons_succ]
                  refine wpAnyH_take (i := 8) (oi := _) (v := ?_) rfl (by kernel_rfl) (by kernel_rfl) (by kernel_rfl) (fun _ _ _ h => h) (Or.inl ⟨by rfl, ?_⟩) (by assumption) ?_
                  rotate_left
                  · intro w hSw
                    try dsimp only at hSw
                    go_simp
                    with_reducible rfl
                  try simp only [Act.put, List.getElem_toArray, List.getElem_cons_zero, List.getElem_cons_succ, List.setIfInBounds_toArray, List.set_cons_zero, List.set_cons_succ]
                  refine wpAnyH_take (i := 9) (oi := _) (v := ?_) rfl (by kernel_rfl) (by kernel_rfl) (by kernel_rfl) (fun _ _ _ h => h) (Or.inl ⟨by rfl, ?_⟩) (by assumption) ?_
                  rotate_left
                  · intro w hSw
                    try dsimp only at hSw
                    go_simp
                    with_reducible rfl
                  try simp only [Act.put, List.getElem_toArray, List.getElem_cons_zero, List.getElem_cons_succ, List.setIfInBounds_toArray, List.set_cons_zero, List.set_cons_succ]
                  refine wpAnyH_take (i := 10) (oi := _) (v := ?_) rfl (by kernel_rfl) (by kernel_rfl) (by kernel_rfl) (fun _ _ _ h => h) (Or.inl ⟨by rfl, ?_⟩) (by assumption) ?_
                  rotate_left
                  · intro w hSw
                    try dsimp only at hSw
                    go_simp
                    with_reducible rfl
                  try simp only [Act.put, List.getElem_toArray, List.getElem_cons_zero, List.getElem_cons_succ, List.setIfInBounds_toArray, List.set_cons_zero, List.set_cons_succ]
                  refine wpAnyH_take (i := 11) (oi := _) (v := ?_) rfl (by kernel_rfl) (by kernel_rfl) (by kernel_rfl) (fun _ _ _ h => h) (Or.inl ⟨by rfl, ?_⟩) (by assumption) ?_
                  rotate_left
                  · intro w hSw
                    try dsimp only at hSw
                    go_simp
                    with_reducible rfl
                  try simp only [Act.put, List.getElem_toArray, List.getElem_cons_zero, List.getElem_cons_succ, List.setIfInBounds_toArray, List.set_cons_zero, List.set_cons_succ]
                  refine wpAnyH_take (i := 12) (oi := _) (v := ?_) rfl (by kernel_rfl) (by kernel_rfl) (by kernel_rfl) (fun _ _ _ h => h) (Or.inl ⟨by rfl, ?_⟩) (by assumption) ?_
                  rotate_left
                  · intro w hSw
                    try dsimp only at hSw
                    go_simp
                    with_reducible rfl
                  try simp only [Act.put, List.getElem_toArray, List.getElem_cons_zero, List.getElem_cons_succ, List.setIfInBounds_toArray, List.set_cons_zero, List.set_cons_succ]
                  refine wpAnyH_take (i := 13) (oi := _) (v := ?_) rfl (by kernel_rfl) (by kernel_rfl) (by kernel_rfl) (fun _ _ _ h => h) (Or.inl ⟨by rfl, ?_⟩) (by assumption) ?_
                  rotate_left
                  · intro w hSw
                    try dsimp only at hSw
                    go_simp
                    with_reducible rfl
                  try simp only [Act.put, List.getElem_toArray, List.getElem_cons_zero, List.getElem_cons_succ, List.setIfInBounds_toArray, List.set_cons_zero, List.set_cons_succ]
                  refine wpAnyH_take (i := 14) (oi := _) (v := .bool (decide (nx ≤ X))) rfl (by kernel_rfl) (by kernel_rfl) (by kernel_rfl) (fun _ _ _ h => h) (Or.inl ⟨by rfl, ?_⟩) (by assumption) ?_
                  · intro w hSw
                    try dsimp only at hSw
                    go_simp
                    all_goals (first | with_reducible rfl | simp)
                  try simp only [Act.put, List.getElem_toArray, List.getElem_cons_zero, List.getElem_cons_succ, List.setIfInBounds_toArray, List.set_cons_zero, List.set_cons_succ]
                  refine wpAnyH_take (i := 15) (oi := _) (v := ?_) rfl (by kernel_rfl) (by kernel_rfl) (by kernel_rfl) (fun _ _ _ h => h) (Or.inl ⟨by rfl, ?_⟩) (by assumption) ?_
                  rotate_left
                  · intro w hSw
                    try dsimp only at hSw
                    go_simp
                    with_reducible rfl
                  try simp only [Act.put, List.getElem_toArray, List.getElem_cons_zero, List.getElem_cons_succ, List.setIfInBounds_toArray, List.set_cons_zero, List.set_cons_succ]
                  refine wpAnyH_take (i := 16) (oi := _) (v := .bool false) rfl (by kernel_rfl) (by kernel_rfl) (by kernel_rfl) (fun _ _ _ h => h) (Or.inl ⟨by rfl, ?_⟩) (by assumption) ?_
                  · intro w hSw
                    try dsimp only at hSw
                    go_simp
                    all_goals (first | with_reducible rfl | simp [dd])
                  try simp only [Act.put, List.getElem_toArray, List.getElem_cons_zero, List.getElem_cons_succ, List.setIfInBounds_toArray, List.set_cons_zero, List.set_cons_succ]
                  refine wpAnyH_done (by kernel_rfl) ?_ _
                  go_wp2_with fail
                  go_meet
                  exact ⟨rfl, rfl, H5⟩
            case rest => as_aux_lemma =>
              obtain ⟨rfl, rfl, H5⟩ := hcut
              have H5 := (RQ.out _ H5).1
              clear RQ RB HIS HNX HML CD1
              go_wp2_with fail
              go_loopw [22, 23, 177] (fun s22 s23 i wy => ∃ j : Nat, j ≤ 66 ∧ i = .int .i64 j ∧ HQ wy) (fun _ _ i _ => 66 - (intOf i).toNat)
              case atStart => exact ⟨0, by omega, rfl, H5⟩
              case round =>
                clear H5
                obtain ⟨j, hj, rfl, H5⟩ := hrel
                by_cases hj2 : j < 66
                · have hj1 : decide ((j : Int) < 66) = true := decide_eq_true (by omega)
                  obtain ⟨y0, y1, y2, _, _⟩ := HS0.out _ H5
                  go_wp2_with fail
                  refine (RO.out j _ H5).mono ?_
                  rintro e u1 ⟨v1, rfl, r1, c1⟩
                  have H6 := HB.out _ _ H5 c1
                  have R1 := hid r1
                  clear H5 c1 r1 y0 y1 y2
                  go_wp2_with fail
                  refine (CO.out j _ H6).mono ?_
                  rintro e u2 ⟨v2, rfl, r2, c2⟩
                  have H7 := HB.out _ _ H6 c2
                  have R3 := hid (same10_yes v2 v1 _ u2 r2 (R1.out.below c2) (SL.out _))
                  clear H6 c2 r2 R1
                  go_wp2_with fail
                  refine R3.out.mono ?_
                  rintro e u3 ⟨rfl, qq⟩
                  have H8 := HB.out _ _ H7 (qq.below _)
                  clear H7 R3 qq
                  go_wp2_with fail
                  go_roundw
                  case rel => exact ⟨j + 1, by omega, by go_num, H8⟩
                  case measure => simp [intOf]; omega
                · have hj1 : decide ((j : Int) < 66) = false := decide_eq_false (by omega)
                  clear hj hj2
                  have P9 := hid ((UQ.out _ H5).drop)
                  have B9 := P9.out.bl
                  clear H5 UQ HS0 HB CO RO SL
                  go_wp2_with fail
                  go_roundw
                  case rel => exact ⟨k + 1, _, _, _, by omega, by go_num, P9, B9⟩
                  case measure => simp [intOf]; omega
      · obtain rfl : k = len1 := by omega
        have OM := hid F.out.ofm
        clear F
        go_wp2_with fail
        refine OM.out.mono ?_
        rintro e w9 ⟨rfl, rfl⟩
        clear OM
        go_wp2
        go_ret
        exact ⟨rfl, hbr⟩
end Go.Proofs.Ytlppnkemoomllaa.timerPlays
