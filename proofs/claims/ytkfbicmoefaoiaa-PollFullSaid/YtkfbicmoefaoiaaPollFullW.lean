/- The walk of the statement PollFull: the law answers true and turns nothing that was there. -/
import Derived.Test.YtkfbicmoefaoiaaLives11
import Derived.OpenShut
namespace Go.Proofs.Ytkfbicmoefaoiaa.pollFull
open Go.RowKit
set_option linter.unusedVariables false
set_option linter.unusedSimpArgs false

/-- Behind so many: those below k are ready, the others waited for. -/
structure Pf (W : List (Int × Int)) (R : List Int) (k i : Nat) : Prop where
  ws : ∀ a y, (a, y) ∈ W ↔ y = a ∧ (k : Int) ≤ a ∧ a < i
  rs : ∀ a, a ∈ R ↔ 0 ≤ a ∧ a < k ∧ a < i
  ln : W.length + R.length = i
theorem Pf.wf {W : List (Int × Int)} {R : List Int} {k i : Nat} (h : Pf W R k i) (a : Int) : waitsF W a = decide ((k : Int) ≤ a ∧ a < i) := by
  unfold waitsF
  refine decide_eq_decide.2 ⟨fun hm => ?_, fun hm => List.mem_map.2 ⟨(a, a), (h.ws a a).2 ⟨rfl, hm⟩, rfl⟩⟩
  obtain ⟨⟨x, y⟩, he, rfl⟩ := List.mem_map.1 hm
  exact ((h.ws x y).1 he).2
theorem Pf.wg {W : List (Int × Int)} {R : List Int} {k i : Nat} (h : Pf W R k i) (a : Int) : waitsG W a = decide ((k : Int) ≤ a ∧ a < i) := by
  unfold waitsG
  refine decide_eq_decide.2 ⟨fun hm => ?_, fun hm => List.mem_map.2 ⟨(a, a), (h.ws a a).2 ⟨rfl, hm⟩, rfl⟩⟩
  obtain ⟨⟨x, y⟩, he, rfl⟩ := List.mem_map.1 hm
  obtain ⟨h1, h2⟩ := (h.ws x y).1 he
  simp only at h1 ⊢
  rw [h1]; exact h2
theorem Pf.pl {W : List (Int × Int)} {R : List Int} {k i : Nat} (h : Pf W R k i) : plen W R = i := by
  unfold plen
  have : R.filter (fun a => !waitsF W a) = R := List.filter_eq_self.2 fun a ha => by
    have := (h.rs a).1 ha
    rw [h.wf a, decide_eq_false (by omega)]; rfl
  rw [this]; exact h.ln
theorem Pf.sz {W : List (Int × Int)} {R : List Int} {k i : Nat} (h : Pf W R k i) (hi : i ≤ 1024) : W.length < 1000000 ∧ R.length < 1000000 := by have := h.ln; omega
theorem Pf.nil (k : Nat) : Pf [] [] k 0 := ⟨fun a y => by simp; omega, fun a => by simp; omega, rfl⟩
theorem Pf.ready {W : List (Int × Int)} {R : List Int} {k i : Nat} (h : Pf W R k i) (hi : i < k) : Pf W (addR R i) k (i + 1) := by
  have hn : (i : Int) ∉ R := fun hm => by have := (h.rs i).1 hm; omega
  unfold addR
  rw [if_neg hn]
  refine ⟨fun a y => ?_, fun a => ?_, by have := h.ln; simp; omega⟩
  · rw [h.ws a y]; omega
  · rw [List.mem_cons, h.rs a]; omega
theorem Pf.wait {W : List (Int × Int)} {R : List Int} {k i : Nat} (h : Pf W R k i) (hi : k ≤ i) : Pf (((i : Int), (i : Int)) :: W) R k (i + 1) := by
  refine ⟨fun a y => ?_, fun a => ?_, by have := h.ln; simp; omega⟩
  · rw [List.mem_cons, h.ws a y, Prod.mk.injEq]; omega
  · rw [h.rs a]; omega
theorem Pf.due {W : List (Int × Int)} {R : List Int} {k i : Nat} (h : Pf W R k i) : anyDue W R = false := by
  rw [anyDue, List.any_eq_false]
  rintro ⟨x, y⟩ he
  have h1 := (h.ws x y).1 he
  simp only [decide_eq_true_eq]
  intro hm
  have := (h.rs x).1 hm
  omega
/-- One more that is known is ready: there are no more. -/
theorem pl_known {W : List (Int × Int)} {R : List Int} {fd : Int} (h : waitsF W fd = true ∨ fd ∈ R) : plen W (addR R fd) = plen W R := by
  unfold addR
  split
  · rfl
  · rename_i hn
    rcases h with h | h
    · unfold plen; rw [List.filter_cons, h]; rfl
    · exact absurd h hn
theorem mem_addR {R : List Int} {fd a : Int} : a ∈ addR R fd ↔ a = fd ∨ a ∈ R := by
  unfold addR
  split
  · rename_i h
    constructor
    · exact .inr
    · rintro (rfl | h2)
      · exact h
      · exact h2
  · simp
theorem len_addR (R : List Int) (fd : Int) : (addR R fd).length ≤ R.length + 1 := by unfold addR; split <;> simp
set_option maxRecDepth 100000 in
set_option maxHeartbeats 16000000 in
theorem walk (a0 a1 a2 : Int) (w : World) (w0 : (Lit.int .u16 a0).wf = true) (w1 : (Lit.int .u16 a1).wf = true) (w2 : (Lit.int .i64 a2).wf = true) :
    Calls Try.prog 5 #[.int .u16 a0, .int .u16 a1, .int .i64 a2] w fun e w' => e = .returned (.bool true) ∧ Below w.heap.size w w' := by
  have b0 : 0 ≤ a0 ∧ a0 ≤ 65535 := by simpa [Lit.wf] using bounds_u16 w0
  have b1 : 0 ≤ a1 ∧ a1 ≤ 65535 := by simpa [Lit.wf] using bounds_u16 w1
  clear w0 w1 w2
  obtain ⟨l0, u0⟩ := b0
  obtain ⟨l1, u1⟩ := b1
  obtain ⟨k, hk⟩ : ∃ n : Nat, a0 % 1025 = n := ⟨(a0 % 1025).toNat, by omega⟩
  have HK := hid hk
  have hk2 : k ≤ 1024 := by omega
  have q0 : 0 ≤ a0 % 1025 := by omega
  have q1 : a0 % 1025 ≤ 1024 := by omega
  clear hk
  go_enter Try.func5, Try.ntmps5
  go_wp2_with fail
  refine (lives11 _).mono ?_
  rintro e w2 ⟨rfl, hb1⟩
  have HB1 := hid hb1
  clear hb1
  go_wp2_with fail
  refine (pnewZ _).mono ?_
  rintro e w3 ⟨Z, p, m1, m2, m3, rfl, q3, bl3, hz, _⟩
  have HZ := hid (fun q (hq : q < w.heap.size) => hz q (Nat.lt_of_lt_of_le hq HB1.out.size))
  have S0 := hid (show Pq Z w3 p m1 m2 m3 [] [] ∧ Below w.heap.size w w3 from ⟨q3, HB1.out.trans (bl3.mono HB1.out.size)⟩)
  clear q3 bl3 hz HB1
  go_wp2_with fail
  rw [HK.out]
  clear q0 q1
  go_loopw [20] (fun x wr => ∃ (i : Nat) (W : List (Int × Int)) (R : List Int), i ≤ 1024 ∧ x = .int .i64 i ∧ Hid (Pq Z wr p m1 m2 m3 W R ∧ Below w.heap.size w wr ∧ Pf W R k i)) (fun x _ => 1024 - (intOf x).toNat)
  case atStart => exact ⟨0, [], [], by omega, rfl, hid ⟨S0.out.1, S0.out.2, Pf.nil k⟩⟩
  case round =>
    clear S0
    obtain ⟨i, W, R, hi, rfl, F⟩ := hrel
    by_cases hlt : i < 1024
    · by_cases hik : i < k
      · have A := hid (pready F.out.1 (F.out.2.2.sz hi) i (by rw [F.out.2.2.pl, decide_eq_false (show ¬ 1024 ≤ i by omega), Bool.and_false]))
        have W1 : IntKind.u16.wrap (i : Int) = i := by
          have hb : IntKind.u16.bits = 16 := rfl
          have hs : IntKind.u16.signed = false := rfl
          simp [IntKind.wrap, hb, hs]; omega
        go_wp2_with fail
        refine (A.out).mono ?_
        rintro e w5 ⟨rfl, f5, q5⟩
        have F5 := hid (show Pq Z w5 p m1 m2 m3 W (addR R i) ∧ Below w.heap.size w w5 ∧ Pf W (addR R i) k (i + 1) from ⟨q5, F.out.2.1.trans (f5.below HZ.out F.out.2.1.size), F.out.2.2.ready hik⟩)
        clear F A f5 q5 W1
        go_wp2
        go_roundw
        case rel => exact ⟨i + 1, W, _, by omega, by go_num, F5⟩
        case measure => simp [intOf]; omega
      · have A := hid (pwait F.out.1 (F.out.2.2.sz hi) i i (by omega) (by omega) (by rw [F.out.2.2.wf]; exact decide_eq_false (by omega)) (by rw [F.out.2.2.wg]; exact decide_eq_false (by omega)) (by rw [F.out.2.2.pl, decide_eq_false (show ¬ 1024 ≤ i by omega), Bool.and_false]))
        have W1 : IntKind.u16.wrap (i : Int) = i := by
          have hb : IntKind.u16.bits = 16 := rfl
          have hs : IntKind.u16.signed = false := rfl
          simp [IntKind.wrap, hb, hs]; omega
        have d1 : decide (i < k) = false := decide_eq_false hik
        go_wp2_with fail
        refine (A.out).mono ?_
        rintro e w5 ⟨rfl, f5, q5⟩
        have F5 := hid (show Pq Z w5 p m1 m2 m3 (((i : Int), (i : Int)) :: W) R ∧ Below w.heap.size w w5 ∧ Pf (((i : Int), (i : Int)) :: W) R k (i + 1) from ⟨q5, F.out.2.1.trans (f5.below HZ.out F.out.2.1.size), F.out.2.2.wait (by omega)⟩)
        clear F A f5 q5 W1
        go_wp2
        go_roundw
        case rel => exact ⟨i + 1, _, R, by omega, by go_num, F5⟩
        case measure => simp [intOf]; omega
    · have hi4 : i = 1024 := by omega
      have LN := plen_r F.out.1 (F.out.2.2.sz hi)
      rw [F.out.2.2.pl, hi4] at LN
      have HLN := hid LN
      have HP := hid (hi4 ▸ F.out.2.2)
      clear LN hi4
      go_wp2_with fail
      refine (HLN.out).mono ?_
      rintro e w5 ⟨rfl, b5⟩
      have Q5 := hid (F.out.1.below b5)
      have B5 := hid (F.out.2.1.trans (b5.mono F.out.2.1.size))
      have DU := pdue Q5.out
      rw [HP.out.due] at DU
      have HDU := hid DU
      clear DU b5 HLN F
      go_wp2_with fail
      refine (HDU.out).mono ?_
      rintro e w6 ⟨rfl, b6⟩
      have Q6 := hid (Q5.out.below b6)
      have B6 := hid (B5.out.trans (b6.mono B5.out.size))
      clear b6 HDU Q5 B5
      by_cases hbig : 1024 ≤ a1
      · have NR := hid (show a1 ∉ R from fun hm => by have := (HP.out.rs a1).1 hm; omega)
        have NW := hid (show waitsF W a1 = false by rw [HP.out.wf]; exact decide_eq_false (by omega))
        have FUL := hid (show (!waitsF W a1 && !decide (a1 ∈ R) && decide (1024 ≤ plen W R)) = true by rw [NW.out, decide_eq_false NR.out, HP.out.pl]; rfl)
        have RE := hid (pready_full Q6.out (HP.out.sz (Nat.le_refl _)) a1 FUL.out)
        go_wp2_with fail
        refine (RE.out).mono ?_
        rintro e w7 ⟨rfl, b7⟩
        have Q7 := hid (Q6.out.below b7)
        have B7 := hid (B6.out.trans (b7.mono B6.out.size))
        have LN := plen_r Q7.out (HP.out.sz (Nat.le_refl _))
        rw [HP.out.pl] at LN
        have LN7 := hid LN
        have f1 : decide (1024 ≤ a1) = true := decide_eq_true hbig
        have f2 : decide (a1 < 1024) = false := decide_eq_false (by omega)
        have f3 : decide ((k : Int) ≤ a1) = true := decide_eq_true (by omega)
        clear b7 RE Q6 B6 LN
        by_cases g0 : a2 < 0
        · have g1 : decide (a2 < 0) = true := decide_eq_true (by omega)
          go_wp2_with fail
          refine (LN7.out).mono ?_
          rintro e w8 ⟨rfl, b8⟩
          have Q8 := hid (Q7.out.below b8)
          have B8 := hid (B7.out.trans (b8.mono B7.out.size))
          clear b8 LN7
          have IS8 := hid (pis Q8.out a1 false (decide_eq_false NR.out))
          go_wp2_with fail
          refine (IS8.out).mono ?_
          rintro e w' ⟨rfl, rfl⟩
          clear IS8
          have WT := hid (pwait_arg (p := p) a1 a2 (.inl g0) w')
          go_wp2_with fail
          refine (WT.out).mono ?_
          rintro e w' ⟨rfl, rfl⟩
          have B9 := hid B8.out
          clear WT Q8 B8
          go_wp2
          go_ret
          exact ⟨rfl, B9.out⟩
        by_cases g5 : 4096 ≤ a2
        · have g1 : decide (a2 < 0) = false := decide_eq_false (by omega)
          have g2 : decide (4096 ≤ a2) = true := decide_eq_true (by omega)
          go_wp2_with fail
          refine (LN7.out).mono ?_
          rintro e w8 ⟨rfl, b8⟩
          have Q8 := hid (Q7.out.below b8)
          have B8 := hid (B7.out.trans (b8.mono B7.out.size))
          clear b8 LN7
          have IS8 := hid (pis Q8.out a1 false (decide_eq_false NR.out))
          go_wp2_with fail
          refine (IS8.out).mono ?_
          rintro e w' ⟨rfl, rfl⟩
          clear IS8
          have WT := hid (pwait_arg (p := p) a1 a2 (.inr g5) w')
          go_wp2_with fail
          refine (WT.out).mono ?_
          rintro e w' ⟨rfl, rfl⟩
          have B9 := hid B8.out
          clear WT Q8 B8
          go_wp2
          go_ret
          exact ⟨rfl, B9.out⟩
        by_cases g6 : (k : Int) ≤ a2
        · by_cases g7 : a2 < 1024
          · have g1 : decide (a2 < 0) = false := decide_eq_false (by omega)
            have g2 : decide (4096 ≤ a2) = false := decide_eq_false (by omega)
            have g3 : decide ((k : Int) ≤ a2) = true := decide_eq_true (by omega)
            have g4 : decide (a2 < 1024) = true := decide_eq_true (by omega)
            go_wp2_with fail
            refine (LN7.out).mono ?_
            rintro e w8 ⟨rfl, b8⟩
            have Q8 := hid (Q7.out.below b8)
            have B8 := hid (B7.out.trans (b8.mono B7.out.size))
            clear b8 LN7
            have IS8 := hid (pis Q8.out a1 false (decide_eq_false NR.out))
            go_wp2_with fail
            refine (IS8.out).mono ?_
            rintro e w' ⟨rfl, rfl⟩
            clear IS8
            have WT := hid (pwait_same Q8.out a1 a2 (by omega) (by omega) (.inr (by rw [HP.out.wg]; exact decide_eq_true (by omega))))
            go_wp2_with fail
            refine (WT.out).mono ?_
            rintro e w' ⟨rfl, rfl⟩
            have B9 := hid B8.out
            clear WT Q8 B8
            go_wp2
            go_ret
            exact ⟨rfl, B9.out⟩
          · have g1 : decide (a2 < 0) = false := decide_eq_false (by omega)
            have g2 : decide (4096 ≤ a2) = false := decide_eq_false (by omega)
            have g3 : decide ((k : Int) ≤ a2) = true := decide_eq_true (by omega)
            have g4 : decide (a2 < 1024) = false := decide_eq_false (by omega)
            go_wp2_with fail
            refine (LN7.out).mono ?_
            rintro e w8 ⟨rfl, b8⟩
            have Q8 := hid (Q7.out.below b8)
            have B8 := hid (B7.out.trans (b8.mono B7.out.size))
            clear b8 LN7
            have IS8 := hid (pis Q8.out a1 false (decide_eq_false NR.out))
            go_wp2_with fail
            refine (IS8.out).mono ?_
            rintro e w' ⟨rfl, rfl⟩
            clear IS8
            have WT := hid (pwait_full Q8.out (HP.out.sz (Nat.le_refl _)) a1 a2 (by omega) (by omega) NW.out (by rw [HP.out.wg]; exact decide_eq_false (by omega)) FUL.out)
            go_wp2_with fail
            refine (WT.out).mono ?_
            rintro e w9 ⟨rfl, b9⟩
            have B9 := hid (B8.out.trans (b9.mono B8.out.size))
            clear b9
            clear WT Q8 B8
            go_wp2
            go_ret
            exact ⟨rfl, B9.out⟩
        · have g1 : decide (a2 < 0) = false := decide_eq_false (by omega)
          have g2 : decide (4096 ≤ a2) = false := decide_eq_false (by omega)
          have g3 : decide ((k : Int) ≤ a2) = false := decide_eq_false (by omega)
          go_wp2_with fail
          refine (LN7.out).mono ?_
          rintro e w8 ⟨rfl, b8⟩
          have Q8 := hid (Q7.out.below b8)
          have B8 := hid (B7.out.trans (b8.mono B7.out.size))
          clear b8 LN7
          have IS8 := hid (pis Q8.out a1 false (decide_eq_false NR.out))
          go_wp2_with fail
          refine (IS8.out).mono ?_
          rintro e w' ⟨rfl, rfl⟩
          clear IS8
          have WT := hid (pwait_full Q8.out (HP.out.sz (Nat.le_refl _)) a1 a2 (by omega) (by omega) NW.out (by rw [HP.out.wg]; exact decide_eq_false (by omega)) FUL.out)
          go_wp2_with fail
          refine (WT.out).mono ?_
          rintro e w9 ⟨rfl, b9⟩
          have B9 := hid (B8.out.trans (b9.mono B8.out.size))
          clear b9
          clear WT Q8 B8
          go_wp2
          go_ret
          exact ⟨rfl, B9.out⟩
      · have KN := hid (show waitsF W a1 = true ∨ a1 ∈ R by
          by_cases hak : (k : Int) ≤ a1
          · left; rw [HP.out.wf]; exact decide_eq_true (by omega)
          · right; exact (HP.out.rs a1).2 (by omega))
        have NFL := hid (show (!waitsF W a1 && !decide (a1 ∈ R) && decide (1024 ≤ plen W R)) = false by
          rcases KN.out with h | h
          · rw [h]; rfl
          · rw [decide_eq_true h]; simp)
        have RE := hid (pready Q6.out (HP.out.sz (Nat.le_refl _)) a1 NFL.out)
        have SZ := hid (show W.length < 1000000 ∧ (addR R a1).length < 1000000 by have := HP.out.sz (Nat.le_refl _); have := len_addR R a1; have := HP.out.ln; omega)
        go_wp2_with fail
        refine (RE.out).mono ?_
        rintro e w7 ⟨rfl, f7, q7⟩
        have Q7 := hid q7
        have B7 := hid (B6.out.trans (f7.below HZ.out B6.out.size))
        have LN := plen_r Q7.out SZ.out
        rw [pl_known KN.out, HP.out.pl] at LN
        have LN7 := hid LN
        have f1 : decide (1024 ≤ a1) = false := decide_eq_false (by omega)
        have f2 : decide (a1 < 1024) = true := decide_eq_true (by omega)
        clear f7 q7 RE Q6 B6 LN
        by_cases g0 : a2 < 0
        · have g1 : decide (a2 < 0) = true := decide_eq_true (by omega)
          go_wp2_with fail
          refine (LN7.out).mono ?_
          rintro e w8 ⟨rfl, b8⟩
          have Q8 := hid (Q7.out.below b8)
          have B8 := hid (B7.out.trans (b8.mono B7.out.size))
          clear b8 LN7
          have WT := hid (pwait_arg (p := p) a1 a2 (.inl g0) w8)
          go_wp2_with fail
          refine (WT.out).mono ?_
          rintro e w' ⟨rfl, rfl⟩
          have B9 := hid B8.out
          clear WT Q8 B8
          go_wp2
          go_ret
          exact ⟨rfl, B9.out⟩
        by_cases g5 : 4096 ≤ a2
        · have g1 : decide (a2 < 0) = false := decide_eq_false (by omega)
          have g2 : decide (4096 ≤ a2) = true := decide_eq_true (by omega)
          go_wp2_with fail
          refine (LN7.out).mono ?_
          rintro e w8 ⟨rfl, b8⟩
          have Q8 := hid (Q7.out.below b8)
          have B8 := hid (B7.out.trans (b8.mono B7.out.size))
          clear b8 LN7
          have WT := hid (pwait_arg (p := p) a1 a2 (.inr g5) w8)
          go_wp2_with fail
          refine (WT.out).mono ?_
          rintro e w' ⟨rfl, rfl⟩
          have B9 := hid B8.out
          clear WT Q8 B8
          go_wp2
          go_ret
          exact ⟨rfl, B9.out⟩
        by_cases hak : (k : Int) ≤ a1
        · have g1 : decide (a2 < 0) = false := decide_eq_false (by omega)
          have g2 : decide (4096 ≤ a2) = false := decide_eq_false (by omega)
          have g3 : decide ((k : Int) ≤ a1) = true := decide_eq_true (by omega)
          go_wp2_with fail
          refine (LN7.out).mono ?_
          rintro e w8 ⟨rfl, b8⟩
          have Q8 := hid (Q7.out.below b8)
          have B8 := hid (B7.out.trans (b8.mono B7.out.size))
          clear b8 LN7
          have WT := hid (pwait_same Q8.out a1 a2 (by omega) (by omega) (.inl (by rw [HP.out.wf]; exact decide_eq_true (by omega))))
          go_wp2_with fail
          refine (WT.out).mono ?_
          rintro e w' ⟨rfl, rfl⟩
          have B9 := hid B8.out
          clear WT Q8 B8
          go_wp2
          go_ret
          exact ⟨rfl, B9.out⟩
        by_cases g6 : (k : Int) ≤ a2
        · by_cases g7 : a2 < 1024
          · have g1 : decide (a2 < 0) = false := decide_eq_false (by omega)
            have g2 : decide (4096 ≤ a2) = false := decide_eq_false (by omega)
            have g3 : decide ((k : Int) ≤ a1) = false := decide_eq_false (by omega)
            have g4 : decide ((k : Int) ≤ a2) = true := decide_eq_true (by omega)
            have g8 : decide (a2 < 1024) = true := decide_eq_true (by omega)
            go_wp2_with fail
            refine (LN7.out).mono ?_
            rintro e w8 ⟨rfl, b8⟩
            have Q8 := hid (Q7.out.below b8)
            have B8 := hid (B7.out.trans (b8.mono B7.out.size))
            clear b8 LN7
            have WT := hid (pwait_same Q8.out a1 a2 (by omega) (by omega) (.inr (by rw [HP.out.wg]; exact decide_eq_true (by omega))))
            go_wp2_with fail
            refine (WT.out).mono ?_
            rintro e w' ⟨rfl, rfl⟩
            have B9 := hid B8.out
            clear WT Q8 B8
            go_wp2
            go_ret
            exact ⟨rfl, B9.out⟩
          · have g1 : decide (a2 < 0) = false := decide_eq_false (by omega)
            have g2 : decide (4096 ≤ a2) = false := decide_eq_false (by omega)
            have g3 : decide ((k : Int) ≤ a1) = false := decide_eq_false (by omega)
            have g4 : decide ((k : Int) ≤ a2) = true := decide_eq_true (by omega)
            have g8 : decide (a2 < 1024) = false := decide_eq_false (by omega)
            go_wp2_with fail
            refine (LN7.out).mono ?_
            rintro e w8 ⟨rfl, b8⟩
            have Q8 := hid (Q7.out.below b8)
            have B8 := hid (B7.out.trans (b8.mono B7.out.size))
            clear b8 LN7
            have WT := hid (pwait Q8.out SZ.out a1 a2 (by omega) (by omega) (by rw [HP.out.wf]; exact decide_eq_false (by omega)) (by rw [HP.out.wg]; exact decide_eq_false (by omega)) (by rw [decide_eq_true (show a1 ∈ addR R a1 from mem_addR.2 (.inl rfl))]; simp))
            go_wp2_with fail
            refine (WT.out).mono ?_
            rintro e w9 ⟨rfl, f9, _⟩
            have B9 := hid (B8.out.trans (f9.below HZ.out B8.out.size))
            clear f9
            clear WT Q8 B8
            go_wp2
            go_ret
            exact ⟨rfl, B9.out⟩
        · have g1 : decide (a2 < 0) = false := decide_eq_false (by omega)
          have g2 : decide (4096 ≤ a2) = false := decide_eq_false (by omega)
          have g3 : decide ((k : Int) ≤ a1) = false := decide_eq_false (by omega)
          have g4 : decide ((k : Int) ≤ a2) = false := decide_eq_false (by omega)
          go_wp2_with fail
          refine (LN7.out).mono ?_
          rintro e w8 ⟨rfl, b8⟩
          have Q8 := hid (Q7.out.below b8)
          have B8 := hid (B7.out.trans (b8.mono B7.out.size))
          clear b8 LN7
          have WT := hid (pwait Q8.out SZ.out a1 a2 (by omega) (by omega) (by rw [HP.out.wf]; exact decide_eq_false (by omega)) (by rw [HP.out.wg]; exact decide_eq_false (by omega)) (by rw [decide_eq_true (show a1 ∈ addR R a1 from mem_addR.2 (.inl rfl))]; simp))
          go_wp2_with fail
          refine (WT.out).mono ?_
          rintro e w9 ⟨rfl, f9, _⟩
          have B9 := hid (B8.out.trans (f9.below HZ.out B8.out.size))
          clear f9
          clear WT Q8 B8
          go_wp2
          go_ret
          exact ⟨rfl, B9.out⟩
end Go.Proofs.Ytkfbicmoefaoiaa.pollFull
