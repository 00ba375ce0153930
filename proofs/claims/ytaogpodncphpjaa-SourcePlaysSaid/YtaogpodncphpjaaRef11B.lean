/- The document's poll by value: Len, full as contracts. -/
import Derived.Test.YtaogpodncphpjaaRef11A
import Derived.Test.YtaogpodncphpjaaPre2
namespace Go.Proofs.Ytaogpodncphpjaa
set_option linter.unusedVariables false
set_option linter.unusedSimpArgs false
open Go.RowKit
theorem filt_snoc {α : Type} (f : α → Bool) (l : List α) (a : α) : ((l ++ [a]).filter f).length = (l.filter f).length + if f a then 1 else 0 := by
  rw [List.filter_append, List.length_append]
  congr 1
  cases h : f a <;> simp [h]
set_option maxHeartbeats 4000000 in
theorem rlen_any (w : World) (vW vS : Value) (V : List (Int × Int)) (S : List Int) (h : Dp w vW vS V S) :
    Calls Try.prog 75 #[.agg #[vW, vS]] w fun e w' => e = .returned (.int .i64 (rlen V S)) ∧ Below w.heap.size w w' := by
  obtain ⟨aW, nW, cW, aS, nS, cS, rfl, rfl, HN, HS, lw, ls⟩ := h.sl
  have H := hid (h.below ((Below.refl _ _).alloc (Nat.le_refl _) (.cells #[.slice aW nW cW, .slice aS nS cS] 33)))
  have B := hid (show Below w.heap.size w (w.alloc (.cells #[.slice aW nW cW, .slice aS nS cS] 33)) from (Below.refl _ _).alloc (Nat.le_refl _) _)
  have K := hid (Deep.blk_alloc_new w (.cells #[.slice aW nW cW, .slice aS nS cS] 33))
  clear h
  go_enter Try.func75, Try.ntmps75
  go_wp2_with fail
  obtain ⟨P, hP⟩ : ∃ P, P = w.heap.size := ⟨_, rfl⟩
  obtain ⟨w0, hw0⟩ : ∃ w0, w0 = w.alloc (.cells #[.slice aW nW cW, .slice aS nS cS] 33) := ⟨_, rfl⟩
  rw [← hw0] at H B K ⊢
  rw [← hP] at B K ⊢
  have hs0 : P ≤ w0.heap.size := by have := B.out.size; omega
  have HP := hid hP
  clear hw0 hP
  go_loopw [3, 12] (fun x i wr => ∃ (k m : Nat), k ≤ nW ∧ m ≤ 1000 + k ∧ x = .int .i64 m ∧ i = .int .i64 k ∧ Hid (m = S.length + ((V.take k).filter fun e => !decide (e.1 ∈ S)).length) ∧ Hid (Below w0.heap.size w0 wr)) (fun _ i _ => nW - (intOf i).toNat)
  case atStart => exact ⟨0, nS, by omega, by omega, rfl, rfl, hid (by simp [HS.out]), hid (Below.refl _ _)⟩
  case round =>
    obtain ⟨k, m, hk, hm, rfl, rfl, F, BR⟩ := hrel
    by_cases hlt : k < nW
    · have HR := H.out.below BR.out
      obtain ⟨a, c, e, _, hh⟩ := HR.hw
      simp only [Value.slice.injEq] at e
      obtain ⟨rfl, e2, rfl⟩ := e
      clear e2
      obtain ⟨g, off, rfl, _, hc⟩ := hh (by have := HN.out; omega)
      obtain ⟨h0, h1⟩ := hc k (by have := HN.out; omega)
      have T := hid (w_take (es := V) (k := k) (by have := HN.out; omega))
      generalize wAt V k = ev at *
      obtain ⟨x, y⟩ := ev
      simp only at h0 h1
      have B2 := hid (BR.out.alloc BR.out.size (.cells #[.int .i64 x, .int .i64 y] 121))
      have H2 := hid (H.out.below B2.out)
      have K2 := B2.out.block P (blk_lt K.out)
      have y0 := blk_cell (K2.trans K.out) (i := 0) rfl
      have y1 := blk_cell (K2.trans K.out) (i := 1) rfl
      clear hh hc BR HR K2
      have F2 := hid (show ((V.take (k + 1)).filter fun e => !decide (e.1 ∈ S)).length = ((V.take k).filter fun e => !decide (e.1 ∈ S)).length + if !decide (x ∈ S) then 1 else 0 by rw [T.out, filt_snoc])
      obtain ⟨b, hb⟩ : ∃ b, decide (x ∈ S) = b := ⟨_, rfl⟩
      rw [hb] at F2
      have HB := hid hb
      clear hb T
      go_wp2_with fail
      refine (ris _ _ _ V S H2.out x b HB.out).mono ?_
      rintro e w3 ⟨rfl, hb3⟩
      have B3 := hid (B2.out.trans (hb3.mono B2.out.size))
      clear hb3 B2 H2 y0 y1
      cases b
      · have F3 := hid (show m + 1 = S.length + ((V.take (k + 1)).filter fun e => !decide (e.1 ∈ S)).length by rw [F2.out, ← Nat.add_assoc, ← F.out]; rfl)
        clear F F2
        go_wp2_with fail
        go_roundw
        case rel => exact ⟨k + 1, m + 1, by omega, by omega, by go_num, by go_num, F3, B3⟩
        case measure => simp [intOf]; omega
      · have F3 := hid (show m = S.length + ((V.take (k + 1)).filter fun e => !decide (e.1 ∈ S)).length by rw [F2.out, ← Nat.add_assoc, ← F.out]; rfl)
        clear F F2
        go_wp2_with fail
        go_roundw
        case rel => exact ⟨k + 1, m, by omega, by omega, rfl, by go_num, F3, B3⟩
        case measure => simp [intOf]; omega
    · obtain rfl : k = nW := by omega
      have E := hid (show (m : Int) = rlen V S by
        have := F.out
        rw [List.take_of_length_le (by have := HN.out; omega)] at this
        unfold rlen; omega)
      have BF := hid (B.out.trans (BR.out.mono hs0))
      clear F
      go_wp2
      go_ret
      exact ⟨(show Ending.returned (.int .i64 (m : Int)) = _ by rw [E.out]), by have := BF.out; rw [HP.out] at this; exact this⟩
def rfull (V : List (Int × Int)) (S : List Int) (fd : Int) : Bool := !decide (fd ∈ S) && decide (rwho V fd < 0) && decide ((1024 : Int) ≤ rlen V S)
set_option maxHeartbeats 4000000 in
theorem rfull_any (w : World) (vW vS : Value) (V : List (Int × Int)) (S : List Int) (h : Dp w vW vS V S) (fd : Int) (r : Bool) (hr : rfull V S fd = r) :
    Calls Try.prog 62 #[.agg #[vW, vS], .int .i64 fd] w fun e w' => e = .returned (.bool r) ∧ Below w.heap.size w w' := by
  subst hr
  unfold rfull
  obtain ⟨b, hb⟩ : ∃ b, decide (fd ∈ S) = b := ⟨_, rfl⟩
  obtain ⟨y, hy⟩ : ∃ y, rwho V fd = y := ⟨_, rfl⟩
  obtain ⟨aW, nW, cW, aS, nS, cS, rfl, rfl, _, _, lw, ls⟩ := h.sl
  have H := hid (h.below ((Below.refl _ _).alloc (Nat.le_refl _) (.cells #[.slice aW nW cW, .slice aS nS cS] 33)))
  have B := hid (show Below w.heap.size w (w.alloc (.cells #[.slice aW nW cW, .slice aS nS cS] 33)) from (Below.refl _ _).alloc (Nat.le_refl _) _)
  have K := hid (Deep.blk_alloc_new w (.cells #[.slice aW nW cW, .slice aS nS cS] 33))
  obtain ⟨n, hn⟩ : ∃ n, n = rlen V S := ⟨_, rfl⟩
  have RL := hid (fun w' (hd : Dp w' (.slice aW nW cW) (.slice aS nS cS) V S) => rlen_any w' _ _ V S hd)
  rw [hb, hy, ← hn]
  rw [← hn] at RL
  have HB := hid hb
  have HY := hid hy
  clear h hb hy hn
  go_enter Try.func62, Try.ntmps62
  go_wp2_with fail
  refine (ris _ _ _ V S H.out fd b HB.out).mono ?_
  rintro e w2 ⟨rfl, h2⟩
  have H2 := hid (H.out.below h2)
  have K2 := hid ((h2.block _ (blk_lt K.out)).trans K.out)
  have B2 := hid (B.out.trans (h2.mono B.out.size))
  clear h2 H K B
  cases b
  · have y0 := blk_cell K2.out (i := 0) rfl
    have y1 := blk_cell K2.out (i := 1) rfl
    go_wp2_with fail
    refine (rwho_any _ _ _ V S H2.out fd y HY.out).mono ?_
    rintro e w3 ⟨rfl, h3⟩
    have H3 := hid (H2.out.below h3)
    have K3 := hid ((h3.block _ (blk_lt K2.out)).trans K2.out)
    have B3 := hid (B2.out.trans (h3.mono B2.out.size))
    clear h3 H2 K2 B2 y0 y1
    by_cases hlt : y < 0
    · have y0 := blk_cell K3.out (i := 0) rfl
      have y1 := blk_cell K3.out (i := 1) rfl
      go_wp2_with fail
      refine (RL.out _ H3.out).mono ?_
      rintro e w4 ⟨rfl, h4⟩
      have B4 := hid (B3.out.trans (h4.mono B3.out.size))
      clear h4 H3 K3 B3 y0 y1
      go_wp2
      go_ret
      exact ⟨by simp [hlt], B4.out⟩
    · go_wp2
      go_ret
      exact ⟨by simp; omega, B3.out⟩
  · go_wp2
    go_ret
    exact ⟨by simp, B2.out⟩
end Go.Proofs.Ytaogpodncphpjaa
