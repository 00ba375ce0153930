/- Masks: First, Words; what the chapter's example answers. -/
import Derived.Test.YtcbdmofdbmimfaaDoorMask3
import Derived.Test.YtcbdmofdbmimfaaDoorInts64
namespace Go.Proofs.YtcbdmofdbmimfaaDoor
set_option linter.unusedVariables false
set_option linter.unusedSimpArgs false
open Go.RowKit

theorem mnext_any (x y n : Nat) (W : List Nat) (i : Int) (w : World) (hm : Msk w x y n W) (T : DbTab w) :
    Calls Tryd.prog 15 #[.pointer (some ⟨x, 0, none⟩), .int .i64 i] w fun e w' => e = .returned (.int .i64 (nextI (bitAt W) n i)) ∧ w = w' := by
  by_cases h : (n : Int) - 1 ≤ i
  · exact mnext_late x y n W i w hm h
  · exact mnext_from x y n (max i (-1) + 1).toNat W i w hm T (by omega) (by omega)
set_option maxHeartbeats 400000 in
theorem mfirst_any (x y n : Nat) (W : List Nat) (w : World) (hm : Msk w x y n W) (T : DbTab w) :
    Calls Tryd.prog 12 #[.pointer (some ⟨x, 0, none⟩)] w fun e w' => e = .returned (.int .i64 (nextI (bitAt W) n (-1))) ∧ w = w' := by
  go_enter Tryd.func12, Tryd.ntmps12
  go_wp2_with fail
  refine (mnext_any x y n W (-1) _ hm T).mono ?_
  rintro e w' ⟨rfl, rfl⟩
  go_wp2
  go_ret
  exact ⟨rfl, rfl⟩
theorem nat_getD (W : List Nat) (j : Nat) (h : j < W.length) : (W.map Int.ofNat).getD j 0 = ((W.getD j 0 : Nat) : Int) := by
  simp [List.getD_eq_getElem?_getD, h]
theorem Msk.reads {w : World} {x y n : Nat} {W : List Nat} (h : Msk w x y n W) : ∃ cap, w.cell? ⟨x, 1, none⟩ = some (.slice (some ⟨y, 0, none⟩) W.length cap) ∧ U64.Reads w (.slice (some ⟨y, 0, none⟩) W.length cap) (W.map Int.ofNat) := by
  obtain ⟨cap, h1, hc, hc2⟩ := h.c1
  refine ⟨cap, h1, _, cap, by simp, ⟨by simpa using hc, hc2, .inr ⟨_, rfl⟩⟩, fun h0 => ⟨y, 0, rfl, h.sy, fun j hj => ?_⟩⟩
  have hj' : j < W.length := by simpa using hj
  rw [Nat.zero_add, h.cy j hj', nat_getD W j hj']
set_option maxHeartbeats 400000 in
theorem mwords_any (x y n : Nat) (W : List Nat) (w : World) (hm : Msk w x y n W) :
    Calls Tryd.prog 17 #[.pointer (some ⟨x, 0, none⟩)] w (U64.ClonePost (W.map Int.ofNat) w) := by
  obtain ⟨cap, h1, hr⟩ := hm.reads
  have CL := hid (U64.clone_int _ _ w (by have := hm.len; have := hm.most; simp; omega) hr)
  clear hm hr
  go_enter Tryd.func17, Tryd.ntmps17
  go_wp2_with fail
  refine CL.out.mono ?_
  rintro e w' ⟨v', rfl, ho, hb⟩
  go_wp2
  go_ret
  exact ⟨_, rfl, ho, hb⟩

theorem lives02_words (W : List Nat) (f : Nat → Bool) (hl : W.length = 2) (hw : ∀ k, W.getD k 0 < 18446744073709551616) (h : bitAt W = upd (upd (fun _ => false) 3 true) 64 true) : W = [8, 1] := by
  have e : ∀ k, k < 2 → W.getD k 0 = [8, 1].getD k 0 := by
    intro k hk
    apply Nat.eq_of_testBit_eq
    intro j
    by_cases hj : j < 64
    · have h1 := congrFun h (64 * k + j)
      simp only [bitAt, show (64 * k + j) / 64 = k by omega, show (64 * k + j) % 64 = j by omega] at h1
      rw [h1]
      simp only [upd]
      have hk2 : k = 0 ∨ k = 1 := by omega
      rcases hk2 with rfl | rfl
      · have e1 : [8, 1].getD 0 0 = 2 ^ 3 := rfl
        rw [e1, Nat.testBit_two_pow]
        by_cases h3 : j = 3
        · subst h3; simp
        · rw [if_neg (by omega), if_neg (by omega)]; simp; omega
      · have e1 : [8, 1].getD 1 0 = 2 ^ 0 := rfl
        rw [e1, Nat.testBit_two_pow]
        by_cases h3 : j = 0
        · subst h3; simp
        · rw [if_neg (by omega), if_neg (by omega)]; simp; omega
    · have h1 := hw k
      have h2 : ∀ v : Nat, v < 18446744073709551616 → v.testBit j = false := fun v hv => by
        apply Nat.testBit_lt_two_pow
        have : (2 : Nat) ^ 64 ≤ 2 ^ j := Nat.pow_le_pow_right (by omega) (by omega)
        have e : (2 : Nat) ^ 64 = 18446744073709551616 := by decide
        omega
      rw [h2 _ h1, h2]
      have hk2 : k = 0 ∨ k = 1 := by omega
      rcases hk2 with rfl | rfl <;> decide
  match W, hl with
  | [a, b], _ =>
    have h0 := e 0 (by omega)
    have h1 := e 1 (by omega)
    simp at h0 h1
    rw [h0, h1]
theorem Only.low {b g B : Nat} {w0 w w' : World} (h : Only b g w w') (hb : B ≤ b) (hg : B ≤ g) (hB : Below B w0 w) (hs : B ≤ w.heap.size) : Below B w0 w' := hB.trans (h.below hb hg hs)

set_option maxHeartbeats 2000000 in
theorem lives2 (w : World) (T : DbTab w) : Calls Tryd.prog 8 #[] w fun e w' => e = .returned (.bool true) ∧ Below w.heap.size w w' := by
  have HT := hid T
  clear T
  go_enter Tryd.func8, Tryd.ntmps8
  go_wp2_with fail
  refine (mnew_any 70 70 (by omega) _).mono ?_
  rintro e w1 ⟨rfl, hm1, hb1, hs1⟩
  have HB1 := hid hb1
  have M1 := hid hm1
  have hx : w.heap.size ≤ w.heap.size + 1 := by omega
  generalize w.heap.size + 1 = x at hm1 M1 hx
  obtain ⟨y, hy⟩ : ∃ y, y = w.heap.size := ⟨_, rfl⟩
  rw [← hy] at M1
  have HY := hid hy
  clear hm1 hb1 hs1 hy
  go_wp2_with fail
  refine (put_yes x y 70 _ 3 _ M1.out (by omega) (bitAt_zero _ _)).mono ?_
  rintro e w2 ⟨W1, rfl, hm2, hb2, ho2⟩
  have M2 := hid hm2
  have F2 := hid hb2
  have O2 := hid ho2
  clear hm2 hb2 ho2
  go_wp2_with fail
  refine (put_yes x y 70 _ 64 _ M2.out (by omega) (by rw [F2.out, upd_ne _ _ (by omega)]; exact bitAt_zero _ _)).mono ?_
  rintro e w3 ⟨W2, rfl, hm3, hb3, ho3⟩
  obtain rfl : W2 = [8, 1] := lives02_words W2 (bitAt W2) hm3.len hm3.wf (by
    rw [hb3, F2.out]
    congr 2
    funext i; exact bitAt_zero _ _)
  have M3 := hid hm3
  have O3 := hid ho3
  clear hm3 hb3 ho3 F2
  go_wp2_with fail
  refine (mwords_any x y 70 _ _ M3.out).mono ?_
  rintro e w4 ⟨v, rfl, ho, hb4⟩
  have hr := ho.reads
  obtain ⟨a, c, rfl, _, hr⟩ := hr
  obtain ⟨g, off, rfl, _, hr⟩ := hr (by decide)
  have c0 : w4.cell? ⟨g, off, none⟩ = some (.int .u64 8) := hr 0 (by decide)
  have c1 : w4.cell? ⟨g, off + 1, none⟩ = some (.int .u64 1) := hr 1 (by decide)
  have M4 := hid (M3.out.below hb4 M3.out.sx M3.out.sy)
  have FIN : Hid (Below w.heap.size w w4) := (O3.out.low hx (by have := HY.out; omega) (O2.out.low hx (by have := HY.out; omega) HB1.out HB1.out.size) (Nat.le_trans HB1.out.size O2.out.size)).trans (hb4.mono (Nat.le_trans HB1.out.size (Nat.le_trans O2.out.size O3.out.size)))
  have T4 : Hid (DbTab w4) := HT.out.at FIN.out
  have HN := hid (show nextI (bitAt [8, 1]) 70 3 = 64 by decide +kernel)
  clear ho hr hb4
  go_wp2_with fail
  refine (mnext_any x y 70 _ 3 _ M4.out T4.out).mono ?_
  rintro e w5 ⟨rfl, rfl⟩
  rw [HN.out]
  go_wp2
  go_ret
  exact ⟨rfl, FIN.out⟩
end Go.Proofs.YtcbdmofdbmimfaaDoor
