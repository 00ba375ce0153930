/- Masks: First, Words; what the chapter's example answers. -/
import Derived.Test.YtnabikoieolfcaaDoorMask3
import Derived.Test.YtnabikoieolfcaaDoorInts64
namespace Go.Proofs.YtnabikoieolfcaaDoor
set_option linter.unusedVariables false
set_option linter.unusedSimpArgs false
open Go.RowKit

theorem mnext_any (x y n : Nat) (W : List Nat) (i : Int) (w : World) (hm : Msk w x y n W) (T : DbTab w) :
    Calls Tryd.prog 45 #[.pointer (some ⟨x, 0, none⟩), .int .i64 i] w fun e w' => e = .returned (.int .i64 (nextI (bitAt W) n i)) ∧ w = w' := by
  by_cases h : (n : Int) - 1 ≤ i
  · exact mnext_late x y n W i w hm h
  · exact mnext_from x y n (max i (-1) + 1).toNat W i w hm T (by omega) (by omega)
set_option maxHeartbeats 400000 in
theorem mfirst_any (x y n : Nat) (W : List Nat) (w : World) (hm : Msk w x y n W) (T : DbTab w) :
    Calls Tryd.prog 36 #[.pointer (some ⟨x, 0, none⟩)] w fun e w' => e = .returned (.int .i64 (nextI (bitAt W) n (-1))) ∧ w = w' := by
  go_enter Tryd.func36, Tryd.ntmps36
  go_wp2_with fail
  refine (mnext_any x y n W (-1) _ hm T).mono ?_
  rintro e w' ⟨rfl, rfl⟩
  go_wp2
  go_ret
  exact ⟨rfl, rfl⟩
theorem nat_getD (W : List Nat) (j : Nat) (h : j < W.length) : (W.map Int.ofNat).getD j 0 = ((W.getD j 0 : Nat) : Int) := by
  simp [List.getD_eq_getElem?_getD, h]
theorem Msk.reads {w : World} {x y n : Nat} {W : List Nat} (h : Msk w x y n W) : ∃ cap, w.cell? ⟨x, 1, none⟩ = some (.slice (some ⟨y, 0, none⟩) W.length cap) ∧ U64.Reads w (.slice (some ⟨y, 0, none⟩) W.length cap) (W.map Int.ofNat) := by
  obtain ⟨cap, h1, hc, hc2⟩ := h.c1
  refine ⟨cap, h1, _, cap, by simp, ⟨by simpa using hc, hc2, .inr ⟨_, rfl⟩⟩, fun h0 => ⟨y, 0, rfl, h.sy, fun j hj => ?_⟩⟩
  have hj' : j < W.length := by simpa using hj
  rw [Nat.zero_add, h.cy j hj', nat_getD W j hj']
theorem lives02_words (W : List Nat) (f : Nat → Bool) (hl : W.length = 2) (hw : ∀ k, W.getD k 0 < 18446744073709551616) (h : bitAt W = upd (upd (fun _ => false) 3 true) 64 true) : W = [8, 1] := by
  have e : ∀ k, k < 2 → W.getD k 0 = [8, 1].getD k 0 := by
    intro k hk
    apply Nat.eq_of_testBit_eq
    intro j
    by_cases hj : j < 64
    · have h1 := congrFun h (64 * k + j)
      simp only [bitAt, show (64 * k + j) / 64 = k by omega, show (64 * k + j) % 64 = j by omega] at h1
      rw [h1]
      simp only [upd]
      have hk2 : k = 0 ∨ k = 1 := by omega
      rcases hk2 with rfl | rfl
      · have e1 : [8, 1].getD 0 0 = 2 ^ 3 := rfl
        rw [e1, Nat.testBit_two_pow]
        by_cases h3 : j = 3
        · subst h3; simp
        · rw [if_neg (by omega), if_neg (by omega)]; simp; omega
      · have e1 : [8, 1].getD 1 0 = 2 ^ 0 := rfl
        rw [e1, Nat.testBit_two_pow]
        by_cases h3 : j = 0
        · subst h3; simp
        · rw [if_neg (by omega), if_neg (by omega)]; simp; omega
    · have h1 := hw k
      have h2 : ∀ v : Nat, v < 18446744073709551616 → v.testBit j = false := fun v hv => by
        apply Nat.testBit_lt_two_pow
        have : (2 : Nat) ^ 64 ≤ 2 ^ j := Nat.pow_le_pow_right (by omega) (by omega)
        have e : (2 : Nat) ^ 64 = 18446744073709551616 := by decide
        omega
      rw [h2 _ h1, h2]
      have hk2 : k = 0 ∨ k = 1 := by omega
      rcases hk2 with rfl | rfl <;> decide
  match W, hl with
  | [a, b], _ =>
    have h0 := e 0 (by omega)
    have h1 := e 1 (by omega)
    simp at h0 h1
    rw [h0, h1]
theorem Only.low {b g B : Nat} {w0 w w' : World} (h : Only b g w w') (hb : B ≤ b) (hg : B ≤ g) (hB : Below B w0 w) (hs : B ≤ w.heap.size) : Below B w0 w' := hB.trans (h.below hb hg hs)

end Go.Proofs.YtnabikoieolfcaaDoor
