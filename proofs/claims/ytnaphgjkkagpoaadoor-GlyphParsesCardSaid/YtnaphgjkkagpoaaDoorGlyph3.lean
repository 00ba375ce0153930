/- Glyphs: a rune's kind; the document's texts of kinds. -/
import Derived.Test.YtnaphgjkkagpoaaDoorGlyph2
namespace Go.Proofs.YtnaphgjkkagpoaaDoor
set_option linter.unusedVariables false
set_option linter.unusedSimpArgs false
open Go.RowKit

/-- The kind of a rune: q; 8: there is none. -/
def IsKind (x : Int) (q : Nat) : Prop := (∀ m, m < q → glRune0 m ≠ x) ∧ (q < 8 → glRune0 q = x)
set_option maxHeartbeats 8000000 in
theorem kind_any (x : Int) (q : Nat) (hq : q ≤ 8) (h : IsKind x q) (w : World) (R : GlRunes w) :
    Calls Tryd.prog 39 #[.int .i32 x] w fun e w' => e = .returned (.tuple #[.int .i64 (if q < 8 then (q : Int) else 0), .bool (decide (q < 8))]) ∧ w' = w := by
  obtain ⟨a, ha⟩ : ∃ a : Int, a = if q < 8 then (q : Int) else 0 := ⟨_, rfl⟩
  obtain ⟨b, hb⟩ : ∃ b : Bool, b = decide (q < 8) := ⟨_, rfl⟩
  rw [← ha, ← hb]
  have HA := hid ha
  have HB := hid hb
  clear ha hb
  have H := hid h
  have C := fun k hk => R.cell k hk
  have k0 := C 0 (by omega)
  have k1 := C 1 (by omega)
  have k2 := C 2 (by omega)
  have k3 := C 3 (by omega)
  have k4 := C 4 (by omega)
  have k5 := C 5 (by omega)
  have k6 := C 6 (by omega)
  have k7 := C 7 (by omega)
  simp only [glRune0] at k0 k1 k2 k3 k4 k5 k6 k7
  clear h R C
  have ix0 : ∀ w : World, (Instr.index 71 (.agg #[.int .i32 43, .int .i32 33, .int .i32 8594, .int .i32 8634, .int .i32 9632, .int .i32 9790, .int .i32 8987, .int .i32 10013]) (.int .i64 0)).run Tryd.prog w = .ok (.int .i32 43) w := fun _ => by kernel_rfl
  have ix1 : ∀ w : World, (Instr.index 71 (.agg #[.int .i32 43, .int .i32 33, .int .i32 8594, .int .i32 8634, .int .i32 9632, .int .i32 9790, .int .i32 8987, .int .i32 10013]) (.int .i64 1)).run Tryd.prog w = .ok (.int .i32 33) w := fun _ => by kernel_rfl
  have ix2 : ∀ w : World, (Instr.index 71 (.agg #[.int .i32 43, .int .i32 33, .int .i32 8594, .int .i32 8634, .int .i32 9632, .int .i32 9790, .int .i32 8987, .int .i32 10013]) (.int .i64 2)).run Tryd.prog w = .ok (.int .i32 8594) w := fun _ => by kernel_rfl
  have ix3 : ∀ w : World, (Instr.index 71 (.agg #[.int .i32 43, .int .i32 33, .int .i32 8594, .int .i32 8634, .int .i32 9632, .int .i32 9790, .int .i32 8987, .int .i32 10013]) (.int .i64 3)).run Tryd.prog w = .ok (.int .i32 8634) w := fun _ => by kernel_rfl
  have ix4 : ∀ w : World, (Instr.index 71 (.agg #[.int .i32 43, .int .i32 33, .int .i32 8594, .int .i32 8634, .int .i32 9632, .int .i32 9790, .int .i32 8987, .int .i32 10013]) (.int .i64 4)).run Tryd.prog w = .ok (.int .i32 9632) w := fun _ => by kernel_rfl
  have ix5 : ∀ w : World, (Instr.index 71 (.agg #[.int .i32 43, .int .i32 33, .int .i32 8594, .int .i32 8634, .int .i32 9632, .int .i32 9790, .int .i32 8987, .int .i32 10013]) (.int .i64 5)).run Tryd.prog w = .ok (.int .i32 9790) w := fun _ => by kernel_rfl
  have ix6 : ∀ w : World, (Instr.index 71 (.agg #[.int .i32 43, .int .i32 33, .int .i32 8594, .int .i32 8634, .int .i32 9632, .int .i32 9790, .int .i32 8987, .int .i32 10013]) (.int .i64 6)).run Tryd.prog w = .ok (.int .i32 8987) w := fun _ => by kernel_rfl
  have ix7 : ∀ w : World, (Instr.index 71 (.agg #[.int .i32 43, .int .i32 33, .int .i32 8594, .int .i32 8634, .int .i32 9632, .int .i32 9790, .int .i32 8987, .int .i32 10013]) (.int .i64 7)).run Tryd.prog w = .ok (.int .i32 10013) w := fun _ => by kernel_rfl
  go_enter Tryd.func39, Tryd.ntmps39
  go_wp2
  go_loopw [7] (fun i wr => ∃ (j : Nat) (J : Int), j ≤ q ∧ i = .int .i64 J ∧ wr = w ∧ Hid (J = j)) (fun i _ => 8 - (intOf i).toNat)
  case atStart => exact ⟨0, 0, by omega, rfl, rfl, hid rfl⟩
  case round =>
    obtain ⟨j, J, hj, rfl, rfl, HJ⟩ := hrel
    have hJ : J = 0 ∨ J = 1 ∨ J = 2 ∨ J = 3 ∨ J = 4 ∨ J = 5 ∨ J = 6 ∨ J = 7 ∨ J = 8 := by have := HJ.out; omega
    rcases hJ with rfl | rfl | rfl | rfl | rfl | rfl | rfl | rfl | rfl
    · have hj0 : j = 0 := by have := HJ.out; omega
      by_cases hx : ((43 : Int) == x) = true
      · have e0 : q = 0 := by
          rcases Nat.lt_or_ge j q with h | h
          · have := H.out.1 j h
            rw [hj0] at this
            exact absurd (show _ = x from beq_iff_eq.1 hx) this
          · omega
        have HF := hid (show a = 0 ∧ b = true by rw [HA.out, HB.out, e0]; exact ⟨rfl, rfl⟩)
        clear e0 hj0 hj HJ
        go_wp2
        go_ret2
        exact ⟨by rw [HF.out.1, HF.out.2]; rfl, rfl⟩
      · have hx0 : ((43 : Int) == x) = false := by simpa using hx
        have e0 : 0 < q := by
          rcases Nat.lt_or_ge 0 q with h | h
          · exact h
          · have : q = 0 := by omega
            have h2 := H.out.2 (by omega)
            rw [this] at h2
            exact absurd (beq_iff_eq.2 (show (_ : Int) = x from h2)) hx
        have HE := hid e0
        clear hx e0 hj0 hj HJ
        go_wp2
        go_roundw
        case rel => exact ⟨0 + 1, 0 + 1, HE.out, by go_num, by simp, by simp [Hid]⟩
        case measure => simp [intOf]
    · have hj1 : j = 1 := by have := HJ.out; omega
      by_cases hx : ((33 : Int) == x) = true
      · have e0 : q = 1 := by
          rcases Nat.lt_or_ge j q with h | h
          · have := H.out.1 j h
            rw [hj1] at this
            exact absurd (show _ = x from beq_iff_eq.1 hx) this
          · omega
        have HF := hid (show a = 1 ∧ b = true by rw [HA.out, HB.out, e0]; exact ⟨rfl, rfl⟩)
        clear e0 hj1 hj HJ
        go_wp2
        go_ret2
        exact ⟨by rw [HF.out.1, HF.out.2]; rfl, rfl⟩
      · have hx0 : ((33 : Int) == x) = false := by simpa using hx
        have e0 : 1 < q := by
          rcases Nat.lt_or_ge 1 q with h | h
          · exact h
          · have : q = 1 := by omega
            have h2 := H.out.2 (by omega)
            rw [this] at h2
            exact absurd (beq_iff_eq.2 (show (_ : Int) = x from h2)) hx
        have HE := hid e0
        clear hx e0 hj1 hj HJ
        go_wp2
        go_roundw
        case rel => exact ⟨1 + 1, 1 + 1, HE.out, by go_num, by simp, by simp [Hid]⟩
        case measure => simp [intOf]
    · have hj2 : j = 2 := by have := HJ.out; omega
      by_cases hx : ((8594 : Int) == x) = true
      · have e0 : q = 2 := by
          rcases Nat.lt_or_ge j q with h | h
          · have := H.out.1 j h
            rw [hj2] at this
            exact absurd (show _ = x from beq_iff_eq.1 hx) this
          · omega
        have HF := hid (show a = 2 ∧ b = true by rw [HA.out, HB.out, e0]; exact ⟨rfl, rfl⟩)
        clear e0 hj2 hj HJ
        go_wp2
        go_ret2
        exact ⟨by rw [HF.out.1, HF.out.2]; rfl, rfl⟩
      · have hx0 : ((8594 : Int) == x) = false := by simpa using hx
        have e0 : 2 < q := by
          rcases Nat.lt_or_ge 2 q with h | h
          · exact h
          · have : q = 2 := by omega
            have h2 := H.out.2 (by omega)
            rw [this] at h2
            exact absurd (beq_iff_eq.2 (show (_ : Int) = x from h2)) hx
        have HE := hid e0
        clear hx e0 hj2 hj HJ
        go_wp2
        go_roundw
        case rel => exact ⟨2 + 1, 2 + 1, HE.out, by go_num, by simp, by simp [Hid]⟩
        case measure => simp [intOf]
    · have hj3 : j = 3 := by have := HJ.out; omega
      by_cases hx : ((8634 : Int) == x) = true
      · have e0 : q = 3 := by
          rcases Nat.lt_or_ge j q with h | h
          · have := H.out.1 j h
            rw [hj3] at this
            exact absurd (show _ = x from beq_iff_eq.1 hx) this
          · omega
        have HF := hid (show a = 3 ∧ b = true by rw [HA.out, HB.out, e0]; exact ⟨rfl, rfl⟩)
        clear e0 hj3 hj HJ
        go_wp2
        go_ret2
        exact ⟨by rw [HF.out.1, HF.out.2]; rfl, rfl⟩
      · have hx0 : ((8634 : Int) == x) = false := by simpa using hx
        have e0 : 3 < q := by
          rcases Nat.lt_or_ge 3 q with h | h
          · exact h
          · have : q = 3 := by omega
            have h2 := H.out.2 (by omega)
            rw [this] at h2
            exact absurd (beq_iff_eq.2 (show (_ : Int) = x from h2)) hx
        have HE := hid e0
        clear hx e0 hj3 hj HJ
        go_wp2
        go_roundw
        case rel => exact ⟨3 + 1, 3 + 1, HE.out, by go_num, by simp, by simp [Hid]⟩
        case measure => simp [intOf]
    · have hj4 : j = 4 := by have := HJ.out; omega
      by_cases hx : ((9632 : Int) == x) = true
      · have e0 : q = 4 := by
          rcases Nat.lt_or_ge j q with h | h
          · have := H.out.1 j h
            rw [hj4] at this
            exact absurd (show _ = x from beq_iff_eq.1 hx) this
          · omega
        have HF := hid (show a = 4 ∧ b = true by rw [HA.out, HB.out, e0]; exact ⟨rfl, rfl⟩)
        clear e0 hj4 hj HJ
        go_wp2
        go_ret2
        exact ⟨by rw [HF.out.1, HF.out.2]; rfl, rfl⟩
      · have hx0 : ((9632 : Int) == x) = false := by simpa using hx
        have e0 : 4 < q := by
          rcases Nat.lt_or_ge 4 q with h | h
          · exact h
          · have : q = 4 := by omega
            have h2 := H.out.2 (by omega)
            rw [this] at h2
            exact absurd (beq_iff_eq.2 (show (_ : Int) = x from h2)) hx
        have HE := hid e0
        clear hx e0 hj4 hj HJ
        go_wp2
        go_roundw
        case rel => exact ⟨4 + 1, 4 + 1, HE.out, by go_num, by simp, by simp [Hid]⟩
        case measure => simp [intOf]
    · have hj5 : j = 5 := by have := HJ.out; omega
      by_cases hx : ((9790 : Int) == x) = true
      · have e0 : q = 5 := by
          rcases Nat.lt_or_ge j q with h | h
          · have := H.out.1 j h
            rw [hj5] at this
            exact absurd (show _ = x from beq_iff_eq.1 hx) this
          · omega
        have HF := hid (show a = 5 ∧ b = true by rw [HA.out, HB.out, e0]; exact ⟨rfl, rfl⟩)
        clear e0 hj5 hj HJ
        go_wp2
        go_ret2
        exact ⟨by rw [HF.out.1, HF.out.2]; rfl, rfl⟩
      · have hx0 : ((9790 : Int) == x) = false := by simpa using hx
        have e0 : 5 < q := by
          rcases Nat.lt_or_ge 5 q with h | h
          · exact h
          · have : q = 5 := by omega
            have h2 := H.out.2 (by omega)
            rw [this] at h2
            exact absurd (beq_iff_eq.2 (show (_ : Int) = x from h2)) hx
        have HE := hid e0
        clear hx e0 hj5 hj HJ
        go_wp2
        go_roundw
        case rel => exact ⟨5 + 1, 5 + 1, HE.out, by go_num, by simp, by simp [Hid]⟩
        case measure => simp [intOf]
    · have hj6 : j = 6 := by have := HJ.out; omega
      by_cases hx : ((8987 : Int) == x) = true
      · have e0 : q = 6 := by
          rcases Nat.lt_or_ge j q with h | h
          · have := H.out.1 j h
            rw [hj6] at this
            exact absurd (show _ = x from beq_iff_eq.1 hx) this
          · omega
        have HF := hid (show a = 6 ∧ b = true by rw [HA.out, HB.out, e0]; exact ⟨rfl, rfl⟩)
        clear e0 hj6 hj HJ
        go_wp2
        go_ret2
        exact ⟨by rw [HF.out.1, HF.out.2]; rfl, rfl⟩
      · have hx0 : ((8987 : Int) == x) = false := by simpa using hx
        have e0 : 6 < q := by
          rcases Nat.lt_or_ge 6 q with h | h
          · exact h
          · have : q = 6 := by omega
            have h2 := H.out.2 (by omega)
            rw [this] at h2
            exact absurd (beq_iff_eq.2 (show (_ : Int) = x from h2)) hx
        have HE := hid e0
        clear hx e0 hj6 hj HJ
        go_wp2
        go_roundw
        case rel => exact ⟨6 + 1, 6 + 1, HE.out, by go_num, by simp, by simp [Hid]⟩
        case measure => simp [intOf]
    · have hj7 : j = 7 := by have := HJ.out; omega
      by_cases hx : ((10013 : Int) == x) = true
      · have e0 : q = 7 := by
          rcases Nat.lt_or_ge j q with h | h
          · have := H.out.1 j h
            rw [hj7] at this
            exact absurd (show _ = x from beq_iff_eq.1 hx) this
          · omega
        have HF := hid (show a = 7 ∧ b = true by rw [HA.out, HB.out, e0]; exact ⟨rfl, rfl⟩)
        clear e0 hj7 hj HJ
        go_wp2
        go_ret2
        exact ⟨by rw [HF.out.1, HF.out.2]; rfl, rfl⟩
      · have hx0 : ((10013 : Int) == x) = false := by simpa using hx
        have e0 : 7 < q := by
          rcases Nat.lt_or_ge 7 q with h | h
          · exact h
          · have : q = 7 := by omega
            have h2 := H.out.2 (by omega)
            rw [this] at h2
            exact absurd (beq_iff_eq.2 (show (_ : Int) = x from h2)) hx
        have HE := hid e0
        clear hx e0 hj7 hj HJ
        go_wp2
        go_roundw
        case rel => exact ⟨7 + 1, 7 + 1, HE.out, by go_num, by simp, by simp [Hid]⟩
        case measure => simp [intOf]
    · have e0 : q = 8 := by have := HJ.out; omega
      have HF := hid (show a = 0 ∧ b = false by rw [HA.out, HB.out, e0]; exact ⟨rfl, rfl⟩)
      clear e0 hj HJ
      go_wp2
      go_ret2
      exact ⟨by rw [HF.out.1, HF.out.2]; rfl, rfl⟩
end Go.Proofs.YtnaphgjkkagpoaaDoor
