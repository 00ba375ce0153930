/- world.New of any config: its parts: may a config be; what is made. -/
import Derived.Test.YtfpkgkjmpcoppaaGreatDoorWoU
namespace Go.Proofs.YtfpkgkjmpcoppaaGreatDoor
open Go.RowKit
set_option linter.unusedVariables false
set_option linter.unusedSimpArgs false
set_option maxRecDepth 20000
def OkC (p m g : Int) : Prop := 1 ≤ p ∧ p ≤ 64 ∧ p ≤ m ∧ m ≤ 128 ∧ 1 ≤ g ∧ g ≤ 4096
instance (p m g : Int) : Decidable (OkC p m g) := by unfold OkC; infer_instance
theorem right_yes (p m g : Int) (h : OkC p m g) (w : World) : Calls Tryz.prog 37 #[.agg #[.int .i64 p, .int .i64 m, .int .i64 g]] w fun e w' => e = .returned (.bool true) ∧ Below w.heap.size w w' := by
  obtain ⟨h1, h2, h3, h4, h5, h6⟩ := h
  go_enter Tryz.func37, Tryz.ntmps37
  go_wp2
  go_ret
  exact ⟨rfl, (Below.refl _ _).alloc (Nat.le_refl _) _⟩
theorem right_no (p m g : Int) (h : ¬ OkC p m g) (w : World) : Calls Tryz.prog 37 #[.agg #[.int .i64 p, .int .i64 m, .int .i64 g]] w fun e w' => e = .returned (.bool false) ∧ Below w.heap.size w w' := by
  by_cases h1 : 1 ≤ p
  · by_cases h2 : p ≤ 64
    · by_cases h3 : p ≤ m
      · by_cases h4 : m ≤ 128
        · by_cases h5 : 1 ≤ g
          · have h6 : ¬ g ≤ 4096 := fun h6 => h ⟨h1, h2, h3, h4, h5, h6⟩
            clear h
            go_enter Tryz.func37, Tryz.ntmps37
            go_wp2
            go_ret
            exact ⟨rfl, (Below.refl _ _).alloc (Nat.le_refl _) _⟩
          · clear h
            go_enter Tryz.func37, Tryz.ntmps37
            go_wp2
            go_ret
            exact ⟨rfl, (Below.refl _ _).alloc (Nat.le_refl _) _⟩
        · clear h
          go_enter Tryz.func37, Tryz.ntmps37
          go_wp2
          go_ret
          exact ⟨rfl, (Below.refl _ _).alloc (Nat.le_refl _) _⟩
      · clear h
        go_enter Tryz.func37, Tryz.ntmps37
        go_wp2
        go_ret
        exact ⟨rfl, (Below.refl _ _).alloc (Nat.le_refl _) _⟩
    · clear h
      go_enter Tryz.func37, Tryz.ntmps37
      go_wp2
      go_ret
      exact ⟨rfl, (Below.refl _ _).alloc (Nat.le_refl _) _⟩
  · clear h
    go_enter Tryz.func37, Tryz.ntmps37
    go_wp2
    go_ret
    exact ⟨rfl, (Below.refl _ _).alloc (Nat.le_refl _) _⟩
/-- What may not be is not made. -/
theorem wnew_no (p m g : Int) (h : ¬ OkC p m g) (w : World) : Calls Tryz.prog 9 #[.agg #[.int .i64 p, .int .i64 m, .int .i64 g]] w fun e w' => e = .returned (.tuple #[.pointer none, .int .i64 1]) ∧ Below w.heap.size w w' := by
  have b0 := hid (bla w (.cells #[.int .i64 p, .int .i64 m, .int .i64 g] 24))
  have hR := hid (right_no p m g h)
  clear h
  go_enter Tryz.func9, Tryz.ntmps9
  go_wp2_with fail
  refine (hR.out _).mono ?_
  rintro e y ⟨rfl, hb⟩
  have FN := hid (b0.out.trans (hb.mono b0.out.size))
  clear hb b0 hR
  go_wp2
  refine bodyPost_ret (v := .tuple #[.pointer none, .int .i64 1]) (by simp [results, Tryz.results9, go_sem]) rfl ⟨rfl, FN.out⟩
theorem mk_tun (n : Nat) (h : n ≤ 1000) (w : World) : (Instr.makeSlice 35 (.int .i64 n) (.int .i64 n)).run Tryz.prog w = .ok (.slice (some ⟨w.heap.size, 0, none⟩) n n) (w.alloc (.cells (madeCells #[.int .i64 0] n) 3)) :=
  run_make_row' (P := Tryz.prog) 35 3 (.int .i64 0) 8 Tryz.underlying35 infoInt3 rfl .i64 .i64 n (by omega) (by omega) w
theorem mk_man (n : Nat) (h : n ≤ 1000) (w : World) : (Instr.makeSlice 90 (.int .i64 n) (.int .i64 n)).run Tryz.prog w = .ok (.slice (some ⟨w.heap.size, 0, none⟩) n n) (w.alloc (.cells (madeCells mz (n * 20)) 101)) := by
  obtain ⟨i, hi, hz⟩ := Option.map_eq_some_iff.1 infoMc
  obtain ⟨i', hi', hb⟩ := Option.map_eq_some_iff.1 infoMcB
  rw [hi] at hi'
  cases hi'
  simp only [Prod.mk.injEq] at hz
  have hb := of_decide_eq_true hb
  have hb2 : (i.bytes : Int) * n ≤ 1000 * 1000 := by
    rw [← Int.natCast_mul]
    exact Int.ofNat_le.2 (Nat.mul_le_mul hb h)
  have := run_make (P := Tryz.prog) w 90 101 i (.agg mz) Tryz.underlying90 hi hz.1 .i64 .i64 n n (by omega) (by omega) (by omega) (by omega)
  rw [hz.2] at this
  exact this
end Go.Proofs.YtfpkgkjmpcoppaaGreatDoor
