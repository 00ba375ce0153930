/- The document's words: digits, Number, Word, Text. -/
import Derived.Test.YtnaphgjkkagpoaaDoorGlyP
import Derived.Deep.RegionHeld3
import Derived.Deep.RegionWith
import Derived.Deep.CutRange
namespace Go.Proofs.YtnaphgjkkagpoaaDoor
set_option linter.unusedVariables false
set_option linter.unusedSimpArgs false
set_option maxRecDepth 20000
open Go.RowKit

def digB (u : Nat) : ByteArray := ⟨(Lib.decDigits u).toArray⟩
theorem dec_len : ∀ (k u : Nat), 0 < k → u < 10 ^ k → (Lib.decDigits u).length ≤ k
  | 0, _, h, _ => absurd h (by omega)
  | k + 1, u, _, h => by
    rw [Lib.decDigits]
    by_cases h10 : u < 10
    · rw [dif_pos h10]; simp
    · rw [dif_neg h10, List.length_append]
      rw [Nat.pow_succ] at h
      have hk : 0 < k := by
        rcases Nat.eq_zero_or_pos k with rfl | h0
        · simp at h; omega
        · exact h0
      have := dec_len k (u / 10) hk (by omega)
      simp only [List.length_cons, List.length_nil]
      omega
theorem digB_size (u : Nat) (h : u < 18446744073709551616) : (digB u).size ≤ 20 := by
  have := dec_len 20 u (by omega) (Nat.lt_of_lt_of_le h (by decide))
  simpa [digB, ByteArray.size] using this
theorem digB_small {u : Nat} (h : u < 10) : digB u = { data := #[UInt8.ofNat (48 + u)] } := by
  unfold digB
  rw [Lib.decDigits, dif_pos h]
theorem digB_big {u : Nat} (h : ¬ u < 10) : digB u = digB (u / 10) ++ digB (u % 10) := by
  rw [digB_small (u := u % 10) (by omega)]
  unfold digB
  conv => lhs; rw [Lib.decDigits, dif_neg h]
  apply ByteArray.ext
  simp [ByteArray.data_append]
/-- A text of one byte. -/
theorem conv1 (w : World) (n : Int) : (convert 62 9 (.slice (some ⟨w.heap.size, 0, none⟩) 1 1)).run Tryd.prog (w.alloc (.cells #[.int .u8 n] 5)) = .ok (.string { data := #[UInt8.ofNat n.toNat] }) (w.alloc (.cells #[.int .u8 n] 5)) := by
  rw [run_convert_bytes_string _ 62 9 5 _ 1 1 Tryd.underlying62 Tryd.underlying5 Tryd.underlying9]
  have hl := run_loadCells_list (P := Tryd.prog) (w.alloc (.cells #[.int .u8 n] 5)) ⟨w.heap.size, 0, none⟩ [.int .u8 n] (fun j v hj => by
    rcases j with _ | j
    · simp only [List.getElem?_cons_zero, Option.some.injEq] at hj
      subst hj
      have hnw := heap_alloc_new w (.cells #[.int .u8 n] 5)
      rw [show ((⟨w.heap.size, 0, none⟩ : Addr).add 0) = ⟨w.heap.size, 0, none⟩ from rfl]
      simp only [World.cell?, hnw]
      rfl
    · simp at hj)
  rw [run_bytesToString _ ⟨w.heap.size, 0, none⟩ 1 1 [n] hl]
  rfl
set_option maxHeartbeats 4000000 in
theorem rdig_low (u : Nat) (h : u < 10) (w : World) : Calls Tryd.prog 37 #[.int .u64 u] w fun e w' => e = .returned (.string (digB u)) ∧ Below w.heap.size w w' := by
  rcases (show u = 0 ∨ u = 1 ∨ u = 2 ∨ u = 3 ∨ u = 4 ∨ u = 5 ∨ u = 6 ∨ u = 7 ∨ u = 8 ∨ u = 9 by omega) with rfl | rfl | rfl | rfl | rfl | rfl | rfl | rfl | rfl | rfl
  all_goals
    rw [digB_small (by omega)]
    have kc := conv1 w
    go_enter Tryd.func37, Tryd.ntmps37
    go_wp2
    go_ret
    exact ⟨rfl, (Below.refl _ _).alloc (Nat.le_refl _) _⟩
set_option maxHeartbeats 4000000 in
theorem rdig_any : ∀ (u : Nat), u < 18446744073709551616 → ∀ w, Calls Tryd.prog 37 #[.int .u64 u] w fun e w' => e = .returned (.string (digB u)) ∧ Below w.heap.size w w' := by
  intro u
  induction u using Nat.strongRecOn with
  | _ u ih =>
    intro hu w
    by_cases h : u < 10
    · exact rdig_low u h w
    have D1 := hid (ih (u / 10) (by omega) (by omega))
    have D2 := hid (rdig_low (u % 10) (by omega))
    have hc : ¬ (u : Int) < 10 := by omega
    rw [digB_big h]
    have z1 := digB_size (u / 10) (by omega)
    have z2 := digB_size (u % 10) (by omega)
    have ad := fun w => run_string_add_sum (P := Tryd.prog) w (digB (u / 10)) (digB (u % 10)) (by omega)
    generalize digB (u / 10) = s1 at *
    generalize digB (u % 10) = s2 at *
    clear ih h
    go_enter Tryd.func37, Tryd.ntmps37
    go_wp2_with fail
    refine (D1.out w).mono ?_
    rintro e w1 ⟨rfl, hb1⟩
    have B1 := hid hb1
    go_wp2_with fail
    refine (D2.out w1).mono ?_
    rintro e w2 ⟨rfl, hb2⟩
    have B2 := hid (B1.out.trans (hb2.mono B1.out.size))
    clear hb1 hb2
    go_wp2
    go_ret
    exact ⟨rfl, B2.out⟩
theorem itoaB_pos (u : Nat) : itoaB (u : Int) = digB u := by
  unfold itoaB digB
  rw [Gw.itoa_pos (by omega)]
  rfl
theorem itoaB_neg (u : Nat) (h : 1 ≤ u) : itoaB (-(u : Int)) = { data := #[45] } ++ digB u := by
  unfold itoaB digB Lib.itoa
  rw [if_pos (by omega)]
  apply ByteArray.ext
  simp [ByteArray.data_append]
theorem rk_any (k : Nat) (hk : k < 8) (w : World) : Calls Tryd.prog 23 #[.int .i64 k] w fun e w' => e = .returned (.string (glText k)) ∧ Below w.heap.size w w' := by
  match k, hk with
  | 0, _ | 1, _ | 2, _ | 3, _ | 4, _ | 5, _ | 6, _ | 7, _ =>
    simp only [glText]
    go_enter Tryd.func23, Tryd.ntmps23
    go_wp2
    go_ret
    exact ⟨rfl, Below.refl _ _⟩
theorem sz45 : ({ data := #[45] } : ByteArray).size = 1 := rfl
set_option maxHeartbeats 4000000 in
theorem rnum_any (n : Int) (h0 : -9223372036854775808 ≤ n) (h1 : n ≤ 9223372036854775807) (w : World) : Calls Tryd.prog 24 #[.int .i64 n] w fun e w' => e = .returned (.string (itoaB n)) ∧ Below w.heap.size w w' := by
  by_cases hn : n < 0
  · obtain ⟨u, rfl⟩ : ∃ u : Nat, n = -(u : Int) := ⟨n.natAbs, by omega⟩
    rw [itoaB_neg u (by omega)]
    have z := digB_size u (by omega)
    have D := hid (rdig_any u (by omega))
    have ad := fun w => run_string_add_sum (P := Tryd.prog) w { data := #[45] } (digB u) (by rw [sz45]; omega)
    generalize digB u = s at *
    go_enter Tryd.func24, Tryd.ntmps24
    go_wp2_with fail
    rw [show (-(-(u : Int) + 1) + 1) = (u : Int) by omega]
    refine (D.out _).mono ?_
    rintro e w1 ⟨rfl, hb⟩
    have B := hid hb
    clear hb
    go_wp2
    go_ret
    exact ⟨rfl, B.out⟩
  · obtain ⟨u, rfl⟩ : ∃ u : Nat, n = (u : Int) := ⟨n.toNat, by omega⟩
    rw [itoaB_pos u]
    have D := hid (rdig_any u (by omega))
    generalize digB u = s at *
    go_enter Tryd.func24, Tryd.ntmps24
    go_wp2_with fail
    refine (D.out _).mono ?_
    rintro e w1 ⟨rfl, hb⟩
    have B := hid hb
    clear hb
    go_wp2
    go_ret
    exact ⟨rfl, B.out⟩
end Go.Proofs.YtnaphgjkkagpoaaDoor
