/- The table of places, whole; the contract of mach.Named; the document's names. -/
import Derived.Test.YtlahinefnhfifaaDoorMach3
import Derived.Test.YtlahinefnhfifaaDoorMach4
import Derived.Test.YtlahinefnhfifaaDoorLaid2
import Derived.Test.YtlahinefnhfifaaDoorText
namespace Go.Proofs.YtlahinefnhfifaaDoor
open Go.RowKit
set_option linter.unusedVariables false
set_option linter.unusedSimpArgs false

/-- The table's cells, all of them. -/
def maCells : Array Value := Array.ofFn (n := 62) fun i => if i.val % 2 = 0 then .string (maPlace0 (i.val / 2)) else .int .i64 (maPlace1 (i.val / 2))
def MaBlock (w : World) : Prop := ∃ t fr, w.heap[4]? = some (.cells maCells t fr)
theorem MaBlock.of {l : List (String × DataW Unit)} {w : World} (h : laidMetH Tryd.prog l w) (hp : (l.all fun x => x.2.handleName?.isNone) = true) (j : Nat) (hm : l[j]? = some ("hostler/mach.places", Rows.laid_hostler_mach_places)) : MaBlock w := by
  have T := MaPlaces.of h hp j hm
  obtain ⟨cs, t, fr, hb, hs⟩ := laid_block h hp j hm (g := 4) (t := 77) (by kernel_rfl) (by kernel_rfl) (by rw [Tryd.underlying77])
  have hs' : cs.size = 62 := hs.trans (by kernel_rfl)
  have hc : ∀ i, w.cell? ⟨4, i, none⟩ = cs[i]? := fun i => by simp [World.cell?, hb]
  have e : cs = maCells := by
    apply Array.ext_getElem?
    intro i
    rcases Nat.lt_or_ge i 62 with hi | hi
    · have hk := T (i / 2) (by omega)
      have hr : maCells[i]? = some (if i % 2 = 0 then .string (maPlace0 (i / 2)) else .int .i64 (maPlace1 (i / 2))) := by simp [maCells, hi]
      rw [hr]
      by_cases h2 : i % 2 = 0
      · rw [if_pos h2, ← hk.1, hc, show i / 2 * 2 = i by omega]
      · rw [if_neg h2, ← hk.2, hc, show i / 2 * 2 + 1 = i by omega]
    · rw [Array.getElem?_eq_none (by omega), Array.getElem?_eq_none (by simp [maCells]; omega)]
  subst e
  exact ⟨t, fr, hb⟩
theorem MaBlock.at {w w' : World} (h : MaBlock w) (hb : Below w.heap.size w w') : MaBlock w' := by
  obtain ⟨t, fr, h⟩ := h
  exact ⟨t, fr, blk_kept h hb (blk_lt h)⟩
set_option maxRecDepth 100000 in
theorem maAgg_at (k : Nat) (hk : k < 31) (w : World) : (Instr.index 77 (.agg maCells) (.int .i64 k)).run Tryd.prog w = .ok (.agg #[.string (maPlace0 k), .int .i64 (maPlace1 k)]) w :=
  match k, hk with
  | 0, _ => by kernel_rfl
  | 1, _ => by kernel_rfl
  | 2, _ => by kernel_rfl
  | 3, _ => by kernel_rfl
  | 4, _ => by kernel_rfl
  | 5, _ => by kernel_rfl
  | 6, _ => by kernel_rfl
  | 7, _ => by kernel_rfl
  | 8, _ => by kernel_rfl
  | 9, _ => by kernel_rfl
  | 10, _ => by kernel_rfl
  | 11, _ => by kernel_rfl
  | 12, _ => by kernel_rfl
  | 13, _ => by kernel_rfl
  | 14, _ => by kernel_rfl
  | 15, _ => by kernel_rfl
  | 16, _ => by kernel_rfl
  | 17, _ => by kernel_rfl
  | 18, _ => by kernel_rfl
  | 19, _ => by kernel_rfl
  | 20, _ => by kernel_rfl
  | 21, _ => by kernel_rfl
  | 22, _ => by kernel_rfl
  | 23, _ => by kernel_rfl
  | 24, _ => by kernel_rfl
  | 25, _ => by kernel_rfl
  | 26, _ => by kernel_rfl
  | 27, _ => by kernel_rfl
  | 28, _ => by kernel_rfl
  | 29, _ => by kernel_rfl
  | 30, _ => by kernel_rfl
  | k + 31, hk => absurd hk (by omega)

def maKey : Nat → Nat
  | 0 => 4209
  | 1 => 13327
  | 2 => 1430
  | 3 => 13035
  | 4 => 38055
  | 5 => 41305
  | 6 => 13755
  | 7 => 120443
  | 8 => 4171
  | 9 => 4355
  | 10 => 3212850
  | 11 => 40310
  | 12 => 371501
  | 13 => 4594
  | 14 => 12140
  | 15 => 41796
  | 16 => 13555
  | 17 => 123923
  | 18 => 123951
  | 19 => 41879
  | 20 => 336326
  | 21 => 4306
  | 22 => 12232
  | 23 => 4129
  | 24 => 4508
  | 25 => 110505
  | 26 => 4265
  | 27 => 41255
  | 28 => 123830
  | 29 => 4346
  | 30 => 12374
  | _ => 0
theorem maKey_is (k : Nat) (hk : k < 31) : textKey (maPlace0 k) = maKey k :=
  match k, hk with
  | 0, _ => by kernel_rfl
  | 1, _ => by kernel_rfl
  | 2, _ => by kernel_rfl
  | 3, _ => by kernel_rfl
  | 4, _ => by kernel_rfl
  | 5, _ => by kernel_rfl
  | 6, _ => by kernel_rfl
  | 7, _ => by kernel_rfl
  | 8, _ => by kernel_rfl
  | 9, _ => by kernel_rfl
  | 10, _ => by kernel_rfl
  | 11, _ => by kernel_rfl
  | 12, _ => by kernel_rfl
  | 13, _ => by kernel_rfl
  | 14, _ => by kernel_rfl
  | 15, _ => by kernel_rfl
  | 16, _ => by kernel_rfl
  | 17, _ => by kernel_rfl
  | 18, _ => by kernel_rfl
  | 19, _ => by kernel_rfl
  | 20, _ => by kernel_rfl
  | 21, _ => by kernel_rfl
  | 22, _ => by kernel_rfl
  | 23, _ => by kernel_rfl
  | 24, _ => by kernel_rfl
  | 25, _ => by kernel_rfl
  | 26, _ => by kernel_rfl
  | 27, _ => by kernel_rfl
  | 28, _ => by kernel_rfl
  | 29, _ => by kernel_rfl
  | 30, _ => by kernel_rfl
  | k + 31, hk => absurd hk (by omega)
set_option maxRecDepth 100000 in
theorem maKey_inj : ∀ j, j < 31 → ∀ k, k < 31 → maKey j = maKey k → j = k := by decide +kernel
theorem maName_inj {j k : Nat} (hj : j < 31) (hk : k < 31) (h : maPlace0 j = maPlace0 k) : j = k := maKey_inj j hj k hk (by rw [← maKey_is j hj, ← maKey_is k hk, h])

theorem mname_in (k : Nat) (w : World) (T : MaPlaces w) (hk : k < 31) : Calls Tryd.prog 27 #[.int .i64 k] w fun e w' => e = .returned (.string (maPlace0 k)) ∧ w = w' := by
  have b := (T k hk).1
  obtain ⟨s, hs⟩ : ∃ s, s = maPlace0 k := ⟨_, rfl⟩
  rw [← hs] at b ⊢
  have h0 : (0 : Int) ≤ k := by omega
  have h8 : (k : Int) < 31 := by omega
  clear T hs
  go_enter Tryd.func27, Tryd.ntmps27
  go_wp2_with fail
  refine (mis_in k _ hk).mono ?_
  rintro e w2 ⟨rfl, rfl⟩
  go_wp2
  go_ret
  exact ⟨rfl, rfl⟩
theorem mname_out (n : Int) (w : World) (hn : n < 0 ∨ 30 < n) : Calls Tryd.prog 27 #[.int .i64 n] w fun e w' => e = .returned (.string { data := #[] }) ∧ w = w' := by
  have HN := hid hn
  clear hn
  go_enter Tryd.func27, Tryd.ntmps27
  go_wp2_with fail
  refine (mis_out n _ HN.out).mono ?_
  rintro e w2 ⟨rfl, rfl⟩
  go_wp2
  go_ret
  exact ⟨rfl, rfl⟩

set_option maxRecDepth 100000 in
set_option maxHeartbeats 8000000 in
theorem mnamed_none (s : ByteArray) (w : World) (B : MaBlock w) (hs : ∀ k, k < 31 → s ≠ maPlace0 k) : Calls Tryd.prog 28 #[.string s] w fun e w' => e = .returned (.tuple #[.int .i64 0, .bool false]) ∧ Below w.heap.size w w' := by
  have HS := hid hs
  have HA := hid maAgg_at
  obtain ⟨bt, bf, hB⟩ := B
  have HB := hid hB
  clear hB hs
  go_enter Tryd.func28, Tryd.ntmps28
  go_wp2_with (refine wpList_load_known (by rfl) 77 (.global 4) rfl 4 rfl bt maCells bf _ HB.out Tryd.underlying77 rfl (by kernel_rfl) ?_)
  generalize Value.agg maCells = A at HA ⊢
  clear HB
  have hbw : Below w.heap.size w w := Below.refl _ _
  go_loopw [7] (fun i wr => ∃ k : Nat, k ≤ 31 ∧ i = .int .i64 k ∧ w.heap.size ≤ wr.heap.size ∧ Below w.heap.size w wr) (fun i _ => 31 - (intOf i).toNat)
  case atStart => exact ⟨0, by omega, rfl, Nat.le_refl _, hbw⟩
  case round =>
    clear hbw
    obtain ⟨k, hk, rfl, hsz, hbr⟩ := hrel
    by_cases hlt : k < 31
    · have hA := HA.out k hlt
      have hne := txt_ne (fun e => HS.out k hlt e.symm)
      obtain ⟨t, ht⟩ : ∃ t, t = maPlace0 k := ⟨_, rfl⟩
      rw [← ht] at hA hne
      obtain ⟨c, hc⟩ : ∃ c, c = maPlace1 k := ⟨_, rfl⟩
      rw [← hc] at hA
      have hb2 := hid (hbr.alloc hsz (.cells #[.string t, .int .i64 c] 76))
      clear ht hc
      go_wp2
      go_roundw
      case rel => exact ⟨k + 1, by omega, by go_num, by simp; omega, hb2.out⟩
      case measure => simp [intOf]; omega
    · obtain rfl : k = 31 := by omega
      go_wp2
      go_ret2
      exact ⟨rfl, hbr⟩

set_option maxRecDepth 100000 in
set_option maxHeartbeats 8000000 in
theorem mnamed_in (s : ByteArray) (m : Nat) (hm : m < 31) (w : World) (B : MaBlock w) (hs : s = maPlace0 m) : Calls Tryd.prog 28 #[.string s] w fun e w' => e = .returned (.tuple #[.int .i64 m, .bool true]) ∧ Below w.heap.size w w' := by
  have HS := hid hs
  have HA := hid maAgg_at
  obtain ⟨bt, bf, hB⟩ := B
  have HB := hid hB
  clear hB hs
  go_enter Tryd.func28, Tryd.ntmps28
  go_wp2_with (refine wpList_load_known (by rfl) 77 (.global 4) rfl 4 rfl bt maCells bf _ HB.out Tryd.underlying77 rfl (by kernel_rfl) ?_)
  generalize Value.agg maCells = A at HA ⊢
  clear HB
  have hbw : Below w.heap.size w w := Below.refl _ _
  go_loopw [7] (fun i wr => ∃ k : Nat, k ≤ m ∧ i = .int .i64 k ∧ w.heap.size ≤ wr.heap.size ∧ Below w.heap.size w wr) (fun i _ => 31 - (intOf i).toNat)
  case atStart => exact ⟨0, by omega, rfl, Nat.le_refl _, hbw⟩
  case round =>
    clear hbw
    obtain ⟨k, hk, rfl, hsz, hbr⟩ := hrel
    have hA := HA.out k (by omega)
    have hlt : (k : Int) < 31 := by omega
    obtain ⟨c, hc⟩ : ∃ c, c = maPlace1 k := ⟨_, rfl⟩
    rw [← hc] at hA
    clear hc
    by_cases hkm : k < m
    · have hne := txt_ne (a := maPlace0 k) (b := s) (fun e => absurd (maName_inj (j := k) (k := m) (by omega) hm (e.trans HS.out)) (by omega))
      obtain ⟨t, ht⟩ : ∃ t, t = maPlace0 k := ⟨_, rfl⟩
      rw [← ht] at hA hne
      have hb2 := hid (hbr.alloc hsz (.cells #[.string t, .int .i64 c] 76))
      clear ht
      go_wp2
      go_roundw
      case rel => exact ⟨k + 1, by omega, by go_num, by simp; omega, hb2.out⟩
      case measure => simp [intOf]; omega
    · obtain rfl : k = m := by omega
      rw [← HS.out] at hA
      have hq := txt_eq s
      have hb2 := hid (hbr.alloc hsz (.cells #[.string s, .int .i64 c] 76))
      go_wp2
      go_ret2
      exact ⟨rfl, hb2.out⟩
end Go.Proofs.YtlahinefnhfifaaDoor
