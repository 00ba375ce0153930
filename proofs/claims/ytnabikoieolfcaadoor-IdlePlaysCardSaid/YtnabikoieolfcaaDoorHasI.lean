/- slices.Contains at []int (a seat with slices.Clone at []int). -/
import Derived.Test.YtnabikoieolfcaaDoorAppR
import Derived.Test.YtnabikoieolfcaaDoorLists
namespace Go.Proofs.YtnabikoieolfcaaDoor
set_option linter.unusedVariables false
set_option linter.unusedSimpArgs false
open Go.RowKit

/-- Is g one of xs? -/
def hasB (g : Int) (xs : List Int) : Bool := decide (g ∈ xs)
theorem hasB_nil (g : Int) : hasB g [] = false := by simp [hasB]
theorem hasB_snoc (g x : Int) (xs : List Int) : hasB g (xs ++ [x]) = (hasB g xs || (x == g)) := by
  simp only [hasB, List.mem_append, List.mem_singleton, Bool.decide_or]
  congr 1
  rw [Bool.eq_iff_iff]
  simp only [decide_eq_true_eq, beq_iff_eq]
  exact eq_comm
/-- What slices.Index tells: a place, if there is one; else -1. -/
def IdxPost (g : Int) (xs : List Int) (w : World) (e : Ending) (w' : World) : Prop :=
  ∃ i : Int, e = .returned (.int .i64 i) ∧ -1 ≤ i ∧ (hasB g xs = true → 0 ≤ i) ∧ (hasB g xs = false → i = -1) ∧ Quiet w w'
theorem idx_yes {g : Int} {xs : List Int} {k : Nat} (h : k < xs.length) (hx : xs.getD k 0 = g) : hasB g xs = true := by
  rw [List.getD_eq_getElem?_getD, List.getElem?_eq_getElem h, Option.getD_some] at hx
  exact decide_eq_true (hx ▸ List.getElem_mem h)

theorem idx_fin_yes {g x : Int} {xs : List Int} {k : Nat} (w : World) (h : k < xs.length) (hx : x = xs.getD k 0) (e : g = x) : IdxPost g xs w (.returned (.int .i64 k)) w := by
  have h1 := idx_yes h (hx.symm.trans e.symm)
  exact ⟨k, rfl, by omega, fun _ => by omega, (fun h => by rw [h1] at h; cases h), Quiet.refl _⟩
theorem idx_fin_no {g : Int} {xs : List Int} {k : Nat} (w : World) (hk : k = xs.length) (h : hasB g (xs.take k) = false) : IdxPost g xs w (.returned (.int .i64 (-1))) w := by
  rw [List.take_of_length_le (by omega)] at h
  exact ⟨-1, rfl, by omega, (fun h1 => by rw [h] at h1; cases h1), fun _ => rfl, Quiet.refl _⟩
theorem idx_step {g x : Int} {xs : List Int} {k : Nat} (h : k < xs.length) (hx : x = xs.getD k 0) (e : ¬ g = x) (ht : hasB g (xs.take k) = false) : hasB g (xs.take (k + 1)) = false := by
  have e : (x == g) = false := by simpa using fun h => e h.symm
  rw [lst_take_snoc xs k h, ← hx, hasB_snoc, ht, e]; rfl

set_option maxHeartbeats 1000000 in
theorem index_any (v : Value) (xs : List Int) (g : Int) (w : World) (h1 : Reads w v xs) (hl : xs.length ≤ 10000000) :
    Calls Tryd.prog 44 #[v, .int .i64 g] w (IdxPost g xs w) := by
  obtain ⟨a1, c1, rfl, _, h1⟩ := h1
  obtain ⟨n, hn⟩ : ∃ n, n = xs.length := ⟨_, rfl⟩
  have H1 := hid h1
  have HN := hid hn
  rw [← hn] at hl ⊢
  clear h1 hn
  go_enter Tryd.func44, Tryd.ntmps44
  go_wp2_with fail
  go_loop [8] (fun i => ∃ (k : Nat), k ≤ n ∧ i = .int .i64 k ∧ Hid (hasB g (xs.take k) = false)) (fun i => n - (intOf i).toNat)
  case atStart => exact ⟨0, Nat.zero_le _, rfl, by simp [Hid, hasB]⟩
  case round =>
    obtain ⟨k, hk, rfl, ht⟩ := hrel
    by_cases hlt : k < n
    · have k1 : k < xs.length := by rw [← HN.out]; exact hlt
      obtain ⟨g1, o1, rfl, _, hc1⟩ := H1.out (by omega)
      obtain ⟨x, hx⟩ : ∃ x, x = xs.getD k 0 := ⟨_, rfl⟩
      have q1 := hc1 k k1
      rw [← hx] at q1
      have HX := hid hx
      have K1 := hid k1
      clear hx hc1 k1
      by_cases hxy : g = x
      · have exy : (g == x) = true := by simpa using hxy
        have HXY := hid hxy
        have FIN := hid (idx_fin_yes w K1.out HX.out HXY.out)
        clear hxy
        go_wp2
        go_ret
        exact FIN.out
      · have exy : (g == x) = false := by simpa using hxy
        have HXY := hid hxy
        have HT := hid (idx_step K1.out HX.out HXY.out ht.out)
        clear hxy
        go_wp2
        go_round
        case rel => exact ⟨k + 1, by omega, by go_num, HT⟩
        case measure => simp [intOf]; omega
    · obtain rfl : k = n := by omega
      have FIN := hid (idx_fin_no w HN.out ht.out)
      go_wp2
      go_ret
      exact FIN.out

set_option maxHeartbeats 1000000 in
theorem contains_any (v : Value) (xs : List Int) (g : Int) (w : World) (h1 : Reads w v xs) (hl : xs.length ≤ 10000000) :
    Calls Tryd.prog 32 #[v, .int .i64 g] w fun e w' => e = .returned (.bool (hasB g xs)) ∧ Quiet w w' := by
  have C := hid (index_any v xs g w h1 hl)
  obtain ⟨a1, c1, rfl, _, _⟩ := h1
  go_enter Tryd.func32, Tryd.ntmps32
  go_wp2_with fail
  refine C.out.mono ?_
  rintro e w2 ⟨i, rfl, hi, hi1, hi2, hq⟩
  obtain ⟨b, hb⟩ : ∃ b, b = hasB g xs := ⟨_, rfl⟩
  have HBB := hid hb.symm
  rw [← hb] at hi1 hi2
  clear hb
  cases b
  · obtain rfl := hi2 rfl
    clear hi1 hi2 hi
    go_wp2
    go_ret
    exact ⟨retB HBB.out, hq⟩
  · have h0 := hi1 rfl
    clear hi1 hi2 hi
    go_wp2
    go_ret
    exact ⟨retB HBB.out, hq⟩

end Go.Proofs.YtnabikoieolfcaaDoor
