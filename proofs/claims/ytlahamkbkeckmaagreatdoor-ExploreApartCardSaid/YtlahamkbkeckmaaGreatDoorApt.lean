/- Keys of orders: what an order's key is, and that keys are apart; the row that becomes it. -/
import Derived.Test.YtlahamkbkeckmaaGreatDoorArr5
import Derived.Test.YtlahamkbkeckmaaGreatDoorExp3
namespace Go.Proofs.YtlahamkbkeckmaaGreatDoor
set_option linter.unusedVariables false
set_option linter.unusedSimpArgs false
set_option maxRecDepth 20000
open Go.RowKit
def kf (m : Int) (n : Nat) (i : Int) (j : Nat) : Int := if j < n then edg m n i j else 0
def keyOf (m : Int) (n : Nat) (i : Int) : Five := (kf m n i 0, kf m n i 1, kf m n i 2, kf m n i 3, kf m n i 4)
theorem keyOf_inj {m : Int} {n : Nat} {i j : Int} (hn : n ≤ 5) (hm : 1 ≤ m) (hi0 : 0 ≤ i) (hj0 : 0 ≤ j) (hi : i < m ^ n) (hj : j < m ^ n) (h : keyOf m n i = keyOf m n j) : i = j := by
  refine edig_inj hm hi0 hj0 hi hj ?_
  have hd : ∀ t, t < n → edg m n i t = edg m n j t := fun t ht => by
    have e0 := congrArg (fun x => x.1) h
    have e1 := congrArg (fun x => x.2.1) h
    have e2 := congrArg (fun x => x.2.2.1) h
    have e3 := congrArg (fun x => x.2.2.2.1) h
    have e4 := congrArg (fun x => x.2.2.2.2) h
    simp only [keyOf, kf] at e0 e1 e2 e3 e4
    match t with
    | 0 => rwa [if_pos ht, if_pos ht] at e0
    | 1 => rwa [if_pos ht, if_pos ht] at e1
    | 2 => rwa [if_pos ht, if_pos ht] at e2
    | 3 => rwa [if_pos ht, if_pos ht] at e3
    | 4 => rwa [if_pos ht, if_pos ht] at e4
    | t + 5 => omega
  unfold edig
  exact List.map_congr_left fun t ht => hd t (List.mem_range.1 ht)
/-- The row behind k numbers. -/
def kg (m : Int) (n : Nat) (i : Int) (k j : Nat) : Int := if j < k then edg m n i j else 0
def kr (m : Int) (n : Nat) (i : Int) (k : Nat) : Array Value := #[.int .i64 (kg m n i k 0), .int .i64 (kg m n i k 1), .int .i64 (kg m n i k 2), .int .i64 (kg m n i k 3), .int .i64 (kg m n i k 4)]
theorem kr_zero (m : Int) (n : Nat) (i : Int) : kr m n i 0 = #[.int .i64 0, .int .i64 0, .int .i64 0, .int .i64 0, .int .i64 0] := by simp [kr, kg]
theorem kr_get (m : Int) (n : Nat) (i : Int) (k j : Nat) (h : j < 5) : (kr m n i k)[j]? = some (.int .i64 (kg m n i k j)) := by
  match j, h with
  | 0, _ => rfl
  | 1, _ => rfl
  | 2, _ => rfl
  | 3, _ => rfl
  | 4, _ => rfl
theorem kr_set (m : Int) (n : Nat) (i : Int) (k : Nat) (h : k < 5) : (kr m n i k).setIfInBounds k (.int .i64 (edg m n i k)) = kr m n i (k + 1) := by
  refine Array.ext_getElem? fun j => ?_
  rw [Array.getElem?_setIfInBounds]
  by_cases hj : j < 5
  · rw [kr_get _ _ _ _ _ hj, kr_get _ _ _ _ _ hj]
    by_cases e : k = j
    · subst e
      rw [if_pos rfl, if_pos (by simpa [kr] using h)]
      simp only [kg, if_pos (Nat.lt_succ_self k)]
    · rw [if_neg e]
      simp only [kg]
      by_cases h2 : j < k
      · rw [if_pos h2, if_pos (by omega)]
      · rw [if_neg h2, if_neg (by omega)]
  · rw [if_neg (by omega), Array.getElem?_eq_none (by simp [kr]; omega), Array.getElem?_eq_none (by simp [kr]; omega)]
theorem kr_all (m : Int) (n : Nat) (i : Int) : Value.agg (kr m n i n) = enc5 (keyOf m n i) := rfl
end Go.Proofs.YtlahamkbkeckmaaGreatDoor
