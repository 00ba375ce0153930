/- Orders are apart, and name machines that there are. -/
import Derived.Test.YtlahamkbkeckmaaGreatDoorExp2
namespace Go.Proofs.YtlahamkbkeckmaaGreatDoor
open Go.RowKit
set_option linter.unusedVariables false
theorem edg_range (m : Int) (n : Nat) (i : Int) (j : Nat) (hm : 1 ≤ m) : 0 ≤ edg m n i j ∧ edg m n i j < m :=
  ⟨Int.emod_nonneg _ (by omega), Int.emod_lt_of_pos _ (by omega)⟩
theorem edig_len (m : Int) (n : Nat) (i : Int) : (edig m n i).length = n := by simp [edig]
theorem edig_get {m : Int} {n : Nat} {i : Int} {j : Nat} (h : j < n) : (edig m n i).getD j 0 = edg m n i j := by
  simp [edig, List.getElem?_range h]
theorem edig_inj {m : Int} {n : Nat} {i j : Int} (hm : 1 ≤ m) (hi0 : 0 ≤ i) (hj0 : 0 ≤ j) (hi : i < m ^ n) (hj : j < m ^ n) (h : edig m n i = edig m n j) : i = j := by
  have hd : ∀ t, t < n → i / m ^ (n - 1 - t) % m = j / m ^ (n - 1 - t) % m := fun t ht => by
    have := congrArg (fun l => l.getD t 0) h
    simp only [edig_get ht] at this
    exact this
  have key : ∀ t, t ≤ n → i / m ^ (n - t) = j / m ^ (n - t) := by
    intro t
    induction t with
    | zero => intro _; rw [Nat.sub_zero, Int.ediv_eq_zero_of_lt hi0 hi, Int.ediv_eq_zero_of_lt hj0 hj]
    | succ t ih =>
      intro ht
      have h1 := ih (by omega)
      have h2 := hd t (by omega)
      have hp : (0 : Int) ≤ m ^ (n - 1 - t) := Int.le_of_lt (Int.pow_pos (by omega))
      have e : n - t = (n - 1 - t) + 1 := by omega
      rw [e, Int.pow_succ, ← Int.ediv_ediv_of_nonneg hp, ← Int.ediv_ediv_of_nonneg hp] at h1
      have e1 := Int.mul_ediv_add_emod (i / m ^ (n - 1 - t)) m
      have e2 := Int.mul_ediv_add_emod (j / m ^ (n - 1 - t)) m
      rw [h1, h2] at e1
      rw [show n - (t + 1) = n - 1 - t by omega]
      exact e1.symm.trans e2
  have := key n (Nat.le_refl _)
  rw [Nat.sub_self, Int.pow_zero, Int.ediv_one, Int.ediv_one] at this
  exact this
end Go.Proofs.YtlahamkbkeckmaaGreatDoor
