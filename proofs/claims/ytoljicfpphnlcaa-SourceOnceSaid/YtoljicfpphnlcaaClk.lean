/- A clock in a struct's first field: the time, so much later, a tick. -/
import Derived.Test.YtoljicfpphnlcaaFrZ
import Derived.OpenShut
namespace Go.Proofs.Ytoljicfpphnlcaa
set_option linter.unusedVariables false
set_option linter.unusedSimpArgs false
open Go.RowKit

/-- A number that an int64 can hold. -/
def inI (x : Int) : Prop := -9223372036854775808 ≤ x ∧ x ≤ 9223372036854775807
/-- The sum, held at either end. -/
def sat (t d : Int) : Int := max (-9223372036854775808) (min 9223372036854775807 (t + d))
theorem sat_inI (t d : Int) : inI (sat t d) := by unfold inI sat; omega
theorem retI {k : IntKind} {a b : Int} (h : a = b) : Ending.returned (.int k a) = .returned (.int k b) := by rw [h]
set_option maxHeartbeats 400000 in
theorem csum (t d : Int) (w : World) (ht : inI t) (hd : inI d) :
    Calls Try.prog 53 #[.int .i64 t, .int .i64 d] w fun e w' => e = .returned (.int .i64 (sat t d)) ∧ w' = w := by
  obtain ⟨t0, t1⟩ := ht
  obtain ⟨d0, d1⟩ := hd
  by_cases h1 : 0 < d
  · by_cases h2 : 9223372036854775807 - d < t
    all_goals
      go_enter Try.func53, Try.ntmps53
      go_wp2
      go_ret
      exact ⟨retI (by unfold sat; omega), rfl⟩
  · by_cases h3 : d < 0
    · by_cases h2 : t < -9223372036854775808 - d
      all_goals
        go_enter Try.func53, Try.ntmps53
        go_wp2
        go_ret
        exact ⟨retI (by unfold sat; omega), rfl⟩
    · go_enter Try.func53, Try.ntmps53
      go_wp2
      go_ret
      exact ⟨retI (by unfold sat; omega), rfl⟩
theorem cnow (s : Nat) (x : Int) (w : World) (h0 : w.cell? ⟨s, 0, none⟩ = some (.int .i64 x)) :
    Calls Try.prog 37 #[.pointer (some ⟨s, 0, none⟩)] w fun e w' => e = .returned (.int .i64 x) ∧ w' = w := by
  go_enter Try.func37, Try.ntmps37
  go_wp2
  go_ret
  exact ⟨rfl, rfl⟩
set_option maxHeartbeats 400000 in
theorem cafter (s : Nat) (x d : Int) (w : World) (h0 : w.cell? ⟨s, 0, none⟩ = some (.int .i64 x)) (hx : inI x) (hd : inI d) :
    Calls Try.prog 30 #[.pointer (some ⟨s, 0, none⟩), .int .i64 d] w fun e w' => e = .returned (.int .i64 (sat x (max d 0))) ∧ w' = w := by
  have HX := hid hx
  have HD := hid hd
  clear hx hd
  by_cases h : d < 0
  · have hm : max d 0 = 0 := by omega
    rw [hm]
    clear hm
    go_enter Try.func30, Try.ntmps30
    go_wp2_with fail
    refine (csum x 0 _ HX.out (by unfold inI; omega)).mono ?_
    rintro e w' ⟨rfl, rfl⟩
    go_wp2
    go_ret
    exact ⟨rfl, rfl⟩
  · have hm : max d 0 = d := by omega
    rw [hm]
    clear hm
    go_enter Try.func30, Try.ntmps30
    go_wp2_with fail
    refine (csum x d _ HX.out HD.out).mono ?_
    rintro e w' ⟨rfl, rfl⟩
    go_wp2
    go_ret
    exact ⟨rfl, rfl⟩
set_option maxHeartbeats 400000 in
theorem ctick (s : Nat) (x d : Int) (w : World) (h0 : w.cell? ⟨s, 0, none⟩ = some (.int .i64 x)) (hf : w.frozen? ⟨s, 0, none⟩ = false) (hx : inI x) (hd : inI d) :
    Calls Try.prog 27 #[.pointer (some ⟨s, 0, none⟩), .int .i64 d] w fun e w' => (∃ v, e = .returned v) ∧ w' = w.setCell ⟨s, 0, none⟩ (.int .i64 (sat x (max d 0))) := by
  obtain ⟨y, hy⟩ : ∃ y, y = sat x (max d 0) := ⟨_, rfl⟩
  have A := cafter s x d w h0 hx hd
  rw [← hy] at A ⊢
  have HA := hid A
  clear hx hd A hy
  go_enter Try.func27, Try.ntmps27
  go_wp2_with fail
  refine (HA.out).mono ?_
  rintro e w' ⟨rfl, rfl⟩
  clear HA
  go_wp2
  go_ret
  exact ⟨⟨_, rfl⟩, rfl⟩
end Go.Proofs.Ytoljicfpphnlcaa
