/- The contracts of package note: what each function answers and what it makes of the word. -/
import Derived.Test.YtdljacmagabilaaCell2
import Derived.Test.YtdljacmagabilaaWorlds
namespace Go.Proofs.Ytdljacmagabilaa
set_option linter.unusedVariables false
open Go.RowKit

set_option maxHeartbeats 400000 in
theorem wake_yes (b g : Nat) (xs : List Int) (c : Nat) (i : Int) (w : World) (hm : Mem w b g xs c) (hc : c < 1000000000) (h0 : 0 ≤ i) (h1 : i < xs.length) (hv : xs.getD i.toNat 0 = 0) :
    Calls Try.prog 40 #[.pointer (some ⟨b, 0, none⟩), .int .i64 i] w fun e w' => e = .returned (.bool true) ∧ Mem w' b g (xs.set i.toNat 1) (c + 1) ∧ Only b g w w' := by
  have HV := hid hv
  clear hv
  go_enter Try.func40, Try.ntmps40
  go_wp2_with fail
  refine (swap_yes b g xs c i 0 1 _ hm hc h0 h1 HV.out).mono ?_
  rintro e w1 ⟨rfl, hm1, ho1⟩
  go_wp2
  go_ret
  exact ⟨rfl, hm1, ho1⟩
set_option maxHeartbeats 400000 in
theorem wake_no (b g : Nat) (xs : List Int) (c : Nat) (i : Int) (w : World) (hm : Mem w b g xs c) (hc : c < 1000000000) (h0 : 0 ≤ i) (h1 : i < xs.length) (hv : xs.getD i.toNat 0 ≠ 0) :
    Calls Try.prog 40 #[.pointer (some ⟨b, 0, none⟩), .int .i64 i] w fun e w' => e = .returned (.bool false) ∧ Mem w' b g xs (c + 1) ∧ Only b g w w' := by
  have HV := hid hv
  clear hv
  go_enter Try.func40, Try.ntmps40
  go_wp2_with fail
  refine (swap_no b g xs c i 0 1 _ hm hc h0 h1 HV.out).mono ?_
  rintro e w1 ⟨rfl, hm1, ho1⟩
  go_wp2
  go_ret
  exact ⟨rfl, hm1, ho1⟩
set_option maxHeartbeats 400000 in
theorem clear_in (b g : Nat) (xs : List Int) (c : Nat) (i : Int) (w : World) (hm : Mem w b g xs c) (hc : c < 1000000000) (h0 : 0 ≤ i) (h1 : i < xs.length) :
    Calls Try.prog 41 #[.pointer (some ⟨b, 0, none⟩), .int .i64 i] w fun e w' => e = .returned (.bool true) ∧ Mem w' b g (xs.set i.toNat 0) (c + 1) ∧ Only b g w w' := by
  go_enter Try.func41, Try.ntmps41
  go_wp2_with fail
  refine (store_in b g xs c i 0 _ hm hc h0 h1).mono ?_
  rintro e w1 ⟨rfl, hm1, ho1⟩
  go_wp2
  go_ret
  exact ⟨rfl, hm1, ho1⟩
set_option maxHeartbeats 400000 in
theorem is_in (b g : Nat) (xs : List Int) (c : Nat) (i v : Int) (w : World) (hm : Mem w b g xs c) (hc : c < 1000000000) (h0 : 0 ≤ i) (h1 : i < xs.length) (hv : xs.getD i.toNat 0 = v) (r : Bool) (hr : (v == 1) = r) :
    Calls Try.prog 43 #[.pointer (some ⟨b, 0, none⟩), .int .i64 i] w fun e w' => e = .returned (.bool r) ∧ Mem w' b g xs (c + 1) ∧ Only b g w w' := by
  have HV := hid hv
  have HR := hid hr
  clear hv hr
  go_enter Try.func43, Try.ntmps43
  go_wp2_with fail
  refine (load_v b g xs c i v _ hm hc h0 h1 HV.out).mono ?_
  rintro e w1 ⟨rfl, hm1, ho1⟩
  go_wp2
  go_ret
  exact ⟨ret_bool HR.out.symm, hm1, ho1⟩

def lateB (until_ now : Int) : Bool := until_ != 9223372036854775807 && decide (until_ ≤ now)

set_option maxHeartbeats 400000 in
theorem due_any (n u now : Int) (w : World) :
    Calls Try.prog 45 #[.agg #[.int .i64 n, .int .i64 u], .int .i64 now] w fun e w' => e = .returned (.bool (lateB u now)) ∧ Below w.heap.size w w' := by
  rcases h1 : (u != 9223372036854775807) with _ | _
  · go_enter Try.func45, Try.ntmps45
    go_wp2
    go_ret
    exact ⟨ret_bool (by unfold lateB; rw [h1]; rfl), (Below.refl _ _).alloc (Nat.le_refl _) _⟩
  · rcases h2 : decide (u ≤ now) with _ | _
    all_goals
      go_enter Try.func45, Try.ntmps45
      go_wp2
      go_ret
      exact ⟨ret_bool (by unfold lateB; rw [h1, h2]; rfl), (Below.refl _ _).alloc (Nat.le_refl _) _⟩

set_option maxHeartbeats 400000 in
theorem step_woken (b g : Nat) (xs : List Int) (c : Nat) (n u now : Int) (w : World) (hm : Mem w b g xs c) (hc : c < 1000000000) (h0 : 0 ≤ n) (h1 : n < xs.length) (hv : xs.getD n.toNat 0 = 1) :
    Calls Try.prog 42 #[.agg #[.int .i64 n, .int .i64 u], .pointer (some ⟨b, 0, none⟩), .int .i64 now] w fun e w' => e = .returned (.int .i64 1) ∧ Mem w' b g (xs.set n.toNat 0) (c + 1) ∧ Only b g w w' := by
  have HV := hid hv
  clear hv
  go_enter Try.func42, Try.ntmps42
  go_wp2_with fail
  refine (swap_yes b g xs c n 1 0 _ (hm.alloc _) hc h0 h1 HV.out).mono ?_
  rintro e w1 ⟨rfl, hm1, ho1⟩
  go_wp2
  go_ret
  exact ⟨rfl, hm1, (Only.alloc _ _).trans ho1⟩

set_option maxHeartbeats 400000 in
theorem step_other (b g : Nat) (xs : List Int) (c : Nat) (n u now : Int) (w : World) (hm : Mem w b g xs c) (hc : c < 1000000000) (h0 : 0 ≤ n) (h1 : n < xs.length) (hv : xs.getD n.toNat 0 ≠ 1) (r : Int) (hr : r = if lateB u now then 2 else 0) :
    Calls Try.prog 42 #[.agg #[.int .i64 n, .int .i64 u], .pointer (some ⟨b, 0, none⟩), .int .i64 now] w fun e w' => e = .returned (.int .i64 r) ∧ Mem w' b g xs (c + 1) ∧ Only b g w w' := by
  have HV := hid hv
  have HR := hid hr
  clear hv hr
  have D := due_any n u now
  obtain ⟨l, hl⟩ : ∃ l, l = lateB u now := ⟨_, rfl⟩
  rw [← hl] at D
  have HL := hid hl
  clear hl
  rcases l with _ | _
  all_goals
    go_enter Try.func42, Try.ntmps42
    go_wp2_with fail
    refine (swap_no b g xs c n 1 0 _ (hm.alloc _) hc h0 h1 HV.out).mono ?_
    rintro e w1 ⟨rfl, hm1, ho1⟩
    have hnew := ho1.new hm.sb hm.sg
    have k0 : w1.cell? ⟨w.heap.size, 0, none⟩ = some (.int .i64 n) := by simp [World.cell?, hnew]
    have k1 : w1.cell? ⟨w.heap.size, 1, none⟩ = some (.int .i64 u) := by simp [World.cell?, hnew]
    clear hnew
    go_wp2_with fail
    refine (D _).mono ?_
    rintro e w2 ⟨rfl, hb2⟩
    go_wp2
    go_ret
    exact ⟨ret_int' (by rw [HR.out, ← HL.out]; rfl), hm1.below hb2 hm1.sb hm1.sg, ((Only.alloc _ _).trans ho1).trans (Only.of_below hb2)⟩
end Go.Proofs.Ytdljacmagabilaa
