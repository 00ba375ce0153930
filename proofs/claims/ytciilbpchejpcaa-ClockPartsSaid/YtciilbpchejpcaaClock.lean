/- The contracts of package clock and of the document's own sum: a time is held at either end. -/
import Derived.Test.YtciilbpchejpcaaBase
import Derived.OpenShut
import Derived.Deep.OwnRows
namespace Go.Proofs.Ytciilbpchejpcaa
open Go.RowKit
set_option linter.unusedVariables false

/-- A number that an int64 can hold. -/
def inI (x : Int) : Prop := -9223372036854775808 ≤ x ∧ x ≤ 9223372036854775807
/-- The sum, held at either end. -/
def sat (t d : Int) : Int := max (-9223372036854775808) (min 9223372036854775807 (t + d))
theorem sat_inI (t d : Int) : inI (sat t d) := by unfold inI sat; omega
theorem retI {k : IntKind} {a b : Int} (h : a = b) : Ending.returned (.int k a) = .returned (.int k b) := by rw [h]

set_option maxHeartbeats 400000 in
theorem sum_any (t d : Int) (w : World) (ht : inI t) (hd : inI d) :
    Calls Try.prog 68 #[.int .i64 t, .int .i64 d] w fun e w' => e = .returned (.int .i64 (sat t d)) ∧ w = w' := by
  have HS := hid (rfl : sat t d = sat t d)
  obtain ⟨t0, t1⟩ := ht
  obtain ⟨d0, d1⟩ := hd
  by_cases h1 : 0 < d
  · by_cases h2 : 9223372036854775807 - d < t
    all_goals
      go_enter Try.func68, Try.ntmps68
      go_wp2
      go_ret
      exact ⟨retI (by unfold sat; omega), rfl⟩
  · by_cases h3 : d < 0
    · by_cases h2 : t < -9223372036854775808 - d
      all_goals
        go_enter Try.func68, Try.ntmps68
        go_wp2
        go_ret
        exact ⟨retI (by unfold sat; omega), rfl⟩
    · go_enter Try.func68, Try.ntmps68
      go_wp2
      go_ret
      exact ⟨retI (by unfold sat; omega), rfl⟩

set_option maxHeartbeats 400000 in
theorem ref_sum (t d : Int) (w : World) (ht : inI t) (hd : inI d) :
    Calls Try.prog 69 #[.int .i64 t, .int .i64 d] w fun e w' => e = .returned (.int .i64 (sat t d)) ∧ w = w' := by
  obtain ⟨t0, t1⟩ := ht
  obtain ⟨d0, d1⟩ := hd
  by_cases h1 : 0 < d
  · by_cases h2 : 9223372036854775807 - d < t
    all_goals
      go_enter Try.func69, Try.ntmps69
      go_wp2
      go_ret
      exact ⟨retI (by unfold sat; omega), rfl⟩
  · by_cases h3 : d < 0
    · by_cases h2 : t < -9223372036854775808 - d
      all_goals
        go_enter Try.func69, Try.ntmps69
        go_wp2
        go_ret
        exact ⟨retI (by unfold sat; omega), rfl⟩
    · go_enter Try.func69, Try.ntmps69
      go_wp2
      go_ret
      exact ⟨retI (by unfold sat; omega), rfl⟩

/-- A clock: block p holds the time x. -/
def Ck (w : World) (p : Nat) (x : Int) : Prop := w.heap[p]? = some (.cells #[.int .i64 x] 81 (0, 0))
theorem Ck.c {w : World} {p : Nat} {x : Int} (h : Ck w p x) : w.cell? ⟨p, 0, none⟩ = some (.int .i64 x) := by
  unfold Ck at h; simp [World.cell?, h]
theorem Ck.f {w : World} {p : Nat} {x : Int} (h : Ck w p x) : w.frozen? ⟨p, 0, none⟩ = false := by
  unfold Ck at h; simp [World.frozen?, h]
theorem Ck.lt {w : World} {p : Nat} {x : Int} (h : Ck w p x) : p < w.heap.size := by
  unfold Ck at h; rw [Array.getElem?_eq_some_iff] at h; exact h.1
theorem Ck.set {w : World} {p : Nat} {x : Int} (h : Ck w p x) (y : Int) : Ck (w.setCell ⟨p, 0, none⟩ (.int .i64 y)) p y := by
  unfold Ck at h ⊢; simp [World.setCell, Array.getElem?_modify, h]
theorem Ck.other {w w' : World} {p q r : Nat} {x : Int} (h : Ck w p x) (ho : Only q r w w') (h1 : p ≠ q) (h2 : p ≠ r) : Ck w' p x := by
  have hl := h.lt
  unfold Ck at h ⊢
  rw [ho.block p hl h1 h2]; exact h
theorem Ck.new (w : World) (x : Int) : Ck (w.alloc (.cells #[.int .i64 x] 81)) w.heap.size x := Deep.blk_alloc_new _ _
theorem Ck.alloc {w : World} {p : Nat} {x : Int} (h : Ck w p x) (o : Obj) : Ck (w.alloc o) p x := by
  have hl := h.lt
  unfold Ck at h ⊢
  rw [Below.heap_alloc _ _ _ hl]; exact h
theorem Only.set (w : World) (p i : Nat) (v : Value) : Only p p w (w.setCell ⟨p, i, none⟩ v) :=
  ⟨rfl, rfl, rfl, by simp [World.setCell], fun k _ h1 _ => Below.heap_setCell _ _ _ _ h1⟩

theorem now_any (p : Nat) (x : Int) (w : World) (hc : Ck w p x) :
    Calls Try.prog 66 #[.pointer (some ⟨p, 0, none⟩)] w fun e w' => e = .returned (.int .i64 x) ∧ w = w' := by
  have h0 := hc.c
  clear hc
  go_enter Try.func66, Try.ntmps66
  go_wp2
  go_ret
  exact ⟨rfl, rfl⟩
theorem past_any (p : Nat) (x t : Int) (w : World) (hc : Ck w p x) :
    Calls Try.prog 67 #[.pointer (some ⟨p, 0, none⟩), .int .i64 t] w fun e w' => e = .returned (.bool (decide (t ≤ x))) ∧ w = w' := by
  have h0 := hc.c
  clear hc
  go_enter Try.func67, Try.ntmps67
  go_wp2
  go_ret
  exact ⟨rfl, rfl⟩
set_option maxHeartbeats 400000 in
theorem after_any (p : Nat) (x d m : Int) (w : World) (hc : Ck w p x) (hx : inI x) (hd : inI d) (hm : m = max d 0) :
    Calls Try.prog 65 #[.pointer (some ⟨p, 0, none⟩), .int .i64 d] w fun e w' => e = .returned (.int .i64 (sat x m)) ∧ w = w' := by
  have h0 := hc.c
  have HX := hid hx
  have HD := hid hd
  clear hc hx hd
  by_cases h : d < 0
  · obtain rfl : m = 0 := by omega
    clear hm
    go_enter Try.func65, Try.ntmps65
    go_wp2_with fail
    refine (sum_any x 0 _ HX.out (by unfold inI; omega)).mono ?_
    rintro e w' ⟨rfl, rfl⟩
    go_wp2
    go_ret
    exact ⟨rfl, rfl⟩
  · obtain rfl : d = m := by omega
    clear hm
    have h' : 0 ≤ d := by omega
    by_cases h3 : 0 < d
    · go_enter Try.func65, Try.ntmps65
      go_wp2_with fail
      refine (sum_any x d _ HX.out HD.out).mono ?_
      rintro e w' ⟨rfl, rfl⟩
      go_wp2
      go_ret
      exact ⟨rfl, rfl⟩
    · obtain rfl : d = 0 := by omega
      go_enter Try.func65, Try.ntmps65
      go_wp2_with fail
      refine (sum_any x 0 _ HX.out (by unfold inI; omega)).mono ?_
      rintro e w' ⟨rfl, rfl⟩
      go_wp2
      go_ret
      exact ⟨rfl, rfl⟩
set_option maxHeartbeats 400000 in
theorem tick_any (p : Nat) (x d m : Int) (w : World) (hc : Ck w p x) (hx : inI x) (hd : inI d) (hm : m = max d 0) :
    Calls Try.prog 64 #[.pointer (some ⟨p, 0, none⟩), .int .i64 d] w fun e w' => e = .returned (.int .i64 (sat x m)) ∧ Ck w' p (sat x m) ∧ Only p p w w' := by
  have A := after_any p x d m w hc hx hd hm
  have h0 := hc.c
  have hf := hc.f
  have HC := hid hc
  clear hx hd hm hc
  go_enter Try.func64, Try.ntmps64
  go_wp2_with fail
  refine A.mono ?_
  rintro e w' ⟨rfl, rfl⟩
  go_wp2
  go_ret
  exact ⟨rfl, HC.out.set _, Only.set _ _ _ _⟩
end Go.Proofs.Ytciilbpchejpcaa
