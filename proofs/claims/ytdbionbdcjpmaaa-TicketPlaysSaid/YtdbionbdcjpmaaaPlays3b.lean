/- The document's lock: Held and Free, at any row. -/
import Derived.Test.YtdbionbdcjpmaaaPlays3
namespace Go.Proofs.Ytdbionbdcjpmaaa.ticketPlays
open Go.RowKit
set_option linter.unusedVariables false
set_option linter.unusedSimpArgs false

set_option maxHeartbeats 4000000 in
theorem refheld_empty (nx t : Int) (a : Option Addr) (c : Nat) (w : World) (r : Bool) (hr : (t == nx) = r) :
    Calls Try.prog 18 #[.agg #[.int .u64 nx, .slice a 0 c], .int .u64 t] w fun e w' => e = .returned (.bool r) ∧ Below w.heap.size w w' := by
  have HB := hid ((Below.refl w.heap.size w).alloc (Nat.le_refl _) (.cells #[.int .u64 nx, .slice a 0 c] 45))
  go_enter Try.func18, Try.ntmps18
  go_wp2
  go_ret
  exact ⟨rfl, HB.out⟩
/-- Free of the one at the head. -/
def FrPost (w : World) (base : Nat) (nx : Int) (v : Value) (us : List Value) (e : Ending) (w' : World) : Prop :=
  ∃ a' c', e = .returned (.tuple #[.agg #[.int .u64 nx, .slice a' us.length c'], .bool true]) ∧ Offs w' base 30 (.slice a' us.length c') us ∧ (Value.slice a' us.length c').ownBlock = v.ownBlock ∧ Below w.heap.size w w'
theorem reffree_ok (nx t : Int) (a : Option Addr) (n c base : Nat) (us : List Value) (w : World) (h : Offs w base 30 (.slice a n c) (.int .u64 t :: us)) :
    Calls Try.prog 20 #[.agg #[.int .u64 nx, .slice a n c], .int .u64 t] w (FrPost w base nx (.slice a n c) us) := by
  obtain ⟨g, off, rfl, rfl, h1, h2, h3, h4, h5, h6, h7⟩ := h.pos
  unfold maxLen at h2
  by_cases hc : c = 1
  · subst hc
    refine (reffree_last nx t g off us.length w (by omega) h3 h4).mono ?_
    rintro e w' ⟨rfl, hb⟩
    exact ⟨_, _, rfl, (h6 rfl).kept (fun q hq => hb.block q (by simp [Value.ownBlock] at hq; omega)), by rfl, hb⟩
  · refine (reffree_yes nx t g off us.length c w (by omega) (by omega) h3 h4 hc).mono ?_
    rintro e w' ⟨rfl, hb⟩
    exact ⟨_, _, rfl, h7.kept (fun q hq => hb.block q (by simp [Value.ownBlock] at hq; omega)), by rfl, hb⟩
theorem reffree_nok (nx t x : Int) (a : Option Addr) (n c base : Nat) (us : List Value) (w : World) (h : Offs w base 30 (.slice a n c) (.int .u64 x :: us)) (hne : x ≠ t) :
    Calls Try.prog 20 #[.agg #[.int .u64 nx, .slice a n c], .int .u64 t] w fun e w' => e = .returned (.tuple #[.agg #[.int .u64 nx, .slice a n c], .bool false]) ∧ Below w.heap.size w w' := by
  obtain ⟨g, off, rfl, rfl, h1, h2, h3, h4, h5, h6, h7⟩ := h.pos
  unfold maxLen at h2
  exact reffree_no nx t x g off us.length c w (by omega) (by omega) h3 h4 hne
theorem refheld_any (nx t x : Int) (a : Option Addr) (n c base : Nat) (us : List Value) (w : World) (h : Offs w base 30 (.slice a n c) (.int .u64 x :: us)) (r : Bool) (hr : (x == t) = r) :
    Calls Try.prog 18 #[.agg #[.int .u64 nx, .slice a n c], .int .u64 t] w fun e w' => e = .returned (.bool r) ∧ Below w.heap.size w w' := by
  obtain ⟨g, off, rfl, rfl, h1, h2, h3, h4, h5, h6, h7⟩ := h.pos
  unfold maxLen at h2
  exact refheld_row nx t x g off _ c w (by omega) (by omega) (by omega) h3 h4 r hr
end Go.Proofs.Ytdbionbdcjpmaaa.ticketPlays
