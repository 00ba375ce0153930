/- The document's lock as a value: Held, Free (the row is a slice with an offset, not empty). -/
import Derived.Test.YtdbionbdcjpmaaaRows64A
import Derived.Test.YtdbionbdcjpmaaaOff
namespace Go.Proofs.Ytdbionbdcjpmaaa
set_option linter.unusedVariables false
set_option linter.unusedSimpArgs false
open Go.RowKit

set_option maxHeartbeats 4000000 in
theorem refheld_row (nx t x : Int) (g off n c : Nat) (w : World) (hn : 0 < n) (hnc : n ≤ c) (hc : c ≤ 9223372036854775807) (hx : w.cell? ⟨g, off, none⟩ = some (.int .u64 x)) (hg : g < w.heap.size) (r : Bool) (hr : (x == t) = r) :
    Calls Try.prog 18 #[.agg #[.int .u64 nx, .slice (some ⟨g, off, none⟩) n c], .int .u64 t] w fun e w' => e = .returned (.bool r) ∧ Below w.heap.size w w' := by
  have hn0 : ((n : Int) == 0) = false := beq_eq_false_iff_ne.2 (by omega)
  have HB := hid ((Below.refl w.heap.size w).alloc (Nat.le_refl _) (.cells #[.int .u64 nx, .slice (some ⟨g, off, none⟩) n c] 45))
  have hx1 : (w.alloc (.cells #[.int .u64 nx, .slice (some ⟨g, off, none⟩) n c] 45)).cell? ⟨g, off, none⟩ = some (.int .u64 x) := by
    rw [← hx]; exact World.cell?_of_block (Below.heap_alloc _ _ _ hg)
  clear hx hg
  go_enter Try.func18, Try.ntmps18
  go_wp2
  go_ret
  exact ⟨rfl, HB.out⟩

/-- What Free answers where the one at the head is freed. -/
def FreePost (nx : Int) (g off m c : Nat) (w : World) (e : Ending) (w' : World) : Prop := e = .returned (.tuple #[.agg #[.int .u64 nx, .slice (some ⟨g, off, none⟩) m c], .bool true]) ∧ Below w.heap.size w w'
set_option maxHeartbeats 4000000 in
theorem reffree_yes (nx t : Int) (g off m c : Nat) (w : World) (hnc : m + 1 ≤ c) (hc : c ≤ 9223372036854775807) (hx : w.cell? ⟨g, off, none⟩ = some (.int .u64 t)) (hg : g < w.heap.size) (h1 : c ≠ 1) :
    Calls Try.prog 20 #[.agg #[.int .u64 nx, .slice (some ⟨g, off, none⟩) (m + 1) c], .int .u64 t] w (FreePost nx g (off + 1) m (c - 1) w) := by
  obtain ⟨o1, ho1⟩ : ∃ o, o = Obj.cells #[.int .u64 nx, .slice (some ⟨g, off, none⟩) (m + 1) c] 45 (0, 0) := ⟨_, rfl⟩
  obtain ⟨o2, ho2⟩ : ∃ o, o = Obj.cells #[.int .u64 0, .slice none 0 0] 45 (0, 0) := ⟨_, rfl⟩
  have HB := hid (((Below.refl w.heap.size w).alloc (Nat.le_refl _) o1).alloc (by simp) o2)
  have hx1 : ((w.alloc o1).alloc o2).cell? ⟨g, off, none⟩ = some (.int .u64 t) := by
    rw [← hx]; exact World.cell?_of_block ((Below.heap_alloc _ _ _ (by simp; omega)).trans (Below.heap_alloc _ _ _ hg))
  have tt : (t != t) = false := by simp
  subst ho1 ho2
  clear hx hg
  go_enter Try.func20, Try.ntmps20
  go_wp2_with fail
  go_region
  all_goals
    go_wp2
    refine bodyPost_ret (v := .tuple #[.agg #[.int .u64 nx, .slice (some ⟨g, off + 1, none⟩) m (c - 1)], .bool true]) (by simp [results, Try.results20, go_sem]) rfl ⟨rfl, ?_⟩
    exact (((Below.refl w.heap.size w).alloc (Nat.le_refl _) _).alloc (by simp) _).trans (Quiet.below ⟨1, rfl⟩ _)
set_option maxHeartbeats 4000000 in
theorem reffree_last (nx t : Int) (g off m : Nat) (w : World) (hnc : m + 1 ≤ 1) (hx : w.cell? ⟨g, off, none⟩ = some (.int .u64 t)) (hg : g < w.heap.size) :
    Calls Try.prog 20 #[.agg #[.int .u64 nx, .slice (some ⟨g, off, none⟩) (m + 1) 1], .int .u64 t] w (FreePost nx g off m 0 w) := by
  obtain ⟨o1, ho1⟩ : ∃ o, o = Obj.cells #[.int .u64 nx, .slice (some ⟨g, off, none⟩) (m + 1) 1] 45 (0, 0) := ⟨_, rfl⟩
  obtain ⟨o2, ho2⟩ : ∃ o, o = Obj.cells #[.int .u64 0, .slice none 0 0] 45 (0, 0) := ⟨_, rfl⟩
  have hx1 : ((w.alloc o1).alloc o2).cell? ⟨g, off, none⟩ = some (.int .u64 t) := by
    rw [← hx]; exact World.cell?_of_block ((Below.heap_alloc _ _ _ (by simp; omega)).trans (Below.heap_alloc _ _ _ hg))
  have tt : (t != t) = false := by simp
  obtain rfl : m = 0 := by omega
  subst ho1 ho2
  clear hx hg
  go_enter Try.func20, Try.ntmps20
  go_wp2_with fail
  go_region
  all_goals
    go_wp2
    refine bodyPost_ret (v := .tuple #[.agg #[.int .u64 nx, .slice (some ⟨g, off, none⟩) 0 0], .bool true]) (by simp [results, Try.results20, go_sem]) rfl ⟨rfl, ?_⟩
    exact (((Below.refl w.heap.size w).alloc (Nat.le_refl _) _).alloc (by simp) _).trans (Quiet.below ⟨1, rfl⟩ _)
set_option maxHeartbeats 4000000 in
theorem reffree_no (nx t x : Int) (g off m c : Nat) (w : World) (hnc : m + 1 ≤ c) (hc : c ≤ 9223372036854775807) (hx : w.cell? ⟨g, off, none⟩ = some (.int .u64 x)) (hg : g < w.heap.size) (hne : x ≠ t) :
    Calls Try.prog 20 #[.agg #[.int .u64 nx, .slice (some ⟨g, off, none⟩) (m + 1) c], .int .u64 t] w fun e w' => e = .returned (.tuple #[.agg #[.int .u64 nx, .slice (some ⟨g, off, none⟩) (m + 1) c], .bool false]) ∧ Below w.heap.size w w' := by
  obtain ⟨o1, ho1⟩ : ∃ o, o = Obj.cells #[.int .u64 nx, .slice (some ⟨g, off, none⟩) (m + 1) c] 45 (0, 0) := ⟨_, rfl⟩
  obtain ⟨o2, ho2⟩ : ∃ o, o = Obj.cells #[.int .u64 0, .slice none 0 0] 45 (0, 0) := ⟨_, rfl⟩
  have hx1 : ((w.alloc o1).alloc o2).cell? ⟨g, off, none⟩ = some (.int .u64 x) := by
    rw [← hx]; exact World.cell?_of_block ((Below.heap_alloc _ _ _ (by simp; omega)).trans (Below.heap_alloc _ _ _ hg))
  have tt : (x != t) = true := by simpa using hne
  subst ho1 ho2
  clear hx hg hne
  go_enter Try.func20, Try.ntmps20
  go_wp2
  refine bodyPost_ret (v := .tuple #[.agg #[.int .u64 nx, .slice (some ⟨g, off, none⟩) (m + 1) c], .bool false]) (by simp [results, Try.results20, go_sem]) rfl ⟨rfl, ?_⟩
  exact ((Below.refl w.heap.size w).alloc (Nat.le_refl _) _).alloc (by simp) _
end Go.Proofs.Ytdbionbdcjpmaaa
