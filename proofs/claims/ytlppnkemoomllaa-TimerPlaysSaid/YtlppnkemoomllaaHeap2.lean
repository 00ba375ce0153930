/- heap.compare and heap.Ahead, as contracts. -/
import Derived.Test.YtlppnkemoomllaaHeap
import Derived.Deep.OwnRows
namespace Go.Proofs.Ytlppnkemoomllaa
set_option linter.unusedVariables false
set_option linter.unusedSimpArgs false
open Go.RowKit

/-- Two entries in the two blocks that were made last. -/
structure Two (s : Nat) (a b : Int × Int × Int) (w : World) : Prop where
  a : w.heap[s]? = some (.cells (ent a).toArray 37 (0, 0))
  b : w.heap[s + 1]? = some (.cells (ent b).toArray 37 (0, 0))
theorem cell_ent {w : World} {p i : Nat} {cs : Array Value} {t : TypeId} {v : Value} (h : w.heap[p]? = some (.cells cs t (0, 0))) (hi : cs[i]? = some v) : w.cell? ⟨p, i, none⟩ = some v := by
  simp [World.cell?, h, hi]
theorem Two.sx {s : Nat} {a b : Int × Int × Int} {w : World} (h : Two s a b w) :
    w.cell? ⟨s, 0, none⟩ = some (.int .i64 a.1) ∧ w.cell? ⟨s, 1, none⟩ = some (.int .u64 a.2.1) ∧ w.cell? ⟨s, 2, none⟩ = some (.int .i64 a.2.2) ∧
    w.cell? ⟨s + 1, 0, none⟩ = some (.int .i64 b.1) ∧ w.cell? ⟨s + 1, 1, none⟩ = some (.int .u64 b.2.1) ∧ w.cell? ⟨s + 1, 2, none⟩ = some (.int .i64 b.2.2) :=
  ⟨cell_ent h.a rfl, cell_ent h.a rfl, cell_ent h.a rfl, cell_ent h.b rfl, cell_ent h.b rfl, cell_ent h.b rfl⟩
theorem Two.alloc {s : Nat} {a b : Int × Int × Int} {w : World} (h : Two s a b w) (o : Obj) : Two s a b (w.alloc o) := by
  have h1 : s < w.heap.size := by obtain ⟨hl, _⟩ := Array.getElem?_eq_some_iff.1 h.a; exact hl
  have h2 : s + 1 < w.heap.size := by obtain ⟨hl, _⟩ := Array.getElem?_eq_some_iff.1 h.b; exact hl
  exact ⟨(Below.heap_alloc w o s h1).trans h.a, (Below.heap_alloc w o _ h2).trans h.b⟩

set_option maxHeartbeats 4000000 in
theorem compare_any (a1 a2 a3 b1 b2 b3 : Int) (w : World) :
    Calls Try.prog 35 #[.agg #[.int .i64 a1, .int .u64 a2, .int .i64 a3], .agg #[.int .i64 b1, .int .u64 b2, .int .i64 b3]] w fun e w' => e = .returned (.int .i64 (cmpE (a1, a2, a3) (b1, b2, b3))) ∧ Below w.heap.size w w' := by
  go_enter Try.func35, Try.ntmps35
  go_upto_region 1 with (fail)
  have HT : ∀ y : World, y = (w.alloc (.cells #[.int .i64 a1, .int .u64 a2, .int .i64 a3] 37)).alloc (.cells #[.int .i64 b1, .int .u64 b2, .int .i64 b3] 37) → Hid (Two w.heap.size (a1, a2, a3) (b1, b2, b3) y.drew ∧ Below w.heap.size w y.drew) := by
    rintro y rfl
    refine ⟨⟨(Below.heap_alloc _ _ _ (by simp)).trans (Deep.blk_alloc_new _ _), ?_⟩, ((Below.refl _ _).alloc (Nat.le_refl _) _).alloc (by simp) _ |>.trans (Quiet.below ⟨1, rfl⟩ _)⟩
    have := Deep.blk_alloc_new (w.alloc (.cells #[.int .i64 a1, .int .u64 a2, .int .i64 a3] 37)) (.cells #[.int .i64 b1, .int .u64 b2, .int .i64 b3] 37)
    rw [World.size_alloc] at this
    exact this
  obtain ⟨y, hy⟩ : ∃ y, y = (w.alloc (.cells #[.int .i64 a1, .int .u64 a2, .int .i64 a3] 37)).alloc (.cells #[.int .i64 b1, .int .u64 b2, .int .i64 b3] 37) := ⟨_, rfl⟩
  have H := HT y hy
  rw [← hy]
  clear HT hy
  obtain ⟨s, hs⟩ : ∃ s, s = w.heap.size := ⟨_, rfl⟩
  rw [← hs] at H ⊢
  have HD := hid H.out.1
  have HB := hid H.out.2
  have HW := hid hs
  have HO := hid (fun (x z q : Int) (v : World) => or_three x z q v.heap.size (v.alloc (.cells #[.int .i64 x, .int .i64 z, .int .i64 q] 3)).drew (by simp) (by simp) (by simp))
  clear H hs
  go_region_held3 (fun w' => w'.cell? ⟨s, 0, none⟩ = some (.int .i64 a1) ∧ w'.cell? ⟨s, 1, none⟩ = some (.int .u64 a2) ∧ w'.cell? ⟨s, 2, none⟩ = some (.int .i64 a3) ∧
    w'.cell? ⟨s + 1, 0, none⟩ = some (.int .i64 b1) ∧ w'.cell? ⟨s + 1, 1, none⟩ = some (.int .u64 b2) ∧ w'.cell? ⟨s + 1, 2, none⟩ = some (.int .i64 b3))
    (first
      | exact HD.out.sx
      | exact (HD.out.alloc _).sx)
    (first
      | (go_at_call 40; with_reducible refine (cmp_a _ _ _).mono ?_; rintro e w' ⟨rfl, rfl⟩)
      | (go_at_call 41; with_reducible refine (cmp_b _ _ _).mono ?_; rintro e w' ⟨rfl, rfl⟩)
      | (go_at_call 42; with_reducible refine (cmp_c _ _ _).mono ?_; rintro e w' ⟨rfl, rfl⟩)
      | (go_at_call 39; with_reducible refine (HO.out _ _ _ _).mono ?_; rintro e w' ⟨rfl, rfl⟩))
  all_goals
    go_wp2
    go_ret
    exact ⟨rfl, by
      have h := HB.out.alloc (by have := HB.out.size; have := HW.out; omega) (.cells #[.int .i64 (c3 a1 b1), .int .i64 (c3 a2 b2), .int .i64 (c3 a3 b3)] 3)
      rw [HW.out] at h
      exact h⟩

set_option maxHeartbeats 4000000 in
theorem ahead_any (a1 a2 a3 b1 b2 b3 : Int) (w : World) :
    Calls Try.prog 27 #[.agg #[.int .i64 a1, .int .u64 a2, .int .i64 a3], .agg #[.int .i64 b1, .int .u64 b2, .int .i64 b3]] w fun e w' => e = .returned (.bool (aheadE (a1, a2, a3) (b1, b2, b3))) ∧ Below w.heap.size w w' := by
  go_enter Try.func27, Try.ntmps27
  go_wp2_with fail
  refine (compare_any a1 a2 a3 b1 b2 b3 _).mono ?_
  rintro e w1 ⟨rfl, hb1⟩
  have HB := hid (((Below.refl w.heap.size w).alloc (Nat.le_refl _) (.cells #[.int .i64 a1, .int .u64 a2, .int .i64 a3] 37)).alloc (by simp) (.cells #[.int .i64 b1, .int .u64 b2, .int .i64 b3] 37) |>.trans (hb1.mono (by simp; omega)))
  clear hb1
  go_wp2
  go_ret
  exact ⟨rfl, HB.out⟩
end Go.Proofs.Ytlppnkemoomllaa
