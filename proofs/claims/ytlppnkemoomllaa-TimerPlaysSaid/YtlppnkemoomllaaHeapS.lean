/- heap.compare, and just what it leaves in memory: for the sort. -/
import Derived.Test.YtlppnkemoomllaaHeapO
import Derived.Sort.Grow
namespace Go.Proofs.Ytlppnkemoomllaa
set_option linter.unusedVariables false
set_option linter.unusedSimpArgs false
open Go.RowKit

theorem cmp_grow (w : World) (a b c : Obj) : (((w.alloc a).alloc b).alloc c).drew = Go.Sort.grow (w.drewN 1) (#[a] ++ #[b] ++ #[c]) := by
  rw [Go.Sort.alloc_eq_grow, Go.Sort.alloc_eq_grow, Go.Sort.alloc_eq_grow, Go.Sort.grow_grow, Go.Sort.grow_grow]
  rfl
set_option maxHeartbeats 4000000 in
theorem compare_g (a1 a2 a3 b1 b2 b3 : Int) (w : World) :
    Calls Try.prog 35 #[.agg #[.int .i64 a1, .int .u64 a2, .int .i64 a3], .agg #[.int .i64 b1, .int .u64 b2, .int .i64 b3]] w fun e w' => e = .returned (.int .i64 (cmpE (a1, a2, a3) (b1, b2, b3))) ∧ ∃ q os', w' = Go.Sort.grow (w.drewN q) os' := by
  go_enter Try.func35, Try.ntmps35
  go_upto_region 1 with (fail)
  have HT : ∀ y : World, y = (w.alloc (.cells #[.int .i64 a1, .int .u64 a2, .int .i64 a3] 37)).alloc (.cells #[.int .i64 b1, .int .u64 b2, .int .i64 b3] 37) → Hid (Two w.heap.size (a1, a2, a3) (b1, b2, b3) y.drew ∧ Below w.heap.size w y.drew) := by
    rintro y rfl
    refine ⟨⟨(Below.heap_alloc _ _ _ (by simp)).trans (Deep.blk_alloc_new _ _), ?_⟩, ((Below.refl _ _).alloc (Nat.le_refl _) _).alloc (by simp) _ |>.trans (Quiet.below ⟨1, rfl⟩ _)⟩
    have := Deep.blk_alloc_new (w.alloc (.cells #[.int .i64 a1, .int .u64 a2, .int .i64 a3] 37)) (.cells #[.int .i64 b1, .int .u64 b2, .int .i64 b3] 37)
    rw [World.size_alloc] at this
    exact this
  obtain ⟨y, hy⟩ : ∃ y, y = (w.alloc (.cells #[.int .i64 a1, .int .u64 a2, .int .i64 a3] 37)).alloc (.cells #[.int .i64 b1, .int .u64 b2, .int .i64 b3] 37) := ⟨_, rfl⟩
  have H := HT y hy
  have hyy := hy
  rw [← hy]
  clear HT hy
  obtain ⟨s, hs⟩ : ∃ s, s = w.heap.size := ⟨_, rfl⟩
  rw [← hs] at H ⊢
  have HD := hid H.out.1
  have HB := hid H.out.2
  have HW := hid hs
  have HY := hid hyy
  have HO := hid (fun (x z q : Int) (v : World) => or_three x z q v.heap.size (v.alloc (.cells #[.int .i64 x, .int .i64 z, .int .i64 q] 3)).drew (by simp) (by simp) (by simp))
  clear H hs hyy
  go_region_held3 (fun w' => w'.cell? ⟨s, 0, none⟩ = some (.int .i64 a1) ∧ w'.cell? ⟨s, 1, none⟩ = some (.int .u64 a2) ∧ w'.cell? ⟨s, 2, none⟩ = some (.int .i64 a3) ∧
    w'.cell? ⟨s + 1, 0, none⟩ = some (.int .i64 b1) ∧ w'.cell? ⟨s + 1, 1, none⟩ = some (.int .u64 b2) ∧ w'.cell? ⟨s + 1, 2, none⟩ = some (.int .i64 b3))
    (first
      | exact HD.out.sx
      | exact (HD.out.alloc _).sx)
    (first
      | (go_at_call 40; with_reducible refine (cmp_a _ _ _).mono ?_; rintro e w' ⟨rfl, rfl⟩)
      | (go_at_call 41; with_reducible refine (cmp_b _ _ _).mono ?_; rintro e w' ⟨rfl, rfl⟩)
      | (go_at_call 42; with_reducible refine (cmp_c _ _ _).mono ?_; rintro e w' ⟨rfl, rfl⟩)
      | (go_at_call 39; with_reducible refine (HO.out _ _ _ _).mono ?_; rintro e w' ⟨rfl, rfl⟩))
  all_goals
    go_wp2
    go_ret
    exact ⟨rfl, 1, _, by rw [HY.out]; exact cmp_grow w _ _ _⟩

end Go.Proofs.Ytlppnkemoomllaa
