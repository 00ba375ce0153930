/- The statement HeapAheadSaid: the frame of its proof, as the kit's own program writes it; the walk stands in YtnmhnfhjnnlihaaHeapAheadW. For every input, without a condition. -/
import Derived.Test.YtnmhnfhjnnlihaaHeapAheadW
import Derived.OpenShut
import Derived.ShutString
import Derived.ChangeOld
namespace Go.Proofs.Ytnmhnfhjnnlihaa.heapAhead
open Go.ChangeShapes Go.WideShapes Go.ChangeAt Go.RowKit
open Go.ChangeMaps (open_string shut_string)
set_option linter.unusedVariables false
theorem own : ownKnob Try.prog.godebug = none := by kernel_rfl
theorem laidOut : laidOutB Try.prog = true := by kernel_rfl

/-! ### THE ROW's STEP: after the kit's own frame. -/
set_option maxRecDepth 100000 in
theorem lifted (os : Os) (started : os.Started) (H : Type) (enc : TypeId × Value → H) :
    ReturnsInHanded {} Try.checked os 3 .any (Rows.heapAheadSpec.pre6 enc Try.prog Try.f3 Rows.heapAheadRow.domain false) (Rows.heapAheadSpec.post enc Try.prog Try.f3 false true false false) := by
  refine returnsInHanded_of_change (C := Try.checked) own started (by kernel_rfl) Try.func3
    (ChangeSpec.witness6 (enc := enc) (C := Try.checked) false ⟨#[], #[.agg #[.int .i64 0, .int .u64 0, .int .i64 0], .agg #[.int .i64 0, .int .u64 0, .int .i64 0], .agg #[.int .i64 0, .int .u64 0, .int .i64 0]], []⟩ 8 (by kernel_rfl) (by kernel_rfl) (by kernel_rfl) (by kernel_rfl)) ?_
  intro W base args ds gs before hval0 hW hcnd _
  have hval : ∀ (j : Nat) t v, Try.f3.params[j]? = some t → args[j]? = some v → Value.okWide Try.prog W .any base t v := hval0
  have hW' := hW
  obtain ⟨p, q, hA0, hV, rfl, hfz, hnd⟩ := hW
  have hA : DataW.TrodAll enc Try.prog W 0 (fun _ => true) true Try.f3.params.toList args.toList ds p := hA0
  rw [Try.params3] at hA hval
  obtain ⟨v0, vs0, d0, ds0, p0, q0, hargs, rfl, rfl, h0, r0⟩ := trodAll_cons hA
  obtain ⟨v1, vs1, d1, ds1, p1, q1, rfl, rfl, rfl, h1, r1⟩ := trodAll_cons r0
  obtain ⟨v2, vs2, d2, ds2, p2, q2, rfl, rfl, rfl, h2, r2⟩ := trodAll_cons r1
  obtain ⟨rfl, rfl, rfl⟩ := trodAll_nil r2
  obtain rfl : args = #[v0, v1, v2] := by cases args; simp_all
  obtain ⟨rfl, rfl⟩ := trodVars_none hV
  obtain ⟨cs0, rfl, _⟩ := okWide_struct Try.underlying24 (hval 0 24 v0 rfl rfl)
  have k0 := h0
  have lt0 : ∀ x ∈ p0, x.block < W.heap.size := by obtain ⟨m, hm⟩ := k0; exact DataW.trod_lt m _ _ _ hm
  obtain ⟨Z0, hc0, w0⟩ : ∃ Z, IsFlat [.i64, .u64, .i64] cs0 Z := by
    refine open_flat [.i64, .u64, .i64] Try.underlying24 (by kernel_rfl) ?_ h0
    intro j k hj
    match j, k, hj with
      | 0, k, hj => simp at hj; subst hj; exact ⟨_, rfl, rfl, Try.underlying2, by kernel_rfl⟩
      | 1, k, hj => simp at hj; subst hj; exact ⟨_, rfl, rfl, Try.underlying22, by kernel_rfl⟩
      | 2, k, hj => simp at hj; subst hj; exact ⟨_, rfl, rfl, Try.underlying3, by kernel_rfl⟩
      | (j + 3), k, hj => simp at hj
  obtain rfl : cs0 = #[.int .i64 (Z0 0), .int .u64 (Z0 1), .int .i64 (Z0 2)] := hc0.trans rfl
  obtain ⟨cs1, rfl, _⟩ := okWide_struct Try.underlying24 (hval 1 24 v1 rfl rfl)
  have k1 := h1
  have lt1 : ∀ x ∈ p1, x.block < W.heap.size := by obtain ⟨m, hm⟩ := k1; exact DataW.trod_lt m _ _ _ hm
  obtain ⟨Z1, hc1, w1⟩ : ∃ Z, IsFlat [.i64, .u64, .i64] cs1 Z := by
    refine open_flat [.i64, .u64, .i64] Try.underlying24 (by kernel_rfl) ?_ h1
    intro j k hj
    match j, k, hj with
      | 0, k, hj => simp at hj; subst hj; exact ⟨_, rfl, rfl, Try.underlying2, by kernel_rfl⟩
      | 1, k, hj => simp at hj; subst hj; exact ⟨_, rfl, rfl, Try.underlying22, by kernel_rfl⟩
      | 2, k, hj => simp at hj; subst hj; exact ⟨_, rfl, rfl, Try.underlying3, by kernel_rfl⟩
      | (j + 3), k, hj => simp at hj
  obtain rfl : cs1 = #[.int .i64 (Z1 0), .int .u64 (Z1 1), .int .i64 (Z1 2)] := hc1.trans rfl
  obtain ⟨cs2, rfl, _⟩ := okWide_struct Try.underlying24 (hval 2 24 v2 rfl rfl)
  have k2 := h2
  have lt2 : ∀ x ∈ p2, x.block < W.heap.size := by obtain ⟨m, hm⟩ := k2; exact DataW.trod_lt m _ _ _ hm
  obtain ⟨Z2, hc2, w2⟩ : ∃ Z, IsFlat [.i64, .u64, .i64] cs2 Z := by
    refine open_flat [.i64, .u64, .i64] Try.underlying24 (by kernel_rfl) ?_ h2
    intro j k hj
    match j, k, hj with
      | 0, k, hj => simp at hj; subst hj; exact ⟨_, rfl, rfl, Try.underlying2, by kernel_rfl⟩
      | 1, k, hj => simp at hj; subst hj; exact ⟨_, rfl, rfl, Try.underlying22, by kernel_rfl⟩
      | 2, k, hj => simp at hj; subst hj; exact ⟨_, rfl, rfl, Try.underlying3, by kernel_rfl⟩
      | (j + 3), k, hj => simp at hj
  obtain rfl : cs2 = #[.int .i64 (Z2 0), .int .u64 (Z2 1), .int .i64 (Z2 2)] := hc2.trans rfl
  clear hA0 hval0
  refine (walk (Z0 0) (Z0 1) (Z0 2) (Z1 0) (Z1 1) (Z1 2) (Z2 0) (Z2 1) (Z2 2) W (w0 0 _ rfl) (w0 1 _ rfl) (w0 2 _ rfl) (w1 0 _ rfl) (w1 1 _ rfl) (w1 2 _ rfl) (w2 0 _ rfl) (w2 1 _ rfl) (w2 2 _ rfl)).mono fun e W' ⟨he, bel⟩ => ?_
  subst he
  exact ⟨_, rfl, _, _, _, [], _, [], hW', trodAll_mk1 (shut_bool Try.underlying4 _), (trodAll_cons_mk (Below.trod laidOut (by kernel_rfl) (of_decide_eq_true (by kernel_rfl)) k0 bel lt0) (trodAll_cons_mk (Below.trod laidOut (by kernel_rfl) (of_decide_eq_true (by kernel_rfl)) k1 bel lt1) (trodAll_cons_mk (Below.trod laidOut (by kernel_rfl) (of_decide_eq_true (by kernel_rfl)) k2 bel lt2) trodAll_mk0))), rfl, bel.frame _, fun h => by cases h⟩

theorem over : Rows.heapAheadRow.holds Try.pinned (OpenSpec.ofChange Rows.heapAheadSpec) :=
  OpenClaim.holds_of_wide 3 Try.f3 rfl rfl rfl rfl rfl rfl rfl ⟨rfl, rfl, rfl, rfl, rfl⟩ rfl rfl rfl rfl rfl (by kernel_rfl) Try.func3 (by kernel_rfl)
    (of_decide_eq_true (by kernel_rfl)) (by unfold Func.isWrapper; first | (rw [if_pos (by decide +kernel)]; kernel_rfl) | (rw [if_neg (by decide +kernel)]; exact ⟨rfl, rfl⟩))
    (fun os started H enc _ => lifted os started H enc)

/-- THE STATEMENT -/
theorem proved : Rows.HeapAheadSaid := over
#print axioms proved

end Go.Proofs.Ytnmhnfhjnnlihaa.heapAhead
