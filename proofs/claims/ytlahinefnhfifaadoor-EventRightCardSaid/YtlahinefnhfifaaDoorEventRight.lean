/- The statement EventRightCardSaid: the frame of its proof; the walk stands in YtlahinefnhfifaaDoorEventRightW. For every input; the listed package variables hold what the program's own text lays in them (tied). -/
import Derived.Test.YtlahinefnhfifaaDoorEventRightW
import Derived.Test.YtlahinefnhfifaaDoorTie
import Derived.Test.YtlahinefnhfifaaDoorCards
import Derived.OpenShut
import Derived.ShutString
import Derived.ChangeOld
import Derived.LaidMore
import Derived.Stop.Joined
import Derived.SevenTiedAt
namespace Go.Proofs.YtlahinefnhfifaaDoor.eventRight
open Go.ChangeShapes Go.WideShapes Go.ChangeAt Go.RowKit
open Go.ChangeMaps (open_string shut_string)
set_option linter.unusedVariables false
theorem own : ownKnob Tryd.prog.godebug = none := by kernel_rfl
theorem laidOut : laidOutB Tryd.prog = true := by kernel_rfl
set_option maxRecDepth 100000 in
theorem door_met (os : Os) (args : Array Value) : laidMetH Tryd.prog Rows.eventRightRow.laid ((World.doorLaid Tryd.prog 73 os).forCall (fun _ _ => 0) ⟨#[], args, []⟩).memory :=
  laidMetH_of_parts3 (fuel := 8) (laidMet_of_run' 8 (by kernel_rfl) (by kernel_rfl)) (by kernel_rfl) (by kernel_rfl)

/-! ### THE ROW's STEP: after the kit's own frame. -/
set_option maxRecDepth 100000 in
theorem lifted (os : Os) (started : os.Started) (H : Type) (enc : TypeId × Value → H) :
    ReturnsInHanded {} Tryd.checked os 5 .any (fun w args => (Rows.eventRightSpec.pre enc Tryd.prog Tryd.f5 [] false w args ∧ laidMetH Tryd.prog Rows.eventRightRow.laid w) ∧ sizedMet enc Tryd.prog Tryd.f5 (OpenSpec.ofChange Rows.eventRightSpec) false w args)
      (Rows.eventRightSpec.post enc Tryd.prog Tryd.f5 false true false false) := by
  refine returnsInHanded_of_change_and (C := Tryd.checked) (X := fun w _ => laidMetH Tryd.prog Rows.eventRightRow.laid w) (fun _ _ _ hh h => h.of_heap hh) own started (by kernel_rfl) Tryd.func5
    (ChangeSpec.witness_shaped (enc := enc) (C := Tryd.checked) (os := os) (X := fun w _ => laidMetH Tryd.prog Rows.eventRightRow.laid w) false (World.doorLaid Tryd.prog 73 os) #[.agg #[.int .i64 0, .int .i64 0, .int .i64 0, .int .i64 0, .int .i64 0]] 8 rfl (World.shaped_of_RefB (by kernel_rfl) (by kernel_rfl)) (by kernel_rfl) (by kernel_rfl) (by kernel_rfl) (door_met os _)) ?_
  intro W base args ds gs before hval0 hW _ _ hL _
  have hval : ∀ (j : Nat) t v, Tryd.f5.params[j]? = some t → args[j]? = some v → Value.okWide Tryd.prog W .any base t v := hval0
  have hW' := hW
  obtain ⟨p, q, hA0, hV, rfl, hfz, hnd⟩ := hW
  have hA : DataW.TrodAll enc Tryd.prog W 0 (fun _ => true) true Tryd.f5.params.toList args.toList ds p := hA0
  rw [Tryd.params5] at hA hval
  obtain ⟨v0, vs0, d0, ds0, p0, q0, hargs, rfl, rfl, h0, r0⟩ := trodAll_cons hA
  obtain ⟨rfl, rfl, rfl⟩ := trodAll_nil r0
  obtain rfl : args = #[v0] := by cases args; simp_all
  obtain ⟨rfl, rfl⟩ := trodVars_none hV
  obtain ⟨cs0, rfl, _⟩ := okWide_struct Tryd.underlying36 (hval 0 36 v0 rfl rfl)
  have k0 := h0
  have lt0 : ∀ x ∈ p0, x.block < W.heap.size := by obtain ⟨m, hm⟩ := k0; exact DataW.trod_lt m _ _ _ hm
  obtain ⟨Z0, hc0, w0⟩ : ∃ Z, IsFlat [.i64, .i64, .i64, .i64, .i64] cs0 Z := by
    refine open_flat [.i64, .i64, .i64, .i64, .i64] Tryd.underlying36 (by kernel_rfl) ?_ h0
    intro j k hj
    match j, k, hj with
      | 0, k, hj => simp at hj; subst hj; exact ⟨_, rfl, rfl, Tryd.underlying34, by kernel_rfl⟩
      | 1, k, hj => simp at hj; subst hj; exact ⟨_, rfl, rfl, Tryd.underlying3, by kernel_rfl⟩
      | 2, k, hj => simp at hj; subst hj; exact ⟨_, rfl, rfl, Tryd.underlying3, by kernel_rfl⟩
      | 3, k, hj => simp at hj; subst hj; exact ⟨_, rfl, rfl, Tryd.underlying3, by kernel_rfl⟩
      | 4, k, hj => simp at hj; subst hj; exact ⟨_, rfl, rfl, Tryd.underlying2, by kernel_rfl⟩
      | (j + 5), k, hj => simp at hj
  obtain rfl : cs0 = #[.int .i64 (Z0 0), .int .i64 (Z0 1), .int .i64 (Z0 2), .int .i64 (Z0 3), .int .i64 (Z0 4)] := hc0.trans rfl
  clear hA0 hval0
  refine (walk (Z0 0) (Z0 1) (Z0 2) (Z0 3) (Z0 4) W (w0 0 _ rfl) (w0 1 _ rfl) (w0 2 _ rfl) (w0 3 _ rfl) (w0 4 _ rfl) (EvNames.of hL (by kernel_rfl) 0 rfl) (EvSteps.of hL (by kernel_rfl) 1 rfl)).mono fun e W' ⟨he, bel⟩ => ?_
  subst he
  exact ⟨_, rfl, _, _, _, [], _, [], hW', trodAll_mk1 (shut_bool Tryd.underlying4 _), (trodAll_cons_mk (Below.trod laidOut (by kernel_rfl) (of_decide_eq_true (by kernel_rfl)) k0 bel lt0) trodAll_mk0), rfl, bel.frame _, fun h => by cases h⟩

theorem over : Rows.eventRightRow.holds Tryd.pinned (OpenSpec.ofChange Rows.eventRightSpec) :=
  OpenClaim.holds_of_wide 5 Tryd.f5 rfl rfl rfl rfl rfl rfl rfl ⟨rfl, rfl, rfl, rfl, rfl⟩ rfl rfl rfl rfl rfl (by kernel_rfl) Tryd.func5 (by kernel_rfl)
    (of_decide_eq_true (by kernel_rfl)) (by unfold Func.isWrapper; first | (rw [if_pos (by decide +kernel)]; kernel_rfl) | (rw [if_neg (by decide +kernel)]; exact ⟨rfl, rfl⟩))
    (fun os started H enc _ => lifted os started H enc)

/-- THE STATEMENT: the tied card. -/
theorem proved : Rows.EventRightCardSaid :=
  Claim7.holds_tied_plain_at .later [] [.data, .data] true (true, "a241bcdfa59b4707a13fa45ba153dd9cc0ee2ed68b4af55c72cbd6522ba260fd") false
    over (fun _ h => by cases h) (by kernel_rfl) (fun _ h => by cases h) eventRight_row_tie rfl ⟨rfl, rfl⟩ (by kernel_rfl) rfl
    (fun f fn hf hfn => by
      obtain rfl : f = 5 := Option.some.inj ((show Tryd.prog.funcNamed "hostler/hostlerlaw15.EventRight" = some 5 by kernel_rfl).symm.trans hf) |>.symm
      obtain rfl : fn = Tryd.f5 := (Option.some.inj (Tryd.func5.symm.trans hfn)).symm
      exact ⟨by kernel_rfl, fun j t ht => by
        rw [Tryd.params5] at ht
        have hm : t ∈ [36] := by simpa using Array.mem_of_getElem? ht
        have hall : ([36].all fun u => !Tryd.prog.wantsStandIn u) = true := by kernel_rfl
        exact (show Tryd.prog.wantsStandIn t = false by simpa using List.all_eq_true.1 hall t hm)⟩)
    (by kernel_rfl)
#print axioms proved

end Go.Proofs.YtlahinefnhfifaaDoor.eventRight
