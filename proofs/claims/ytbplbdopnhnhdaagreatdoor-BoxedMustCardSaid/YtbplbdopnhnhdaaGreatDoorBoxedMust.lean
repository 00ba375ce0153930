/- The statement BoxedMustCardSaid: the frame of its proof; the walk stands in YtbplbdopnhnhdaaGreatDoorBoxedMustW. For every input; the listed package variables hold what the program's own text lays in them (tied). -/
import Derived.Test.YtbplbdopnhnhdaaGreatDoorBoxedMustW
import Derived.Test.YtbplbdopnhnhdaaGreatDoorTie
import Derived.Test.YtbplbdopnhnhdaaGreatDoorCards
import Derived.OpenShut
import Derived.ShutString
import Derived.ChangeOld
import Derived.LaidMore
import Derived.Stop.Joined
import Derived.SevenTiedAt
namespace Go.Proofs.YtbplbdopnhnhdaaGreatDoor.boxedMust
open Go.ChangeShapes Go.WideShapes Go.ChangeAt Go.RowKit
open Go.ChangeMaps (open_string shut_string)
set_option linter.unusedVariables false
theorem own : ownKnob Tryz.prog.godebug = none := by kernel_rfl
theorem laidOut : laidOutB Tryz.prog = true := by kernel_rfl
set_option maxRecDepth 100000 in
theorem door_met (os : Os) (args : Array Value) : laidMetH Tryz.prog Rows.boxedMustRow.laid ((World.doorLaid Tryz.prog 68 os).forCall (fun _ _ => 0) ⟨#[], args, []⟩).memory :=
  laidMetH_of_parts3 (fuel := 8) (laidMet_of_run' 8 (by kernel_rfl) (by kernel_rfl)) (by kernel_rfl) (by kernel_rfl)

/-! ### THE ROW's STEP: after the kit's own frame. -/
set_option maxRecDepth 100000 in
theorem lifted (os : Os) (started : os.Started) (H : Type) (enc : TypeId × Value → H) :
    ReturnsInHanded {} Tryz.checked os 4 .any (fun w args => (Rows.boxedMustSpec.pre enc Tryz.prog Tryz.f4 [] false w args ∧ laidMetH Tryz.prog Rows.boxedMustRow.laid w) ∧ sizedMet enc Tryz.prog Tryz.f4 (OpenSpec.ofChange Rows.boxedMustSpec) false w args)
      (Rows.boxedMustSpec.post enc Tryz.prog Tryz.f4 false true false false) := by
  refine returnsInHanded_of_change_and (C := Tryz.checked) (X := fun w _ => laidMetH Tryz.prog Rows.boxedMustRow.laid w) (fun _ _ _ hh h => h.of_heap hh) own started (by kernel_rfl) Tryz.func4
    (ChangeSpec.witness_shaped (enc := enc) (C := Tryz.checked) (os := os) (X := fun w _ => laidMetH Tryz.prog Rows.boxedMustRow.laid w) false (World.doorLaid Tryz.prog 68 os) #[.agg #[.int .u8 0, .int .i64 0, .int .i64 0, .int .i64 0, .int .u8 0, .int .u8 0, .int .i64 0, .int .i64 0, .int .i64 0, .int .i64 0, .int .i64 0, .int .i64 0, .int .i64 0, .int .i64 0, .int .i64 0, .int .i32 0, .string { data := #[] }]] 8 rfl (World.shaped_of_RefB (by kernel_rfl) (by kernel_rfl)) (by kernel_rfl) (by kernel_rfl) (by kernel_rfl) (door_met os _)) ?_
  intro W base args ds gs before hval0 hW _ _ hL _
  have hval : ∀ (j : Nat) t v, Tryz.f4.params[j]? = some t → args[j]? = some v → Value.okWide Tryz.prog W .any base t v := hval0
  have hW' := hW
  obtain ⟨p, q, hA0, hV, rfl, hfz, hnd⟩ := hW
  have hA : DataW.TrodAll enc Tryz.prog W 0 (fun _ => true) true Tryz.f4.params.toList args.toList ds p := hA0
  rw [Tryz.params4] at hA hval
  obtain ⟨v0, vs0, d0, ds0, p0, q0, hargs, rfl, rfl, h0, r0⟩ := trodAll_cons hA
  obtain ⟨rfl, rfl, rfl⟩ := trodAll_nil r0
  obtain rfl : args = #[v0] := by cases args; simp_all
  obtain ⟨rfl, rfl⟩ := trodVars_none hV
  obtain ⟨cs0, rfl, _⟩ := okWide_struct Tryz.underlying36 (hval 0 36 v0 rfl rfl)
  have k0 := h0
  have lt0 : ∀ x ∈ p0, x.block < W.heap.size := by obtain ⟨m, hm⟩ := k0; exact DataW.trod_lt m _ _ _ hm
  obtain ⟨Z0, w0⟩ : ∃ Z, IsMix1 [some .u8, some .i64, some .i64, some .i64, some .u8, some .u8, some .i64, some .i64, some .i64, some .i64, some .i64, some .i64, some .i64, some .i64, some .i64, some .i32, none] cs0 Z := by
    refine open_mix1 [some .u8, some .i64, some .i64, some .i64, some .u8, some .u8, some .i64, some .i64, some .i64, some .i64, some .i64, some .i64, some .i64, some .i64, some .i64, some .i32, none] Tryz.underlying36 (by kernel_rfl) ?_ h0
    intro j k hj
    match j, k, hj with
      | 0, k, hj => simp at hj; subst hj; exact .inl ⟨0, _, rfl, rfl, Tryz.underlying5, by kernel_rfl⟩
      | 1, k, hj => simp at hj; subst hj; exact .inr ⟨1, _, _, 0, _, 3, 0, rfl, Tryz.underlying31, rfl, by kernel_rfl, rfl, rfl, by decide, Tryz.underlying3, by kernel_rfl⟩
      | 2, k, hj => simp at hj; subst hj; exact .inr ⟨1, _, _, 1, _, 3, 1, rfl, Tryz.underlying31, rfl, by kernel_rfl, rfl, rfl, by decide, Tryz.underlying3, by kernel_rfl⟩
      | 3, k, hj => simp at hj; subst hj; exact .inr ⟨1, _, _, 2, _, 3, 2, rfl, Tryz.underlying31, rfl, by kernel_rfl, rfl, rfl, by decide, Tryz.underlying3, by kernel_rfl⟩
      | 4, k, hj => simp at hj; subst hj; exact .inr ⟨2, _, _, 0, _, 5, 0, rfl, Tryz.underlying28, rfl, by kernel_rfl, rfl, rfl, by decide, Tryz.underlying5, by kernel_rfl⟩
      | 5, k, hj => simp at hj; subst hj; exact .inr ⟨2, _, _, 1, _, 5, 1, rfl, Tryz.underlying28, rfl, by kernel_rfl, rfl, rfl, by decide, Tryz.underlying5, by kernel_rfl⟩
      | 6, k, hj => simp at hj; subst hj; exact .inr ⟨2, _, _, 2, _, 5, 2, rfl, Tryz.underlying28, rfl, by kernel_rfl, rfl, rfl, by decide, Tryz.underlying3, by kernel_rfl⟩
      | 7, k, hj => simp at hj; subst hj; exact .inr ⟨2, _, _, 3, _, 5, 3, rfl, Tryz.underlying28, rfl, by kernel_rfl, rfl, rfl, by decide, Tryz.underlying3, by kernel_rfl⟩
      | 8, k, hj => simp at hj; subst hj; exact .inr ⟨2, _, _, 4, _, 5, 4, rfl, Tryz.underlying28, rfl, by kernel_rfl, rfl, rfl, by decide, Tryz.underlying2, by kernel_rfl⟩
      | 9, k, hj => simp at hj; subst hj; exact .inr ⟨3, _, _, 0, _, 5, 0, rfl, Tryz.underlying34, rfl, by kernel_rfl, rfl, rfl, by decide, Tryz.underlying32, by kernel_rfl⟩
      | 10, k, hj => simp at hj; subst hj; exact .inr ⟨3, _, _, 1, _, 5, 1, rfl, Tryz.underlying34, rfl, by kernel_rfl, rfl, rfl, by decide, Tryz.underlying3, by kernel_rfl⟩
      | 11, k, hj => simp at hj; subst hj; exact .inr ⟨3, _, _, 2, _, 5, 2, rfl, Tryz.underlying34, rfl, by kernel_rfl, rfl, rfl, by decide, Tryz.underlying3, by kernel_rfl⟩
      | 12, k, hj => simp at hj; subst hj; exact .inr ⟨3, _, _, 3, _, 5, 3, rfl, Tryz.underlying34, rfl, by kernel_rfl, rfl, rfl, by decide, Tryz.underlying3, by kernel_rfl⟩
      | 13, k, hj => simp at hj; subst hj; exact .inr ⟨3, _, _, 4, _, 5, 4, rfl, Tryz.underlying34, rfl, by kernel_rfl, rfl, rfl, by decide, Tryz.underlying2, by kernel_rfl⟩
      | 14, k, hj => simp at hj; subst hj; exact .inl ⟨4, _, rfl, rfl, Tryz.underlying3, by kernel_rfl⟩
      | 15, k, hj => simp at hj; subst hj; exact .inl ⟨5, _, rfl, rfl, Tryz.underlying21, by kernel_rfl⟩
      | 16, k, hj => simp at hj; subst hj; exact .inl ⟨6, _, rfl, rfl, Tryz.underlying9, by kernel_rfl⟩
      | (j + 17), k, hj => simp at hj
  clear hA0 hval0
  refine (walk cs0 Z0 W w0 (EvNames.of hL (by kernel_rfl) 1 rfl) (EvSteps.of hL (by kernel_rfl) 2 rfl) (MaPlaces.of hL (by kernel_rfl) 3 rfl)).mono fun e W' ⟨he, bel⟩ => ?_
  subst he
  exact ⟨_, rfl, _, _, _, [], _, [], hW', trodAll_mk1 (shut_bool Tryz.underlying4 _), (trodAll_cons_mk (Below.trod laidOut (by kernel_rfl) (of_decide_eq_true (by kernel_rfl)) k0 bel lt0) trodAll_mk0), rfl, bel.frame _, fun h => by cases h⟩

theorem over : Rows.boxedMustRow.holds Tryz.pinned (OpenSpec.ofChange Rows.boxedMustSpec) :=
  OpenClaim.holds_of_wide 4 Tryz.f4 rfl rfl rfl rfl rfl rfl rfl ⟨rfl, rfl, rfl, rfl, rfl⟩ rfl rfl rfl rfl rfl (by kernel_rfl) Tryz.func4 (by kernel_rfl)
    (of_decide_eq_true (by kernel_rfl)) (by unfold Func.isWrapper; first | (rw [if_pos (by decide +kernel)]; kernel_rfl) | (rw [if_neg (by decide +kernel)]; exact ⟨rfl, rfl⟩))
    (fun os started H enc _ => lifted os started H enc)

/-- THE STATEMENT: the tied card. -/
theorem proved : Rows.BoxedMustCardSaid :=
  Claim7.holds_tied_plain_at .later [] [.data, .data, .data, .data] true (true, "bc3b9e672ab0d6aeda599c73db75cfd7a80a3987c49b0644563fde450f2e08f2") true
    over (fun _ h => by cases h) (by kernel_rfl) (fun _ h => by cases h) boxedMust_row_tie rfl ⟨rfl, rfl⟩ (by kernel_rfl) rfl
    (fun f fn hf hfn => by
      obtain rfl : f = 4 := Option.some.inj ((show Tryz.prog.funcNamed "hostler/hostlerlaw26.BoxedMust" = some 4 by kernel_rfl).symm.trans hf) |>.symm
      obtain rfl : fn = Tryz.f4 := (Option.some.inj (Tryz.func4.symm.trans hfn)).symm
      exact ⟨by kernel_rfl, fun j t ht => by
        rw [Tryz.params4] at ht
        have hm : t ∈ [36] := by simpa using Array.mem_of_getElem? ht
        have hall : ([36].all fun u => !Tryz.prog.wantsStandIn u) = true := by kernel_rfl
        exact (show Tryz.prog.wantsStandIn t = false by simpa using List.all_eq_true.1 hall t hm)⟩)
    (by kernel_rfl)
#print axioms proved

end Go.Proofs.YtbplbdopnhnhdaaGreatDoor.boxedMust
