/- The statement GlyphPrintsCardSaid: the frame of its proof; the walk stands in YtnaphgjkkagpoaaDoorGlyphPrintsW. For every input; the listed package variables hold what the program's own text lays in them (tied). -/
import Derived.Test.YtnaphgjkkagpoaaDoorGlyphPrintsW
import Derived.Test.YtnaphgjkkagpoaaDoorTie
import Derived.Test.YtnaphgjkkagpoaaDoorCards
import Derived.OpenShut
import Derived.ShutString
import Derived.ChangeOld
import Derived.LaidMore
import Derived.Lay
import Derived.Stop.Joined
import Derived.SevenTiedAt
namespace Go.Proofs.YtnaphgjkkagpoaaDoor.glyphPrints
open Go.ChangeShapes Go.WideShapes Go.ChangeAt Go.RowKit
open Go.ChangeMaps (open_string shut_string)
set_option linter.unusedVariables false
theorem own : ownKnob Tryd.prog.godebug = none := by kernel_rfl
theorem laidOut : laidOutB Tryd.prog = true := by kernel_rfl
/-! ### THE ROW's STEP: after the kit's own frame. -/
set_option maxRecDepth 100000 in
theorem lifted (os : Os) (started : os.Started) (H : Type) (enc : TypeId × Value → H) :
    ReturnsInHanded {} Tryd.checked os 4 .any (fun w args => (Rows.glyphPrintsSpec.pre enc Tryd.prog Tryd.f4 [] false w args ∧ laidMetH Tryd.prog Rows.glyphPrintsRow.laid w) ∧ sizedMet enc Tryd.prog Tryd.f4 (OpenSpec.ofChange Rows.glyphPrintsSpec) false w args)
      (Rows.glyphPrintsSpec.post enc Tryd.prog Tryd.f4 false true false false) := by
  refine handed_shaped (C := Tryd.checked) (X := fun w _ => laidMetH Tryd.prog Rows.glyphPrintsRow.laid w) (fun _ _ _ hh h => h.of_heap hh) own started (by kernel_rfl) Tryd.func4
    (ChangeSpec.witness_shaped (enc := enc) (C := Tryd.checked) (os := os) (X := fun w _ => laidMetH Tryd.prog Rows.glyphPrintsRow.laid w) false (World.laidAll Tryd.prog os Rows.glyphPrintsRow.laid) #[.slice none 0 0] 8 (World.laidAll_os _ _ _) (World.shaped_of_ZipB (by kernel_rfl) (by kernel_rfl)) (by kernel_rfl) (by kernel_rfl) (by kernel_rfl) (by rw [MakeChecks.laidMetH_plain _ _ _ (by kernel_rfl)]; exact laidMet_laidAll _ (by kernel_rfl) (by kernel_rfl))) ?_
  intro W base args ds gs before hval0 hW _ _ hL hSh _
  have hval : ∀ (j : Nat) t v, Tryd.f4.params[j]? = some t → args[j]? = some v → Value.okWide Tryd.prog W .any base t v := hval0
  have hW' := hW
  obtain ⟨p, q, hA0, hV, rfl, hfz, hnd⟩ := hW
  have hA : DataW.TrodAll enc Tryd.prog W 0 (fun _ => true) true Tryd.f4.params.toList args.toList ds p := hA0
  rw [Tryd.params4] at hA hval
  obtain ⟨v0, vs0, d0, ds0, p0, q0, hargs, rfl, rfl, h0, r0⟩ := trodAll_cons hA
  obtain ⟨rfl, rfl, rfl⟩ := trodAll_nil r0
  obtain rfl : args = #[v0] := by cases args; simp_all
  obtain ⟨rfl, rfl⟩ := trodVars_none hV
  obtain ⟨a0, len0, cap0, rfl⟩ := okWide_slice Tryd.underlying22 (hval 0 22 v0 rfl rfl)
  have k0 := h0
  have lt0 : ∀ x ∈ p0, x.block < W.heap.size := by obtain ⟨m, hm⟩ := k0; exact DataW.trod_lt m _ _ _ hm
  obtain ⟨z0, w0⟩ : ∃ Z, IsStructs [.i64, .i64, .i64, .i64, .i64] W a0 len0 cap0 Z := by
    obtain ⟨fuel, hf⟩ := h0
    refine open_structs [.i64, .i64, .i64, .i64, .i64] Tryd.underlying22 Tryd.underlying29 (by kernel_rfl) ?_ (by simpa [Value.cells] using hf)
    intro j k hj
    match j, k, hj with
      | 0, k, hj => simp at hj; subst hj; exact ⟨_, rfl, rfl, Tryd.underlying27, by kernel_rfl⟩
      | 1, k, hj => simp at hj; subst hj; exact ⟨_, rfl, rfl, Tryd.underlying3, by kernel_rfl⟩
      | 2, k, hj => simp at hj; subst hj; exact ⟨_, rfl, rfl, Tryd.underlying3, by kernel_rfl⟩
      | 3, k, hj => simp at hj; subst hj; exact ⟨_, rfl, rfl, Tryd.underlying3, by kernel_rfl⟩
      | 4, k, hj => simp at hj; subst hj; exact ⟨_, rfl, rfl, Tryd.underlying2, by kernel_rfl⟩
      | (j + 5), k, hj => simp at hj
  clear hA0 hval0
  refine (walk a0 len0 cap0 z0 W w0 (GlRunes.of hL (by kernel_rfl) 6 rfl) (PwTab.of hL (by kernel_rfl) 2 rfl) (ErrSy.of hL (by kernel_rfl) 5 rfl) (ErrRa.of hL (by kernel_rfl) 4 rfl) hSh).mono fun e W' ⟨he, bel⟩ => ?_
  subst he
  exact ⟨_, rfl, _, _, _, [], _, [], hW', trodAll_mk1 (shut_bool Tryd.underlying4 _), (trodAll_cons_mk (Below.trod laidOut (by kernel_rfl) (of_decide_eq_true (by kernel_rfl)) k0 bel lt0) trodAll_mk0), rfl, bel.frame _, fun h => by cases h⟩

theorem over : Rows.glyphPrintsRow.holds Tryd.pinned (OpenSpec.ofChange Rows.glyphPrintsSpec) :=
  OpenClaim.holds_of_wide 4 Tryd.f4 rfl rfl rfl rfl rfl rfl rfl ⟨rfl, rfl, rfl, rfl, rfl⟩ rfl rfl rfl rfl rfl (by kernel_rfl) Tryd.func4 (by kernel_rfl)
    (of_decide_eq_true (by kernel_rfl)) (by unfold Func.isWrapper; first | (rw [if_pos (by decide +kernel)]; kernel_rfl) | (rw [if_neg (by decide +kernel)]; exact ⟨rfl, rfl⟩))
    (fun os started H enc _ => lifted os started H enc)

/-- THE STATEMENT: the tied card. -/
theorem proved : Rows.GlyphPrintsCardSaid :=
  Claim7.holds_tied_plain_at .later [] [.data, .data, .data, .data, .sentinel, .sentinel, .data, .pinned] true (true, "24ebef38cf97d433dd844c9bb155124836b8e05819b590ec6d2868159e823f54") true
    over (fun _ h => by cases h) (by kernel_rfl) (fun _ h => by cases h) glyphPrints_row_tie rfl ⟨rfl, rfl⟩ (by kernel_rfl) rfl
    (fun f fn hf hfn => by
      obtain rfl : f = 4 := Option.some.inj ((show Tryd.prog.funcNamed "hostler/hostlerlaw16.GlyphPrints" = some 4 by kernel_rfl).symm.trans hf) |>.symm
      obtain rfl : fn = Tryd.f4 := (Option.some.inj (Tryd.func4.symm.trans hfn)).symm
      exact ⟨by kernel_rfl, fun j t ht => by
        rw [Tryd.params4] at ht
        have hm : t ∈ [22] := by simpa using Array.mem_of_getElem? ht
        have hall : ([22].all fun u => !Tryd.prog.wantsStandIn u) = true := by kernel_rfl
        exact (show Tryd.prog.wantsStandIn t = false by simpa using List.all_eq_true.1 hall t hm)⟩)
    (by kernel_rfl)
#print axioms proved

end Go.Proofs.YtnaphgjkkagpoaaDoor.glyphPrints
