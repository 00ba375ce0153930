/- The walk of the statement BoundNumbers: the law answers true and turns nothing that was there. -/
import Derived.Test.YtfpkgkjmpcoppaaGreatDoorPre2
import Derived.Test.YtfpkgkjmpcoppaaGreatDoorLives20
import Derived.Test.YtfpkgkjmpcoppaaGreatDoorBnd
import Derived.OpenShut
import Derived.Deep.RegionHeld3
namespace Go.Proofs.YtfpkgkjmpcoppaaGreatDoor.boundNumbers
open Go.RowKit
set_option linter.unusedVariables false
set_option linter.unusedSimpArgs false
set_option maxRecDepth 20000
theorem bv_111 : Bv 1 1 1 = 26240 := by decide
theorem bv_pos {p m g : Int} (h : OkC p m g) : 0 < Bv p m g := by unfold Bv; rw [if_pos h]; exact (b_in h).2.1
theorem fv_pos {p m g k : Int} (h : OkC p m g) : 0 < Fv p m g k := by unfold Fv; rw [if_pos h]; exact (f_in h (hd k) (hd_in k)).2.2.1
set_option maxHeartbeats 1000000 in
theorem lives24 (w : World) (T : Tb w) (T1 : MaPlaces w) :
    Calls Tryz.prog 27 #[] w fun e w' => e = .returned (.bool true) ∧ Below w.heap.size w w' := by
  have LV := hid (lives20 w T1 T.n T.s T1.lt T.n.lt T.s.lt)
  have HB := hid (fun (y : World) (hb : Below w.heap.size w y) => bB 1 1 1 y (T.at hb))
  rw [bv_111] at HB
  clear T T1
  go_enter Tryz.func27, Tryz.ntmps27
  go_wp2_with fail
  refine LV.out.mono ?_
  rintro e w2 ⟨rfl, hb⟩
  have B2 := hid hb
  have BB := hid (HB.out w2 hb)
  clear hb LV HB
  go_wp2_with fail
  refine BB.out.mono ?_
  rintro e w3 ⟨rfl, hb⟩
  have B3 := hid (B2.out.trans (hb.mono B2.out.size))
  clear hb BB
  go_wp2
  go_ret
  exact ⟨rfl, B3.out⟩
set_option maxHeartbeats 4000000 in
theorem walk (a0 a1 a2 a3 : Int) (w : World) (w0 : (Lit.int .i64 a0).wf = true) (w1 : (Lit.int .i64 a1).wf = true) (w2 : (Lit.int .i64 a2).wf = true) (w3 : (Lit.int .i64 a3).wf = true) (T0 : DbTab w) (T2 : EvNames w) (T3 : EvSteps w) (T1 : MaPlaces w) :
    Calls Tryz.prog 6 #[.int .i64 a0, .int .i64 a1, .int .i64 a2, .int .i64 a3] w fun e w' => e = .returned (.bool true) ∧ Below w.heap.size w w' := by
  have b3 := bounds_i64 w3
  have l3 := b3.1
  have m3 := b3.2
  clear b3 w0 w1 w2 w3
  have TT : Tb w := ⟨T0, T2, T3⟩
  have LV := hid (lives24 w TT T1)
  have TA := hid (fun (y : World) (hb : Below w.heap.size w y) => TT.at hb)
  clear T0 T1 T2 T3 TT
  obtain ⟨B, hB⟩ : ∃ B, B = Bv a0 a1 a2 := ⟨_, rfl⟩
  obtain ⟨F, hF⟩ : ∃ F, F = Fv a0 a1 a2 a3 := ⟨_, rfl⟩
  obtain ⟨k', hk'⟩ : ∃ k', k' = min a3 1073741824 + 1 := ⟨_, rfl⟩
  obtain ⟨F', hF'⟩ : ∃ F', F' = Fv a0 a1 a2 k' := ⟨_, rfl⟩
  have hmon : F ≤ F' := by rw [hF, hF', hk']; exact fv_mono (hd_mono a3)
  have RBB := hid (fun y => rB a0 a1 a2 y)
  have RFF := hid (fun y => rF a0 a1 a2 a3 y)
  have RMM := hid (fun y => rmay a0 a1 a2 y)
  have BBB := hid (fun y T => bB a0 a1 a2 y T)
  have BFF := hid (fun y T => bF a0 a1 a2 a3 y T)
  have BF2 := hid (fun y T => bF a0 a1 a2 k' y T)
  rw [← hB] at RBB BBB
  rw [← hF] at RFF BFF
  rw [← hF'] at BF2
  have hpos : OkC a0 a1 a2 → 0 < B ∧ 0 < F := fun h => ⟨by rw [hB]; exact bv_pos h, by rw [hF]; exact fv_pos h⟩
  have HP := hid hpos
  have HM := hid hmon
  have HK := hid hk'
  clear hB hF hF' hpos hmon hk'
  go_enter Tryz.func6, Tryz.ntmps6
  go_wp2_with fail
  refine LV.out.mono ?_
  rintro e wa ⟨rfl, hb⟩
  have B2 := hid hb
  clear hb LV
  go_wp2_with fail
  obtain ⟨E, hE⟩ : ∃ E, E = wa.heap.size := ⟨_, rfl⟩
  obtain ⟨wb, hwb⟩ : ∃ wb, wb = wa.alloc (.cells #[.int .i64 a0, .int .i64 a1, .int .i64 a2] 24) := ⟨_, rfl⟩
  have X := hid (show wb.heap[E]? = some (.cells #[.int .i64 a0, .int .i64 a1, .int .i64 a2] 24 (0, 0)) by rw [hwb, hE]; exact heap_alloc_new wa _)
  have BB := hid (show Below w.heap.size w wb by rw [hwb]; exact B2.out.trans ((bla wa _).mono B2.out.size))
  rw [← hwb, ← hE]
  clear hwb hE B2
  obtain ⟨HQ, hHQ⟩ : ∃ HQ : World → Prop, HQ = fun y => y.heap[E]? = some (.cells #[.int .i64 a0, .int .i64 a1, .int .i64 a2] 24 (0, 0)) ∧ Below w.heap.size w y := ⟨_, rfl⟩
  have QS := hid (show ∀ y, HQ y → y.cell? ⟨E, 0, none⟩ = some (.int .i64 a0) ∧ y.cell? ⟨E, 1, none⟩ = some (.int .i64 a1) ∧ y.cell? ⟨E, 2, none⟩ = some (.int .i64 a2) from fun y hy => by
    rw [hHQ] at hy
    exact ⟨blk_cell hy.1 rfl, blk_cell hy.1 rfl, blk_cell hy.1 rfl⟩)
  have QB := hid (show ∀ y y', HQ y → Below y.heap.size y y' → HQ y' from fun y y' hy hb => by
    rw [hHQ] at hy ⊢
    exact ⟨(hb.block _ (blk_lt hy.1)).trans hy.1, hy.2.trans (hb.mono hy.2.size)⟩)
  have QE := hid (show ∀ y, HQ y → Below w.heap.size w y from fun y hy => by rw [hHQ] at hy; exact hy.2)
  have H1 : HQ wb := by rw [hHQ]; exact ⟨X.out, BB.out⟩
  clear hHQ X BB
  have HD : HQ wb.drew := QB.out _ _ H1 (Quiet.below ⟨1, rfl⟩ _)
  have CB := hid (fun y (hy : HQ y) => (BBB.out y (TA.out y (QE.out y hy))).mono (R' := fun e y' => e = .returned (.int .i64 B) ∧ HQ y') (fun e y' h => ⟨h.1, QB.out y y' hy h.2⟩))
  have CF := hid (fun y (hy : HQ y) => (BFF.out y (TA.out y (QE.out y hy))).mono (R' := fun e y' => e = .returned (.int .i64 F) ∧ HQ y') (fun e y' h => ⟨h.1, QB.out y y' hy h.2⟩))
  have CF2 := hid (fun y (hy : HQ y) => (BF2.out y (TA.out y (QE.out y hy))).mono (R' := fun e y' => e = .returned (.int .i64 F') ∧ HQ y') (fun e y' h => ⟨h.1, QB.out y y' hy h.2⟩))
  have d0 := (QS.out _ HD).1
  have d1 := (QS.out _ HD).2.1
  have d2 := (QS.out _ HD).2.2
  clear H1
  go_region_held3 (fun y => y.cell? ⟨E, 0, none⟩ = some (.int .i64 a0) ∧ y.cell? ⟨E, 1, none⟩ = some (.int .i64 a1) ∧ y.cell? ⟨E, 2, none⟩ = some (.int .i64 a2))
    (first
      | with_reducible exact QS.out _ (by assumption))
    (first
      | (go_at_call 28; (with_reducible refine (CB.out _ (by assumption)).mono ?_); rintro e y ⟨rfl, HL1⟩)
      | (go_at_call 29; (with_reducible refine (CF.out _ (by assumption)).mono ?_); rintro e y ⟨rfl, HL2⟩))
  all_goals
    have HY : HQ y := by assumption
    obtain ⟨d0, d1, d2⟩ := QS.out y HY
    have HYH := hid HY
    clear CB CF HY
    go_wp2_with fail
    refine (RBB.out _).mono ?_
    rintro e y2 ⟨rfl, hy2⟩
    subst y2
    go_wp2_with fail
    refine (RFF.out _).mono ?_
    rintro e y2 ⟨rfl, hy2⟩
    subst y2
    by_cases h : OkC a0 a1 a2
    · have RM := hid (RMM.out y)
      rw [decide_eq_true h] at RM
      obtain ⟨p1, p2⟩ := HP.out h
      have hle : F ≤ F' := HM.out
      clear RMM HP HM RBB RFF BBB BFF BF2 h
      go_wp2_with fail
      refine RM.out.mono ?_
      rintro e y2 ⟨rfl, hy2⟩
      subst y2
      by_cases hc : a3 ≤ 1073741824
      · have hk : k' = a3 + 1 := by rw [HK.out]; omega
        subst hk
        have ew : IntKind.i64.wrap (a3 + 1) = a3 + 1 := IntWalk.i64_in _ (by omega)
        go_wp2_with fail
        refine (CF2.out _ HYH.out).mono ?_
        rintro e y5 ⟨rfl, H5⟩
        have BE := hid (QE.out _ H5)
        clear H5
        go_wp2
        go_ret
        exact ⟨rfl, BE.out⟩
      · have hk : k' = 1073741825 := by rw [HK.out]; omega
        subst hk
        have hc2 : 1073741824 < a3 := by omega
        go_wp2_with fail
        refine (CF2.out _ HYH.out).mono ?_
        rintro e y5 ⟨rfl, H5⟩
        have BE := hid (QE.out _ H5)
        clear H5
        go_wp2
        go_ret
        exact ⟨rfl, BE.out⟩
    · have RM := hid (RMM.out y)
      rw [decide_eq_false h] at RM
      have BE := hid (QE.out _ HYH.out)
      clear RMM HP HM RBB RFF BBB BFF BF2 CF2 h
      go_wp2_with fail
      refine RM.out.mono ?_
      rintro e y2 ⟨rfl, hy2⟩
      subst y2
      go_wp2
      go_ret
      exact ⟨rfl, BE.out⟩
end Go.Proofs.YtfpkgkjmpcoppaaGreatDoor.boundNumbers
