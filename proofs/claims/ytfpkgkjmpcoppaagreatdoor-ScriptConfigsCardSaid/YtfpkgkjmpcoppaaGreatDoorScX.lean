/- hostlerlaw21.lives: a script of nothing. -/
import Derived.Test.YtfpkgkjmpcoppaaGreatDoorScV
namespace Go.Proofs.YtfpkgkjmpcoppaaGreatDoor
open Go.RowKit
set_option linter.unusedVariables false
set_option linter.unusedSimpArgs false
set_option maxRecDepth 20000
/-- What a script of nothing reads as. -/
def SpN (w : World) (e : Ending) (w' : World) : Prop := ∃ a c, e = .returned (.tuple #[.agg #[.int .i64 1, .int .i64 1, .int .i64 1], .slice a 0 c]) ∧ Below w.heap.size w w'
theorem sparse_nil (w : World) : Calls Tryz.prog 24 #[.slice none 0 0] w (SpN w) := by
  refine (sparse w 0 0 ⟨#[]⟩ none 0 (by decide) (by unfold maxLen; omega) (fun h => absurd h (by decide)) (by decide)).mono ?_
  rintro e w' ⟨n, v, hn, rfl, hr, hb⟩
  have h0 : EndS ⟨#[]⟩ (cfM ⟨#[]⟩) (cfG ⟨#[]⟩) 0 := ⟨fun j hj => by omega, fun h => absurd h.1 (by simp [goS]; decide)⟩
  obtain rfl := hn.unique h0
  obtain ⟨a, c, rfl, _⟩ := hr
  exact ⟨a, c, rfl, hb⟩
set_option maxHeartbeats 4000000 in
theorem wrun_nil (w : World) (W : Nat) (a : Option Addr) (c : Nat) : Calls Tryz.prog 97 #[.pointer (some ⟨W, 0, none⟩), .slice a 0 c] w fun e w' => e = .returned (.int .i64 0) ∧ w' = w := by
  go_enter Tryz.func97, Tryz.ntmps97
  go_wp2_with fail
  go_loopw [5, 10] (fun v5 v10 wr => v5 = .int .i64 0 ∧ v10 = .int .i64 0 ∧ wr = w) (fun _ _ _ => 0)
  case atStart => exact ⟨rfl, rfl, rfl⟩
  case round =>
    obtain ⟨rfl, rfl, rfl⟩ := hrel
    go_wp2
    go_ret
    exact ⟨rfl, rfl⟩
/-- A world behind a script of nothing. -/
def RunN (w : World) (e : Ending) (w' : World) : Prop := ∃ W, e = .returned (.pointer (some ⟨W, 0, none⟩)) ∧ Below w.heap.size w w' ∧ Calls Tryz.prog 12 #[.pointer (some ⟨W, 0, none⟩)] w' (EvsR [(0, 0, -1, -1, 0)] w')
set_option maxHeartbeats 8000000 in
theorem srun_nil (w : World) (T1 : MaPlaces w) (T2 : EvNames w) (T3 : EvSteps w) (U1 : 0 < w.heap.size) (U2 : 3 < w.heap.size) (U3 : 1 < w.heap.size) :
    Calls Tryz.prog 87 #[.slice none 0 0] w (RunN w) := by
  have P0 := hid (sparse_nil w)
  have NW := hid (fun w2 (hb : Below w.heap.size w w2) => (wnew_1 w2 (T1.at hb) (T2.at hb) (T3.at hb) (by have := hb.size; omega) (by have := hb.size; omega) (by have := hb.size; omega)))
  have RN := hid wrun_nil
  clear T1 T2 T3 U1 U2 U3
  go_enter Tryz.func87, Tryz.ntmps87
  go_wp2_with fail
  refine P0.out.mono ?_
  rintro e w2 ⟨a, c, rfl, hb2⟩
  have B2 := hid hb2
  have NW2 := hid (NW.out _ (hb2.alloc hb2.size (.cells #[.int .i64 1, .int .i64 1, .int .i64 1] 24)))
  clear hb2 P0 NW
  go_wp2_with fail
  refine NW2.out.mono ?_
  rintro e w3 ⟨B, rfl, hA⟩
  obtain ⟨r, lg, ra, rn, rcc, bk, s0, s1, s2, s3, s4, yes, hw, _⟩ := hA
  have EV := hid (weventsR hw.wb (n := 1) (es := [(0, 0, -1, -1, 0)]) rfl (by omega) (by omega) hw.lgr)
  have B3 := hid ((B2.out.alloc B2.out.size (.cells #[.int .i64 1, .int .i64 1, .int .i64 1] 24)).trans (hw.bl.mono (by have := B2.out.size; simp; omega)))
  clear hw NW2 B2
  generalize B.W = W at *
  have R1 := hid (RN.out w3 W a c)
  clear RN
  go_wp2_with fail
  refine R1.out.mono ?_
  rintro e w4 ⟨rfl, rfl⟩
  clear R1
  go_wp2
  go_ret
  exact ⟨W, rfl, B3.out, EV.out⟩
/-- The text of a script of nothing. -/
theorem text_one : allR [((0, 0, -1, -1, 0) : Ev)] = true ∧ textE [((0, 0, -1, -1, 0) : Ev)] = ⟨#[43, 48]⟩ := ⟨by kernel_rfl, by kernel_rfl⟩
set_option maxHeartbeats 8000000 in
theorem stext_nil (w : World) (T1 : MaPlaces w) (T2 : EvNames w) (T3 : EvSteps w) (R : GlRunes w) (T : PwTab w) (U1 : 0 < w.heap.size) (U2 : 3 < w.heap.size) (U3 : 1 < w.heap.size) :
    Calls Tryz.prog 53 #[.slice none 0 0] w fun e w' => e = .returned (.string ⟨#[43, 48]⟩) ∧ Below w.heap.size w w' := by
  have RN := hid (srun_nil w T1 T2 T3 U1 U2 U3)
  have PR := hid (fun w2 (hb : Below w.heap.size w w2) v (hr : RdE w2 v [(0, 0, -1, -1, 0)]) => (show Calls Tryz.prog 86 #[v] w2 fun e w' => e = .returned (.tuple #[.string ⟨#[43, 48]⟩, .int .i64 0]) ∧ Below w2.heap.size w2 w' from by
    have h := print_any v [(0, 0, -1, -1, 0)] w2 (R.at hb) (T.at hb) hr (fun e he => by simp at he; subst he; unfold fitE; simp) (by simp)
    rw [if_pos text_one.1, if_pos text_one.1, text_one.2] at h
    exact h))
  clear T1 T2 T3 R T U1 U2 U3
  go_enter Tryz.func53, Tryz.ntmps53
  go_wp2_with fail
  refine RN.out.mono ?_
  rintro e w2 ⟨W, rfl, hb, ev⟩
  have EV := hid ev
  have B2 := hid hb
  clear ev hb RN
  go_wp2_with fail
  refine EV.out.mono ?_
  rintro e w3 ⟨v, rfl, hr, hb⟩
  have B3 := hid (B2.out.trans (hb.mono B2.out.size))
  have P3 := hid (PR.out w3 B3.out v hr)
  clear hr hb EV B2 PR
  go_wp2_with fail
  refine P3.out.mono ?_
  rintro e w4 ⟨rfl, hb⟩
  have B4 := hid (B3.out.trans (hb.mono B3.out.size))
  clear hb P3 B3
  go_wp2
  go_ret
  exact ⟨rfl, B4.out⟩
/-- Are two configs one? -/
theorem equalIn_cf (a b c a' b' c' : Int) (w : World) : (Op.equalIn 10000 24 (.agg #[.int .i64 a, .int .i64 b, .int .i64 c]) (.agg #[.int .i64 a', .int .i64 b', .int .i64 c'])).run Tryz.prog w = .ok (decide ((a, b, c) = (a', b', c'))) w := by
  have u1 := Tryz.underlying3
  have hS : Tryz.prog.underlying 24 = some (.struct (Tryz.prog.fieldsOf 24)) := by kernel_rfl
  have hp : Tryz.prog.stoodInHeld 24 = false := by kernel_rfl
  rw [show (10000 : Nat) = 9999 + 1 from rfl, run_equalIn_agg w 9999 24 _ _ hS hp]
  simp only [Program.fieldsOf, Tryz.underlying24]
  go_simp
  by_cases h1 : a = a' <;> by_cases h2 : b = b' <;> by_cases h3 : c = c' <;> simp [h1, h2, h3]
set_option maxHeartbeats 8000000 in
theorem lives21 (w : World) (T1 : MaPlaces w) (T2 : EvNames w) (T3 : EvSteps w) (R : GlRunes w) (T : PwTab w) (U1 : 0 < w.heap.size) (U2 : 3 < w.heap.size) (U3 : 1 < w.heap.size) :
    Calls Tryz.prog 23 #[] w fun e w' => e = .returned (.bool true) ∧ Below w.heap.size w w' := by
  have P0 := hid (sparse_nil w)
  have L2 := hid (fun w2 (hb : Below w.heap.size w w2) => lives20 w2 (T1.at hb) (T2.at hb) (T3.at hb) (by have := hb.size; omega) (by have := hb.size; omega) (by have := hb.size; omega))
  have TX := hid (fun w2 (hb : Below w.heap.size w w2) => stext_nil w2 (T1.at hb) (T2.at hb) (T3.at hb) (R.at hb) (T.at hb) (by have := hb.size; omega) (by have := hb.size; omega) (by have := hb.size; omega))
  have EQ := equalIn_cf
  clear T1 T2 T3 R T U1 U2 U3
  go_enter Tryz.func23, Tryz.ntmps23
  go_wp2_with fail
  refine P0.out.mono ?_
  rintro e w2 ⟨a, c, rfl, hb2⟩
  have B2 := hid (hb2.alloc hb2.size (.cells #[.int .i64 1, .int .i64 1, .int .i64 1] 24))
  have X2 := hid (heap_alloc_new w2 (.cells #[.int .i64 1, .int .i64 1, .int .i64 1] 24))
  have S2 := hid (show w2.heap.size < (w2.alloc (.cells #[.int .i64 1, .int .i64 1, .int .i64 1] 24)).heap.size by simp)
  clear hb2 P0
  go_upto_region 1 with (fail)
  refine (L2.out _ B2.out).mono ?_
  rintro e w3 ⟨rfl, hb3⟩
  have X3 := hid ((hb3.block _ S2.out).trans X2.out)
  have B3 := hid (B2.out.trans (hb3.mono B2.out.size))
  obtain ⟨⟨c0, c1, c2⟩, _⟩ := cells3 X3.out
  have T3 := hid (TX.out _ B3.out)
  clear hb3 X3 X2 S2 B2 TX L2
  go_wp2_with fail
  refine T3.out.mono ?_
  rintro e w4 ⟨rfl, hb4⟩
  have B4 := hid (B3.out.trans (hb4.mono B3.out.size))
  clear hb4 T3 B3
  go_wp2
  go_ret
  exact ⟨rfl, B4.out⟩
end Go.Proofs.YtfpkgkjmpcoppaaGreatDoor
