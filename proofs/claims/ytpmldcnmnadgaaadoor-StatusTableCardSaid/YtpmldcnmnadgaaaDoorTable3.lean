/- Contracts of status.Table: Set; Of, Move, Set of who isn't there. -/
import Derived.Test.YtpmldcnmnadgaaaDoorTable2
namespace Go.Proofs.YtpmldcnmnadgaaaDoor
open Go.RowKit
set_option linter.unusedVariables false
set_option linter.unusedSimpArgs false

theorem tof_out (b gg : Nat) (xs : List Int) (c : Nat) (f n g : Int) (w : World) (hm : Mem w b gg xs c) (h : g < 0 ∨ n ≤ g) :
    Calls Tryd.prog 9 #[.agg #[.int .i64 f, .int .i64 n], .pointer (some ⟨b, 0, none⟩), .int .i64 g] w fun e w' => e = .returned (.int .u64 0) ∧ Below w.heap.size w w' := by
  have HB1 := hid ((Below.refl w.heap.size w).alloc (Nat.le_refl _) (.cells #[.int .i64 f, .int .i64 n] 27 (0, 0)))
  clear hm
  go_enter Tryd.func9, Tryd.ntmps9
  go_wp2_with fail
  refine (thas_out f n g _ h).mono ?_
  rintro e w2 ⟨rfl, hb2⟩
  have HB2 := hid (HB1.out.trans (hb2.mono (by simp)))
  clear hb2 HB1 h
  go_wp2
  go_ret
  exact ⟨rfl, HB2.out⟩
theorem tmove_out (b gg : Nat) (xs : List Int) (c : Nat) (f n g a b2 : Int) (w : World) (hm : Mem w b gg xs c) (h : g < 0 ∨ n ≤ g) :
    Calls Tryd.prog 11 #[.agg #[.int .i64 f, .int .i64 n], .pointer (some ⟨b, 0, none⟩), .int .i64 g, .int .u64 a, .int .u64 b2] w fun e w' => e = .returned (.bool false) ∧ Below w.heap.size w w' := by
  have HB1 := hid ((Below.refl w.heap.size w).alloc (Nat.le_refl _) (.cells #[.int .i64 f, .int .i64 n] 27 (0, 0)))
  clear hm
  go_enter Tryd.func11, Tryd.ntmps11
  go_wp2_with fail
  refine (thas_out f n g _ h).mono ?_
  rintro e w2 ⟨rfl, hb2⟩
  have HB2 := hid (HB1.out.trans (hb2.mono (by simp)))
  clear hb2 HB1 h
  go_wp2
  go_ret
  exact ⟨rfl, HB2.out⟩
theorem tset_out (b gg : Nat) (xs : List Int) (c : Nat) (f n g s : Int) (w : World) (hm : Mem w b gg xs c) (h : g < 0 ∨ n ≤ g) :
    Calls Tryd.prog 13 #[.agg #[.int .i64 f, .int .i64 n], .pointer (some ⟨b, 0, none⟩), .int .i64 g, .int .u64 s] w fun e w' => e = .returned (.bool false) ∧ Below w.heap.size w w' := by
  have HB1 := hid ((Below.refl w.heap.size w).alloc (Nat.le_refl _) (.cells #[.int .i64 f, .int .i64 n] 27 (0, 0)))
  clear hm
  go_enter Tryd.func13, Tryd.ntmps13
  go_wp2_with fail
  refine (thas_out f n g _ h).mono ?_
  rintro e w2 ⟨rfl, hb2⟩
  have HB2 := hid (HB1.out.trans (hb2.mono (by simp)))
  clear hb2 HB1 h
  go_wp2
  go_ret
  exact ⟨rfl, HB2.out⟩
theorem tset_none (b gg : Nat) (xs : List Int) (c : Nat) (f n g s : Int) (w : World) (hm : Mem w b gg xs c) (h0 : 0 ≤ g) (h1 : g < n) (hs : 7 ≤ s) :
    Calls Tryd.prog 13 #[.agg #[.int .i64 f, .int .i64 n], .pointer (some ⟨b, 0, none⟩), .int .i64 g, .int .u64 s] w fun e w' => e = .returned (.bool false) ∧ Below w.heap.size w w' := by
  have HB1 := hid ((Below.refl w.heap.size w).alloc (Nat.le_refl _) (.cells #[.int .i64 f, .int .i64 n] 27 (0, 0)))
  have t1 : decide (s < 7) = false := decide_eq_false (by omega)
  clear hm
  go_enter Tryd.func13, Tryd.ntmps13
  go_wp2_with fail
  refine (thas_in f n g _ h0 h1).mono ?_
  rintro e w2 ⟨rfl, hb2⟩
  have HB2 := hid (HB1.out.trans (hb2.mono (by simp)))
  clear hb2 HB1
  go_wp2
  go_ret
  exact ⟨rfl, HB2.out⟩

set_option maxHeartbeats 4000000 in
theorem tset_in (b gg : Nat) (xs : List Int) (c : Nat) (f n g s : Int) (w : World) (hm : Mem w b gg xs c) (hc : c < 1000000000) (h0 : 0 ≤ g) (h1 : g < n) (hf : 0 ≤ f) (hi : f + g < xs.length) (hs0 : 0 ≤ s) (hs : s < 7) :
    Calls Tryd.prog 13 #[.agg #[.int .i64 f, .int .i64 n], .pointer (some ⟨b, 0, none⟩), .int .i64 g, .int .u64 s] w fun e w' => e = .returned (.bool true) ∧ Mem w' b gg (xs.set (f + g).toNat s) (c + 1) ∧ Only b gg w w' := by
  have hl := hm.len
  have hsb := hm.sb
  have hsg := hm.sg
  have hw : IntKind.i64.wrap (f + g) = f + g := IntWalk.i64_in _ (by omega)
  have t1 : decide (s < 7) = true := decide_eq_true hs
  obtain ⟨o, ho⟩ : ∃ o, o = Obj.cells #[.int .i64 f, .int .i64 n] 27 (0, 0) := ⟨_, rfl⟩
  have HM1 := hid (hm.alloc o)
  have HB1 := hid ((Below.refl w.heap.size w).alloc (Nat.le_refl _) o)
  subst ho
  clear hm
  go_enter Tryd.func13, Tryd.ntmps13
  go_wp2_with fail
  refine (thas_in f n g _ h0 h1).mono ?_
  rintro e w2 ⟨rfl, hb2⟩
  have HM2 := hid (HM1.out.below hb2 (by simp; omega) (by simp; omega))
  have HB2 := hid (HB1.out.trans (hb2.mono (by simp)))
  have hbx : w2.heap[w.heap.size]? = some (.cells #[.int .i64 f, .int .i64 n] 27 (0, 0)) := by
    rw [hb2.block _ (by simp)]; exact Deep.blk_alloc_new _ _
  have c0 : w2.cell? ⟨w.heap.size, 0, none⟩ = some (.int .i64 f) := cell_of_blk hbx rfl
  clear hb2 HM1 HB1 hbx
  go_wp2_with fail
  refine (store_in b gg xs c (f + g) s _ HM2.out hc (by omega) hi).mono ?_
  rintro e w3 ⟨rfl, hm3, ho3⟩
  have HM3 := hid hm3
  have HO3 := hid ((Only.of_below HB2.out).trans ho3)
  clear hm3 ho3 HM2 HB2 c0
  go_wp2
  go_ret
  exact ⟨rfl, HM3.out, HO3.out⟩
end Go.Proofs.YtpmldcnmnadgaaaDoor
