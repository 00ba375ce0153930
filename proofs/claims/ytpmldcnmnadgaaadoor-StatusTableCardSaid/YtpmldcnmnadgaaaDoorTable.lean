/- Contracts of status.Table: has, Of, Move, Set, Count. -/
import Derived.Test.YtpmldcnmnadgaaaDoorLegal
import Derived.Test.YtpmldcnmnadgaaaDoorMemW
import Derived.Test.YtpmldcnmnadgaaaDoorWraps
namespace Go.Proofs.YtpmldcnmnadgaaaDoor
open Go.RowKit
set_option linter.unusedVariables false
set_option linter.unusedSimpArgs false

theorem thas_in (f n g : Int) (w : World) (h0 : 0 ≤ g) (h1 : g < n) : Calls Tryd.prog 22 #[.agg #[.int .i64 f, .int .i64 n], .int .i64 g] w fun e w' => e = .returned (.bool true) ∧ Below w.heap.size w w' := by
  have t1 : decide (0 ≤ g) = true := decide_eq_true h0
  have t2 : decide (g < n) = true := decide_eq_true h1
  go_enter Tryd.func22, Tryd.ntmps22
  go_wp2
  go_ret
  exact ⟨rfl, (Below.refl _ _).alloc (Nat.le_refl _) _⟩
theorem thas_out (f n g : Int) (w : World) (h : g < 0 ∨ n ≤ g) : Calls Tryd.prog 22 #[.agg #[.int .i64 f, .int .i64 n], .int .i64 g] w fun e w' => e = .returned (.bool false) ∧ Below w.heap.size w w' := by
  by_cases h0 : 0 ≤ g
  · have t1 : decide (0 ≤ g) = true := decide_eq_true h0
    have t2 : decide (g < n) = false := decide_eq_false (by omega)
    go_enter Tryd.func22, Tryd.ntmps22
    go_wp2
    go_ret
    exact ⟨rfl, (Below.refl _ _).alloc (Nat.le_refl _) _⟩
  · have t1 : decide (0 ≤ g) = false := decide_eq_false h0
    go_enter Tryd.func22, Tryd.ntmps22
    go_wp2
    go_ret
    exact ⟨rfl, (Below.refl _ _).alloc (Nat.le_refl _) _⟩

theorem slegal_any (a b : Int) (w : World) (T1 : StSteps w) (h0 : 0 ≤ a) (h1 : 0 ≤ b) : Calls Tryd.prog 21 #[.int .u64 a, .int .u64 b] w fun e w' => e = .returned (.bool (stLegal a b)) ∧ w = w' := by
  by_cases h : a < 7 ∧ b < 7
  · obtain ⟨k, rfl⟩ : ∃ k : Nat, a = k := ⟨a.toNat, by omega⟩
    obtain ⟨j, rfl⟩ : ∃ j : Nat, b = j := ⟨b.toNat, by omega⟩
    exact slegal_in k j w T1 (by omega) (by omega)
  · rw [show stLegal a b = false by
      unfold stLegal
      split
      · simp; omega
      · split
        · simp; omega
        · simp; omega]
    exact slegal_out a b w (by omega)

/-- The tables stay while blocks of the memory alone are turned. -/
theorem StSteps.only {w w' : World} {b g : Nat} (h : StSteps w) (ho : Only b g w w') (h1 : 0 ≠ b) (h2 : 0 ≠ g) : StSteps w' := fun k hk => by
  have e : w'.heap[0]? = w.heap[0]? := ho.block _ h.lt h1 h2
  have := h k hk
  simpa [World.cell?, e] using this

set_option maxHeartbeats 4000000 in
theorem tof_in (b gg : Nat) (xs : List Int) (c : Nat) (f n g v : Int) (w : World) (hm : Mem w b gg xs c) (hc : c < 1000000000) (h0 : 0 ≤ g) (h1 : g < n) (hf : 0 ≤ f) (hi : f + g < xs.length) (hv : xs.getD (f + g).toNat 0 = v) (hv7 : v < 7) :
    Calls Tryd.prog 9 #[.agg #[.int .i64 f, .int .i64 n], .pointer (some ⟨b, 0, none⟩), .int .i64 g] w fun e w' => e = .returned (.int .u64 v) ∧ Mem w' b gg xs (c + 1) ∧ Only b gg w w' := by
  have hl := hm.len
  have hsb := hm.sb
  have hsg := hm.sg
  have hw : IntKind.i64.wrap (f + g) = f + g := IntWalk.i64_in _ (by omega)
  have HV := hid hv
  have HM := hid hm
  obtain ⟨o, ho⟩ : ∃ o, o = Obj.cells #[.int .i64 f, .int .i64 n] 27 (0, 0) := ⟨_, rfl⟩
  have HM1 := hid (hm.alloc o)
  have HB1 := hid ((Below.refl w.heap.size w).alloc (Nat.le_refl _) o)
  subst ho
  clear hm hv
  go_enter Tryd.func9, Tryd.ntmps9
  go_wp2_with fail
  refine (thas_in f n g _ h0 h1).mono ?_
  rintro e w2 ⟨rfl, hb2⟩
  have HM2 := hid (HM1.out.below hb2 (by simp; omega) (by simp; omega))
  have HB2 := hid (HB1.out.trans (hb2.mono (by simp)))
  have hbx : w2.heap[w.heap.size]? = some (.cells #[.int .i64 f, .int .i64 n] 27 (0, 0)) := by
    rw [hb2.block _ (by simp)]; exact Deep.blk_alloc_new _ _
  have c0 : w2.cell? ⟨w.heap.size, 0, none⟩ = some (.int .i64 f) := cell_of_blk hbx rfl
  clear hb2 HM1 HB1 hbx
  go_wp2_with fail
  refine (load_in b gg xs c (f + g) _ HM2.out hc (by omega) hi).mono ?_
  rintro e w3 ⟨rfl, hm3, ho3⟩
  rw [HV.out]
  have HM3 := hid hm3
  have HO3 := hid ((Only.of_below HB2.out).trans ho3)
  clear hm3 ho3 HM2 HB2 c0
  go_wp2
  go_ret
  exact ⟨rfl, HM3.out, HO3.out⟩

set_option maxHeartbeats 4000000 in
theorem tmove_illegal (b gg : Nat) (xs : List Int) (c : Nat) (f n g a b2 : Int) (w : World) (T1 : StSteps w) (hm : Mem w b gg xs c) (hc : c < 1000000000) (h0 : 0 ≤ g) (h1 : g < n) (hf : 0 ≤ f) (hi : f + g < xs.length) (ha : 0 ≤ a) (hb : 0 ≤ b2) (hlg : stLegal a b2 = false) :
    Calls Tryd.prog 11 #[.agg #[.int .i64 f, .int .i64 n], .pointer (some ⟨b, 0, none⟩), .int .i64 g, .int .u64 a, .int .u64 b2] w fun e w' => e = .returned (.bool false) ∧ Mem w' b gg xs c ∧ Only b gg w w' := by
  have hl := hm.len
  have hsb := hm.sb
  have hsg := hm.sg
  have hw : IntKind.i64.wrap (f + g) = f + g := IntWalk.i64_in _ (by omega)
  have HS := hid T1
  obtain ⟨o, ho⟩ : ∃ o, o = Obj.cells #[.int .i64 f, .int .i64 n] 27 (0, 0) := ⟨_, rfl⟩
  have HM1 := hid (hm.alloc o)
  have HB1 := hid ((Below.refl w.heap.size w).alloc (Nat.le_refl _) o)
  subst ho
  have LG := hid (fun w' T => slegal_any a b2 w' T ha hb)
  rw [hlg] at LG
  clear hm T1 hlg
  go_enter Tryd.func11, Tryd.ntmps11
  go_wp2_with fail
  refine (thas_in f n g _ h0 h1).mono ?_
  rintro e w2 ⟨rfl, hb2⟩
  have HM2 := hid (HM1.out.below hb2 (by simp; omega) (by simp; omega))
  have HB2 := hid (HB1.out.trans (hb2.mono (by simp)))
  have HS2 := hid (HS.out.at HB2.out)
  have hbx : w2.heap[w.heap.size]? = some (.cells #[.int .i64 f, .int .i64 n] 27 (0, 0)) := by
    rw [hb2.block _ (by simp)]; exact Deep.blk_alloc_new _ _
  have c0 : w2.cell? ⟨w.heap.size, 0, none⟩ = some (.int .i64 f) := cell_of_blk hbx rfl
  clear hb2 HM1 HB1 hbx
  go_wp2_with fail
  refine (LG.out _ HS2.out).mono ?_
  rintro e w3 ⟨rfl, rfl⟩
  have HO := hid (Only.of_below (b := b) (g := gg) HB2.out)
  go_wp2
  go_ret
  exact ⟨rfl, HM2.out, HO.out⟩

set_option maxHeartbeats 4000000 in
theorem tmove_yes (b gg : Nat) (xs : List Int) (c : Nat) (f n g a b2 : Int) (w : World) (T1 : StSteps w) (hm : Mem w b gg xs c) (hc : c < 1000000000) (h0 : 0 ≤ g) (h1 : g < n) (hf : 0 ≤ f) (hi : f + g < xs.length) (ha : 0 ≤ a) (hb : 0 ≤ b2) (hlg : stLegal a b2 = true) (hba : a ≤ 6) (hbb : b2 ≤ 6) (hv : xs.getD (f + g).toNat 0 = a) :
    Calls Tryd.prog 11 #[.agg #[.int .i64 f, .int .i64 n], .pointer (some ⟨b, 0, none⟩), .int .i64 g, .int .u64 a, .int .u64 b2] w fun e w' => e = .returned (.bool true) ∧ Mem w' b gg (xs.set (f + g).toNat b2) (c + 1) ∧ Only b gg w w' := by
  have HV := hid hv
  clear hv
  have hl := hm.len
  have hsb := hm.sb
  have hsg := hm.sg
  have hw : IntKind.i64.wrap (f + g) = f + g := IntWalk.i64_in _ (by omega)
  have HS := hid T1
  obtain ⟨o, ho⟩ : ∃ o, o = Obj.cells #[.int .i64 f, .int .i64 n] 27 (0, 0) := ⟨_, rfl⟩
  have HM1 := hid (hm.alloc o)
  have HB1 := hid ((Below.refl w.heap.size w).alloc (Nat.le_refl _) o)
  subst ho
  have LG := hid (fun w' T => slegal_any a b2 w' T ha hb)
  rw [hlg] at LG
  clear hm T1 hlg
  go_enter Tryd.func11, Tryd.ntmps11
  go_wp2_with fail
  refine (thas_in f n g _ h0 h1).mono ?_
  rintro e w2 ⟨rfl, hb2⟩
  have HM2 := hid (HM1.out.below hb2 (by simp; omega) (by simp; omega))
  have HB2 := hid (HB1.out.trans (hb2.mono (by simp)))
  have HS2 := hid (HS.out.at HB2.out)
  have hbx : w2.heap[w.heap.size]? = some (.cells #[.int .i64 f, .int .i64 n] 27 (0, 0)) := by
    rw [hb2.block _ (by simp)]; exact Deep.blk_alloc_new _ _
  have c0 : w2.cell? ⟨w.heap.size, 0, none⟩ = some (.int .i64 f) := cell_of_blk hbx rfl
  clear hb2 HM1 HB1 hbx
  go_wp2_with fail
  refine (LG.out _ HS2.out).mono ?_
  rintro e w3 ⟨rfl, rfl⟩
  go_wp2_with fail
  refine (swap_yes b gg xs c (f + g) a b2 _ HM2.out hc (by omega) hi HV.out).mono ?_
  rintro e w3 ⟨rfl, hm3, ho3⟩
  have HM3 := hid hm3
  have HO3 := hid ((Only.of_below HB2.out).trans ho3)
  clear hm3 ho3 HM2 HB2 c0
  go_wp2
  go_ret
  exact ⟨rfl, HM3.out, HO3.out⟩

set_option maxHeartbeats 4000000 in
theorem tmove_miss (b gg : Nat) (xs : List Int) (c : Nat) (f n g a b2 : Int) (w : World) (T1 : StSteps w) (hm : Mem w b gg xs c) (hc : c < 1000000000) (h0 : 0 ≤ g) (h1 : g < n) (hf : 0 ≤ f) (hi : f + g < xs.length) (ha : 0 ≤ a) (hb : 0 ≤ b2) (hlg : stLegal a b2 = true) (hba : a ≤ 6) (hbb : b2 ≤ 6) (hv : xs.getD (f + g).toNat 0 ≠ a) :
    Calls Tryd.prog 11 #[.agg #[.int .i64 f, .int .i64 n], .pointer (some ⟨b, 0, none⟩), .int .i64 g, .int .u64 a, .int .u64 b2] w fun e w' => e = .returned (.bool false) ∧ Mem w' b gg xs (c + 1) ∧ Only b gg w w' := by
  have HV := hid hv
  clear hv
  have hl := hm.len
  have hsb := hm.sb
  have hsg := hm.sg
  have hw : IntKind.i64.wrap (f + g) = f + g := IntWalk.i64_in _ (by omega)
  have HS := hid T1
  obtain ⟨o, ho⟩ : ∃ o, o = Obj.cells #[.int .i64 f, .int .i64 n] 27 (0, 0) := ⟨_, rfl⟩
  have HM1 := hid (hm.alloc o)
  have HB1 := hid ((Below.refl w.heap.size w).alloc (Nat.le_refl _) o)
  subst ho
  have LG := hid (fun w' T => slegal_any a b2 w' T ha hb)
  rw [hlg] at LG
  clear hm T1 hlg
  go_enter Tryd.func11, Tryd.ntmps11
  go_wp2_with fail
  refine (thas_in f n g _ h0 h1).mono ?_
  rintro e w2 ⟨rfl, hb2⟩
  have HM2 := hid (HM1.out.below hb2 (by simp; omega) (by simp; omega))
  have HB2 := hid (HB1.out.trans (hb2.mono (by simp)))
  have HS2 := hid (HS.out.at HB2.out)
  have hbx : w2.heap[w.heap.size]? = some (.cells #[.int .i64 f, .int .i64 n] 27 (0, 0)) := by
    rw [hb2.block _ (by simp)]; exact Deep.blk_alloc_new _ _
  have c0 : w2.cell? ⟨w.heap.size, 0, none⟩ = some (.int .i64 f) := cell_of_blk hbx rfl
  clear hb2 HM1 HB1 hbx
  go_wp2_with fail
  refine (LG.out _ HS2.out).mono ?_
  rintro e w3 ⟨rfl, rfl⟩
  go_wp2_with fail
  refine (swap_no b gg xs c (f + g) a b2 _ HM2.out hc (by omega) hi HV.out).mono ?_
  rintro e w3 ⟨rfl, hm3, ho3⟩
  have HM3 := hid hm3
  have HO3 := hid ((Only.of_below HB2.out).trans ho3)
  clear hm3 ho3 HM2 HB2 c0
  go_wp2
  go_ret
  exact ⟨rfl, HM3.out, HO3.out⟩
end Go.Proofs.YtpmldcnmnadgaaaDoor
