/- hostlerlaw20.Lives: the chapter's example answers true. -/
import Derived.Test.YtfpkgkjmpcoppaaGreatDoorWoZ
namespace Go.Proofs.YtfpkgkjmpcoppaaGreatDoor
open Go.RowKit
set_option linter.unusedVariables false
set_option linter.unusedSimpArgs false
set_option maxRecDepth 20000
theorem At.ge0 {w0 w : World} {B : Bs} (h : At w0 B 0 w) : w0.heap.size ≤ B.b2 ∧ w0.heap.size ≤ B.g2 := by
  obtain ⟨r, lg, ra, rn, rcc, bk, s0, s1, s2, s3, s4, yes, hw, _⟩ := h
  exact ⟨hw.ge _ (by simp [Bs.l]), hw.ge _ (by simp [Bs.l])⟩
theorem Only.below2 {b g n : Nat} {w w' : World} (h : Only b g w w') (hb : n ≤ b) (hg : n ≤ g) (hn : n ≤ w.heap.size) : Below n w w' :=
  ⟨h.os, h.tape, h.output, h.size, fun k hk => h.block k (by omega) (by omega) (by omega)⟩
theorem fieldR2 (a : Option Addr) (n c : Nat) (w : World) : (Instr.field 43 (.agg (mR (.slice a n c))) 2).run Tryz.prog w = .ok (.int .i64 0) w := by kernel_rfl
theorem fieldR0 (a : Option Addr) (n c : Nat) (w : World) : (Instr.field 43 (.agg (mR (.slice a n c))) 0).run Tryz.prog w = .ok (.int .i64 0) w := by kernel_rfl
/-- What is told behind ten steps. -/
theorem told {w0 w : World} {B : Bs} (h : At w0 B 10 w) (hge : w0.heap.size ≤ B.b2 ∧ w0.heap.size ≤ B.g2) :
    (Calls Tryz.prog 14 #[.pointer (some ⟨B.W, 0, none⟩), .int .i64 0] w fun e w' => ∃ a' n' c', e = .returned (.agg (mR (.slice a' n' c'))) ∧ At w0 B 10 w') ∧
    (Calls Tryz.prog 11 #[.pointer (some ⟨B.W, 0, none⟩), .int .i64 0] w fun e w' => e = .returned (.int .u64 2) ∧ Below w0.heap.size w0 w' ∧ Calls Tryz.prog 12 #[.pointer (some ⟨B.W, 0, none⟩)] w' fun e w2 => ∃ a c, e = .returned (.slice a 2 c) ∧ Below w0.heap.size w0 w2) := by
  have h' := h
  obtain ⟨ra, rcc, lg, hrc, hwb, hm, hm2, hlg, hnW, hb0, hlgb, ne1, ne2⟩ := h
  refine ⟨(wmach hwb hrc hm).mono (fun e w' ⟨a', n', c', he, hb⟩ => ⟨a', n', c', he, At.below 10 (Nat.le_refl _) h' hb⟩), ?_⟩
  refine (wstat hwb hm2 (by decide) rfl rfl (by decide)).mono ?_
  rintro e w5 ⟨he, hm5, ho⟩
  have b5 : Below w0.heap.size w0 w5 := hb0.trans (ho.below2 hge.1 hge.2 hb0.size)
  refine ⟨he, b5, ?_⟩
  have hwb5 := hwb.kept (ho.block _ hwb.lt ne1 ne2)
  have hlg5 := hlg.kept (w' := w5) (fun k hk => ho.block k (hlg.lt k hk).2 (hlgb k hk).1 (hlgb k hk).2)
  exact (wevents hwb5 hlg5 (by simp [ev0, Value.oneCell'])).mono (fun e w2 ⟨a, c, he, hb⟩ => ⟨a, c, he, b5.trans (hb.mono b5.size)⟩)
set_option maxHeartbeats 8000000 in
theorem lives20 (w : World) (T1 : MaPlaces w) (T2 : EvNames w) (T3 : EvSteps w) (U1 : 0 < w.heap.size) (U2 : 3 < w.heap.size) (U3 : 1 < w.heap.size) :
    Calls Tryz.prog 8 #[] w fun e w' => e = .returned (.bool true) ∧ Below w.heap.size w w' := by
  have NW := hid (wnew_1 w T1 T2 T3 U1 U2 U3)
  clear T1 T2 T3 U1 U2 U3
  go_enter Tryz.func8, Tryz.ntmps8
  go_wp2_with fail
  refine NW.out.mono ?_
  rintro e w2 ⟨B, rfl, hA⟩
  have A0 := hid hA
  have GE := hid hA.ge0
  obtain ⟨W, hW⟩ : ∃ W, W = B.W := ⟨_, rfl⟩
  rw [← hW]
  have HW := hid hW
  clear NW hA hW
  go_wp2_with fail
  go_loopw [14] (fun x wr => ∃ i : Nat, i ≤ 10 ∧ x = .int .i64 i ∧ Hid (At w B i wr)) (fun x _ => 10 - (intOf x).toNat)
  case atStart => exact ⟨0, by omega, rfl, A0⟩
  case round =>
    clear A0
    obtain ⟨i, hi, rfl, A⟩ := hrel
    by_cases hlt : i < 10
    · have ST := hid (at_next i hlt A.out)
      rw [← HW.out] at ST
      clear A
      go_wp2_with fail
      refine ST.out.mono ?_
      rintro e w3 ⟨rfl, h3⟩
      have H3 := hid h3
      clear h3 ST
      go_wp2_with fail
      go_roundw
      case rel => exact ⟨i + 1, by omega, by go_num, H3⟩
      case measure => simp [intOf]; omega
    · obtain rfl : i = 10 := by omega
      have TD := hid (fun (y : World) (h : At w B 10 y) => told h GE.out)
      rw [← HW.out] at TD
      have M1 := hid (TD.out _ A.out).1
      have fr2 := fieldR2
      have fr0 := fieldR0
      clear A hlt hi
      go_wp2_with fail
      refine M1.out.mono ?_
      rintro e w3 ⟨a1, n1, c1, rfl, hA3⟩
      have M2 := hid (TD.out _ hA3).1
      clear M1 hA3
      go_wp2_with fail
      refine M2.out.mono ?_
      rintro e w4 ⟨a2, n2, c2, rfl, hA4⟩
      have M3 := hid (TD.out _ hA4).2
      clear M2 hA4
      go_wp2_with fail
      refine M3.out.mono ?_
      rintro e w5 ⟨rfl, _, hE⟩
      have M4 := hid hE
      clear M3 hE
      go_wp2_with fail
      refine M4.out.mono ?_
      rintro e w6 ⟨a3, c3, rfl, hb⟩
      have HB := hid hb
      clear M4 hb
      go_wp2
      go_ret
      exact ⟨rfl, HB.out⟩
end Go.Proofs.YtfpkgkjmpcoppaaGreatDoor
