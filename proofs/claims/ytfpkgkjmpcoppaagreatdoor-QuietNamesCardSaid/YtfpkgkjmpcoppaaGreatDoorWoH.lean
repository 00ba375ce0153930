/- A world of one: a machine goes on behind a section. -/
import Derived.Test.YtfpkgkjmpcoppaaGreatDoorWoD
namespace Go.Proofs.YtfpkgkjmpcoppaaGreatDoor
open Go.RowKit
set_option linter.unusedVariables false
set_option linter.unusedSimpArgs false
set_option maxRecDepth 20000
section
variable {w w' : World} {W b1 b2 rb tb q sb ib mb rc : Nat} {lg : Value}
variable {pl p g nx got tg ii : Int} {sp inn : Bool} {rest : Value} {bk af ag s0 s1 s2 s3 s4 : Int} {yes : Bool} {un : Int}
set_option maxHeartbeats 8000000 in
theorem goOn_local (h : Wb w W b1 b2 rb tb q sb ib mb rc lg) (hm : Mc w mb 3 p g nx got tg ii sp inn rest bk af ag s0 s1 s2 s3 s4 false un) (hne : W ≠ mb) :
    Calls Tryz.prog 141 #[.pointer (some ⟨W, 0, none⟩), .int .i64 0] w fun e w' => e = .returned (.tuple #[]) ∧ Mc w' mb 4 p g nx got tg ii sp inn rest bk af ag s0 s1 s2 s3 s4 false un ∧ OnL [mb] w w' := by
  have HM := hid hm
  have a14 := h.c14
  have k0 := hm.c0
  have k18 := hm.c18
  have kf := hm.fz
  clear h hm
  go_enter Tryz.func141, Tryz.ntmps141
  go_wp2
  go_end0
  go_wp2
  go_end0
  exact ⟨rfl, HM.out.up0 4, OnL.set _ _ _ _ (by simp)⟩
set_option maxHeartbeats 8000000 in
theorem goOn_global {ra : Option Addr} {rcc : Nat} (h : Wb w W b1 b2 rb tb q sb ib mb rc lg) (hm : Mc w mb 4 p g nx got tg ii false inn (.slice ra 0 rcc) bk af ag s0 s1 s2 s3 s4 true un) (hne : W ≠ mb) :
    Calls Tryz.prog 141 #[.pointer (some ⟨W, 0, none⟩), .int .i64 0] w fun e w' => e = .returned (.tuple #[]) ∧ Mc w' mb 20 p g nx got tg ii false inn (.slice ra 0 rcc) 20 af ag s0 s1 s2 s3 s4 true un ∧ OnL [mb] w w' := by
  have HM := hid hm
  have a14 := h.c14
  have k0 := hm.c0
  have k7 := hm.c7
  have k9 := hm.c9
  have k10 := hm.c10
  have k18 := hm.c18
  have kf := hm.fz
  clear h hm
  go_enter Tryz.func141, Tryz.ntmps141
  go_wp2
  go_end0
  go_wp2
  go_end0
  exact ⟨rfl, (HM.out.up10 20).up0 20, (OnL.set _ _ _ _ (by simp)).trans (OnL.set _ _ _ _ (by simp))⟩
end
end Go.Proofs.YtfpkgkjmpcoppaaGreatDoor
