/- A world of one: pick in a section. -/
import Derived.Test.YtfpkgkjmpcoppaaGreatDoorWoB
namespace Go.Proofs.YtfpkgkjmpcoppaaGreatDoor
open Go.RowKit
set_option linter.unusedVariables false
set_option linter.unusedSimpArgs false
set_option maxRecDepth 20000
section
variable {w w' : World} {W b1 b2 rb tb q sb ib mb rc : Nat} {lg : Value}
variable {pl p g nx got tg ii : Int} {sp inn : Bool} {rest : Value} {bk af ag s0 s1 s2 s3 s4 : Int} {yes : Bool} {un : Int}
set_option maxHeartbeats 8000000 in
/-- A machine in a section. -/
theorem pick_in (Φ : World → World → Prop) (h : Wb w W b1 b2 rb tb q sb ib mb rc lg) (hm : Mc w mb pl p g nx got tg ii sp true rest bk af ag s0 s1 s2 s3 s4 yes un) (h0 : pl ≠ 0) (h16 : pl ≠ 16)
    (HP : ∀ w1, Below w.heap.size w w1 → Calls Tryz.prog 102 #[.pointer (some ⟨W, 0, none⟩), .int .i64 0] w1 fun e w' => e = .returned (.tuple #[]) ∧ Φ w1 w') :
    Calls Tryz.prog 64 #[.pointer (some ⟨W, 0, none⟩), stepV] w fun e w' => e = .returned (.bool true) ∧ ∃ w1, Below w.heap.size w w1 ∧ Φ w1 w' := by
  have HPP := hid HP
  have hb := hid (show Below w.heap.size w (w.alloc (.cells #[.int .u8 0, .int .u8 0, .int .i64 0, .int .i64 0, .int .i64 0] 79)) from (Below.refl _ _).alloc (Nat.le_refl _) _)
  have HW := hid (h.kept (hb.out.block _ h.lt))
  have HM := hid (hm.kept (hb.out.block _ hm.lt))
  have AS := hid (asleep_no HW.out pl HM.out.c0 h16)
  have a14 := HW.out.c14
  have t0 : (pl == 0) = false := beq_eq_false_iff_ne.2 h0
  clear h hm HP h0 h16
  go_enter Tryz.func64, Tryz.ntmps64
  go_wp2_with fail
  refine AS.out.mono ?_
  rintro e w2 ⟨rfl, hq⟩
  have B2 := hid (hb.out.trans (hq.below _))
  have W2 := hid (HW.out.kept (w' := w2) (by obtain ⟨n, rfl⟩ := hq; rfl))
  have M2 := hid (HM.out.kept (w' := w2) (by obtain ⟨n, rfl⟩ := hq; rfl))
  have HP3 := hid (fun y (hq : Quiet w2 y) => (HPP.out y (B2.out.trans ((hq.below w2.heap.size).mono B2.out.size))).mono (R' := fun e w' => e = .returned (.tuple #[]) ∧ ∃ w1, Below w.heap.size w w1 ∧ Φ w1 w') fun e w' hx => ⟨hx.1, y, B2.out.trans ((hq.below w2.heap.size).mono B2.out.size), hx.2⟩)
  clear hq AS a14
  have a14 := W2.out.c14
  have a0 := W2.out.c0
  have k0 := M2.out.c0
  have k8 := M2.out.c8
  go_wp2_with fail
  go_quiet (fail)
  all_goals
    go_wp2_with fail
    refine (HP3.out _ ⟨_, rfl⟩).mono ?_
    rintro e w3 ⟨rfl, h3⟩
    have H3 := hid h3
    clear h3
    go_wp2
    go_ret
    exact ⟨rfl, H3.out⟩
end
end Go.Proofs.YtfpkgkjmpcoppaaGreatDoor
