/- A world of one: locked, at the end of a section. -/
import Derived.Test.YtfpkgkjmpcoppaaGreatDoorWoD
namespace Go.Proofs.YtfpkgkjmpcoppaaGreatDoor
open Go.RowKit
set_option linter.unusedVariables false
set_option linter.unusedSimpArgs false
set_option maxRecDepth 20000
section
variable {w w' : World} {W b1 b2 rb tb q sb ib mb rc : Nat} {lg : Value}
variable {pl p g nx got tg ii : Int} {sp inn : Bool} {rest : Value} {bk af ag s0 s1 s2 s3 s4 : Int} {yes : Bool} {un : Int}
set_option maxHeartbeats 8000000 in
/-- A machine's section is over: it goes on. -/
theorem locked_free (Φ Ξ : World → World → Prop) {rest' : Value} {yes' : Bool} {t0 t1 t2 t3 t4 : Int} (h : Wb w W b1 b2 rb tb q sb ib mb rc lg) (hm : Mc w mb pl p g nx got tg ii sp true rest bk af ag s0 s1 s2 s3 s4 yes un)
    (HS : ∀ w1 pw pi, Lk w W pw pi w1 → Calls Tryz.prog 138 #[.pointer (some ⟨mb, 13, none⟩), .pointer (some ⟨b1, 0, none⟩), cloV pw pi] w1 fun e w' => e = .returned (.bool true) ∧ Mc w' mb pl p g nx got tg ii sp true rest' bk af ag t0 t1 t2 t3 t4 yes' un ∧ (w'.cell? ⟨pw, 0, none⟩ = some (.pointer (some ⟨W, 0, none⟩)) ∧ w'.cell? ⟨pi, 0, none⟩ = some (.int .i64 0)) ∧ Φ w1 w')
    (HG : ∀ w1 w2 w3, Below w.heap.size w w1 → Φ w1 w2 → OnL [mb] w2 w3 → Mc w3 mb pl p g nx got tg ii sp false rest' bk af ag 0 0 0 0 0 yes' un → Calls Tryz.prog 141 #[.pointer (some ⟨W, 0, none⟩), .int .i64 0] w3 fun e w' => e = .returned (.tuple #[]) ∧ Ξ w1 w') :
    Calls Tryz.prog 102 #[.pointer (some ⟨W, 0, none⟩), .int .i64 0] w fun e w' => e = .returned (.tuple #[]) ∧ ∃ w1, Below w.heap.size w w1 ∧ Ξ w1 w' := by
  have LK := hid (Lk.new w W)
  have HH := hid HS
  obtain ⟨w2, hw2⟩ : ∃ w2, w2 = (w.alloc (.cells #[.pointer (some ⟨W, 0, none⟩)] 25)).alloc (.cells #[.int .i64 0] 3) := ⟨_, rfl⟩
  have LK2 := hid (show Lk w W w.heap.size (w.heap.size + 1) w2 by rw [hw2]; exact LK.out)
  have W2 := hid (h.kept (w' := w2) (LK2.out.bl.block _ h.lt))
  have M2 := hid (hm.kept (w' := w2) (LK2.out.bl.block _ hm.lt))
  have lmb := hm.lt
  have n1 : w.heap.size ≠ mb := by omega
  have n2 : w.heap.size + 1 ≠ mb := by omega
  have hmf : ∀ (fn : Fn) (first cap : Array Value) (w : World), (Instr.makeFunc fn first cap).run Tryz.prog w = .ok (.func fn first cap) w := fun _ _ _ _ => rfl
  have HGG := hid HG
  have ST := hid (fun y (hq : Quiet w2 y) => (HH.out y w.heap.size (w.heap.size + 1) (LK2.out.below (hq.below _))).mono (R' := fun e w' => e = .returned (.bool true) ∧ Mc w' mb pl p g nx got tg ii sp true rest' bk af ag t0 t1 t2 t3 t4 yes' un ∧ (w'.cell? ⟨w.heap.size, 0, none⟩ = some (.pointer (some ⟨W, 0, none⟩)) ∧ w'.cell? ⟨w.heap.size + 1, 0, none⟩ = some (.int .i64 0)) ∧ ∃ w1, Below w.heap.size w w1 ∧ Φ w1 w') fun e w' hx => ⟨hx.1, hx.2.1, hx.2.2.1, y, LK2.out.bl.trans (hq.below _), hx.2.2.2⟩)
  clear h hm HS LK HG lmb
  go_enter Tryz.func102, Tryz.ntmps102
  go_upto_region 1 with (fail)
  rw [← hw2]
  clear hw2
  have d0 : w2.cell? ⟨w.heap.size, 0, none⟩ = some (.pointer (some ⟨W, 0, none⟩)) := blk_cell LK2.out.a rfl
  have d1 : w2.cell? ⟨w.heap.size + 1, 0, none⟩ = some (.int .i64 0) := blk_cell LK2.out.b rfl
  have a3 := W2.out.c3
  have a14 := W2.out.c14
  have k8 := M2.out.c8
  go_wp2_with fail
  go_quiet (fail)
  all_goals
    go_wp2_with fail
    go_region_with (go_at_call 138; refine (ST.out _ ⟨_, rfl⟩).mono ?_; rintro e w5 ⟨rfl, hm5, ⟨e0, e1⟩, w1, hb1, h5⟩)
    all_goals
      have H5 := hid h5
      have B1 := hid hb1
      have M5 := hid hm5
      have m8 := hm5.c8
      have m13 := hm5.c13
      have m14 := hm5.c14
      have m15 := hm5.c15
      have m16 := hm5.c16
      have m17 := hm5.c17
      have mf := hm5.fz
      have GO := hid (HGG.out w1 w5 ((((((w5.setCell ⟨mb, 8, none⟩ (.bool false)).setCell ⟨mb, 13, none⟩ (.int .i64 0)).setCell ⟨mb, 14, none⟩ (.int .i64 0)).setCell ⟨mb, 15, none⟩ (.int .i64 0)).setCell ⟨mb, 16, none⟩ (.int .u64 0)).setCell ⟨mb, 17, none⟩ (.int .i64 0)) hb1 h5
        ((OnL.set _ _ _ _ (by simp)).trans ((OnL.set _ _ _ _ (by simp)).trans ((OnL.set _ _ _ _ (by simp)).trans ((OnL.set _ _ _ _ (by simp)).trans ((OnL.set _ _ _ _ (by simp)).trans (OnL.set _ _ _ _ (by simp)))))))
        ((((((hm5.up8 false).up13 0).up14 0).up15 0).up16 0).up17 0))
      clear h5 hb1 hm5 d0 d1 a3 a14 k8
      go_wp2_with fail
      refine (GO.out).mono ?_
      rintro e w6 ⟨rfl, h6⟩
      have H6 := hid h6
      clear h6
      go_wp2
      go_end0
      exact ⟨rfl, w1, B1.out, H6.out⟩
end
end Go.Proofs.YtfpkgkjmpcoppaaGreatDoor
