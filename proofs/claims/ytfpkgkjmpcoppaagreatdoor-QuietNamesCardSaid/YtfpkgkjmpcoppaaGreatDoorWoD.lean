/- A world of one: locked, in a section. -/
import Derived.Test.YtfpkgkjmpcoppaaGreatDoorWoB
namespace Go.Proofs.YtfpkgkjmpcoppaaGreatDoor
open Go.RowKit
set_option linter.unusedVariables false
set_option linter.unusedSimpArgs false
set_option maxRecDepth 20000
section
variable {w w' : World} {W b1 b2 rb tb q sb ib mb rc : Nat} {lg : Value}
variable {pl p g nx got tg ii : Int} {sp inn : Bool} {rest : Value} {bk af ag s0 s1 s2 s3 s4 : Int} {yes : Bool} {un : Int}
/-- What a section's step is given: the closure over the world and the machine's number. -/
@[reducible] def cloV (pw pi : Nat) : Value := .func (.func 139) #[] #[.pointer (some ⟨pw, 0, none⟩), .pointer (some ⟨pi, 0, none⟩)]
/-- A world in which a section steps: the boxes of the closure. -/
structure Lk (w : World) (W pw pi : Nat) (w1 : World) : Prop where
  bl : Below w.heap.size w w1
  a : w1.heap[pw]? = some (.cells #[.pointer (some ⟨W, 0, none⟩)] 25 (0, 0))
  b : w1.heap[pi]? = some (.cells #[.int .i64 0] 3 (0, 0))
  la : w.heap.size ≤ pw
  lb : w.heap.size ≤ pi
  ne : pw ≠ pi
theorem Lk.below {w w1 w2 : World} {W pw pi : Nat} (h : Lk w W pw pi w1) (hb : Below w1.heap.size w1 w2) : Lk w W pw pi w2 :=
  ⟨h.bl.trans (hb.mono h.bl.size), (hb.block _ (blk_lt h.a)).trans h.a, (hb.block _ (blk_lt h.b)).trans h.b, h.la, h.lb, h.ne⟩
theorem Lk.new (w : World) (W : Nat) : Lk w W w.heap.size (w.heap.size + 1) ((w.alloc (.cells #[.pointer (some ⟨W, 0, none⟩)] 25)).alloc (.cells #[.int .i64 0] 3)) := by
  have b1 : Below w.heap.size w (w.alloc (.cells #[.pointer (some ⟨W, 0, none⟩)] 25)) := (Below.refl _ _).alloc (Nat.le_refl _) _
  refine ⟨b1.alloc (by simp) _, ?_, ?_, Nat.le_refl _, by omega, by omega⟩
  · rw [Below.heap_alloc _ _ _ (by simp)]; exact heap_alloc_new w _
  · have := heap_alloc_new (w.alloc (.cells #[.pointer (some ⟨W, 0, none⟩)] 25)) (.cells #[.int .i64 0] 3)
    rw [World.size_alloc] at this; exact this
set_option maxHeartbeats 8000000 in
/-- A machine in a section steps, and isn't over. -/
theorem locked_in (Φ : World → World → Prop) (h : Wb w W b1 b2 rb tb q sb ib mb rc lg) (hm : Mc w mb pl p g nx got tg ii sp true rest bk af ag s0 s1 s2 s3 s4 yes un)
    (HS : ∀ w1 pw pi, Lk w W pw pi w1 → Calls Tryz.prog 138 #[.pointer (some ⟨mb, 13, none⟩), .pointer (some ⟨b1, 0, none⟩), cloV pw pi] w1 fun e w' => e = .returned (.bool false) ∧ Φ w1 w') :
    Calls Tryz.prog 102 #[.pointer (some ⟨W, 0, none⟩), .int .i64 0] w fun e w' => e = .returned (.tuple #[]) ∧ ∃ w1, Below w.heap.size w w1 ∧ Φ w1 w' := by
  have LK := hid (Lk.new w W)
  have HH := hid HS
  obtain ⟨w2, hw2⟩ : ∃ w2, w2 = (w.alloc (.cells #[.pointer (some ⟨W, 0, none⟩)] 25)).alloc (.cells #[.int .i64 0] 3) := ⟨_, rfl⟩
  have LK2 := hid (show Lk w W w.heap.size (w.heap.size + 1) w2 by rw [hw2]; exact LK.out)
  have W2 := hid (h.kept (w' := w2) (LK2.out.bl.block _ h.lt))
  have M2 := hid (hm.kept (w' := w2) (LK2.out.bl.block _ hm.lt))
  have hmf : ∀ (fn : Fn) (first cap : Array Value) (w : World), (Instr.makeFunc fn first cap).run Tryz.prog w = .ok (.func fn first cap) w := fun _ _ _ _ => rfl
  have ST := hid (fun y (hq : Quiet w2 y) => (HH.out y w.heap.size (w.heap.size + 1) (LK2.out.below (hq.below _))).mono (R' := fun e w' => e = .returned (.bool false) ∧ ∃ w1, Below w.heap.size w w1 ∧ Φ w1 w') fun e w' hx => ⟨hx.1, y, LK2.out.bl.trans (hq.below _), hx.2⟩)
  clear h hm HS LK
  go_enter Tryz.func102, Tryz.ntmps102
  go_upto_region 1 with (fail)
  rw [← hw2]
  clear hw2
  have d0 : w2.cell? ⟨w.heap.size, 0, none⟩ = some (.pointer (some ⟨W, 0, none⟩)) := blk_cell LK2.out.a rfl
  have d1 : w2.cell? ⟨w.heap.size + 1, 0, none⟩ = some (.int .i64 0) := blk_cell LK2.out.b rfl
  have a3 := W2.out.c3
  have a14 := W2.out.c14
  have k8 := M2.out.c8
  go_wp2_with fail
  go_quiet (fail)
  all_goals
    go_wp2_with fail
    go_region_with (go_at_call 138; refine (ST.out _ ⟨_, rfl⟩).mono ?_; rintro e w5 ⟨rfl, h5⟩)
    all_goals
      have H5 := hid h5
      clear h5
      go_wp2
      go_end0
      exact ⟨rfl, H5.out⟩
end
end Go.Proofs.YtfpkgkjmpcoppaaGreatDoor
