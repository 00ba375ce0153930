/- A world of one: locked, at its beginning. -/
import Derived.Test.YtfpkgkjmpcoppaaGreatDoorWoD
namespace Go.Proofs.YtfpkgkjmpcoppaaGreatDoor
open Go.RowKit
set_option linter.unusedVariables false
set_option linter.unusedSimpArgs false
set_option maxRecDepth 20000
section
variable {w w' : World} {W b1 b2 rb tb q sb ib mb rc : Nat} {lg : Value}
variable {pl p g nx got tg ii : Int} {sp inn : Bool} {rest : Value} {bk af ag s0 s1 s2 s3 s4 : Int} {yes : Bool} {un : Int}
set_option maxHeartbeats 16000000 in
/-- A machine begins a section, and steps. -/
theorem locked_first (k : Nat) (L : Nat) (Φ : World → World → Prop) {ra : Option Addr} {rn rcc : Nat} (h : Wb w W b1 b2 rb tb q sb ib mb rc lg) (hm : Mc w mb k p g nx got tg ii sp false (.slice ra rn rcc) bk af ag s0 s1 s2 s3 s4 yes un) (T : MaPlaces w) (hk : k < 31) (hlk : lk (maPlace1 k) p ii 1 = L) (hL : L ≤ 1) (hi : ii ≤ 9223372036854775807) (hWm : W ≠ mb)
    (HS : ∀ w1 pw pi, OnL [mb] w w1 → w1.heap[pw]? = some (.cells #[.pointer (some ⟨W, 0, none⟩)] 25 (0, 0)) → w1.heap[pi]? = some (.cells #[.int .i64 0] 3 (0, 0)) → w.heap.size ≤ pw → w.heap.size ≤ pi →
      Mc w1 mb k p g nx got tg ii sp true (.slice ra rn rcc) bk af ag (2 * (L : Int)) (2 * (L : Int) + 1) 0 0 0 yes un → Calls Tryz.prog 138 #[.pointer (some ⟨mb, 13, none⟩), .pointer (some ⟨b1, 0, none⟩), cloV pw pi] w1 fun e w' => e = .returned (.bool false) ∧ Φ w1 w') :
    Calls Tryz.prog 102 #[.pointer (some ⟨W, 0, none⟩), .int .i64 0] w fun e w' => e = .returned (.tuple #[]) ∧ ∃ w1, OnL [mb] w w1 ∧ Φ w1 w' := by
  have LK := hid (Lk.new w W)
  have HH := hid HS
  obtain ⟨w2, hw2⟩ : ∃ w2, w2 = (w.alloc (.cells #[.pointer (some ⟨W, 0, none⟩)] 25)).alloc (.cells #[.int .i64 0] 3) := ⟨_, rfl⟩
  have LK2 := hid (show Lk w W w.heap.size (w.heap.size + 1) w2 by rw [hw2]; exact LK.out)
  have W2 := hid (h.kept (w' := w2) (LK2.out.bl.block _ h.lt))
  have M2 := hid (hm.kept (w' := w2) (LK2.out.bl.block _ hm.lt))
  have lmb := hm.lt
  have n1 : w.heap.size ≠ mb := by omega
  have n2 : w.heap.size + 1 ≠ mb := by omega
  have hmf : ∀ (fn : Fn) (first cap : Array Value) (w : World), (Instr.makeFunc fn first cap).run Tryz.prog w = .ok (.func fn first cap) w := fun _ _ _ _ => rfl
  have T2 := hid (T.at LK2.out.bl)
  have LKK := hid (fun w T => mlock_g k p g nx got tg ii sp false ra rn rcc bk af ag s0 s1 s2 s3 s4 1 w T hk (by omega) (by omega) hi)
  rw [hlk] at LKK
  have SX := hid (fun (y : World) (hb : Below w2.heap.size w2 y) => (show (fun w' : World => w'.cell? ⟨mb, 0, none⟩ = some (.int .i64 k) ∧ w'.cell? ⟨mb, 1, none⟩ = some (.int .i64 p) ∧ w'.cell? ⟨mb, 2, none⟩ = some (.int .i64 g) ∧ w'.cell? ⟨mb, 3, none⟩ = some (.int .i64 nx) ∧ w'.cell? ⟨mb, 4, none⟩ = some (.int .i64 got) ∧ w'.cell? ⟨mb, 5, none⟩ = some (.int .i64 tg) ∧ w'.cell? ⟨mb, 6, none⟩ = some (.int .i64 ii) ∧ w'.cell? ⟨mb, 7, none⟩ = some (.bool sp) ∧ w'.cell? ⟨mb, 8, none⟩ = some (.bool false) ∧ w'.cell? ⟨mb, 9, none⟩ = some ((.slice ra rn rcc)) ∧ w'.cell? ⟨mb, 10, none⟩ = some (.int .i64 bk) ∧ w'.cell? ⟨mb, 11, none⟩ = some (.int .i64 af) ∧ w'.cell? ⟨mb, 12, none⟩ = some (.int .i64 ag) ∧ w'.cell? ⟨mb, 13, none⟩ = some (.int .i64 s0) ∧ w'.cell? ⟨mb, 14, none⟩ = some (.int .i64 s1) ∧ w'.cell? ⟨mb, 15, none⟩ = some (.int .i64 s2) ∧ w'.cell? ⟨mb, 16, none⟩ = some (.int .u64 s3) ∧ w'.cell? ⟨mb, 17, none⟩ = some (.int .i64 s4) ∧ w'.cell? ⟨W, 0, none⟩ = some (.int .i64 1) ∧ w'.cell? ⟨w.heap.size, 0, none⟩ = some (.pointer (some ⟨W, 0, none⟩))) y from
    have M := M2.out.kept (w' := y) (hb.block _ M2.out.lt)
    have Wx := W2.out.kept (w' := y) (hb.block _ W2.out.lt)
    have LL := LK2.out.below hb
    ⟨M.c0, M.c1, M.c2, M.c3, M.c4, M.c5, M.c6, M.c7, M.c8, M.c9, M.c10, M.c11, M.c12, M.c13, M.c14, M.c15, M.c16, M.c17, Wx.c0, blk_cell LL.a rfl⟩))
  have hL0 : 0 ≤ (L : Int) := by omega
  have hL1 : (L : Int) ≤ 1 := by omega
  have HWM := hid hWm
  clear h hm HS LK lmb T hlk hk
  go_enter Tryz.func102, Tryz.ntmps102
  go_upto_region 1 with (fail)
  rw [← hw2]
  clear hw2
  have d0 : w2.cell? ⟨w.heap.size, 0, none⟩ = some (.pointer (some ⟨W, 0, none⟩)) := blk_cell LK2.out.a rfl
  have d1 : w2.cell? ⟨w.heap.size + 1, 0, none⟩ = some (.int .i64 0) := blk_cell LK2.out.b rfl
  have a14 := W2.out.c14
  have k8 := M2.out.c8
  go_wp2_with fail
  go_quiet (fail)
  all_goals
    go_wp2_with fail
    generalize hw3 : w2.drewN _ = w3
    have HD := hid (show Below w2.heap.size w2 w3.drew from by rw [← hw3]; exact (((Quiet.refl w2).drewN _).drewN 1).below _)
    clear d0 d1 a14 k8 hw3
    go_region_held3 (fun w' => w'.cell? ⟨mb, 0, none⟩ = some (.int .i64 k) ∧ w'.cell? ⟨mb, 1, none⟩ = some (.int .i64 p) ∧ w'.cell? ⟨mb, 2, none⟩ = some (.int .i64 g) ∧ w'.cell? ⟨mb, 3, none⟩ = some (.int .i64 nx) ∧ w'.cell? ⟨mb, 4, none⟩ = some (.int .i64 got) ∧ w'.cell? ⟨mb, 5, none⟩ = some (.int .i64 tg) ∧ w'.cell? ⟨mb, 6, none⟩ = some (.int .i64 ii) ∧ w'.cell? ⟨mb, 7, none⟩ = some (.bool sp) ∧ w'.cell? ⟨mb, 8, none⟩ = some (.bool false) ∧ w'.cell? ⟨mb, 9, none⟩ = some ((.slice ra rn rcc)) ∧ w'.cell? ⟨mb, 10, none⟩ = some (.int .i64 bk) ∧ w'.cell? ⟨mb, 11, none⟩ = some (.int .i64 af) ∧ w'.cell? ⟨mb, 12, none⟩ = some (.int .i64 ag) ∧ w'.cell? ⟨mb, 13, none⟩ = some (.int .i64 s0) ∧ w'.cell? ⟨mb, 14, none⟩ = some (.int .i64 s1) ∧ w'.cell? ⟨mb, 15, none⟩ = some (.int .i64 s2) ∧ w'.cell? ⟨mb, 16, none⟩ = some (.int .u64 s3) ∧ w'.cell? ⟨mb, 17, none⟩ = some (.int .i64 s4) ∧ w'.cell? ⟨W, 0, none⟩ = some (.int .i64 1) ∧ w'.cell? ⟨w.heap.size, 0, none⟩ = some (.pointer (some ⟨W, 0, none⟩)))
      (first
        | assumption
        | (exact SX.out _ HD.out)
        | (exact SX.out _ (HD.out.trans (Below.mono (by assumption) HD.out.size))))
      (first
        | (go_at_call 101; refine (LKK.out _ (T2.out.at HD.out)).mono ?_; rintro e y ⟨rfl, hy⟩))
    all_goals
      have B4 := hid (HD.out.trans (Below.mono (by assumption) HD.out.size))
      have M4 := hid (M2.out.kept (w' := y) (B4.out.block _ M2.out.lt))
      have W4 := hid (W2.out.kept (w' := y) (B4.out.block _ W2.out.lt))
      have L4 := hid (LK2.out.below B4.out)
      clear B4
      go_wp2_with fail
      refine (begin_any (2 * (L : Int)) (2 * (L : Int) + 1) _).mono ?_
      rintro e w5 ⟨rfl, hb5⟩
      have M5 := hid (M4.out.kept (w' := w5) (hb5.block _ M4.out.lt))
      have W5 := hid (W4.out.kept (w' := w5) (hb5.block _ W4.out.lt))
      have L5 := hid (L4.out.below hb5)
      clear hb5 M4 W4 L4
      have m8 := M5.out.c8
      have m13 := M5.out.c13
      have m14 := M5.out.c14
      have m15 := M5.out.c15
      have m16 := M5.out.c16
      have m17 := M5.out.c17
      have mf := M5.out.fz
      have d0 : w5.cell? ⟨w.heap.size, 0, none⟩ = some (.pointer (some ⟨W, 0, none⟩)) := blk_cell L5.out.a rfl
      have a3 := W5.out.c3
      have hWm2 := HWM.out
      have kb : ∀ k, k ≠ mb → ((((((w5.setCell ⟨mb, 8, none⟩ (.bool true)).setCell ⟨mb, 13, none⟩ (.int .i64 (2 * (L : Int)))).setCell ⟨mb, 14, none⟩ (.int .i64 (2 * (L : Int) + 1))).setCell ⟨mb, 15, none⟩ (.int .i64 0)).setCell ⟨mb, 16, none⟩ (.int .u64 0)).setCell ⟨mb, 17, none⟩ (.int .i64 0)).heap[k]? = w5.heap[k]? := fun k hk =>
        (Below.heap_setCell _ _ _ _ hk).trans ((Below.heap_setCell _ _ _ _ hk).trans ((Below.heap_setCell _ _ _ _ hk).trans ((Below.heap_setCell _ _ _ _ hk).trans ((Below.heap_setCell _ _ _ _ hk).trans (Below.heap_setCell _ _ _ _ hk)))))
      have OL : OnL [mb] w ((((((w5.setCell ⟨mb, 8, none⟩ (.bool true)).setCell ⟨mb, 13, none⟩ (.int .i64 (2 * (L : Int)))).setCell ⟨mb, 14, none⟩ (.int .i64 (2 * (L : Int) + 1))).setCell ⟨mb, 15, none⟩ (.int .i64 0)).setCell ⟨mb, 16, none⟩ (.int .u64 0)).setCell ⟨mb, 17, none⟩ (.int .i64 0)) :=
        (OnL.of_below L5.out.bl).trans ((OnL.set _ _ _ _ (by simp)).trans ((OnL.set _ _ _ _ (by simp)).trans ((OnL.set _ _ _ _ (by simp)).trans ((OnL.set _ _ _ _ (by simp)).trans ((OnL.set _ _ _ _ (by simp)).trans (OnL.set _ _ _ _ (by simp)))))))
      have ST := hid (fun z (hq : Quiet ((((((w5.setCell ⟨mb, 8, none⟩ (.bool true)).setCell ⟨mb, 13, none⟩ (.int .i64 (2 * (L : Int)))).setCell ⟨mb, 14, none⟩ (.int .i64 (2 * (L : Int) + 1))).setCell ⟨mb, 15, none⟩ (.int .i64 0)).setCell ⟨mb, 16, none⟩ (.int .u64 0)).setCell ⟨mb, 17, none⟩ (.int .i64 0)) z) =>
        (HH.out z w.heap.size (w.heap.size + 1) (OL.trans (.of_quiet hq)) (((by obtain ⟨n, rfl⟩ := hq; rfl : z.heap[w.heap.size]? = _)).trans ((kb _ n1).trans L5.out.a)) (((by obtain ⟨n, rfl⟩ := hq; rfl : z.heap[w.heap.size + 1]? = _)).trans ((kb _ n2).trans L5.out.b)) (Nat.le_refl _) (by omega)
          (((((((M5.out.up8 true).up13 (2 * (L : Int))).up14 (2 * (L : Int) + 1)).up15 0).up16 0).up17 0).kept (by obtain ⟨n, rfl⟩ := hq; rfl))).mono (R' := fun e w' => e = .returned (.bool false) ∧ ∃ w1, OnL [mb] w w1 ∧ Φ w1 w') fun e w' hx => ⟨hx.1, z, OL.trans (.of_quiet hq), hx.2⟩)
      clear kb OL
      go_wp2_with fail
      go_region_with (go_at_call 138; refine (ST.out _ ⟨_, rfl⟩).mono ?_; rintro e w7 ⟨rfl, h7⟩)
      all_goals
        have H7 := hid h7
        clear h7
        go_wp2
        go_end0
        exact ⟨rfl, H7.out⟩
end
end Go.Proofs.YtfpkgkjmpcoppaaGreatDoor
