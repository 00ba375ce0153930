/- A world of one: pick at a place without a lock. -/
import Derived.Test.YtfpkgkjmpcoppaaGreatDoorWoB
namespace Go.Proofs.YtfpkgkjmpcoppaaGreatDoor
open Go.RowKit
set_option linter.unusedVariables false
set_option linter.unusedSimpArgs false
set_option maxRecDepth 20000
section
variable {w w' : World} {W b1 b2 rb tb q sb ib mb rc : Nat} {lg : Value}
variable {pl p g nx got tg ii : Int} {sp inn : Bool} {rest : Value} {bk af ag s0 s1 s2 s3 s4 : Int} {yes : Bool} {un : Int}
set_option maxHeartbeats 8000000 in
/-- A machine without a section, at a place without a lock. -/
theorem pick_pass (k : Nat) (Φ : World → World → Prop) (h : Wb w W b1 b2 rb tb q sb ib mb rc lg) {ra : Option Addr} {rn rcc : Nat} (hm : Mc w mb k p g nx got tg ii sp false (.slice ra rn rcc) bk af ag s0 s1 s2 s3 s4 yes un) (T : MaPlaces w) (hk : k < 31) (h0 : (k : Int) ≠ 0) (h16 : (k : Int) ≠ 16) (hlk : lk (maPlace1 k) p ii 1 = -1) (hi : ii ≤ 9223372036854775807)
    (HP : ∀ w1, Below w.heap.size w w1 → Calls Tryz.prog 103 #[.pointer (some ⟨W, 0, none⟩), .int .i64 0] w1 fun e w' => e = .returned (.tuple #[]) ∧ Φ w1 w') :
    Calls Tryz.prog 64 #[.pointer (some ⟨W, 0, none⟩), stepV] w fun e w' => e = .returned (.bool true) ∧ ∃ w1, Below w.heap.size w w1 ∧ Φ w1 w' := by
  have HPP := hid HP
  have hb := hid (show Below w.heap.size w (w.alloc (.cells #[.int .u8 0, .int .u8 0, .int .i64 0, .int .i64 0, .int .i64 0] 79)) from (Below.refl _ _).alloc (Nat.le_refl _) _)
  have HW := hid (h.kept (hb.out.block _ h.lt))
  have HM := hid (hm.kept (hb.out.block _ hm.lt))
  have HT := hid (T.at hb.out)
  have AS := hid (asleep_no HW.out k HM.out.c0 h16)
  have LK := hid (fun w T => mlock_g k p g nx got tg ii sp false ra rn rcc bk af ag s0 s1 s2 s3 s4 1 w T hk (by omega) (by omega) hi)
  rw [hlk] at LK
  have a14 := HW.out.c14
  have t0 : ((k : Int) == 0) = false := beq_eq_false_iff_ne.2 h0
  clear h hm T HP hlk h0 h16 hk
  go_enter Tryz.func64, Tryz.ntmps64
  go_wp2_with fail
  refine AS.out.mono ?_
  rintro e w2 ⟨rfl, hq⟩
  have B2 := hid (hb.out.trans (hq.below _))
  have W2 := hid (HW.out.kept (w' := w2) (by obtain ⟨n, rfl⟩ := hq; rfl))
  have M2 := hid (HM.out.kept (w' := w2) (by obtain ⟨n, rfl⟩ := hq; rfl))
  have T2 := hid (HT.out.at ((hq.below _)))
  clear hq AS a14
  have a14 := W2.out.c14
  have a0 := W2.out.c0
  have k0 := M2.out.c0
  have k8 := M2.out.c8
  go_wp2_with fail
  clear a14 a0 k0 k8
  have SX := hid (fun (y : World) (hb : Below w2.heap.size w2 y) => (show (fun w' : World => w'.cell? ⟨mb, 0, none⟩ = some (.int .i64 k) ∧ w'.cell? ⟨mb, 1, none⟩ = some (.int .i64 p) ∧ w'.cell? ⟨mb, 2, none⟩ = some (.int .i64 g) ∧ w'.cell? ⟨mb, 3, none⟩ = some (.int .i64 nx) ∧ w'.cell? ⟨mb, 4, none⟩ = some (.int .i64 got) ∧ w'.cell? ⟨mb, 5, none⟩ = some (.int .i64 tg) ∧ w'.cell? ⟨mb, 6, none⟩ = some (.int .i64 ii) ∧ w'.cell? ⟨mb, 7, none⟩ = some (.bool sp) ∧ w'.cell? ⟨mb, 8, none⟩ = some (.bool false) ∧ w'.cell? ⟨mb, 9, none⟩ = some ((.slice ra rn rcc)) ∧ w'.cell? ⟨mb, 10, none⟩ = some (.int .i64 bk) ∧ w'.cell? ⟨mb, 11, none⟩ = some (.int .i64 af) ∧ w'.cell? ⟨mb, 12, none⟩ = some (.int .i64 ag) ∧ w'.cell? ⟨mb, 13, none⟩ = some (.int .i64 s0) ∧ w'.cell? ⟨mb, 14, none⟩ = some (.int .i64 s1) ∧ w'.cell? ⟨mb, 15, none⟩ = some (.int .i64 s2) ∧ w'.cell? ⟨mb, 16, none⟩ = some (.int .u64 s3) ∧ w'.cell? ⟨mb, 17, none⟩ = some (.int .i64 s4) ∧ w'.cell? ⟨W, 0, none⟩ = some (.int .i64 1)) y from
    have M := M2.out.kept (w' := y) (hb.block _ M2.out.lt)
    have Wx := W2.out.kept (w' := y) (hb.block _ W2.out.lt)
    ⟨M.c0, M.c1, M.c2, M.c3, M.c4, M.c5, M.c6, M.c7, M.c8, M.c9, M.c10, M.c11, M.c12, M.c13, M.c14, M.c15, M.c16, M.c17, Wx.c0⟩))
  have HD := hid (show Below w2.heap.size w2 w2.drew from Quiet.below ⟨1, rfl⟩ _)
  go_region_held3 (fun w' => w'.cell? ⟨mb, 0, none⟩ = some (.int .i64 k) ∧ w'.cell? ⟨mb, 1, none⟩ = some (.int .i64 p) ∧ w'.cell? ⟨mb, 2, none⟩ = some (.int .i64 g) ∧ w'.cell? ⟨mb, 3, none⟩ = some (.int .i64 nx) ∧ w'.cell? ⟨mb, 4, none⟩ = some (.int .i64 got) ∧ w'.cell? ⟨mb, 5, none⟩ = some (.int .i64 tg) ∧ w'.cell? ⟨mb, 6, none⟩ = some (.int .i64 ii) ∧ w'.cell? ⟨mb, 7, none⟩ = some (.bool sp) ∧ w'.cell? ⟨mb, 8, none⟩ = some (.bool false) ∧ w'.cell? ⟨mb, 9, none⟩ = some ((.slice ra rn rcc)) ∧ w'.cell? ⟨mb, 10, none⟩ = some (.int .i64 bk) ∧ w'.cell? ⟨mb, 11, none⟩ = some (.int .i64 af) ∧ w'.cell? ⟨mb, 12, none⟩ = some (.int .i64 ag) ∧ w'.cell? ⟨mb, 13, none⟩ = some (.int .i64 s0) ∧ w'.cell? ⟨mb, 14, none⟩ = some (.int .i64 s1) ∧ w'.cell? ⟨mb, 15, none⟩ = some (.int .i64 s2) ∧ w'.cell? ⟨mb, 16, none⟩ = some (.int .u64 s3) ∧ w'.cell? ⟨mb, 17, none⟩ = some (.int .i64 s4) ∧ w'.cell? ⟨W, 0, none⟩ = some (.int .i64 1))
    (first
      | assumption
      | (exact SX.out _ HD.out)
      | (exact SX.out _ (HD.out.trans (by assumption))))
    (first
      | (go_at_call 101; refine (LK.out _ (T2.out.at HD.out)).mono ?_; rintro e y ⟨rfl, hy⟩))
  all_goals
    have B3 := hid (B2.out.trans ((HD.out.trans (by assumption)).mono B2.out.size))
    go_wp2_with fail
    refine (HPP.out _ B3.out).mono ?_
    rintro e w3 ⟨rfl, h3⟩
    have H3 := hid h3
    clear h3
    go_wp2
    go_ret
    exact ⟨rfl, _, B3.out, H3.out⟩
end
end Go.Proofs.YtfpkgkjmpcoppaaGreatDoor
