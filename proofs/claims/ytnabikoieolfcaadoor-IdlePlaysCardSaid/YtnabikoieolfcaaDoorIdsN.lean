/- An Idle as a whole: (New) deed on processors answers and leaves. -/
import Derived.Test.YtnabikoieolfcaaDoorIds
namespace Go.Proofs.YtnabikoieolfcaaDoor
set_option linter.unusedVariables false
set_option linter.unusedSimpArgs false
open Go.RowKit

set_option maxHeartbeats 4000000 in
theorem inew_any (P M : Int) (np : Nat) (N : Int) (hnp : (np : Int) = min (max P 1) 64) (hN : N = min (max M 1) 128) (w : World) (T : DbTab w) :
    Calls Tryd.prog 5 #[.int .i64 P, .int .i64 M] w fun e w' => ∃ x, e = .returned (.pointer (some ⟨x, 0, none⟩)) ∧ Ids (· < w.heap.size) x np (fun _ => false) [] N [] (-1) w' ∧ Below w.heap.size w w' := by
  have FIN := hid (fun (mx my : Nat) (W : List Nat) (w2 : World) (hm : Msk w2 mx my np W) (hb : Below w.heap.size w w2) (hx : w.heap.size ≤ mx) (hy : w.heap.size ≤ my) (hW : bitAt W = fun _ => false) =>
    (show Ids (· < w.heap.size) w2.heap.size np (fun _ => false) [] N [] (-1) (w2.alloc (.cells #[.pointer (some ⟨mx, 0, none⟩), .slice none 0 0, .int .i64 N, .slice none 0 0, .int .i64 (-1)] 45)) ∧ Below w.heap.size w (w2.alloc (.cells #[.pointer (some ⟨mx, 0, none⟩), .slice none 0 0, .int .i64 N, .slice none 0 0, .int .i64 (-1)] 45)) from by
      have hs2 := hb.size
      have hB : Below w.heap.size w (w2.alloc (.cells #[.pointer (some ⟨mx, 0, none⟩), .slice none 0 0, .int .i64 N, .slice none 0 0, .int .i64 (-1)] 45)) := hb.alloc (by omega) _
      have hl : Below w2.heap.size w2 (w2.alloc (.cells #[.pointer (some ⟨mx, 0, none⟩), .slice none 0 0, .int .i64 N, .slice none 0 0, .int .i64 (-1)] 45)) := (Below.refl _ _).alloc (Nat.le_refl _) _
      have hmx := hm.sx
      have hmy := hm.sy
      refine ⟨⟨⟨mx, my, none, none, W, .slice none 0 0, ⟨⟨⟨.slice none 0 0, Deep.blk_alloc_new _ _, ⟨by simp, .inl ⟨rfl, rfl⟩⟩, rfl⟩, by simp⟩, ⟨by simp, .inl ⟨rfl, rfl⟩⟩, rfl, hm.below hl hmx hmy, by omega, by omega, by simp, by simp, by simp, by simp, by simp, by simp, by omega, by omega, by omega, by simp, by simp, fun k hk => by simp; omega⟩, hW⟩, T.at hB, T.lt⟩, hB⟩))
  have hP : P < 1 ∨ (1 ≤ P ∧ P ≤ 64) ∨ 64 < P := by omega
  have hM : M < 1 ∨ (1 ≤ M ∧ M ≤ 128) ∨ 128 < M := by omega
  clear T
  rcases hP with hP | ⟨hP, hP'⟩ | hP
  · obtain rfl : np = 1 := by omega
    have MN := hid (mnew_any 1 1 (by omega) w)
    rcases hM with hM | ⟨hM, hM'⟩ | hM
    · obtain rfl : N = 1 := by omega
      clear hnp hN
      go_enter Tryd.func5, Tryd.ntmps5
      go_wp2_with fail
      (with_reducible refine MN.out.mono ?_)
      rintro e w2 ⟨rfl, hm2, hb2, hs2⟩
      have F2 := hid (FIN.out _ _ _ _ hm2 hb2 (by omega) (by omega) (by funext i; exact bitAt_zero _ _))
      clear hm2 hb2 hs2
      go_wp2
      go_ret
      exact ⟨_, rfl, F2.out.1, F2.out.2⟩
    · obtain rfl : N = M := by omega
      clear hnp hN
      go_enter Tryd.func5, Tryd.ntmps5
      go_wp2_with fail
      (with_reducible refine MN.out.mono ?_)
      rintro e w2 ⟨rfl, hm2, hb2, hs2⟩
      have F2 := hid (FIN.out _ _ _ _ hm2 hb2 (by omega) (by omega) (by funext i; exact bitAt_zero _ _))
      clear hm2 hb2 hs2
      go_wp2
      go_ret
      exact ⟨_, rfl, F2.out.1, F2.out.2⟩
    · obtain rfl : N = 128 := by omega
      clear hnp hN
      go_enter Tryd.func5, Tryd.ntmps5
      go_wp2_with fail
      (with_reducible refine MN.out.mono ?_)
      rintro e w2 ⟨rfl, hm2, hb2, hs2⟩
      have F2 := hid (FIN.out _ _ _ _ hm2 hb2 (by omega) (by omega) (by funext i; exact bitAt_zero _ _))
      clear hm2 hb2 hs2
      go_wp2
      go_ret
      exact ⟨_, rfl, F2.out.1, F2.out.2⟩
  · obtain rfl : P = np := by omega
    have MN := hid (mnew_any (np : Int) np (by omega) w)
    rcases hM with hM | ⟨hM, hM'⟩ | hM
    · obtain rfl : N = 1 := by omega
      clear hnp hN
      go_enter Tryd.func5, Tryd.ntmps5
      go_wp2_with fail
      (with_reducible refine MN.out.mono ?_)
      rintro e w2 ⟨rfl, hm2, hb2, hs2⟩
      have F2 := hid (FIN.out _ _ _ _ hm2 hb2 (by omega) (by omega) (by funext i; exact bitAt_zero _ _))
      clear hm2 hb2 hs2
      go_wp2
      go_ret
      exact ⟨_, rfl, F2.out.1, F2.out.2⟩
    · obtain rfl : N = M := by omega
      clear hnp hN
      go_enter Tryd.func5, Tryd.ntmps5
      go_wp2_with fail
      (with_reducible refine MN.out.mono ?_)
      rintro e w2 ⟨rfl, hm2, hb2, hs2⟩
      have F2 := hid (FIN.out _ _ _ _ hm2 hb2 (by omega) (by omega) (by funext i; exact bitAt_zero _ _))
      clear hm2 hb2 hs2
      go_wp2
      go_ret
      exact ⟨_, rfl, F2.out.1, F2.out.2⟩
    · obtain rfl : N = 128 := by omega
      clear hnp hN
      go_enter Tryd.func5, Tryd.ntmps5
      go_wp2_with fail
      (with_reducible refine MN.out.mono ?_)
      rintro e w2 ⟨rfl, hm2, hb2, hs2⟩
      have F2 := hid (FIN.out _ _ _ _ hm2 hb2 (by omega) (by omega) (by funext i; exact bitAt_zero _ _))
      clear hm2 hb2 hs2
      go_wp2
      go_ret
      exact ⟨_, rfl, F2.out.1, F2.out.2⟩
  · obtain rfl : np = 64 := by omega
    have MN := hid (mnew_any 64 64 (by omega) w)
    rcases hM with hM | ⟨hM, hM'⟩ | hM
    · obtain rfl : N = 1 := by omega
      clear hnp hN
      go_enter Tryd.func5, Tryd.ntmps5
      go_wp2_with fail
      (with_reducible refine MN.out.mono ?_)
      rintro e w2 ⟨rfl, hm2, hb2, hs2⟩
      have F2 := hid (FIN.out _ _ _ _ hm2 hb2 (by omega) (by omega) (by funext i; exact bitAt_zero _ _))
      clear hm2 hb2 hs2
      go_wp2
      go_ret
      exact ⟨_, rfl, F2.out.1, F2.out.2⟩
    · obtain rfl : N = M := by omega
      clear hnp hN
      go_enter Tryd.func5, Tryd.ntmps5
      go_wp2_with fail
      (with_reducible refine MN.out.mono ?_)
      rintro e w2 ⟨rfl, hm2, hb2, hs2⟩
      have F2 := hid (FIN.out _ _ _ _ hm2 hb2 (by omega) (by omega) (by funext i; exact bitAt_zero _ _))
      clear hm2 hb2 hs2
      go_wp2
      go_ret
      exact ⟨_, rfl, F2.out.1, F2.out.2⟩
    · obtain rfl : N = 128 := by omega
      clear hnp hN
      go_enter Tryd.func5, Tryd.ntmps5
      go_wp2_with fail
      (with_reducible refine MN.out.mono ?_)
      rintro e w2 ⟨rfl, hm2, hb2, hs2⟩
      have F2 := hid (FIN.out _ _ _ _ hm2 hb2 (by omega) (by omega) (by funext i; exact bitAt_zero _ _))
      clear hm2 hb2 hs2
      go_wp2
      go_ret
      exact ⟨_, rfl, F2.out.1, F2.out.2⟩
end Go.Proofs.YtnabikoieolfcaaDoor
