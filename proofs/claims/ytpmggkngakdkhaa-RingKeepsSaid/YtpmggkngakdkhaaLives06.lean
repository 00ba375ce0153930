/- The chapter's example of package ring. -/
import Derived.Test.YtpmggkngakdkhaaRing5
namespace Go.Proofs.Ytpmggkngakdkhaa
set_option linter.unusedVariables false
set_option linter.unusedSimpArgs false
open Go.RowKit
theorem OnlyO.low {p B : Nat} {w w' : World} (h : OnlyO p none w w') (hp : B ≤ p) (hB : B ≤ w.heap.size) : Below B w w' := h.below hp (fun k hk => by cases hk) hB

set_option maxHeartbeats 4000000 in
theorem lives6 (w : World) :
    Calls Try.prog 21 #[] w fun e w' => e = .returned (.bool true) ∧ Below w.heap.size w w' := by
  go_enter Try.func21, Try.ntmps21
  go_wp2_with fail
  refine (new_r _).mono ?_
  rintro e w1 ⟨p, rfl, hr1, hp, hb1⟩
  have R1 := hid hr1
  have hs1 := hb1.size
  clear hr1
  go_wp2_with fail
  refine (ready_no p [] 0 0 1 _ R1.out).mono ?_
  rintro e w2 ⟨v2, rfl, ho2, hr2, hx2⟩
  obtain ⟨a2, m2, c2, rfl⟩ := ho2.slice3
  have R2 := hid hr2
  have B2 := hb1.trans (hx2.low hp hs1)
  have hs2 := hx2.size
  clear ho2 hr2 hx2
  go_wp2_with fail
  refine (put_r p [] 1 true 0 2 _ R2.out).mono ?_
  rintro e w3 ⟨v3, rfl, ho3, hr3, hx3⟩
  obtain ⟨a3, m3, c3, rfl⟩ := ho3.slice3
  have R3 := hid (show Rg w3 p [2] 1 true 0 from hr3)
  have B3 := B2.trans (hx3.low hp (by omega))
  have hs3 := hx3.size
  clear ho3 hr3 hx3
  go_wp2_with fail
  refine (get_inherit p [2] 1 0 _ R3.out (by simp) (by omega) (by omega)).mono ?_
  rintro e w4 ⟨rfl, hr4, hx4⟩
  have R4 := hid (show Rg w4 p [2] 0 false 1 from hr4)
  have B4 := B3.trans (hx4.low hp (by omega))
  have hs4 := hx4.size
  clear hr4 hx4
  go_wp2_with fail
  refine (ready_no p [2] 0 1 3 _ R4.out).mono ?_
  rintro e w5 ⟨v5, rfl, ho5, hr5, hx5⟩
  obtain ⟨a5, m5, c5, rfl⟩ := ho5.slice3
  have R5 := hid hr5
  have B5 := B4.trans (hx5.low hp (by omega))
  have hs5 := hx5.size
  clear ho5 hr5 hx5
  go_wp2_with fail
  refine (ready_yes p [2] 3 1 4 _ R5.out).mono ?_
  rintro e w6 ⟨v6, rfl, ho6, hr6, hx6⟩
  obtain ⟨a6, m6, c6, rfl⟩ := ho6.slice3
  have R6 := hid (show Rg w6 p [2, 3] 4 true 1 from hr6)
  have B6 := B5.trans (hx6.low hp (by omega))
  have hs6 := hx6.size
  clear ho6 hr6 hx6
  go_wp2_with fail
  refine (next_r p [2, 3] 4 true 1 _ R6.out).mono ?_
  rintro e w7 ⟨rfl, hq7⟩
  have R7 := hid (R6.out.quiet hq7)
  have B7 := B6.trans (hq7.below _)
  have hs7 : w6.heap.size ≤ w7.heap.size := by rw [hq7.heap]; omega
  clear hq7
  go_wp2_with fail
  refine (list_r p [2, 3] 4 true 1 _ R7.out).mono ?_
  rintro e w8 ⟨v8, rfl, ho8, hb8⟩
  have RD8 := hid (show Reads w8 v8 [2, 3, 4] from ho8.reads)
  have B8 := B7.trans (hb8.mono (by omega))
  have hs8 := hb8.size
  clear ho8 hb8
  go_wp2_with fail
  have hba := (Below.refl w8.heap.size w8).alloc (Nat.le_refl _) (.cells (([2, 3, 4] : List Int).map (Value.int .i64)).toArray 3)
  refine (same_any _ _ [2, 3, 4] [2, 3, 4] true (by simp) _ (RD8.out.of_below hba) (reads_built w8 [2, 3, 4] _ rfl (by unfold maxLen; simp)) (by simp) (by simp)).mono ?_
  rintro e w9 ⟨rfl, hq9⟩
  have B9 := (B8.trans (hba.mono (by omega))).trans (hq9.below _)
  clear hba hq9
  go_wp2
  go_ret
  exact ⟨rfl, B9⟩
end Go.Proofs.Ytpmggkngakdkhaa
