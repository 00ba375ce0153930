/- 'lives' of layer 5 answers true, and turns nothing that was there; a slice written out reads as its numbers. -/
import Derived.Test.YtpmggkngakdkhaaBatch3
namespace Go.Proofs.Ytpmggkngakdkhaa
set_option linter.unusedVariables false
set_option linter.unusedSimpArgs false
open Go.RowKit
theorem reads_built (w : World) (xs : List Int) (cs : Array Value) (h : cs = (xs.map (Value.int .i64)).toArray) (hl : xs.length ≤ maxLen) : Reads (w.alloc (.cells cs 3)) (.slice (some ⟨w.heap.size, 0, none⟩) xs.length xs.length) xs := by
  subst h
  refine ⟨_, _, rfl, ⟨Nat.le_refl _, hl, .inr ⟨_, rfl⟩⟩, fun _ => ⟨_, 0, rfl, by simp, fun j hj => ?_⟩⟩
  have h := Deep.blk_alloc_new w (.cells (xs.map (Value.int .i64)).toArray 3)
  simp only [World.cell?, Nat.zero_add]
  rw [h]
  simp [hj]
theorem OnlyO.of_alloc {p : Nat} {r : Option Nat} (w : World) (o : Obj) : OnlyO p r w (w.alloc o) := .of_below ((Below.refl _ _).alloc (Nat.le_refl _) _)

set_option maxHeartbeats 1000000 in
theorem lives5 (w : World) :
    Calls Try.prog 9 #[] w fun e w' => e = .returned (.bool true) ∧ Below w.heap.size w w' := by
  have R3 := hid (fun w => reads_built w [1, 2, 3] _ rfl (by simp [maxLen]))
  have R2 := hid (fun w => reads_built w [1, 2] _ rfl (by simp [maxLen]))
  go_enter Try.func9, Try.ntmps9
  go_wp2_with fail
  refine (of_any _ [1, 2, 3] _ (by simp) (R3.out _)).mono ?_
  rintro e w1 ⟨p, r, rfl, hb, hp, hr, hbel⟩
  have HB := hid hb
  clear hb
  go_wp2_with fail
  refine (half_any p r _ _ HB.out).mono ?_
  rintro e w2 ⟨p2, r2, r', rfl, hb2, hb1, hon, hr', hp2, hr2, hne⟩
  have HB2 := hid hb2
  have HB1 := hid (show Bat w2 p r' [3] from hb1)
  clear hb2 hb1
  go_wp2_with fail
  refine (take_cons p r' 3 [] _ HB1.out).mono ?_
  rintro e w3 ⟨rfl, r'', hb3, hon3, hr''⟩
  have hs2 := HB2.out.lt
  have HB23 := hid (HB2.out.other hon3 (by have := HB.out.lt; omega) (fun e => hne e.symm) (fun k hk => ⟨by have := (hr2 k hk).1; have := HB.out.lt; omega, fun e => (hr2 k hk).2 e.symm⟩))
  go_wp2_with fail
  refine (list_any p2 r2 _ _ HB23.out).mono ?_
  rintro e w4 ⟨v4, rfl, ho4, hbel4⟩
  obtain ⟨va, vm, vc, rfl⟩ := ho4.slice3
  have HO4 := hid (ho4.reads.of_below ((Below.refl _ _).alloc (Nat.le_refl _) (.cells #[.int .i64 1, .int .i64 2] 3)))
  clear ho4
  go_wp2_with fail
  refine (same_any _ _ [1, 2] [1, 2] true (by simp) _ HO4.out (R2.out _) (by simp) (by simp)).mono ?_
  rintro e w5 ⟨rfl, hq5⟩
  go_wp2
  go_ret
  have a1 := hbel.size
  have a2 := hon.size
  have a3 := hon3.size
  have a4 := hbel4.size
  simp only [World.size_alloc] at a1 hp hr
  have b1 : Below w.heap.size w w1 := ((Below.refl _ _).alloc (Nat.le_refl _) _).trans (hbel.mono (by simp))
  have b2 : Below w.heap.size w1 w2 := hon.below (by omega) (fun k hk => by have := hr k hk; omega) (by omega)
  have b3 : Below w.heap.size w2 w3 := hon3.below (by omega) (fun k hk => by
    rcases hr' with h | h
    · have := hr k (by rw [← h]; exact hk); omega
    · have := h k hk; omega) (by omega)
  exact ⟨rfl, ((((b1.trans b2).trans b3).trans (hbel4.mono (by omega))).alloc (by omega) _).trans (hq5.below _)⟩
end Go.Proofs.Ytpmggkngakdkhaa
