/- The contracts of package ring, continued: half, Put, Ready, PutAll, Steal, Len, Next, Streak. -/
import Derived.Test.YtpmggkngakdkhaaRing2
import Derived.Test.YtpmggkngakdkhaaFront
namespace Go.Proofs.Ytpmggkngakdkhaa
set_option linter.unusedVariables false
set_option linter.unusedSimpArgs false
open Go.RowKit

/-- A slice of the numbers ys is told, in new memory; the ring is left so; nothing else is turned. -/
def RTold (p : Nat) (ys xs : List Int) (nx : Int) (hs : Bool) (st : Int) (w : World) (e : Ending) (w' : World) : Prop :=
  ∃ v, e = .returned v ∧ Owns w' w.heap.size v ys ∧ Rg w' p xs nx hs st ∧ OnlyO p none w w'
theorem owns_nil (w : World) (base : Nat) : Owns w base (.slice none 0 0) [] := ⟨by simp, .inl ⟨rfl, rfl⟩⟩

set_option maxHeartbeats 2000000 in
theorem half_r (p : Nat) (xs : List Int) (nx : Int) (hs : Bool) (st : Int) (w : World) (H : Rg w p xs nx hs st) :
    Calls Try.prog 62 #[.pointer (some ⟨p, 0, none⟩)] w (RTold p (xs.take ((xs.length + 1) / 2)) (xs.drop ((xs.length + 1) / 2)) nx hs st w) := by
  obtain ⟨A, h, H0, hx⟩ := H.ex
  have c2 := H0.c257
  have hn := H.le
  have hplt := H.lt
  obtain ⟨n, hne⟩ : ∃ n, n = xs.length := ⟨_, rfl⟩
  obtain ⟨k, hk⟩ : ∃ k, k = (xs.length + 1) / 2 := ⟨_, rfl⟩
  rw [← hne] at c2 hn
  have hk1 : ((n : Int) + 1) / 2 = k := by omega
  have hkn : k ≤ n := by omega
  have HN := hid hne
  have HK := hid hk
  have HR := hid H
  obtain ⟨i0, hi, hz0, hz1, hz2⟩ := info_parts infoInt
  have HI := hid hi
  have HZ0 := hid hz0
  have HZ1 := hid hz1
  have HZ2 := hid hz2
  have HBY := hid (show (i0.bytes : Int) * ((k + 1 : Nat) : Int) ≤ 281474976710656 by rw [hz2]; omega)
  have HC := hid (show ((k : Int) + 1) = ((k + 1 : Nat) : Int) by omega)
  have c2' : (w.alloc (.cells (madeCells (Value.cells (.int .i64 0)) (k + 1)) 3)).cell? ⟨p, 257, none⟩ = some (.int .i64 n) := by
    rw [← c2]; exact World.cell?_of_block (Below.heap_alloc _ _ _ hplt)
  rw [← hk]
  clear H H0 hx hne hk hi hz0 hz1 hz2
  go_enter Try.func62, Try.ntmps62
  go_wp2_with (with_reducible refine wpList_make_lc _ rfl (.const (.int .i64 0)) (.tmp 10) 22 rfl 3 i0 (.int .i64 0) Try.underlying22 HI.out HZ0.out HZ1.out .i64 .i64 0 ((k : Int) + 1) 0 (k + 1) rfl rfl rfl HC.out (by omega) HBY.out (by omega) ?_)
  have hm0 : Owns (w.alloc (.cells (madeCells (Value.cells (.int .i64 0)) (k + 1)) 3)) w.heap.size (.slice (some ⟨w.heap.size, 0, none⟩) 0 (k + 1)) [] := owns_made w w.heap.size 0 (k + 1) (Nat.le_refl _) (by omega) (by unfold maxLen; omega)
  have HM := hid (show (w.alloc (.cells (madeCells (Value.cells (.int .i64 0)) (k + 1)) 3)).ownsRow w.heap.size 3 1 (.slice (some ⟨w.heap.size, 0, none⟩) 0 (k + 1)) 0 (([] : List Int).map (Value.int .i64)) from hm0)
  have HR1 := hid (HR.out.below ((Below.refl w.heap.size w).alloc (Nat.le_refl _) (.cells (madeCells (Value.cells (.int .i64 0)) (k + 1)) 3)))
  have HX1 := hid (show OnlyO p none w (w.alloc (.cells (madeCells (Value.cells (.int .i64 0)) (k + 1)) 3)) from .of_below ((Below.refl _ _).alloc (Nat.le_refl _) _))
  clear hm0
  go_wp2_with fail
  rw [hk1]
  go_loopw [3, 18] (fun v i wr => ∃ (j : Nat), j ≤ k ∧ i = .int .i64 j ∧ wr.ownsRow w.heap.size 3 1 v j ((xs.take j).map (Value.int .i64)) ∧ Hid (Rg wr p (xs.drop j) nx hs st) ∧ Hid (OnlyO p none w wr) ∧ w.heap.size ≤ wr.heap.size)
    (fun _ i _ => k - (intOf i).toNat)
  case atStart => exact ⟨0, by omega, rfl, HM.out, HR1, HX1, by simp⟩
  case round =>
    obtain ⟨j, hj, rfl, hown, HRr, HX, hsz⟩ := hrel
    obtain ⟨va, vc, rfl⟩ := ownsRow_slice hown
    by_cases hlt : j < k
    · have hjx : j < xs.length := by rw [← HN.out]; omega
      obtain ⟨x, hx⟩ : ∃ x, x = xs.getD j 0 := ⟨_, rfl⟩
      have hd : xs.drop j = x :: xs.drop (j + 1) := by rw [List.drop_eq_getElem_cons hjx, hx]; simp [hjx]
      have HT := hid (lst_take_snoc xs j hjx)
      rw [← hx] at HT
      have hrr := HRr.out
      rw [hd] at hrr
      have HRc := hid hrr
      have HO := hid hown
      have hjb : j < 128 := by omega
      clear hx hjx hd hrr HRr hown
      go_wp2_with fail
      refine (pop_any p x (xs.drop (j + 1)) nx hs st _ HRc.out).mono ?_
      rintro e w2 ⟨rfl, hr2, hx2⟩
      have HR2 := hid hr2
      have holt := World.ownsRow.lt HO.out
      have HX2 := hid (HX.out.trans hx2 (.inl rfl))
      have ho2 : Owns w2 w.heap.size (.slice va j vc) (xs.take j) := Owns.kept (show Owns wr w.heap.size (.slice va j vc) (xs.take j) by
        have := HO.out
        unfold Owns
        have e : (xs.take j).length = j := by rw [List.length_take, ← HN.out]; omega
        rw [e]; exact this) (fun q hq => hx2.block q (holt q hq).2 (by have := (holt q hq).1; omega) (by simp))
      have hown2 : w2.ownsRow w.heap.size 3 1 (.slice va j vc) j ((xs.take j).map (Value.int .i64)) := by
        unfold Owns at ho2
        have e : (xs.take j).length = j := by rw [List.length_take, ← HN.out]; omega
        rwa [e] at ho2
      have hs2 := hx2.size
      have HAL := hid (hown2.alloc (.cells #[.int .i64 x] 3))
      have B1 := hid (show j + 1 ≤ maxLen by unfold maxLen; omega)
      have B2 := hid (show (j + 1) * 8 ≤ 140737488355328 by omega)
      have B3 := hid (show w.heap.size ≤ (w2.alloc (.cells #[.int .i64 x] 3)).heap.size by simp; omega)
      clear hr2 hx2 holt ho2 hown2
      go_wp2_with (at_builtin; refine wpList_append_own_at _ rfl _ _ 22 rfl w.heap.size 3 i0 (.int .i64 0) 1 8 Try.underlying22 HI.out HZ0.out HZ1.out HZ2.out rfl (by decide) _ _ _ rfl HAL.out ⟨w2.heap.size, 0, none⟩ 1 1 [.int .i64 x] rfl rfl (cell_one_new _ _ _) (ones_of [x]) B1.out B2.out B3.out ?_)
      intro v' w6 hown6 hgrow _ _
      have hown7 : w6.ownsRow w.heap.size 3 1 v' (j + 1) ((xs.take (j + 1)).map (Value.int .i64)) := by
        rw [HT.out]; simpa using hown6
      have hlt6 := HAL.out.lt
      have hgb := hgrow.block
      have hs6 := hgrow.size
      simp only [World.size_alloc] at hs6
      have hpa : p < (w2.alloc (.cells #[.int .i64 x] 3)).heap.size := by simp; have := HR2.out.lt; omega
      have HR6 := hid ((HR2.out.below ((Below.refl w2.heap.size w2).alloc (Nat.le_refl _) (.cells #[.int .i64 x] 3))).kept (hgb p hpa (fun e => by have := (hlt6 p e.symm).1; omega)))
      have HX6 := hid ((HX2.out.trans (.of_below ((Below.refl _ _).alloc (Nat.le_refl _) (.cells #[.int .i64 x] 3))) (.inl rfl)).beyond ((Below.refl w.heap.size _).grown hgrow (by simp; omega) (fun q hq => (hlt6 q hq).1)))
      clear hown6 hgrow hlt6 hgb hpa HAL
      go_wp2
      go_roundw
      case rel => exact ⟨j + 1, by omega, by go_num, hown7, HR6, HX6, by omega⟩
      case measure => simp [intOf]; omega
    · obtain rfl : j = k := by omega
      have FIN : Hid (RTold p (xs.take j) (xs.drop j) nx hs st w (.returned (.slice va j vc)) wr) := ⟨_, rfl, by
        unfold Owns
        have e : (xs.take j).length = j := by rw [List.length_take, ← HN.out]; omega
        rw [e]; exact hown, HRr.out, HX.out⟩
      clear hown
      go_wp2
      go_ret
      exact FIN.out
end Go.Proofs.Ytpmggkngakdkhaa
