/- Orders and the one behind each, whatever there is. -/
import Derived.Test.YtlahamkbkeckmaaGreatDoorNext28
import Derived.Laws.AppendOwnNone
namespace Go.Proofs.YtlahamkbkeckmaaGreatDoor
open Go.RowKit
set_option linter.unusedVariables false
set_option linter.unusedSimpArgs false
set_option maxRecDepth 20000
theorem next28_0 (m : Int) (v : Value) (w : World) (hr : Reads w v []) : Calls Tryz.prog 10 #[v, .int .i64 m] w (ClonePost [] w) := by
  obtain ⟨a, c, rfl, hc, _⟩ := hr
  obtain ⟨i0, hi, hz0, hz1, hz2⟩ := info_parts infoInt
  have hown : (w.alloc (.cells #[] 3)).ownsRow w.heap.size 3 1 (.slice (some ⟨w.heap.size, 0, none⟩) 0 0) 0 [] := World.ownsRow_made w #[] 0 (Nat.le_refl _) (by omega) rfl
  rcases hc.2.2 with ⟨rfl, rfl⟩ | ⟨ad, rfl⟩
  · have FIN := hid (show ClonePost [] w (.returned (.slice (some ⟨w.heap.size, 0, none⟩) 0 0)) (w.alloc (.cells #[] 3)) from ⟨_, rfl, by unfold Owns; simpa using hown, (Below.refl _ _).alloc (Nat.le_refl _) _⟩)
    go_enter Tryz.func10, Tryz.ntmps10
    go_wp2_with (at_builtin; refine wpList_append_own_none rfl _ _ 25 rfl w.heap.size 3 i0 1 Tryz.underlying25 hi _ _ _ rfl hown rfl ?_)
    go_loopw [6] (fun x wr => x = .int .i64 (-1) ∧ wr = w.alloc (.cells #[] 3)) (fun _ _ => 0)
    case atStart => exact ⟨rfl, rfl⟩
    case round =>
      obtain ⟨rfl, rfl⟩ := hrel
      go_wp2
      go_ret
      exact FIN.out
  · go_enter Tryz.func10, Tryz.ntmps10
    go_wp2_with (at_builtin; refine wpList_append_own _ rfl _ _ 25 rfl w.heap.size 3 i0 (.int .i64 0) 1 8 Tryz.underlying25 hi hz0 hz1 hz2 rfl (by decide) _ _ _ rfl hown ad 0 c [] rfl ?c0 ?c1 ?c2 ?c3 ?c4 ?c5 ?_)
    case c0 => simp
    case c1 => exact fun j u h => by simp at h
    case c2 => exact fun u h => by simp at h
    case c3 => simp
    case c4 => omega
    case c5 => simp
    intro v' w1 hown' hgrow _
    have B1 : Below w.heap.size w w1 := ((Below.refl w.heap.size w).alloc (Nat.le_refl _) (.cells #[] 3)).grown hgrow (by simp) (fun k hk => by simp [Value.ownBlock] at hk; omega)
    have HO := hid (show Owns w1 w.heap.size v' [] by unfold Owns; simpa using hown')
    obtain ⟨va, vc, rfl⟩ := HO.out.slice
    have FIN := hid (show ClonePost [] w (.returned (.slice va 0 vc)) w1 from ⟨_, rfl, HO.out, B1⟩)
    clear hown hown' hgrow B1 HO
    simp only [List.length_nil]
    go_wp2_with fail
    go_loopw [6] (fun x wr => x = .int .i64 (-1) ∧ wr = w1) (fun _ _ => 0)
    case atStart => exact ⟨rfl, rfl⟩
    case round =>
      obtain ⟨rfl, rfl⟩ := hrel
      go_wp2
      go_ret
      exact FIN.out
theorem edig_0 (m k : Int) : edig m 0 k = [] := rfl
theorem next_all (m : Int) (n : Nat) (k : Int) (v : Value) (w : World) (hm : 1 ≤ m ∨ n = 0) (hm2 : m ≤ 1099511627776) (hn2 : n ≤ 1000) (hk : 0 ≤ k) (hr : Reads w v (edig m n k)) :
    Calls Tryz.prog 10 #[v, .int .i64 m] w (ClonePost (edig m n (k + 1)) w) := by
  rcases Nat.eq_zero_or_pos n with rfl | h
  · exact next28_0 m v w hr
  · exact next28 m n k v w (by omega) hm2 h hn2 hk hr
theorem ecnt_00 : ecnt 0 0 = 1 := by decide
theorem eorder_00 (w : World) : Calls Tryz.prog 7 #[.int .i64 0, .int .i64 0, .int .i64 0] w (ClonePost [] w) := by
  have EC := hid (ecount 0 0 w (by omega) (by omega))
  have hmk := run_make_row' (P := Tryz.prog) 25 3 (.int .i64 0) 8 Tryz.underlying25 infoInt4 rfl .i64 .i64 0 (by omega) (by omega) w
  have FIN := hid (show ClonePost [] w (.returned (.slice (some ⟨w.heap.size, 0, none⟩) 0 0)) (w.alloc (.cells (madeCells #[.int .i64 0] 0) 3)) from
    ⟨_, rfl, by
      unfold Owns
      have : madeCells #[Value.int .i64 0] 0 = #[] := by apply Array.toList_inj.1; rw [toList_madeCells_one]; rfl
      rw [this]
      exact World.ownsRow_made w #[] 0 (Nat.le_refl _) (by omega) rfl, (Below.refl _ _).alloc (Nat.le_refl _) _⟩)
  simp only [Int.natCast_zero] at hmk
  go_enter Tryz.func7, Tryz.ntmps7
  go_wp2_with fail
  refine EC.out.mono ?_
  rintro e w2 ⟨rfl, rfl⟩
  rw [ecnt_00]
  clear EC
  go_wp2_with fail
  clear hmk
  generalize w2.alloc (.cells (madeCells #[.int .i64 0] 0) 3) = w3 at *
  go_loopw [2, 26] (fun x y wr => x = .int .i64 0 ∧ y = .int .i64 0 ∧ wr = w3) (fun _ _ _ => 0)
  case atStart => exact ⟨rfl, rfl, rfl⟩
  case round =>
    obtain ⟨rfl, rfl, rfl⟩ := hrel
    go_wp2
    go_ret
    exact FIN.out
theorem eorder_all (m : Int) (n : Nat) (i : Int) (w : World) (hm0 : 0 ≤ m) (hm : m ≤ 9223372036854775807) (hn : n ≤ 1000) (h0 : 0 ≤ i) (hi : i < ecnt m n) (hi2 : i ≤ 9223372036854775807) :
    Calls Tryz.prog 7 #[.int .i64 m, .int .i64 n, .int .i64 i] w (ClonePost (edig m n i) w) := by
  by_cases h1 : 1 ≤ m
  · exact eorder m n i w h1 hm hn h0 hi hi2
  · obtain rfl : m = 0 := by omega
    rcases Nat.eq_zero_or_pos n with rfl | hp
    · rw [show ((0 : Nat) : Int) = 0 from rfl, ecnt_00] at hi
      obtain rfl : i = 0 := by omega
      exact eorder_00 w
    · unfold ecnt at hi
      rw [if_pos (by omega)] at hi
      omega
theorem ecnt_pos {m n : Int} (h : 0 < ecnt m n) : 0 ≤ m ∧ 0 ≤ n ∧ (1 ≤ m ∨ n = 0) := by
  unfold ecnt at h
  split at h
  · omega
  · rename_i h1; omega
theorem edig_first {m : Int} {n : Nat} (hm : 0 ≤ m) : edig m n 0 = List.replicate n 0 := by
  refine List.ext_getElem (by simp [edig]) fun j h1 h2 => ?_
  simp [edig, edg]
theorem edig_first' (m : Int) (n : Nat) : edig m n 0 = List.replicate n 0 := by
  refine List.ext_getElem (by simp [edig]) fun j h1 h2 => ?_
  simp [edig, edg]
theorem made_zero (n : Nat) (w : World) (hn : n ≤ 1000) : Owns (w.alloc (.cells (madeCells #[.int .i64 0] n) 3)) w.heap.size (.slice (some ⟨w.heap.size, 0, none⟩) n n) (List.replicate n 0) ∧ Below w.heap.size w (w.alloc (.cells (madeCells #[.int .i64 0] n) 3)) := by
  refine ⟨?_, (Below.refl _ _).alloc (Nat.le_refl _) _⟩
  have e : madeCells #[Value.int .i64 0] n = ((List.replicate n (0 : Int)).map (Value.int .i64)).toArray := by
    apply Array.toList_inj.1
    rw [toList_madeCells_one]; simp
  refine ⟨by simp, .inr ⟨w.heap.size, n, _, by simp, Nat.le_refl _, heap_alloc_new _ _, by simp, by unfold maxLen; omega, by simp [e], by rw [e, List.toList_toArray, Nat.mul_one, List.take_of_length_le (by simp)]⟩⟩
end Go.Proofs.YtlahamkbkeckmaaGreatDoor
