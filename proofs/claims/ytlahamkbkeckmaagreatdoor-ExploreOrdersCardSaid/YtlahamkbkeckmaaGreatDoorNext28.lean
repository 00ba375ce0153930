/- hostlerref28.Next: the order behind one. -/
import Derived.Test.YtlahamkbkeckmaaGreatDoorExp3
namespace Go.Proofs.YtlahamkbkeckmaaGreatDoor
open Go.RowKit
set_option linter.unusedVariables false
set_option linter.unusedSimpArgs false
set_option maxRecDepth 20000
/-- What stands behind t rounds: nothing at the last t places. -/
def nrow (m : Int) (n : Nat) (k : Int) (t : Nat) : List Int := (List.range n).map fun j => if n - t ≤ j then 0 else edg m n k j
theorem nrow_len (m : Int) (n : Nat) (k : Int) (t : Nat) : (nrow m n k t).length = n := by simp [nrow]
theorem nrow_zero (m : Int) (n : Nat) (k : Int) : nrow m n k 0 = edig m n k := by
  unfold nrow edig
  refine List.map_congr_left fun j hj => ?_
  have := List.mem_range.1 hj
  rw [if_neg (by omega)]
theorem nrow_get {m : Int} {n : Nat} {k : Int} {t : Nat} (h : t < n) : (nrow m n k t).getD (n - 1 - t) 0 = k / m ^ t % m := by
  have hl : n - 1 - t < n := by omega
  simp only [nrow, List.getD_eq_getElem?_getD, List.getElem?_map, List.getElem?_range hl, Option.map_some, Option.getD_some]
  rw [if_neg (by omega)]
  unfold edg
  rw [show n - 1 - (n - 1 - t) = t by omega]
theorem nrow_step {m : Int} {n : Nat} {k : Int} {t : Nat} (h : t < n) (x : Int) : ((nrow m n k t).set (n - 1 - t) x).set (n - 1 - t) 0 = nrow m n k (t + 1) := by
  rw [List.set_set]
  refine List.ext_getElem (by simp [nrow]) fun j h1 h2 => ?_
  simp only [nrow, List.length_set, List.length_map, List.length_range] at h1
  rw [List.getElem_set]
  simp only [nrow, List.getElem_map, List.getElem_range]
  split
  · rw [if_pos (by omega)]
  · by_cases h : n - t ≤ j
    · rw [if_pos h, if_pos (by omega)]
    · rw [if_neg h, if_neg (by omega)]
/-- The quotients of k and of the one behind it, where the lower digits go round. -/
theorem quo_round {m k : Int} {t : Nat} (hm : 1 ≤ m) (h : (k + 1) % m ^ t = 0) : (k + 1) / m ^ t = k / m ^ t + 1 := by
  have hp : 0 < m ^ t := Int.pow_pos (by omega)
  generalize m ^ t = M at *
  have e1 := Int.mul_ediv_add_emod (k + 1) M
  rw [h, Int.add_zero] at e1
  generalize (k + 1) / M = q at *
  have e2 : k = M * (q - 1) + (M - 1) := by rw [Int.mul_sub, Int.mul_one, e1]; omega
  have e3 : k / M = q - 1 := by
    rw [e2, Int.mul_add_ediv_left _ _ (by omega), Int.ediv_eq_zero_of_lt (by omega) (by omega)]
    omega
  omega
theorem low_digit {m k : Int} {t s : Nat} (hm : 1 ≤ m) (h : (k + 1) % m ^ t = 0) (hs : s < t) : (k + 1) / m ^ s % m = 0 := by
  obtain ⟨u, rfl⟩ : ∃ u, t = s + 1 + u := ⟨t - (s + 1), by omega⟩
  have hp : 0 < m ^ s := Int.pow_pos (by omega)
  have e1 := Int.mul_ediv_add_emod (k + 1) (m ^ (s + 1 + u))
  rw [h, Int.add_zero, Int.pow_add, Int.pow_succ] at e1
  generalize (k + 1) / (m ^ s * m * m ^ u) = q at e1
  rw [← e1, Int.mul_assoc, Int.mul_assoc, Int.mul_ediv_cancel_left _ (by omega), Int.mul_emod_right]
theorem next_round {m k : Int} {t : Nat} (hm : 1 ≤ m) (h : (k + 1) % m ^ t = 0) (hd : ¬ k / m ^ t % m + 1 < m) : (k + 1) % m ^ (t + 1) = 0 := by
  have h1 := quo_round hm h
  have h2 : (k + 1) / m ^ t % m = 0 := by
    have := Int.emod_lt_of_pos (k / m ^ t) (show 0 < m by omega)
    have := Int.emod_nonneg (k / m ^ t) (show m ≠ 0 by omega)
    rw [h1, Int.add_emod]
    by_cases h1' : m = 1
    · subst h1'; omega
    · rw [show (1 : Int) % m = 1 from Int.emod_eq_of_lt (by omega) (by omega), show k / m ^ t % m + 1 = m by omega, Int.emod_self]
  have e1 := Int.mul_ediv_add_emod (k + 1) (m ^ t)
  have e2 := Int.mul_ediv_add_emod ((k + 1) / m ^ t) m
  rw [h2, Int.add_zero] at e2
  rw [h, Int.add_zero, ← e2, ← Int.mul_assoc, ← Int.pow_succ] at e1
  rw [← e1, Int.mul_emod_right]
theorem high_digit {m k : Int} {t u : Nat} (hm : 1 ≤ m) (h : (k + 1) % m ^ t = 0) (hd : k / m ^ t % m + 1 < m) : (k + 1) / m ^ (t + 1 + u) = k / m ^ (t + 1 + u) := by
  have h1 := quo_round hm h
  have hp : (0 : Int) ≤ m ^ t := Int.le_of_lt (Int.pow_pos (by omega))
  have hp1 : (0 : Int) ≤ m ^ t * m := Int.mul_nonneg hp (by omega)
  have h0 := Int.emod_nonneg (k / m ^ t) (show m ≠ 0 by omega)
  rw [Int.pow_add, Int.pow_succ, ← Int.ediv_ediv_of_nonneg hp1, ← Int.ediv_ediv_of_nonneg hp1, ← Int.ediv_ediv_of_nonneg hp, ← Int.ediv_ediv_of_nonneg hp, h1]
  congr 1
  generalize k / m ^ t = q at h0 hd
  have e := Int.mul_ediv_add_emod q m
  generalize hr : q % m = r at *
  generalize q / m = s at *
  rw [← e, Int.add_assoc, Int.mul_add_ediv_left _ _ (by omega), Int.ediv_eq_zero_of_lt (by omega) hd]
  omega
theorem nrow_done {m k : Int} {n t : Nat} (hm : 1 ≤ m) (ht : t < n) (h : (k + 1) % m ^ t = 0) (hd : k / m ^ t % m + 1 < m) : (nrow m n k t).set (n - 1 - t) (k / m ^ t % m + 1) = edig m n (k + 1) := by
  refine List.ext_getElem (by simp [nrow, edig]) fun j h1 h2 => ?_
  simp only [nrow, List.length_set, List.length_map, List.length_range] at h1
  rw [List.getElem_set]
  simp only [nrow, edig, List.getElem_map, List.getElem_range, edg]
  split
  · rename_i e
    subst e
    rw [show n - 1 - (n - 1 - t) = t by omega, quo_round hm h, Int.add_emod]
    have h0 := Int.emod_nonneg (k / m ^ t) (show m ≠ 0 by omega)
    rw [show (1 : Int) % m = 1 from Int.emod_eq_of_lt (by omega) (by omega), Int.emod_eq_of_lt (by omega) hd]
  · rename_i e
    by_cases hj : n - t ≤ j
    · rw [if_pos hj, low_digit hm h (by omega)]
    · rw [if_neg hj]
      obtain ⟨u, hu⟩ : ∃ u, n - 1 - j = t + 1 + u := ⟨n - 1 - j - (t + 1), by omega⟩
      rw [hu, high_digit hm h hd]
theorem nrow_all {m k : Int} {n : Nat} (hm : 1 ≤ m) (h : (k + 1) % m ^ n = 0) : nrow m n k n = edig m n (k + 1) := by
  unfold nrow edig
  refine List.map_congr_left fun j hj => ?_
  have := List.mem_range.1 hj
  rw [if_pos (by omega)]
  unfold edg
  rw [low_digit hm h (by omega)]
theorem ownI_set {w : World} {base g n c sz : Nat} {t : TypeId} {xs : List Value} (h : w.ownsRow base t sz (.slice (some ⟨g, 0, none⟩) n c) n xs) (k : Nat) (u : Value) :
    (w.setCell ⟨g, k, none⟩ u).ownsRow base t sz (.slice (some ⟨g, 0, none⟩) n c) n (xs.set k u) := by
  obtain ⟨h0, ⟨h1, h2⟩ | ⟨q, cap, cur, h1, h2, h3, h4, h5, h6, h7⟩⟩ := h
  · cases h1
  · simp only [Value.slice.injEq, Option.some.injEq, Addr.mk.injEq] at h1
    obtain ⟨⟨rfl, _⟩, _, rfl⟩ := h1
    refine ⟨by simpa using h0, .inr ⟨g, c, cur.setIfInBounds k u, rfl, h2, by simp [World.setCell, Array.getElem?_modify, h3], h4, h5, by simpa using h6, ?_⟩⟩
    rw [Array.toList_setIfInBounds, List.take_set, h7]
theorem ownI_cell {w : World} {base g n c : Nat} {xs : List Int} (h : Owns w base (.slice (some ⟨g, 0, none⟩) n c) xs) {j : Nat} (hj : j < xs.length) :
    w.cell? ⟨g, j, none⟩ = some (.int .i64 (xs.getD j 0)) ∧ w.frozen? ⟨g, j, none⟩ = false := by
  obtain ⟨h0, ⟨h1, h2⟩ | ⟨q, cap, cur, h1, h2, h3, h4, h5, h6, h7⟩⟩ := h
  · cases h1
  · simp only [Value.slice.injEq, Option.some.injEq, Addr.mk.injEq] at h1
    obtain ⟨⟨rfl, _⟩, _, rfl⟩ := h1
    refine ⟨?_, by simp [World.frozen?, h3]⟩
    have e : (cur.toList.take (xs.length * 1))[j]? = cur.toList[j]? := by rw [List.getElem?_take, if_pos (by omega)]
    rw [h7] at e
    have e' : w.cell? ⟨g, j, none⟩ = cur.toList[j]? := by simp [World.cell?, h3]
    rw [e', ← e]
    simp [hj]
theorem ownI_set' {w : World} {base g n c : Nat} {xs : List Int} (h : Owns w base (.slice (some ⟨g, 0, none⟩) n c) xs) (hn : xs.length = n) (k : Nat) (x : Int) :
    Owns (w.setCell ⟨g, k, none⟩ (.int .i64 x)) base (.slice (some ⟨g, 0, none⟩) n c) (xs.set k x) := by
  subst hn
  unfold Owns at h ⊢
  rw [List.length_set, List.map_set]
  exact ownI_set h k _
theorem ownI_lt {w : World} {base g n c : Nat} {xs : List Int} (h : Owns w base (.slice (some ⟨g, 0, none⟩) n c) xs) : base ≤ g := by
  obtain ⟨h0, ⟨h1, h2⟩ | ⟨q, cap, cur, h1, h2, h3, h4, h5, h6, h7⟩⟩ := h
  · cases h1
  · simp only [Value.slice.injEq, Option.some.injEq, Addr.mk.injEq] at h1
    obtain ⟨⟨rfl, _⟩, _, rfl⟩ := h1
    exact h2
set_option maxHeartbeats 4000000 in
theorem next28 (m : Int) (n : Nat) (k : Int) (v : Value) (w : World) (hm : 1 ≤ m) (hm2 : m ≤ 1099511627776) (hn : 1 ≤ n) (hn2 : n ≤ 1000) (hk : 0 ≤ k) (hr : Reads w v (edig m n k)) :
    Calls Tryz.prog 10 #[v, .int .i64 m] w (ClonePost (edig m n (k + 1)) w) := by
  obtain ⟨a, c, rfl, _, h1⟩ := hr
  obtain ⟨i0, hi, hz0, hz1, hz2⟩ := info_parts infoInt
  have hl := edig_len m n k
  obtain ⟨g0, off, rfl, h3, h4⟩ := h1 (by omega)
  have hown : (w.alloc (.cells #[] 3)).ownsRow w.heap.size 3 1 (.slice (some ⟨w.heap.size, 0, none⟩) 0 0) 0 [] := World.ownsRow_made w #[] 0 (Nat.le_refl _) (by omega) rfl
  have hnews : ∀ j u, ((edig m n k).map (Value.int .i64))[j]? = some u → (w.alloc (.cells #[] 3)).cell? ((⟨g0, off, none⟩ : Addr).add j) = some u := by
    intro j u hj
    have := news_of h4 j u hj
    rw [← this]
    refine World.cell?_of_block (Below.heap_alloc _ _ _ ?_)
    exact cell_lt this
  have HN := hid hnews
  have HL := hid hl
  rw [hl]
  clear h1 hnews h4 hl
  go_enter Tryz.func10, Tryz.ntmps10
  go_wp2_with (at_builtin; refine wpList_append_own _ rfl _ _ 25 rfl w.heap.size 3 i0 (.int .i64 0) 1 8 Tryz.underlying25 hi hz0 hz1 hz2 rfl (by decide) _ _ _ rfl hown ⟨g0, off, none⟩ n c ((edig m n k).map (Value.int .i64)) rfl ?c0 ?c1 ?c2 ?c3 ?c4 ?c5 ?_)
  case c0 => simp [HL.out]
  case c1 => exact HN.out
  case c2 => exact ones_of _
  case c3 => unfold maxLen; omega
  case c4 => omega
  case c5 => simp
  intro v' w1 hown' hgrow _
  have B1 := hid (show Below w.heap.size w w1 from ((Below.refl w.heap.size w).alloc (Nat.le_refl _) (.cells #[] 3)).grown hgrow (by simp) (fun k hk => by simp [Value.ownBlock] at hk; omega))
  obtain ⟨g, cap, rfl⟩ : ∃ g cap, v' = .slice (some ⟨g, 0, none⟩) n cap := by
    obtain ⟨q0, ⟨q1, q2⟩ | ⟨q, cap, cur, q1, _⟩⟩ := hown'
    · omega
    · exact ⟨q, cap, q1⟩
  have O1 : Hid (Owns w1 w.heap.size (.slice (some ⟨g, 0, none⟩) n cap) (nrow m n k 0)) := hid (by unfold Owns; rw [nrow_zero, HL.out]; exact hown')
  clear hown hown' hgrow HN h3
  go_wp2_with fail
  go_loopw [6] (fun x wr => ∃ t : Nat, t ≤ n ∧ x = .int .i64 ((n : Int) - 1 - t) ∧ Hid ((k + 1) % m ^ t = 0) ∧ Hid (Owns wr w.heap.size (.slice (some ⟨g, 0, none⟩) n cap) (nrow m n k t)) ∧ Hid (Below w.heap.size w wr)) (fun x _ => (intOf x + 1).toNat)
  case atStart => exact ⟨0, by omega, by simp, hid (by rw [Int.pow_zero, Int.emod_one]), O1, B1⟩
  case round =>
    clear O1 B1
    obtain ⟨t, ht, rfl, E, OW, BW⟩ := hrel
    by_cases hlt : t < n
    · have hgl := ownI_lt OW.out
      obtain ⟨d, hd⟩ : ∃ d, d = k / m ^ t % m := ⟨_, rfl⟩
      have hd0 : 0 ≤ d := by rw [hd]; exact Int.emod_nonneg _ (by omega)
      have hd1 : d < m := by rw [hd]; exact Int.emod_lt_of_pos _ (by omega)
      obtain ⟨c0, f0⟩ := ownI_cell OW.out (j := n - 1 - t) (by rw [nrow_len]; omega)
      rw [nrow_get hlt, ← hd] at c0
      have O2 := hid (ownI_set' OW.out (nrow_len _ _ _ _) (n - 1 - t) (d + 1))
      have B2 := hid (BW.out.setCell (p := ⟨g, n - 1 - t, none⟩) hgl (.int .i64 (d + 1)))
      obtain ⟨p, hp⟩ : ∃ p, p = n - 1 - t := ⟨_, rfl⟩
      have hpi : (n : Int) - 1 - t = p := by omega
      have hpn : p < n := by omega
      have HD := hid hd
      have HP := hid hp
      rw [← hp] at c0 f0 O2 B2
      rw [hpi]
      clear OW BW hd hp hpi
      have c1 : (wr.setCell ⟨g, p, none⟩ (.int .i64 (d + 1))).cell? ⟨g, p, none⟩ = some (.int .i64 (d + 1)) := World.cell?_setCell_same _ _ _ c0
      have f1 : (wr.setCell ⟨g, p, none⟩ (.int .i64 (d + 1))).frozen? ⟨g, p, none⟩ = false := (ownI_cell O2.out (j := p) (by simp [nrow_len]; omega)).2
      by_cases hdm : d + 1 < m
      · have FIN := hid (show ClonePost (edig m n (k + 1)) w (.returned (.slice (some ⟨g, 0, none⟩) n cap)) (wr.setCell ⟨g, p, none⟩ (.int .i64 (d + 1))) from ⟨_, rfl, by
          have e := nrow_done hm hlt E.out (by rw [← HD.out]; exact hdm)
          rw [← HD.out, ← HP.out] at e
          rw [← e]
          exact O2.out, B2.out⟩)
        clear E O2 B2
        go_wp2
        go_ret
        exact FIN.out
      · have E2 := hid (next_round hm E.out (by rw [← HD.out]; exact hdm))
        have O3 := hid (ownI_set' O2.out (by simp [nrow_len]) p 0)
        have B3 := hid (B2.out.setCell (p := ⟨g, p, none⟩) hgl (.int .i64 0))
        have O4 : Hid (Owns _ w.heap.size (.slice (some ⟨g, 0, none⟩) n cap) (nrow m n k (t + 1))) := hid (by
          have e := nrow_step (m := m) (k := k) hlt (d + 1)
          rw [← HP.out] at e
          rw [← e]
          exact O3.out)
        clear E O2 B2 O3
        go_wp2_with fail
        go_roundw
        case rel => exact ⟨t + 1, by omega, by rw [show (n : Int) - 1 - ((t + 1 : Nat) : Int) = (p : Int) - 1 by have := HP.out; omega], E2, O4, B3⟩
        case measure => (simp [intOf]; try omega)
    · obtain rfl : t = n := by omega
      have FIN := hid (show ClonePost (edig m t (k + 1)) w (.returned (.slice (some ⟨g, 0, none⟩) t cap)) wr from ⟨_, rfl, by rw [← nrow_all hm E.out]; exact OW.out, BW.out⟩)
      clear OW BW E
      go_wp2
      go_ret
      exact FIN.out
end Go.Proofs.YtlahamkbkeckmaaGreatDoor
