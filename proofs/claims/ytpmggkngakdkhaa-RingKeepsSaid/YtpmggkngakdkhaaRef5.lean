/- The document's rows of numbers: Join and Take. -/
import Derived.Test.YtpmggkngakdkhaaBatch4
namespace Go.Proofs.Ytpmggkngakdkhaa
set_option linter.unusedVariables false
set_option linter.unusedSimpArgs false
open Go.RowKit

theorem clone_fin {w wr : World} {l : List Int} {k : Nat} {v : Value} (h : wr.ownsRow w.heap.size 3 1 v k (l.map (Value.int .i64))) (hl : l.length = k) (hb : Below w.heap.size w wr) : ClonePost l w (.returned v) wr :=
  ⟨_, rfl, by unfold Owns; rw [hl]; exact h, hb⟩
set_option maxHeartbeats 4000000 in
theorem join_any (v1 v2 : Value) (xs ys : List Int) (w : World) (h1 : Reads w v1 xs) (h2 : Reads w v2 ys) (hl1 : xs.length ≤ 100000) (hl2 : ys.length ≤ 100000) :
    Calls Try.prog 46 #[v1, v2] w (ClonePost (xs ++ ys) w) := by
  obtain ⟨a1, c1, rfl, _, h1⟩ := h1
  obtain ⟨a2, c2, rfl, _, h2⟩ := h2
  have H1 := hid h1
  have H2 := hid h2
  obtain ⟨n, hn⟩ : ∃ n, n = xs.length := ⟨_, rfl⟩
  obtain ⟨m, hm⟩ : ∃ m, m = ys.length := ⟨_, rfl⟩
  have HN := hid hn
  have HM := hid hm
  have hn1 : n ≤ 100000 := by omega
  have hm1 : m ≤ 100000 := by omega
  rw [← hn, ← hm]
  clear h1 h2 hl1 hl2 hn hm
  go_enter Try.func46, Try.ntmps46
  go_wp2_with fail
  go_loopw [5, 12] (fun v i wr => ∃ (k : Nat), k ≤ n ∧ i = .int .i64 k ∧ wr.ownsRow w.heap.size 3 1 v k ((xs.take k).map (Value.int .i64)) ∧ w.heap.size ≤ wr.heap.size ∧ Below w.heap.size w wr)
    (fun _ i _ => n - (intOf i).toNat)
  case atStart => exact ⟨0, by omega, rfl, World.ownsRow_nil _ _ _ _, Nat.le_refl _, Below.refl _ _⟩
  case round =>
    obtain ⟨k, hk, rfl, hown, hsz, hbr⟩ := hrel
    by_cases hlt : k < n
    · have k1 : k < xs.length := by rw [← HN.out]; exact hlt
      obtain ⟨g1, o1, rfl, hg1, hc1⟩ := H1.out (by omega)
      obtain ⟨x, hx⟩ : ∃ x, x = xs.getD k 0 := ⟨_, rfl⟩
      have q1 := (hbr.cell (p := ⟨g1, o1 + k, none⟩) hg1).trans (hc1 k k1)
      rw [← hx] at q1
      have HT := hid (lst_take_snoc xs k k1)
      rw [← hx] at HT
      clear hx hc1 k1
      obtain ⟨i0, hi, hz0, hz1, hz2⟩ := info_parts infoInt
      go_wp2_with (at_builtin; refine wpList_append_own_at _ rfl _ _ 22 rfl w.heap.size 3 i0 (.int .i64 0) 1 8 Try.underlying22 hi hz0 hz1 hz2 rfl (by decide) _ _ _ rfl (hown.alloc _) ⟨wr.heap.size, 0, none⟩ 1 1 [.int .i64 x] rfl rfl ?c1 ?c2 ?c3 ?c4 ?c5 ?_)
      case c1 => exact cell_one_new _ _ _
      case c2 => intro u hu; simp at hu; subst hu; rfl
      case c3 => unfold maxLen; omega
      case c4 => omega
      case c5 => simp; omega
      intro v' w6 hown6 hgrow _ _
      have hown7 : w6.ownsRow w.heap.size 3 1 v' (k + 1) ((xs.take (k + 1)).map (Value.int .i64)) := by
        rw [HT.out]; simpa using hown6
      have hlt6 := hown.lt
      have hb6 : Below w.heap.size w w6 := (hbr.alloc hsz _).grown hgrow (by simp; omega) (fun q hq => (hlt6 q hq).1)
      have hs6 := hgrow.size
      simp only [World.size_alloc] at hs6
      clear hown6 hgrow hown hlt6 hi hz0 hz1 hz2 q1 hg1
      go_wp2
      go_roundw
      case rel => exact ⟨k + 1, by omega, by go_num, hown7, by omega, hb6⟩
      case measure => simp [intOf]; omega
    · obtain rfl : k = n := by omega
      have e0 : xs.take k = xs := List.take_of_length_le (by rw [← HN.out]; exact Nat.le_refl _)
      rw [e0] at hown
      obtain ⟨ws, hws⟩ : ∃ ws, ws = wr := ⟨_, rfl⟩
      rw [← hws] at hown hsz hbr
      rw [← hws]
      clear hws e0
      go_wp2_with fail
      go_loopw [5, 23] (fun v i wr => ∃ (j : Nat), j ≤ m ∧ i = .int .i64 j ∧ wr.ownsRow w.heap.size 3 1 v (k + j) ((xs ++ ys.take j).map (Value.int .i64)) ∧ w.heap.size ≤ wr.heap.size ∧ Below w.heap.size w wr)
        (fun _ i _ => m - (intOf i).toNat)
      case atStart => exact ⟨0, by omega, rfl, by simpa using hown, hsz, hbr⟩
      case round =>
        clear hown hsz hbr
        obtain ⟨j, hj, rfl, hown, hsz, hbr⟩ := hrel
        by_cases hlt : j < m
        · have k1 : j < ys.length := by rw [← HM.out]; exact hlt
          obtain ⟨g1, o1, rfl, hg1, hc1⟩ := H2.out (by omega)
          obtain ⟨x, hx⟩ : ∃ x, x = ys.getD j 0 := ⟨_, rfl⟩
          have q1 := (hbr.cell (p := ⟨g1, o1 + j, none⟩) hg1).trans (hc1 j k1)
          rw [← hx] at q1
          have HT := hid (lst_take_snoc ys j k1)
          rw [← hx] at HT
          clear hx hc1 k1
          obtain ⟨i0, hi, hz0, hz1, hz2⟩ := info_parts infoInt
          go_wp2_with (at_builtin; refine wpList_append_own_at _ rfl _ _ 22 rfl w.heap.size 3 i0 (.int .i64 0) 1 8 Try.underlying22 hi hz0 hz1 hz2 rfl (by decide) _ _ _ rfl (hown.alloc _) ⟨_, 0, none⟩ 1 1 [.int .i64 x] rfl rfl ?c1 ?c2 ?c3 ?c4 ?c5 ?_)
          case c1 => exact cell_one_new _ _ _
          case c2 => intro u hu; simp at hu; subst hu; rfl
          case c3 => unfold maxLen; omega
          case c4 => omega
          case c5 => simp; omega
          intro v' w6 hown6 hgrow _ _
          have hown7 : w6.ownsRow w.heap.size 3 1 v' (k + (j + 1)) ((xs ++ ys.take (j + 1)).map (Value.int .i64)) := by
            rw [HT.out, ← Nat.add_assoc]; simpa using hown6
          have hlt6 := hown.lt
          have hb6 : Below w.heap.size w w6 := (hbr.alloc hsz _).grown hgrow (by simp; omega) (fun q hq => (hlt6 q hq).1)
          have hs6 := hgrow.size
          simp only [World.size_alloc] at hs6
          clear hown6 hgrow hown hlt6 hi hz0 hz1 hz2 q1 hg1
          go_wp2
          go_roundw
          case rel => exact ⟨j + 1, by omega, by go_num, hown7, by omega, hb6⟩
          case measure => simp [intOf]; omega
        · obtain rfl : j = m := by omega
          have e0 : ys.take j = ys := List.take_of_length_le (by rw [← HM.out]; exact Nat.le_refl _)
          rw [e0] at hown
          have FIN := hid (clone_fin hown (by rw [List.length_append, HN.out, HM.out]) hbr)
          clear hown e0
          go_wp2
          go_ret
          exact FIN.out

theorem ownsRow_slice {w : World} {base : Nat} {e : TypeId} {size : Nat} {v : Value} {n : Nat} {xs : List Value} (h : w.ownsRow base e size v n xs) : ∃ a c, v = .slice a n c := by
  obtain ⟨h0, ⟨h1, h2⟩ | ⟨g, cap, cur, h1, _⟩⟩ := h
  · exact ⟨none, 0, by rw [h1, h2]⟩
  · exact ⟨_, _, h1⟩
/-- What the document's Take hands back: the first k numbers, in new memory, and what is left of the very slice. -/
def RTake (v : Value) (xs : List Int) (k : Nat) (w : World) (e : Ending) (w' : World) : Prop :=
  ∃ v1 v2, e = .returned (.tuple #[v1, v2]) ∧ Owns w' w.heap.size v1 (xs.take k) ∧ (∀ W, Reads W v xs → Reads W v2 (xs.drop k)) ∧ (∀ g o n c, v2 = .slice (some ⟨g, o, none⟩) n c → 0 < (xs.drop k).length → ∃ o' n' c', v = .slice (some ⟨g, o', none⟩) n' c') ∧ Below w.heap.size w w'

set_option maxHeartbeats 4000000 in
theorem rtake_any (v : Value) (xs : List Int) (N : Int) (K : Nat) (hK : (K : Int) = min (max N 0) xs.length) (w : World) (h1 : Reads w v xs) (hl : xs.length ≤ 100000) :
    Calls Try.prog 47 #[v, .int .i64 N] w (RTake v xs K w) := by
  obtain ⟨a1, cp, rfl, hc, h1⟩ := h1
  obtain ⟨n, hn⟩ : ∃ n, n = xs.length := ⟨_, rfl⟩
  have H1 := hid h1
  have HN := hid hn
  rw [← hn] at hl hK hc ⊢
  rcases Nat.eq_zero_or_pos n with h0 | h0
  · subst h0
    have hK0 : K = 0 := by omega
    have hx : xs = [] := List.length_eq_zero_iff.1 hn.symm
    subst hK0
    subst hx
    clear hn h1 hK H1 HN
    by_cases hN : 0 < N
    all_goals
      go_enter Try.func47, Try.ntmps47
      go_wp2_with fail
      go_loopw [0, 6] (fun l v wr => l = .slice a1 0 cp ∧ v = .slice none 0 0 ∧ wr = w) (fun _ _ _ => 0)
      case atStart => exact ⟨rfl, rfl, rfl⟩
      case round =>
        obtain ⟨rfl, rfl, rfl⟩ := hrel
        go_wp2
        go_ret2
        exact ⟨_, _, rfl, ⟨by simp, .inl ⟨rfl, rfl⟩⟩, fun W h => h, fun _ _ _ _ _ h => absurd h (by simp), Below.refl _ _⟩
  · obtain ⟨g, o, rfl, hg, hc1⟩ := h1 (by omega)
    have HC1 := hid hc1
    have hcm := hc.2.1
    unfold maxLen at hcm
    have hnc := hc.1
    have hKn : K ≤ n := by omega
    have HK := hid hK
    have hcm2 := hcm
    clear h1 hn hc1 hc H1 hK
    go_enter Try.func47, Try.ntmps47
    go_wp2_with fail
    go_loopw [0, 6] (fun l v wr => ∃ (k m c : Nat) (a : Option Addr), k ≤ K ∧ m + k = n ∧ m ≤ c ∧ c ≤ cp ∧ l = .slice a m c ∧ (∃ ad, a = some ad) ∧ Hid (0 < m → a = some ⟨g, o + k, none⟩) ∧ wr.ownsRow w.heap.size 3 1 v k ((xs.take k).map (Value.int .i64)) ∧ w.heap.size ≤ wr.heap.size ∧ Below w.heap.size w wr)
      (fun l _ _ => match l with | .slice _ m _ => m | _ => 0)
    case atStart => exact ⟨0, n, cp, _, by omega, by omega, hnc, Nat.le_refl _, rfl, ⟨_, rfl⟩, hid (fun _ => rfl), World.ownsRow_nil _ _ _ _, Nat.le_refl _, Below.refl _ _⟩
    case round =>
      obtain ⟨k, m, c, a, hk, hmk, hmc, hcc, rfl, had, HA, hown, hsz, hbr⟩ := hrel
      have HMK := hid hmk
      obtain ⟨va, vc, rfl⟩ := ownsRow_slice hown
      by_cases hlt : k < K
      · have hm0 : 0 < m := by have := HK.out; omega
        have hkN : (k : Int) < N := by have := HK.out; omega
        have hkn : k < n := by omega
        have hkb : k < 100000 := by omega
        obtain rfl := HA.out hm0
        obtain ⟨x, hx⟩ : ∃ x, x = xs.getD k 0 := ⟨_, rfl⟩
        have hkx : k < xs.length := by rw [← HN.out]; exact hkn
        have q1 := (hbr.cell (p := ⟨g, o + k, none⟩) hg).trans (HC1.out k hkx)
        rw [← hx] at q1
        have HT := hid (lst_take_snoc xs k hkx)
        rw [← hx] at HT
        have hcm3 : c ≤ 9223372036854775807 := by omega
        have hmb : m ≤ 100000 := by omega
        have B1 := hid (show k + 1 ≤ maxLen by unfold maxLen; omega)
        have B2 := hid (show (k + 1) * 8 ≤ 140737488355328 by omega)
        have B3 := hid (show w.heap.size ≤ (wr.alloc (.cells #[.int .i64 x] 3)).heap.size by simp; omega)
        clear hx hkx hmk had
        obtain ⟨i0, hi, hz0, hz1, hz2⟩ := info_parts infoInt
        by_cases hcap : c = 1
        · subst hcap
          have hm1 : m = 1 := by omega
          subst hm1
          go_wp2_with (at_builtin; refine wpList_append_own_at _ rfl _ _ 22 rfl w.heap.size 3 i0 (.int .i64 0) 1 8 Try.underlying22 hi hz0 hz1 hz2 rfl (by decide) _ _ _ rfl (hown.alloc _) ⟨wr.heap.size, 0, none⟩ 1 1 [.int .i64 x] rfl rfl (cell_one_new _ _ _) (ones_of [x]) B1.out B2.out B3.out ?_)
          intro v' w6 hown6 hgrow _ _
          have hown7 : w6.ownsRow w.heap.size 3 1 v' (k + 1) ((xs.take (k + 1)).map (Value.int .i64)) := by
            rw [HT.out]; simpa using hown6
          have hlt6 := hown.lt
          have hb6 : Below w.heap.size w w6 := (hbr.alloc hsz _).grown hgrow (by simp; omega) (fun q hq => (hlt6 q hq).1)
          have hs6 := hgrow.size
          simp only [World.size_alloc] at hs6
          clear hown6 hgrow hown hlt6 hi hz0 hz1 hz2 q1
          go_wp2
          go_roundw
          case rel => exact ⟨k + 1, 0, _, _, by omega, by have := HMK.out; omega, by omega, by omega, rfl, ⟨_, rfl⟩, hid (fun h => absurd h (by omega)), hown7, by omega, hb6⟩
          case measure => simp
        · have hc1' : 1 < c := by omega
          clear hcap
          go_wp2_with (at_builtin; refine wpList_append_own_at _ rfl _ _ 22 rfl w.heap.size 3 i0 (.int .i64 0) 1 8 Try.underlying22 hi hz0 hz1 hz2 rfl (by decide) _ _ _ rfl (hown.alloc _) ⟨wr.heap.size, 0, none⟩ 1 1 [.int .i64 x] rfl rfl (cell_one_new _ _ _) (ones_of [x]) B1.out B2.out B3.out ?_)
          intro v' w6 hown6 hgrow _ _
          have hown7 : w6.ownsRow w.heap.size 3 1 v' (k + 1) ((xs.take (k + 1)).map (Value.int .i64)) := by
            rw [HT.out]; simpa using hown6
          have hlt6 := hown.lt
          have hb6 : Below w.heap.size w w6 := (hbr.alloc hsz _).grown hgrow (by simp; omega) (fun q hq => (hlt6 q hq).1)
          have hs6 := hgrow.size
          simp only [World.size_alloc] at hs6
          clear hown6 hgrow hown hlt6 hi hz0 hz1 hz2 q1
          go_wp2
          go_roundw
          case rel => exact ⟨k + 1, m - 1, c - 1, _, by omega, by have := HMK.out; omega, by omega, by omega, rfl, ⟨_, rfl⟩, hid (fun h => by rw [Nat.add_assoc]), hown7, by omega, hb6⟩
          case measure => simp; omega
      · obtain rfl : k = K := by omega
        have hown' : Owns wr w.heap.size (.slice va k vc) (xs.take k) := by
          unfold Owns
          rw [List.length_take, ← HN.out, Nat.min_eq_left hKn]
          exact hown
        have hfin : ∀ W, Reads W (.slice (some ⟨g, o, none⟩) n cp) xs → Reads W (.slice a m c) (xs.drop k) := by
          intro W hW
          obtain ⟨a', c', he, _, hrd⟩ := hW
          simp only [Value.slice.injEq] at he
          have hlen : (xs.drop k).length = m := by rw [List.length_drop, ← HN.out]; omega
          refine ⟨a, c, by rw [hlen], ⟨by rw [hlen]; omega, by unfold maxLen; omega, .inr had⟩, fun hpos => ?_⟩
          rw [hlen] at hpos
          obtain ⟨g', o', h2, h3, h4⟩ := hrd (by have := HN.out; omega)
          rw [← he.1] at h2
          simp only [Option.some.injEq, Addr.mk.injEq] at h2
          obtain ⟨rfl, rfl, _⟩ := h2
          refine ⟨g, o + k, HA.out hpos, h3, fun j hj => ?_⟩
          rw [hlen] at hj
          have := h4 (k + j) (by have := HN.out; omega)
          rw [Nat.add_assoc, this]
          simp [List.getD_eq_getElem?_getD]
        have HF := hid hfin
        have HG := hid (show ∀ g' o' n' c', Value.slice a m c = .slice (some ⟨g', o', none⟩) n' c' → 0 < (xs.drop k).length → ∃ o'' n'' c'', Value.slice (some ⟨g, o, none⟩) n cp = .slice (some ⟨g', o'', none⟩) n'' c'' from fun g' o' n' c' he h0 => by
          rw [List.length_drop, ← HN.out] at h0
          have := HA.out (by have := HMK.out; omega)
          simp only [Value.slice.injEq] at he
          rw [he.1] at this
          simp only [Option.some.injEq, Addr.mk.injEq] at this
          exact ⟨o, n, cp, by rw [this.1]⟩)
        have HO := hid hown'
        have hcase : ¬ (k : Int) < N ∨ ((k : Int) < N ∧ m = 0) := by have := HK.out; omega
        have hmb : m ≤ 100000 := by omega
        clear hfin hown' hown had HA hmk
        rcases hcase with h | ⟨h, rfl⟩
        all_goals
          go_wp2
          go_ret2
          exact ⟨_, _, rfl, HO.out, HF.out, HG.out, hbr⟩
end Go.Proofs.Ytpmggkngakdkhaa
