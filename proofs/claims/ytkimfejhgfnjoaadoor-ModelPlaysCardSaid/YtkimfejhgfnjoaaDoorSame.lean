/- The contract of the document's Same: two rows of numbers. -/
import Derived.Test.YtkimfejhgfnjoaaDoorInts
import Derived.Test.YtkimfejhgfnjoaaDoorLists
namespace Go.Proofs.YtkimfejhgfnjoaaDoor
set_option linter.unusedVariables false
set_option linter.unusedSimpArgs false
open Go.RowKit

set_option maxHeartbeats 2000000 in
theorem same_any (v1 v2 : Value) (xs ys : List Int) (r : Bool) (hr : r = decide (xs = ys)) (w : World) (h1 : Reads w v1 xs) (h2 : Reads w v2 ys) (hl1 : xs.length ≤ 10000000) (hl2 : ys.length ≤ 10000000) :
    Calls Tryd.prog 14 #[v1, v2] w fun e w' => e = .returned (.bool r) ∧ Quiet w w' := by
  obtain ⟨a1, c1, rfl, _, h1⟩ := h1
  obtain ⟨a2, c2, rfl, _, h2⟩ := h2
  have HR := hid hr
  have H1 := hid h1
  have H2 := hid h2
  obtain ⟨n, hn⟩ : ∃ n, n = xs.length := ⟨_, rfl⟩
  obtain ⟨m, hm⟩ : ∃ m, m = ys.length := ⟨_, rfl⟩
  have HN := hid hn
  have HM := hid hm
  have hn1 : n ≤ 10000000 := by omega
  have hm1 : m ≤ 10000000 := by omega
  rw [← hn, ← hm]
  clear hr h1 h2 hl1 hl2 hn hm
  by_cases hlen : n = m
  · subst hlen
    go_enter Tryd.func14, Tryd.ntmps14
    go_wp2_with fail
    go_loopw [13] (fun i wr => ∃ (k : Nat), k ≤ n ∧ i = .int .i64 k ∧ Quiet w wr ∧ Hid (xs.take k = ys.take k)) (fun i _ => n - (intOf i).toNat)
    case atStart => exact ⟨0, Nat.zero_le _, rfl, Quiet.refl _, by simp [Hid]⟩
    case round =>
      obtain ⟨k, hk, rfl, hq, ht⟩ := hrel
      by_cases hlt : k < n
      · have k1 : k < xs.length := by rw [← HN.out]; exact hlt
        have k2 : k < ys.length := by rw [← HM.out]; exact hlt
        obtain ⟨g1, o1, rfl, _, hc1⟩ := H1.out (by omega)
        obtain ⟨g2, o2, rfl, _, hc2⟩ := H2.out (by omega)
        obtain ⟨x, hx⟩ : ∃ x, x = xs.getD k 0 := ⟨_, rfl⟩
        obtain ⟨y, hy⟩ : ∃ y, y = ys.getD k 0 := ⟨_, rfl⟩
        have q1 := (hq.cell ⟨g1, o1 + k, none⟩).trans (hc1 k k1)
        have q2 := (hq.cell ⟨g2, o2 + k, none⟩).trans (hc2 k k2)
        rw [← hx] at q1
        rw [← hy] at q2
        have HX := hid hx
        have HY := hid hy
        have K1 := hid k1
        have K2 := hid k2
        clear hx hy hc1 hc2 k1 k2
        by_cases hxy : x = y
        · have exy : (x != y) = false := by simpa using hxy
          have HXY := hid hxy
          clear hxy
          go_wp2_with fail
          go_quiet (fail)
          all_goals
            go_wp2
            go_roundw
            case rel => exact ⟨k + 1, by omega, by go_num, hq.drewN _, hid (lst_take_succ ht.out K1.out K2.out (HX.out ▸ HY.out ▸ HXY.out))⟩
            case measure => simp [intOf]; omega
        · have exy : (x != y) = true := by simpa using hxy
          have HXY := hid hxy
          clear hxy
          go_wp2_with fail
          go_quiet (fail)
          all_goals
            go_wp2
            go_ret
            exact ⟨retB (by rw [HR.out]; exact lst_ne (by rw [← HX.out, ← HY.out]; exact HXY.out)), hq.drewN _⟩
      · go_wp2
        go_ret
        exact ⟨retB (by rw [HR.out]; exact decide_eq_true (lst_eq (k := k) (by have := HN.out; omega) (by have := HM.out; omega) ht.out)), hq⟩
  · have t : ((n : Int) != (m : Int)) = true := by simp; omega
    have HNE := hid hlen
    clear hlen
    go_enter Tryd.func14, Tryd.ntmps14
    go_wp2
    go_ret
    exact ⟨retB (by rw [HR.out]; exact decide_eq_false (fun h => HNE.out (by rw [HN.out, HM.out, h]))), Quiet.refl _⟩
end Go.Proofs.YtkimfejhgfnjoaaDoor
