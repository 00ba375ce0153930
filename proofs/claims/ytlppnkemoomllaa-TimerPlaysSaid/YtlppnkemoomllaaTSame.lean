/- hostlerlaw10.same: two rows that read alike. -/
import Derived.Test.YtlppnkemoomllaaRef09
import Derived.Deep.QuietTactic
import Derived.BigQuiet
namespace Go.Proofs.Ytlppnkemoomllaa
set_option linter.unusedVariables false
set_option linter.unusedSimpArgs false
open Go.RowKit

set_option maxHeartbeats 8000000 in
theorem same10_yes (v1 v2 : Value) (es : List (Int × Int × Int)) (w : World) (h1 : Rd3 w v1 es) (h2 : Rd3 w v2 es) (hl : es.length ≤ 1000) :
    Calls Try.prog 18 #[v1, v2] w fun e w' => e = .returned (.bool true) ∧ Quiet w w' := by
  obtain ⟨a1, c1, rfl, hc1, hm1, hr1⟩ := h1
  obtain ⟨a2, c2, rfl, hc2, hm2, hr2⟩ := h2
  obtain ⟨n, hn⟩ : ∃ n, n = es.length := ⟨_, rfl⟩
  have HN := hid hn
  have R1 := hid hr1
  have R2 := hid hr2
  rw [← hn] at hc1 hc2 hl ⊢
  unfold maxLen at hm1 hm2
  have nn : ((n : Int) != n) = false := by simp
  clear hr1 hr2 hn
  go_enter Try.func18, Try.ntmps18
  go_wp2_with fail
  go_loopw [13] (fun i wr => ∃ (k : Nat), k ≤ n ∧ i = .int .i64 k ∧ Hid (Quiet w wr))
    (fun i _ => n - (intOf i).toNat)
  case atStart => exact ⟨0, by omega, rfl, hid (Quiet.refl _)⟩
  case round =>
    obtain ⟨k, hk, rfl, HQ⟩ := hrel
    by_cases hlt : k < n
    · obtain ⟨g1, o1, rfl, hg1, d1⟩ := R1.out (by have := HN.out; omega)
      obtain ⟨g2, o2, rfl, hg2, d2⟩ := R2.out (by have := HN.out; omega)
      obtain ⟨p0, p1, p2⟩ := d1 k (by have := HN.out; omega)
      obtain ⟨q0, q1, q2⟩ := d2 k (by have := HN.out; omega)
      obtain ⟨x1, x2, x3, hx⟩ : ∃ x1 x2 x3, enAt es k = (x1, x2, x3) := ⟨_, _, _, rfl⟩
      rw [hx] at p0 p1 p2 q0 q1 q2
      have r0 := (HQ.out.cell ⟨g1, o1 + k * 3, none⟩).trans p0
      have r1 := (HQ.out.cell ⟨g1, o1 + k * 3 + 1, none⟩).trans p1
      have r2 := (HQ.out.cell ⟨g1, o1 + k * 3 + 2, none⟩).trans p2
      have s0 := (HQ.out.cell ⟨g2, o2 + k * 3, none⟩).trans q0
      have s1 := (HQ.out.cell ⟨g2, o2 + k * 3 + 1, none⟩).trans q1
      have s2 := (HQ.out.cell ⟨g2, o2 + k * 3 + 2, none⟩).trans q2
      have e1 : (x1 == x1) = true := by simp
      have e2 : (x2 == x2) = true := by simp
      have e3 : (x3 == x3) = true := by simp
      clear p0 p1 p2 q0 q1 q2 hx d1 d2 hg1 hg2
      go_wp2_with fail
      go_quiet (fail)
      go_wp2
      go_roundw
      case rel => exact ⟨k + 1, by omega, by go_num, hid (HQ.out.drewN _)⟩
      case measure => simp [intOf]; omega
    · go_wp2
      go_ret
      exact ⟨rfl, HQ.out⟩
end Go.Proofs.Ytlppnkemoomllaa
