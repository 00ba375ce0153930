/- timer.Timers.Of: a processor's, sorted. -/
import Derived.Test.YtlppnkemoomllaaTimR
import Derived.Test.YtlppnkemoomllaaHeapSo
namespace Go.Proofs.Ytlppnkemoomllaa
set_option linter.unusedVariables false
set_option linter.unusedSimpArgs false
open Go.RowKit
variable {Z : Nat → Prop} {w w' : World} {t hb mb n c : Nat} {hp : Nat → Nat} {v : Nat → Value} {es : Nat → List En} {inn : Int → Bool} {k ad : Nat}
set_option maxHeartbeats 4000000 in
theorem tof (h : Tq Z w t hb mb n c hp v es inn k ad) (p : Nat) (hp' : p < n) : Calls Try.prog 19 #[.pointer (some ⟨t, 0, none⟩), .int .i64 p] w (Cl3 (sortE (es p)) w) := by
  have c0 : w.cell? ⟨t, 0, none⟩ = some (.slice (some ⟨hb, 0, none⟩) n c) := cell_ent h.box rfl
  have r0 := h.row.2 p hp'
  have SO := hid (hsorted w 0 (hp p) (v p) (es p) (h.he p hp'))
  obtain ⟨a, ha⟩ : ∃ a, a = hp p := ⟨_, rfl⟩
  rw [← ha] at r0 SO
  have d1 : decide ((p : Int) < 0) = false := decide_eq_false (by omega)
  clear h ha
  go_enter Try.func19, Try.ntmps19
  go_wp2_with fail
  refine (SO.out).mono ?_
  rintro e w2 ⟨v2, rfl, ho, hb2⟩
  have HO := hid ho
  have HB := hid hb2
  clear ho hb2 SO
  go_wp2
  go_ret
  exact ⟨_, rfl, HO.out, HB.out⟩
end Go.Proofs.Ytlppnkemoomllaa
