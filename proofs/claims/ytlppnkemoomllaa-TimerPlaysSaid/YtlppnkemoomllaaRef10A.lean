/- The document's timers by value: Has as a contract. -/
import Derived.Test.YtlppnkemoomllaaRdT
namespace Go.Proofs.Ytlppnkemoomllaa
set_option linter.unusedVariables false
set_option linter.unusedSimpArgs false
open Go.RowKit
/-- The document's row of timers, as a value. -/
structure Dt (w : World) (v : Value) (D : List Tr) : Prop where
  hd : RdT w v D
  ld : D.length ≤ 1000
theorem Dt.below {w w' : World} {v : Value} {D : List Tr} (h : Dt w v D) (hb : Below w.heap.size w w') : Dt w' v D := ⟨h.hd.below hb, h.ld⟩
theorem Dt.sl {w : World} {v : Value} {D : List Tr} (h : Dt w v D) : ∃ a n c, v = .slice a n c ∧ Hid (D.length = n) ∧ n ≤ 1000 := by
  obtain ⟨a, c, e, _⟩ := h.hd
  exact ⟨_, _, _, e, hid rfl, h.ld⟩
/-- Has a goroutine one? -/
def thasb (D : List Tr) (g : Int) : Bool := decide (g ∈ D.map fun x => x.2.2.2)
set_option maxHeartbeats 4000000 in
theorem rthas_any (w : World) (N o : Int) (v : Value) (D : List Tr) (h : Dt w v D) (g : Int) (r : Bool) (hr : thasb D g = r) :
    Calls Try.prog 16 #[.agg #[.int .i64 N, v, .int .u64 o], .int .i64 g] w fun e w' => e = .returned (.bool r) ∧ Below w.heap.size w w' := by
  subst hr
  obtain ⟨a, n, c, rfl, HN, lw⟩ := h.sl
  have H := hid (h.below ((Below.refl _ _).alloc (Nat.le_refl _) (.cells #[.int .i64 N, .slice a n c, .int .u64 o] 29)))
  have B := hid (show Below w.heap.size w (w.alloc (.cells #[.int .i64 N, .slice a n c, .int .u64 o] 29)) from (Below.refl _ _).alloc (Nat.le_refl _) _)
  clear h
  go_enter Try.func16, Try.ntmps16
  go_wp2_with fail
  obtain ⟨w0, hw0⟩ : ∃ w0, w0 = w.alloc (.cells #[.int .i64 N, .slice a n c, .int .u64 o] 29) := ⟨_, rfl⟩
  rw [← hw0] at H B ⊢
  have hs0 : w.heap.size ≤ w0.heap.size := B.out.size
  clear hw0
  go_loopw [10] (fun i wr => ∃ k : Nat, k ≤ n ∧ i = .int .i64 k ∧ Hid (thasb D g = thasb (D.drop k) g) ∧ Hid (Below w0.heap.size w0 wr)) (fun i _ => n - (intOf i).toNat)
  case atStart => exact ⟨0, by omega, rfl, hid (by simp), hid (Below.refl _ _)⟩
  case round =>
    obtain ⟨k, hk, rfl, F, BR⟩ := hrel
    by_cases hlt : k < n
    · obtain ⟨a', c', e, _, hh⟩ := (H.out.below BR.out).hd
      simp only [Value.slice.injEq] at e
      obtain ⟨rfl, e2, rfl⟩ := e
      clear e2
      obtain ⟨q, off, rfl, _, hc⟩ := hh (by have := HN.out; omega)
      obtain ⟨h0, h1, h2, h3⟩ := hc k (by have := HN.out; omega)
      have T := hid (t_drop (es := D) (k := k) (by have := HN.out; omega))
      generalize tAt D k = ev at *
      obtain ⟨x, y1, y2, y3⟩ := ev
      simp only at h0 h1 h2 h3
      have B2 := hid (BR.out.alloc BR.out.size (.cells #[.int .i64 x, .int .i64 y1, .int .u64 y2, .int .i64 y3] 65))
      have BF := hid (B.out.trans (B2.out.mono hs0))
      clear hh hc BR
      by_cases hxf : y3 = g
      · subst hxf
        have E := hid (show thasb D y3 = true by rw [F.out, T.out]; simp [thasb])
        clear F T
        go_wp2
        go_ret
        exact ⟨(show Ending.returned (.bool true) = _ by rw [E.out]), BF.out⟩
      · have hne : (y3 == g) = false := by simpa using hxf
        have F2 := hid (show thasb D g = thasb (D.drop (k + 1)) g by
          rw [F.out, T.out]
          have : ¬ g = y3 := fun e => hxf e.symm
          simp [thasb, this])
        clear F T hxf
        go_wp2_with fail
        go_roundw
        case rel => exact ⟨k + 1, by omega, by go_num, F2, B2⟩
        case measure => simp [intOf]; omega
    · obtain rfl : k = n := by omega
      have E := hid (show thasb D g = false by
        have := F.out
        rw [List.drop_eq_nil_of_le (by have := HN.out; omega)] at this
        exact this)
      have BF := hid (B.out.trans (BR.out.mono hs0))
      clear F
      go_wp2
      go_ret
      exact ⟨(show Ending.returned (.bool false) = _ by rw [E.out]), BF.out⟩
end Go.Proofs.Ytlppnkemoomllaa
