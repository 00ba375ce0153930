/- The document's poll by value: Is, Who, Has, Len, full as contracts. -/
import Derived.Test.YtaogpodncphpjaaRdW
import Derived.Test.YtaogpodncphpjaaIntsP
import Derived.Test.YtaogpodncphpjaaRef11P
namespace Go.Proofs.Ytaogpodncphpjaa
set_option linter.unusedVariables false
set_option linter.unusedSimpArgs false
open Go.RowKit
/-- The document's poll, as a value. -/
structure Dp (w : World) (vW vS : Value) (V : List (Int × Int)) (S : List Int) : Prop where
  hw : RdW w vW V
  hs : Reads w vS S
  lw : V.length ≤ 1000
  ls : S.length ≤ 1000
theorem Dp.below {w w' : World} {vW vS : Value} {V : List (Int × Int)} {S : List Int} (h : Dp w vW vS V S) (hb : Below w.heap.size w w') : Dp w' vW vS V S := ⟨h.hw.below hb, h.hs.of_below hb, h.lw, h.ls⟩
theorem Dp.sl {w : World} {vW vS : Value} {V : List (Int × Int)} {S : List Int} (h : Dp w vW vS V S) : ∃ aW nW cW aS nS cS, vW = .slice aW nW cW ∧ vS = .slice aS nS cS ∧ Hid (V.length = nW) ∧ Hid (S.length = nS) ∧ nW ≤ 1000 ∧ nS ≤ 1000 := by
  obtain ⟨a, c, e, _⟩ := h.hw
  obtain ⟨a', c', e', _⟩ := h.hs
  exact ⟨_, _, _, _, _, _, e, e', hid rfl, hid rfl, h.lw, h.ls⟩
theorem mem_take_succ {S : List Int} {k : Nat} (h : k < S.length) (fd : Int) : decide (fd ∈ S.take (k + 1)) = (decide (fd ∈ S.take k) || decide (S.getD k 0 = fd)) := by
  rw [List.take_add_one, List.getElem?_eq_getElem h]
  simp only [Option.toList_some, List.mem_append, List.mem_singleton, Bool.decide_or, List.getD_eq_getElem?_getD, List.getElem?_eq_getElem h, Option.getD_some]
  congr 1
  rw [Bool.eq_iff_iff]; simp [eq_comm]
set_option maxHeartbeats 4000000 in
theorem ris (w : World) (vW vS : Value) (V : List (Int × Int)) (S : List Int) (h : Dp w vW vS V S) (fd : Int) (r : Bool) (hr : decide (fd ∈ S) = r) :
    Calls Try.prog 56 #[.agg #[vW, vS], .int .i64 fd] w fun e w' => e = .returned (.bool r) ∧ Below w.heap.size w w' := by
  subst hr
  obtain ⟨aW, nW, cW, aS, nS, cS, rfl, rfl, _, HN, lw, ls⟩ := h.sl
  have H := hid (h.below ((Below.refl _ _).alloc (Nat.le_refl _) (.cells #[.slice aW nW cW, .slice aS nS cS] 33)))
  have B := hid (show Below w.heap.size w (w.alloc (.cells #[.slice aW nW cW, .slice aS nS cS] 33)) from (Below.refl _ _).alloc (Nat.le_refl _) _)
  clear h
  go_enter Try.func56, Try.ntmps56
  go_wp2_with fail
  go_loopw [10] (fun i wr => ∃ k : Nat, k ≤ nS ∧ i = .int .i64 k ∧ Hid (decide (fd ∈ S.take k) = false) ∧ wr = w.alloc (.cells #[.slice aW nW cW, .slice aS nS cS] 33)) (fun i _ => nS - (intOf i).toNat)
  case atStart => exact ⟨0, by omega, rfl, hid (by simp), rfl⟩
  case round =>
    obtain ⟨k, hk, rfl, F, rfl⟩ := hrel
    by_cases hlt : k < nS
    · obtain ⟨a, c, e, _, hh⟩ := H.out.hs
      simp only [Value.slice.injEq] at e
      obtain ⟨rfl, e2, rfl⟩ := e
      clear e2
      obtain ⟨g, off, rfl, _, hc⟩ := hh (by have := HN.out; omega)
      have h0 := hc k (by have := HN.out; omega)
      have T := hid (mem_take_succ (S := S) (k := k) (by have := HN.out; omega) fd)
      obtain ⟨x, hx⟩ : ∃ x, x = S.getD k 0 := ⟨_, rfl⟩
      rw [← hx] at h0 T
      have XM := hid (show x ∈ S by rw [hx, List.getD_eq_getElem?_getD, List.getElem?_eq_getElem (show k < S.length by have := HN.out; omega)]; exact List.getElem_mem _)
      clear hh hc hx
      by_cases hxf : x = fd
      · subst hxf
        have E := hid (show decide (x ∈ S) = true from decide_eq_true XM.out)
        clear F T XM
        go_wp2
        go_ret
        exact ⟨(show Ending.returned (.bool true) = _ by rw [E.out]), B.out⟩
      · have hne : (x == fd) = false := by simpa using hxf
        have F2 := hid (show decide (fd ∈ S.take (k + 1)) = false by rw [T.out, F.out, decide_eq_false hxf]; rfl)
        clear F T XM hxf
        go_wp2_with fail
        go_roundw
        case rel => exact ⟨k + 1, by omega, by go_num, F2, trivial⟩
        case measure => simp [intOf]; omega
    · obtain rfl : k = nS := by omega
      have E := hid (show decide (fd ∈ S) = false by
        have := F.out
        rwa [List.take_of_length_le (by have := HN.out; omega)] at this)
      clear F
      go_wp2
      go_ret
      exact ⟨(show Ending.returned (.bool false) = _ by rw [E.out]), B.out⟩
set_option maxHeartbeats 4000000 in
theorem rwho_any (w : World) (vW vS : Value) (V : List (Int × Int)) (S : List Int) (h : Dp w vW vS V S) (fd : Int) (y : Int) (hy : rwho V fd = y) :
    Calls Try.prog 61 #[.agg #[vW, vS], .int .i64 fd] w fun e w' => e = .returned (.int .i64 y) ∧ Below w.heap.size w w' := by
  subst hy
  obtain ⟨aW, nW, cW, aS, nS, cS, rfl, rfl, HN, _, lw, ls⟩ := h.sl
  have H := hid (h.below ((Below.refl _ _).alloc (Nat.le_refl _) (.cells #[.slice aW nW cW, .slice aS nS cS] 33)))
  have B := hid (show Below w.heap.size w (w.alloc (.cells #[.slice aW nW cW, .slice aS nS cS] 33)) from (Below.refl _ _).alloc (Nat.le_refl _) _)
  clear h
  go_enter Try.func61, Try.ntmps61
  go_wp2_with fail
  obtain ⟨w0, hw0⟩ : ∃ w0, w0 = w.alloc (.cells #[.slice aW nW cW, .slice aS nS cS] 33) := ⟨_, rfl⟩
  rw [← hw0] at H B ⊢
  have hs0 : w.heap.size ≤ w0.heap.size := B.out.size
  clear hw0
  go_loopw [10] (fun i wr => ∃ k : Nat, k ≤ nW ∧ i = .int .i64 k ∧ Hid (rwho V fd = rwho (V.drop k) fd) ∧ Hid (Below w0.heap.size w0 wr)) (fun i _ => nW - (intOf i).toNat)
  case atStart => exact ⟨0, by omega, rfl, hid (by simp), hid (Below.refl _ _)⟩
  case round =>
    obtain ⟨k, hk, rfl, F, BR⟩ := hrel
    by_cases hlt : k < nW
    · obtain ⟨a, c, e, _, hh⟩ := (H.out.below BR.out).hw
      simp only [Value.slice.injEq] at e
      obtain ⟨rfl, e2, rfl⟩ := e
      clear e2
      obtain ⟨g, off, rfl, _, hc⟩ := hh (by have := HN.out; omega)
      obtain ⟨h0, h1⟩ := hc k (by have := HN.out; omega)
      have T := hid (w_drop (es := V) (k := k) (by have := HN.out; omega))
      generalize wAt V k = ev at *
      obtain ⟨x, y⟩ := ev
      simp only at h0 h1
      have B2 := hid (BR.out.alloc BR.out.size (.cells #[.int .i64 x, .int .i64 y] 121))
      have BF := hid (B.out.trans (B2.out.mono hs0))
      clear hh hc BR
      by_cases hxf : x = fd
      · subst hxf
        have E := hid (show rwho V x = y by rw [F.out, T.out]; simp [rwho])
        clear F T
        go_wp2
        go_ret
        exact ⟨(show Ending.returned (.int .i64 y) = _ by rw [E.out]), BF.out⟩
      · have hne : (x == fd) = false := by simpa using hxf
        have F2 := hid (show rwho V fd = rwho (V.drop (k + 1)) fd by rw [F.out, T.out]; simp [rwho, hxf])
        clear F T hxf
        go_wp2_with fail
        go_roundw
        case rel => exact ⟨k + 1, by omega, by go_num, F2, B2⟩
        case measure => simp [intOf]; omega
    · obtain rfl : k = nW := by omega
      have E := hid (show rwho V fd = -1 by
        have := F.out
        rw [List.drop_eq_nil_of_le (by have := HN.out; omega)] at this
        exact this)
      have BF := hid (B.out.trans (BR.out.mono hs0))
      clear F
      go_wp2
      go_ret
      exact ⟨(show Ending.returned (.int .i64 (-1)) = _ by rw [E.out]), BF.out⟩
def rhasb (V : List (Int × Int)) (g : Int) : Bool := decide (g ∈ V.map Prod.snd)
set_option maxHeartbeats 4000000 in
theorem rhas_any (w : World) (vW vS : Value) (V : List (Int × Int)) (S : List Int) (h : Dp w vW vS V S) (fd : Int) (r : Bool) (hr : rhasb V fd = r) :
    Calls Try.prog 39 #[.agg #[vW, vS], .int .i64 fd] w fun e w' => e = .returned (.bool r) ∧ Below w.heap.size w w' := by
  subst hr
  obtain ⟨aW, nW, cW, aS, nS, cS, rfl, rfl, HN, _, lw, ls⟩ := h.sl
  have H := hid (h.below ((Below.refl _ _).alloc (Nat.le_refl _) (.cells #[.slice aW nW cW, .slice aS nS cS] 33)))
  have B := hid (show Below w.heap.size w (w.alloc (.cells #[.slice aW nW cW, .slice aS nS cS] 33)) from (Below.refl _ _).alloc (Nat.le_refl _) _)
  clear h
  go_enter Try.func39, Try.ntmps39
  go_wp2_with fail
  obtain ⟨w0, hw0⟩ : ∃ w0, w0 = w.alloc (.cells #[.slice aW nW cW, .slice aS nS cS] 33) := ⟨_, rfl⟩
  rw [← hw0] at H B ⊢
  have hs0 : w.heap.size ≤ w0.heap.size := B.out.size
  clear hw0
  go_loopw [10] (fun i wr => ∃ k : Nat, k ≤ nW ∧ i = .int .i64 k ∧ Hid (rhasb V fd = rhasb (V.drop k) fd) ∧ Hid (Below w0.heap.size w0 wr)) (fun i _ => nW - (intOf i).toNat)
  case atStart => exact ⟨0, by omega, rfl, hid (by simp), hid (Below.refl _ _)⟩
  case round =>
    obtain ⟨k, hk, rfl, F, BR⟩ := hrel
    by_cases hlt : k < nW
    · obtain ⟨a, c, e, _, hh⟩ := (H.out.below BR.out).hw
      simp only [Value.slice.injEq] at e
      obtain ⟨rfl, e2, rfl⟩ := e
      clear e2
      obtain ⟨g, off, rfl, _, hc⟩ := hh (by have := HN.out; omega)
      obtain ⟨h0, h1⟩ := hc k (by have := HN.out; omega)
      have T := hid (w_drop (es := V) (k := k) (by have := HN.out; omega))
      generalize wAt V k = ev at *
      obtain ⟨x, y⟩ := ev
      simp only at h0 h1
      have B2 := hid (BR.out.alloc BR.out.size (.cells #[.int .i64 x, .int .i64 y] 121))
      have BF := hid (B.out.trans (B2.out.mono hs0))
      clear hh hc BR
      by_cases hxf : y = fd
      · subst hxf
        have E := hid (show rhasb V y = true by rw [F.out, T.out]; simp [rhasb])
        clear F T
        go_wp2
        go_ret
        exact ⟨(show Ending.returned (.bool true) = _ by rw [E.out]), BF.out⟩
      · have hne : (y == fd) = false := by simpa using hxf
        have F2 := hid (show rhasb V fd = rhasb (V.drop (k + 1)) fd by
          rw [F.out, T.out]
          have : ¬ fd = y := fun e => hxf e.symm
          simp [rhasb, this])
        clear F T hxf
        go_wp2_with fail
        go_roundw
        case rel => exact ⟨k + 1, by omega, by go_num, F2, B2⟩
        case measure => simp [intOf]; omega
    · obtain rfl : k = nW := by omega
      have E := hid (show rhasb V fd = false by
        have := F.out
        rw [List.drop_eq_nil_of_le (by have := HN.out; omega)] at this
        exact this)
      have BF := hid (B.out.trans (BR.out.mono hs0))
      clear F
      go_wp2
      go_ret
      exact ⟨(show Ending.returned (.bool false) = _ by rw [E.out]), BF.out⟩
end Go.Proofs.Ytaogpodncphpjaa
