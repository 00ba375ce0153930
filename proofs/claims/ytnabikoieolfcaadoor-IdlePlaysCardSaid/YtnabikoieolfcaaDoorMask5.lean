/- Masks: what stands while a law goes on. -/
import Derived.Test.YtnabikoieolfcaaDoorMask4
namespace Go.Proofs.YtnabikoieolfcaaDoor
set_option linter.unusedVariables false
set_option linter.unusedSimpArgs false
open Go.RowKit

/-- A mask of the call's own; the table; nothing else has changed. -/
structure MSt (w0 : World) (x y n : Nat) (W : List Nat) (w : World) : Prop where
  m : Msk w x y n W
  B : Below w0.heap.size w0 w
  T : DbTab w
  hx : w0.heap.size ≤ x
  hy : w0.heap.size ≤ y
  hg : 0 < w0.heap.size
namespace MSt
variable {w0 w : World} {x y n : Nat} {W : List Nat}
theorem put (h : MSt w0 x y n W w) {W' : List Nat} {w' : World} (hm : Msk w' x y n W') (ho : Only x y w w') : MSt w0 x y n W' w' :=
  ⟨hm, ho.low h.hx h.hy h.B h.B.size, h.T.eq (ho.block _ h.T.lt (by have := h.hx; have := h.hg; omega) (by have := h.hy; have := h.hg; omega)), h.hx, h.hy, h.hg⟩
theorem below (h : MSt w0 x y n W w) {w' : World} (hb : Below w.heap.size w w') : MSt w0 x y n W w' :=
  ⟨h.m.below hb h.m.sx h.m.sy, h.B.trans (hb.mono h.B.size), h.T.at hb, h.hx, h.hy, h.hg⟩
theorem quiet (h : MSt w0 x y n W w) {w' : World} (q : Quiet w w') : MSt w0 x y n W w' := h.below (q.below _)
end MSt
theorem mnew_st (n : Int) (m : Nat) (hm : (m : Int) = min (max n 0) 4096) (w0 w : World) (T : DbTab w0) (B : Below w0.heap.size w0 w) :
    Calls Tryd.prog 16 #[.int .i64 n] w fun e w' => ∃ x y W, e = .returned (.pointer (some ⟨x, 0, none⟩)) ∧ MSt w0 x y m W w' ∧ bitAt W = fun _ => false :=
  (mnew_any n m hm w).mono fun e w' ⟨he, h1, h2, h3⟩ => ⟨_, _, _, he, ⟨h1, B.trans (h2.mono B.size), T.at (B.trans (h2.mono B.size)), by have := B.size; omega, B.size, T.lt⟩, by funext i; exact bitAt_zero _ _⟩

/-- Put, whatever it is asked. -/
theorem put_any (x y n : Nat) (W : List Nat) (i : Int) (w : World) (hm : Msk w x y n W) :
    Calls Tryd.prog 34 #[.pointer (some ⟨x, 0, none⟩), .int .i64 i] w fun e w' => ∃ b W', e = .returned (.bool b) ∧ Msk w' x y n W' ∧ Only x y w w' := by
  by_cases h : i < 0 ∨ (n : Int) ≤ i
  · exact (put_out x y n W i w hm h).mono fun e w' ⟨he, hw⟩ => ⟨false, W, he, hw ▸ hm, hw ▸ Only.refl _ _ _⟩
  · obtain ⟨k, rfl⟩ : ∃ k : Nat, i = k := ⟨i.toNat, by omega⟩
    rcases hb : bitAt W k with _ | _
    · exact (put_yes x y n W k w hm (by omega) hb).mono fun e w' ⟨W', he, h1, _, h2⟩ => ⟨true, W', he, h1, h2⟩
    · exact (put_no x y n W k w hm (by omega) hb).mono fun e w' ⟨he, hq⟩ => ⟨false, W, he, hm.quiet hq, Only.of_quiet' hq⟩
end Go.Proofs.YtnabikoieolfcaaDoor
