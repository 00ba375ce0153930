/- glyph.mark; strconv.ParseInt of any text, at base 10 and 64 bits. -/
import Derived.Test.YtnaphgjkkagpoaaDoorGlyN
namespace Go.Proofs.YtnaphgjkkagpoaaDoor
set_option linter.unusedVariables false
set_option linter.unusedSimpArgs false
set_option maxRecDepth 20000
open Go.RowKit

def trimB (s p : ByteArray) : ByteArray := ⟨(Lib.trimPrefix s.data.toList p.data.toList).toArray⟩
def hasB (s p : ByteArray) : Bool := Lib.hasPrefix s.data.toList p.data.toList
theorem cutp_any (s p : ByteArray) (w : World) : Calls Tryd.prog 55 #[.string s, .string p] w fun e w' => e = .returned (.tuple #[.string (trimB s p), .bool (hasB s p)]) ∧ w' = w :=
  Any.strings_CutPrefix Tryd.laysCut s p w
set_option maxHeartbeats 4000000 in
theorem mark_any (b : Nat) (s p : ByteArray) (w : World) (h : w.cell? ⟨b, 0, none⟩ = some (.string s)) (hf : w.frozen? ⟨b, 0, none⟩ = false) :
    Calls Tryd.prog 41 #[.pointer (some ⟨b, 0, none⟩), .string p] w fun e w' => e = .returned (.bool (hasB s p)) ∧ w' = w.setCell ⟨b, 0, none⟩ (.string (trimB s p)) := by
  have CP := hid (cutp_any s p w)
  generalize trimB s p = t at *
  generalize hasB s p = q at *
  go_enter Tryd.func41, Tryd.ntmps41
  go_wp2_with fail
  refine CP.out.mono ?_
  rintro e w1 ⟨rfl, rfl⟩
  go_wp2
  go_ret
  exact ⟨rfl, rfl⟩
theorem pint_any (t : ByteArray) (hl : t.size ≤ 281474976710656) (w : World) (S : ErrSy w) (R : ErrRa w) :
    Calls Tryd.prog 42 #[.string t, .int .i64 10, .int .i64 64] w fun e w' => ∃ v er, e = .returned (.tuple #[.int .i64 v, er]) ∧ ((-9223372036854775808 ≤ v ∧ v ≤ 9223372036854775807) ∧ ∀ u : Int, -9223372036854775808 ≤ u → u ≤ 9223372036854775807 → t.data.toList = Lib.itoa u → v = u) ∧ Below w.heap.size w w' := by
  rcases h : Lib.parseIntB 64 t.data.toList with v | _ | _
  · refine (Any.strconv_ParseInt_10_at64_ok Tryd.laysPint t (by omega) v h w).mono fun e w' ⟨h1, h2⟩ => ⟨v, _, h1, ⟨Gw.pint_rng h, fun u u0 u1 e => ?_⟩, ?_⟩
    · rw [e, Gw.pint_itoa u u0 u1] at h
      simpa using h.symm
    · rcases h2 with rfl | ⟨u, rfl⟩
      · exact Below.refl _ _
      · exact bytes_below w _ u
  · obtain ⟨u, y, hc⟩ := S
    refine (Any.strconv_ParseInt_10_at64_syntax Tryd.laysPint t hl h (.iface u y) w hc (.inr ⟨u, y, rfl⟩)).mono fun e w' ⟨N, h1, _, _, h4⟩ => ⟨0, _, h1, ⟨by omega, fun u u0 u1 e => ?_⟩, h4⟩
    rw [e, Gw.pint_itoa u u0 u1] at h
    cases h
  · obtain ⟨u, y, hc⟩ := R
    refine (Any.strconv_ParseInt_10_at64_range Tryd.laysPint t hl h (.iface u y) w hc (.inr ⟨u, y, rfl⟩)).mono fun e w' ⟨N, h1, _, _, h4⟩ => ⟨_, _, h1, ⟨Gw.psat_rng _, fun u u0 u1 e => ?_⟩, h4⟩
    rw [e, Gw.pint_itoa u u0 u1] at h
    cases h
end Go.Proofs.YtnaphgjkkagpoaaDoor
