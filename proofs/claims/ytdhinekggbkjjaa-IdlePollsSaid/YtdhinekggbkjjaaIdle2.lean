/- More of package idle: a stop that is refused; a new one of 128 machines. -/
import Derived.Test.YtdhinekggbkjjaaLives13
namespace Go.Proofs.Ytdhinekggbkjjaa
set_option linter.unusedVariables false
set_option linter.unusedSimpArgs false
open Go.RowKit
set_option maxHeartbeats 2000000 in
theorem stop_no (x : Nat) (r : Option Nat) (N : Int) (ss : List Int) (pl m : Int) (w : World) (H : Idl w x r N ss pl) (h0 : 0 ≤ m) (h1 : m < N) (hs : m = pl ∨ (m ≠ pl ∧ hasB m ss = true)) (hl : ss.length ≤ 100000) :
    Calls Try.prog 7 #[.pointer (some ⟨x, 0, none⟩), .int .i64 m] w fun e w' => e = .returned (.tuple #[.bool false, .bool false]) ∧ Quiet w w' := by
  have c2 := H.c2
  have c4 := H.c4
  rcases hs with he | ⟨hne, hs⟩
  · have t : (m == pl) = true := beq_iff_eq.2 he
    clear H he
    go_enter Try.func7, Try.ntmps7
    go_wp2
    go_ret2
    exact ⟨rfl, Quiet.refl _⟩
  · obtain ⟨sv, c3, ho, _⟩ := H.c3
    have C := hid (contains_any sv ss m w ho.reads (by omega))
    rw [hs] at C
    obtain ⟨a, sm, c, rfl⟩ := ho.slice3
    have t : (m == pl) = false := beq_eq_false_iff_ne.2 hne
    clear H ho hs hne
    go_enter Try.func7, Try.ntmps7
    go_wp2_with fail
    refine C.out.mono ?_
    rintro e w2 ⟨rfl, hq2⟩
    go_wp2
    go_ret2
    exact ⟨rfl, hq2⟩
end Go.Proofs.Ytdhinekggbkjjaa
