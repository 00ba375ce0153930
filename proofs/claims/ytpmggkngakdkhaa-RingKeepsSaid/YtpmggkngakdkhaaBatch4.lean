/- Batches that are apart; the contract of Batch.Front for any row. -/
import Derived.Test.YtpmggkngakdkhaaFront2
namespace Go.Proofs.Ytpmggkngakdkhaa
set_option linter.unusedVariables false
set_option linter.unusedSimpArgs false
open Go.RowKit

/-- Two batches that share no block. -/
structure Sep (p : Nat) (r : Option Nat) (q : Nat) (s : Option Nat) : Prop where
  ne : p ≠ q
  rq : r ≠ some q
  sp : s ≠ some p
  rs : ∀ k, r = some k → s ≠ some k
theorem Sep.symm {p q : Nat} {r s : Option Nat} (h : Sep p r q s) : Sep q s p r := ⟨h.ne.symm, h.sp, h.rq, fun k hk e => h.rs k e hk⟩
theorem Sep.fresh {w : World} {p q : Nat} {r s : Option Nat} {xs : List Int} (h : Bat w p r xs) (hq : w.heap.size ≤ q) (hs : ∀ k, s = some k → w.heap.size ≤ k) : Sep p r q s :=
  ⟨by have := h.lt; omega, fun e => by have := h.rlt _ e; omega, fun e => by have := h.lt; have := hs _ e; omega, fun k hk e => by have := h.rlt _ hk; have := hs _ e; omega⟩
theorem Sep.left {w : World} {p q : Nat} {r r' s : Option Nat} {ys : List Int} (h : Sep p r q s) (hb : Bat w q s ys) (hr : r' = r ∨ ∀ k, r' = some k → w.heap.size ≤ k) : Sep p r' q s := by
  rcases hr with rfl | hr
  · exact h
  · exact ⟨h.ne, fun e => by have := hr _ e; have := hb.lt; omega, h.sp, fun k hk e => by have := hr _ hk; have := hb.rlt _ e; omega⟩
theorem Bat.keep {w w' : World} {p q : Nat} {r s : Option Nat} {xs : List Int} (h : Bat w p r xs) (hs : Sep p r q s) (ho : OnlyO q s w w') : Bat w' p r xs :=
  h.other ho hs.ne (fun e => hs.sp e.symm) (fun k hk => ⟨fun e => hs.rq (by rw [hk, e]), fun e => hs.rs k hk e.symm⟩)
theorem fresh_ge' {B : Nat} {w : World} {r r2 : Option Nat} (h : ∀ k, r = some k → B ≤ k) (hr : r2 = r ∨ ∀ k, r2 = some k → w.heap.size ≤ k) (hB : B ≤ w.heap.size) : ∀ k, r2 = some k → B ≤ k := by
  rcases hr with rfl | hr
  · exact h
  · intro k hk; have := hr k hk; omega
theorem MostPost.left {p : Nat} {r : Option Nat} {xs : List Int} {k : Nat} {w w' : World} {e : Ending} (h : MostPost p r xs k w e w') : Left p r (xs.drop k) w w' := by
  obtain ⟨v, r', _, _, h2, h3, h4, _⟩ := h
  exact ⟨r', h2, h3, h4⟩

theorem front_any (p : Nat) (r : Option Nat) (xs ys : List Int) (vl : Value) (w : World) (hb : Bat w p r xs) (hr : ∀ w', OnlyO p r w w' → Reads w' vl ys) (hl : ys.length + xs.length ≤ 1000000) :
    Calls Try.prog 12 #[.pointer (some ⟨p, 0, none⟩), vl] w (PutPost p r (ys ++ xs) w) := by
  obtain ⟨a, c, rfl, _⟩ := hr w (OnlyO.refl _ _ _)
  obtain ⟨n, hn⟩ : ∃ n, n = ys.length := ⟨_, rfl⟩
  rw [← hn] at hr hl ⊢
  rcases Nat.eq_zero_or_pos n with h0 | h0
  · subst h0
    have : ys = [] := List.length_eq_zero_iff.1 hn.symm
    subst this
    exact front_none p r xs a c w hb
  · obtain ⟨pre, hb0, hpl⟩ := hb
    rcases Nat.lt_or_ge pre.length n with h | h
    · exact front_grow p r pre xs ys a n c w hb0 hpl hn.symm h hr hl
    · exact front_room p r pre xs ys a n c w hb0 hpl hn.symm h0 h hr hl
end Go.Proofs.Ytpmggkngakdkhaa
