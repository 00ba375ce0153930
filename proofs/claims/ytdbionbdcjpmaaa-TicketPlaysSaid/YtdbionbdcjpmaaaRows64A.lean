/- Tickets in a row: the k-th is from + k, round 2^64; an own slice that holds them; what an append leaves. -/
import Derived.Test.YtdbionbdcjpmaaaLives03A
import Derived.OpenShut
namespace Go.Proofs.Ytdbionbdcjpmaaa
open Go.RowKit
set_option linter.unusedVariables false

theorem inU_of {x : Int} (h : (Lit.int .u64 x).wf = true) : inU x := by
  simp [Lit.wf, IntKind.min, IntKind.max, IntKind.signed, IntKind.bits] at h
  unfold inU; omega
/-- The k-th ticket behind f. -/
def T (f : Int) (k : Nat) : Int := U (f + k)
theorem T_zero {f : Int} (h : inU f) : T f 0 = f := by unfold T; simpa using U_of h
theorem T_inU (f : Int) (k : Nat) : inU (T f k) := U_inU _
theorem T_succ (f : Int) (k : Nat) : U (T f k + 1) = T f (k + 1) := by unfold T; rw [U_add1]; congr 1; omega
theorem T_sub (f : Int) (a b : Nat) (h : a ≤ b) (hb : b ≤ 1000000) : U (T f b - T f a) = ((b - a : Nat) : Int) := by
  unfold T U; simp only [u64_wrap]; omega
theorem T_ne (f : Int) (a b : Nat) (h : a < b) (hb : b ≤ 1000000) : T f b ≠ T f a := by
  unfold T U; simp only [u64_wrap]; omega
def tickets (f : Int) (k : Nat) : List Value := (List.range k).map fun j => Value.int .u64 (T f j)
theorem tickets_succ (f : Int) (k : Nat) : tickets f (k + 1) = tickets f k ++ [.int .u64 (T f k)] := by
  simp [tickets, List.range_succ]
theorem tickets_get (f : Int) (k j : Nat) (h : j < k) : (tickets f k)[j]? = some (.int .u64 (T f j)) := by
  simp [tickets, h]

theorem owns_only {w w' : World} {b g base size : Nat} {e : TypeId} {v : Value} {n : Nat} {xs : List Value} (h : w.ownsRow base e size v n xs) (ho : Only b g w w') (hb : b < base) (hg : g < base) : w'.ownsRow base e size v n xs := by
  obtain ⟨h0, h1 | ⟨q, cap, cur, h1, h2, h3, h4⟩⟩ := h
  · exact ⟨h0, .inl h1⟩
  · exact ⟨h0, .inr ⟨q, cap, cur, h1, h2, ho.keep h3 (by omega) (by omega), h4⟩⟩
theorem owns_slice {w : World} {base size : Nat} {e : TypeId} {v : Value} {n : Nat} {xs : List Value} (h : w.ownsRow base e size v n xs) : ∃ a c, v = .slice a n c := by
  obtain ⟨h0, ⟨h1, h2⟩ | ⟨q, cap, cur, h1, h2⟩⟩ := h
  · exact ⟨none, 0, by rw [h1, h2]⟩
  · exact ⟨_, _, h1⟩
theorem owns_pos {w : World} {base size : Nat} {e : TypeId} {a : Option Addr} {c n : Nat} {xs : List Value} (h : w.ownsRow base e size (.slice a n c) n xs) (hn : 0 < n) : ∃ g, a = some ⟨g, 0, none⟩ := by
  obtain ⟨h0, ⟨h1, h2⟩ | ⟨q, cap, cur, h1, h2⟩⟩ := h
  · omega
  · simp only [Value.slice.injEq] at h1; exact ⟨q, h1.1⟩
theorem mem_grown {w w' : World} {b g : Nat} {xs : List Int} {c : Nat} {row : Option Nat} (h : Mem w b g xs c) (hg : w.grownBy w' row) (hr : ∀ q, row = some q → q ≠ b ∧ q ≠ g) : Mem w' b g xs c :=
  h.kept (hg.block _ h.sb (fun e => (hr _ e.symm).1 rfl)) (hg.block _ h.sg (fun e => (hr _ e.symm).2 rfl))
end Go.Proofs.Ytdbionbdcjpmaaa
