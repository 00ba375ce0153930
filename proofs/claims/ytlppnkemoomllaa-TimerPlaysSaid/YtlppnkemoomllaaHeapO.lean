/- What rises leaves the heap in order. -/
import Derived.Test.YtlppnkemoomllaaHeapP
import Derived.Test.YtlppnkemoomllaaHaw
namespace Go.Proofs.Ytlppnkemoomllaa
set_option linter.unusedVariables false
set_option linter.unusedSimpArgs false

/-- b isn't ahead of a. -/
def leE (a b : Int × Int × Int) : Prop := aheadE b a = false
theorem leE_of {a b : Int × Int × Int} (h : aheadE a b = true) : leE a b := (heapAhead.ahead_not a.1 a.2.1 a.2.2 b.1 b.2.1 b.2.2 h).1
theorem leE_refl (a : Int × Int × Int) : leE a a := by
  unfold leE
  cases h : aheadE a a with
  | false => rfl
  | true => exact absurd ⟨rfl, rfl, rfl⟩ (heapAhead.ahead_not a.1 a.2.1 a.2.2 a.1 a.2.1 a.2.2 h).2
theorem leE_trans {a b c : Int × Int × Int} (h : leE a b) (h' : leE b c) : leE a c := by
  unfold leE at *
  cases hc : aheadE c a with
  | false => rfl
  | true =>
    cases hab : aheadE a b with
    | true =>
      have := heapAhead.ahead_tr c.1 c.2.1 c.2.2 a.1 a.2.1 a.2.2 b.1 b.2.1 b.2.2 hc hab
      rw [show aheadE c b = true from this] at h'
      cases h'
    | false =>
      obtain ⟨h1, h2, h3⟩ := heapAhead.ahead_tot a.1 a.2.1 a.2.2 b.1 b.2.1 b.2.2 hab h
      have e : a = b := Prod.ext h1 (Prod.ext h2 h3)
      rw [e] at hc
      rw [hc] at h'
      cases h'
theorem enAt_sw (es : List (Int × Int × Int)) (i j k : Nat) (hk : k < es.length) : enAt (sw es i j) k = if j = k then enAt es i else if i = k then enAt es j else enAt es k := by
  unfold sw
  rw [enAt_set _ _ _ _ (by simpa using hk), enAt_set _ _ _ _ hk]
/-- None is ahead of the one above it. -/
def Ord (es : List (Int × Int × Int)) : Prop := ∀ k, 0 < k → k < es.length → leE (enAt es ((k - 1) / 4)) (enAt es k)
/-- In order, but for one that rises. -/
structure RI (es : List (Int × Int × Int)) (i : Nat) : Prop where
  a : ∀ k, 0 < k → k < es.length → k ≠ i → leE (enAt es ((k - 1) / 4)) (enAt es k)
  b : ∀ k, 0 < k → k < es.length → (k - 1) / 4 = i → 0 < i → leE (enAt es ((i - 1) / 4)) (enAt es k)
theorem RI.step {es : List (Int × Int × Int)} {i : Nat} (h : RI es i) (hi : i < es.length) (h0 : 0 < i) (ha : aheadE (enAt es i) (enAt es ((i - 1) / 4)) = true) : RI (sw es i ((i - 1) / 4)) ((i - 1) / 4) := by
  obtain ⟨a, hae⟩ : ∃ a, a = (i - 1) / 4 := ⟨_, rfl⟩
  rw [← hae] at ha ⊢
  have hai : a < i := by omega
  have vi : enAt (sw es i a) i = enAt es a := by rw [enAt_sw _ _ _ _ hi, if_neg (by omega), if_pos rfl]
  have va : enAt (sw es i a) a = enAt es i := by rw [enAt_sw _ _ _ _ (by omega), if_pos rfl]
  have vo : ∀ k, k < es.length → k ≠ i → k ≠ a → enAt (sw es i a) k = enAt es k := fun k hk h1 h2 => by
    rw [enAt_sw _ _ _ _ hk, if_neg (fun e => h2 e.symm), if_neg (fun e => h1 e.symm)]
  refine ⟨fun k k0 kl ka => ?_, fun k k0 kl kp a0 => ?_⟩
  · rw [sw_len] at kl
    by_cases ki : k = i
    · subst ki
      rw [← hae, va, vi]
      exact leE_of ha
    · rw [vo k kl ki ka]
      by_cases kp : (k - 1) / 4 = i
      · rw [kp, vi]
        have := h.b k k0 kl kp h0
        rw [← hae] at this
        exact this
      · by_cases kq : (k - 1) / 4 = a
        · rw [kq, va]
          have := h.a k k0 kl ki
          rw [kq] at this
          exact leE_trans (leE_of ha) this
        · rw [vo _ (by omega) kp kq]
          exact h.a k k0 kl ki
  · rw [sw_len] at kl
    rw [vo _ (by omega) (by omega) (by omega)]
    have hA := h.a a a0 (by omega) (by omega)
    by_cases ki : k = i
    · subst ki; rw [vi]; exact hA
    · rw [vo k kl ki (by omega)]
      have := h.a k k0 kl ki
      rw [kp] at this
      exact leE_trans hA this
theorem rise_ord : ∀ (f : Nat) (es : List (Int × Int × Int)) (i : Nat), i ≤ f → i < es.length → RI es i → Ord (riseF f es i)
  | 0, es, i, hf, hi, h => fun k k0 kl => h.a k k0 kl (by omega)
  | f + 1, es, i, hf, hi, h => by
    unfold riseF
    by_cases i0 : i = 0
    · rw [if_pos i0]
      exact fun k k0 kl => h.a k k0 kl (by omega)
    · rw [if_neg i0]
      cases ha : aheadE (enAt es i) (enAt es ((i - 1) / 4)) with
      | true => exact rise_ord f _ _ (by omega) (by rw [sw_len]; omega) (h.step hi (by omega) ha)
      | false =>
        intro k k0 kl
        by_cases ki : k = i
        · subst ki; exact ha
        · exact h.a k k0 kl ki
theorem put_ord {es : List (Int × Int × Int)} (h : Ord es) (e : Int × Int × Int) : Ord (riseF es.length (es ++ [e]) es.length) := by
  have hg : ∀ k, k < es.length → enAt (es ++ [e]) k = enAt es k := fun k hk => by
    unfold enAt
    rw [List.getD_eq_getElem?_getD, List.getD_eq_getElem?_getD, List.getElem?_append_left hk]
  refine rise_ord _ _ _ (Nat.le_refl _) (by simp) ⟨fun k k0 kl ki => ?_, fun k k0 kl kp i0 => ?_⟩
  · rw [List.length_append, List.length_singleton] at kl
    rw [hg _ (by omega), hg _ (by omega)]
    exact h k k0 (by omega)
  · rw [List.length_append, List.length_singleton] at kl
    omega
end Go.Proofs.Ytlppnkemoomllaa
