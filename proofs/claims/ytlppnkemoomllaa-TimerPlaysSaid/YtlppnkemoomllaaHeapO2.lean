/- What sinks leaves the heap in order. -/
import Derived.Test.YtlppnkemoomllaaHeapO
namespace Go.Proofs.Ytlppnkemoomllaa
set_option linter.unusedVariables false
set_option linter.unusedSimpArgs false

theorem kid_le (es : List (Int × Int × Int)) (n l c : Nat) : leE (enAt es (kid es n l c)) (enAt es l) ∧ (c < n → leE (enAt es (kid es n l c)) (enAt es c)) := by
  unfold kid
  by_cases h : c < n ∧ aheadE (enAt es c) (enAt es l) = true
  · rw [if_pos h]
    exact ⟨leE_of h.2, fun _ => leE_refl _⟩
  · rw [if_neg h]
    refine ⟨leE_refl _, fun hc => ?_⟩
    unfold leE
    cases ha : aheadE (enAt es c) (enAt es l) with
    | false => rfl
    | true => exact absurd ⟨hc, ha⟩ h
theorem lk_le (es : List (Int × Int × Int)) (n i : Nat) : ∀ j, leE (enAt es (lk es n i j)) (enAt es i) ∧ ∀ d, d < j → 4 * i + 1 + d < n → leE (enAt es (lk es n i j)) (enAt es (4 * i + 1 + d))
  | 0 => ⟨leE_refl _, fun d h => by omega⟩
  | j + 1 => by
    obtain ⟨h1, h2⟩ := lk_le es n i j
    obtain ⟨k1, k2⟩ := kid_le es n (lk es n i j) (4 * i + 1 + j)
    refine ⟨leE_trans k1 h1, fun d hd hn => ?_⟩
    by_cases e : d = j
    · subst e; exact k2 hn
    · exact leE_trans k1 (h2 d (by omega) hn)
theorem lk_is (es : List (Int × Int × Int)) (n i : Nat) : ∀ j, lk es n i j = i ∨ ∃ d, d < j ∧ lk es n i j = 4 * i + 1 + d
  | 0 => .inl rfl
  | j + 1 => by
    have ih := lk_is es n i j
    have hk : lk es n i (j + 1) = kid es n (lk es n i j) (4 * i + 1 + j) := rfl
    rw [hk]
    by_cases h : 4 * i + 1 + j < n ∧ aheadE (enAt es (4 * i + 1 + j)) (enAt es (lk es n i j)) = true
    · exact .inr ⟨j, by omega, by unfold kid; rw [if_pos h]⟩
    · have e : kid es n (lk es n i j) (4 * i + 1 + j) = lk es n i j := by unfold kid; rw [if_neg h]
      rw [e]
      rcases ih with h | ⟨d, hd, h⟩
      · exact .inl h
      · exact .inr ⟨d, by omega, h⟩
/-- In order, but for one that sinks. -/
structure SI (es : List (Int × Int × Int)) (i : Nat) : Prop where
  a : ∀ k, 0 < k → k < es.length → (k - 1) / 4 ≠ i → leE (enAt es ((k - 1) / 4)) (enAt es k)
  b : ∀ k, 0 < k → k < es.length → (k - 1) / 4 = i → 0 < i → leE (enAt es ((i - 1) / 4)) (enAt es k)
theorem SI.step {es : List (Int × Int × Int)} {i l : Nat} (h : SI es i) (hi : i < es.length) (hl : l < es.length) (hp : (l - 1) / 4 = i) (hil : i < l)
    (h1 : leE (enAt es l) (enAt es i)) (h2 : ∀ k, 0 < k → k < es.length → (k - 1) / 4 = i → leE (enAt es l) (enAt es k)) : SI (sw es i l) l := by
  have vl : enAt (sw es i l) l = enAt es i := by rw [enAt_sw _ _ _ _ hl, if_pos rfl]
  have vi : enAt (sw es i l) i = enAt es l := by rw [enAt_sw _ _ _ _ hi, if_neg (by omega), if_pos rfl]
  have vo : ∀ k, k < es.length → k ≠ i → k ≠ l → enAt (sw es i l) k = enAt es k := fun k hk h1 h2 => by
    rw [enAt_sw _ _ _ _ hk, if_neg (fun e => h2 e.symm), if_neg (fun e => h1 e.symm)]
  refine ⟨fun k k0 kl kp => ?_, fun k k0 kl kp l0 => ?_⟩
  · rw [sw_len] at kl
    by_cases ki : k = i
    · subst ki
      rw [vi, vo _ (by omega) (by omega) kp]
      exact h.b l (by omega) hl hp k0
    · by_cases kpi : (k - 1) / 4 = i
      · rw [kpi, vi]
        by_cases kll : k = l
        · subst kll; rw [vl]; exact h1
        · rw [vo k kl ki kll]; exact h2 k k0 kl kpi
      · have kll : k ≠ l := fun e => kpi (by rw [e]; exact hp)
        rw [vo k kl ki kll, vo _ (by omega) kpi kp]
        exact h.a k k0 kl kpi
  · rw [sw_len] at kl
    rw [hp, vi, vo k kl (by omega) (by omega)]
    have := h.a k k0 kl (by omega)
    rw [kp] at this
    exact this
theorem sink_ord : ∀ (f : Nat) (es : List (Int × Int × Int)) (n i : Nat), es.length = n → n + 1 ≤ i + f → (i < n ∨ (n = 0 ∧ i = 0)) → SI es i → Ord (sinkF f es n i)
  | 0, es, n, i, hn, hf, hi, h => by omega
  | f + 1, es, n, i, hn, hf, hi, h => by
    unfold sinkF
    obtain ⟨g1, g2⟩ := lk_le es n i 4
    have hch : ∀ k, 0 < k → k < es.length → (k - 1) / 4 = i → leE (enAt es (lk es n i 4)) (enAt es k) := fun k k0 kl kp => by
      have := g2 (k - 1 - 4 * i) (by omega) (by omega)
      rw [show 4 * i + 1 + (k - 1 - 4 * i) = k by omega] at this
      exact this
    by_cases e : lk es n i 4 = i
    · rw [if_pos e]
      intro k k0 kl
      by_cases kp : (k - 1) / 4 = i
      · have := hch k k0 kl kp
        rw [e] at this
        rw [kp]; exact this
      · exact h.a k k0 kl kp
    · rw [if_neg e]
      have hin : i < n := by
        rcases hi with h' | ⟨h0, h0'⟩
        · exact h'
        · exact absurd (by
            have : ∀ j, lk es n i j = i := fun j => by
              have := lk_stop es n i 0 (by omega) j
              rw [Nat.zero_add] at this
              exact this
            exact this 4) e
      have hl := lk_lt es n i hin 4
      rcases lk_is es n i 4 with h' | ⟨d, hd, h'⟩
      · exact absurd h' e
      · exact sink_ord f _ n _ (by rw [sw_len]; exact hn) (by omega) (.inl hl) (h.step (by omega) (by omega) (by omega) (by omega) g1 hch)
theorem take_ord {es : List (Int × Int × Int)} {m : Nat} (h : Ord es) (hm : es.length = m + 1) : Ord (sinkF (m + 1) ((sw es 0 m).take m) m 0) := by
  have hlen : ((sw es 0 m).take m).length = m := by rw [List.length_take, sw_len]; omega
  have hg : ∀ k, 0 < k → k < m → enAt ((sw es 0 m).take m) k = enAt es k := fun k k0 hk => by
    have : enAt ((sw es 0 m).take m) k = enAt (sw es 0 m) k := by
      unfold enAt
      rw [List.getD_eq_getElem?_getD, List.getD_eq_getElem?_getD, List.getElem?_take, if_pos hk]
    rw [this, enAt_sw _ _ _ _ (by omega), if_neg (by omega), if_neg (by omega)]
  refine sink_ord _ _ m 0 hlen (by omega) (by omega) ⟨fun k k0 kl kp => ?_, fun k k0 kl kp i0 => by omega⟩
  rw [hlen] at kl
  rw [hg _ (by omega) (by omega), hg k k0 kl]
  exact h k k0 (by omega)
/-- The one at the top is ahead of none behind it. -/
theorem root_le {es : List (Int × Int × Int)} (h : Ord es) : ∀ (b k : Nat), k ≤ b → k < es.length → leE (enAt es 0) (enAt es k)
  | 0, k, hb, hk => by rw [show k = 0 by omega]; exact leE_refl _
  | b + 1, k, hb, hk => by
    by_cases k0 : k = 0
    · rw [k0]; exact leE_refl _
    · exact leE_trans (root_le h b ((k - 1) / 4) (by omega) (by omega)) (h k (by omega) hk)
end Go.Proofs.Ytlppnkemoomllaa
