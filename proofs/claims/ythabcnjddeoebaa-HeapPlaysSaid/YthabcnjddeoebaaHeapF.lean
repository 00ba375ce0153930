/- What sinks, from a place on: the heap is made out of a row that is in no order. -/
import Derived.Test.YthabcnjddeoebaaHeapO2
import Derived.Test.YthabcnjddeoebaaHeapE
namespace Go.Proofs.Ythabcnjddeoebaa
set_option linter.unusedVariables false
set_option linter.unusedSimpArgs false

/-- In order from a place on. -/
def OrdF (es : List (Int × Int × Int)) (s : Nat) : Prop := ∀ k, 0 < k → k < es.length → s ≤ (k - 1) / 4 → leE (enAt es ((k - 1) / 4)) (enAt es k)
theorem OrdF.all {es : List (Int × Int × Int)} (h : OrdF es 0) : Ord es := fun k h1 h2 => h k h1 h2 (Nat.zero_le _)
theorem OrdF.first (es : List (Int × Int × Int)) : OrdF es (es.length / 4 + 1) := fun k h1 h2 h3 => by omega
/-- In order from s on, but for one that sinks. -/
structure SF (es : List (Int × Int × Int)) (s i : Nat) : Prop where
  a : ∀ k, 0 < k → k < es.length → s ≤ (k - 1) / 4 → (k - 1) / 4 ≠ i → leE (enAt es ((k - 1) / 4)) (enAt es k)
  b : ∀ k, 0 < k → k < es.length → (k - 1) / 4 = i → 0 < i → s ≤ (i - 1) / 4 → leE (enAt es ((i - 1) / 4)) (enAt es k)
theorem SF.step {es : List (Int × Int × Int)} {s i l : Nat} (h : SF es s i) (hsi : s ≤ i) (hi : i < es.length) (hl : l < es.length) (hp : (l - 1) / 4 = i) (hil : i < l)
    (h1 : leE (enAt es l) (enAt es i)) (h2 : ∀ k, 0 < k → k < es.length → (k - 1) / 4 = i → leE (enAt es l) (enAt es k)) : SF (sw es i l) s l := by
  have vl : enAt (sw es i l) l = enAt es i := by rw [enAt_sw _ _ _ _ hl, if_pos rfl]
  have vi : enAt (sw es i l) i = enAt es l := by rw [enAt_sw _ _ _ _ hi, if_neg (by omega), if_pos rfl]
  have vo : ∀ k, k < es.length → k ≠ i → k ≠ l → enAt (sw es i l) k = enAt es k := fun k hk h1 h2 => by
    rw [enAt_sw _ _ _ _ hk, if_neg (fun e => h2 e.symm), if_neg (fun e => h1 e.symm)]
  refine ⟨fun k k0 kl ks kp => ?_, fun k k0 kl kp l0 ls => ?_⟩
  · rw [sw_len] at kl
    by_cases ki : k = i
    · subst ki
      rw [vi, vo _ (by omega) (by omega) kp]
      exact h.b l (by omega) hl hp k0 ks
    · by_cases kpi : (k - 1) / 4 = i
      · rw [kpi, vi]
        by_cases kll : k = l
        · subst kll; rw [vl]; exact h1
        · rw [vo k kl ki kll]; exact h2 k k0 kl kpi
      · have kll : k ≠ l := fun e => kpi (by rw [e]; exact hp)
        rw [vo k kl ki kll, vo _ (by omega) kpi kp]
        exact h.a k k0 kl ks kpi
  · rw [sw_len] at kl
    rw [hp, vi, vo k kl (by omega) (by omega)]
    have := h.a k k0 kl (by omega) (by omega)
    rw [kp] at this
    exact this
theorem sink_ordF : ∀ (f : Nat) (es : List (Int × Int × Int)) (n s i : Nat), es.length = n → n + 1 ≤ i + f → (i < n ∨ (n = 0 ∧ i = 0)) → s ≤ i → SF es s i → OrdF (sinkF f es n i) s
  | 0, es, n, s, i, hn, hf, hi, hs, h => by omega
  | f + 1, es, n, s, i, hn, hf, hi, hs, h => by
    unfold sinkF
    obtain ⟨g1, g2⟩ := lk_le es n i 4
    have hch : ∀ k, 0 < k → k < es.length → (k - 1) / 4 = i → leE (enAt es (lk es n i 4)) (enAt es k) := fun k k0 kl kp => by
      have := g2 (k - 1 - 4 * i) (by omega) (by omega)
      rw [show 4 * i + 1 + (k - 1 - 4 * i) = k by omega] at this
      exact this
    by_cases e : lk es n i 4 = i
    · rw [if_pos e]
      intro k k0 kl ks
      by_cases kp : (k - 1) / 4 = i
      · have := hch k k0 kl kp
        rw [e] at this
        rw [kp]; exact this
      · exact h.a k k0 kl ks kp
    · rw [if_neg e]
      have hin : i < n := by
        rcases hi with h' | ⟨h0, h0'⟩
        · exact h'
        · exact absurd (by
            have : ∀ j, lk es n i j = i := fun j => by
              have := lk_stop es n i 0 (by omega) j
              rw [Nat.zero_add] at this
              exact this
            exact this 4) e
      have hl := lk_lt es n i hin 4
      rcases lk_is es n i 4 with h' | ⟨d, hd, h'⟩
      · exact absurd h' e
      · exact sink_ordF f _ n s _ (by rw [sw_len]; exact hn) (by omega) (.inl hl) (by omega) (h.step hs (by omega) (by omega) (by omega) (by omega) g1 hch)
/-- One place more is in order. -/
theorem OrdF.sink {es : List (Int × Int × Int)} {n i : Nat} (h : OrdF es (i + 1)) (hn : es.length = n) (hi : i < n ∨ (n = 0 ∧ i = 0)) : OrdF (sinkF (n + 1) es n i) i :=
  sink_ordF _ _ n i i hn (by omega) hi (Nat.le_refl _) ⟨fun k k0 kl ks kp => h k k0 kl (by omega), fun k k0 kl kp i0 is => by omega⟩
end Go.Proofs.Ythabcnjddeoebaa
