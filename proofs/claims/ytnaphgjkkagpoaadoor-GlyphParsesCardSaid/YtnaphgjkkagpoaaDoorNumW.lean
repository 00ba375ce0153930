/- Numerals read back: what Atoi and ParseInt make of the digits of a number; program-free. -/
import Derived.Lib.AtoiAll
import Derived.Lib.ParseIntB
import Derived.Test.YtnaphgjkkagpoaaDoorGlW
namespace Go.Proofs.YtnaphgjkkagpoaaDoor.Gw
set_option linter.unusedVariables false
set_option linter.unusedSimpArgs false
open Go.Lib
def vf (acc : Nat) (l : List UInt8) : Nat := l.foldl (fun n c => 10 * n + (c.toNat - 48)) acc
theorem vf_ge : ∀ (l : List UInt8) (acc : Nat), acc ≤ vf acc l
  | [], acc => Nat.le_refl _
  | c :: l, acc => by
    have := vf_ge l (10 * acc + (c.toNat - 48))
    simp only [vf, List.foldl_cons] at this ⊢
    omega
theorem parse_fold : ∀ (l : List UInt8) (acc : Nat), (∀ c ∈ l, Dig c) → vf acc l < 18446744073709551616 → parseUint10 acc l = .ok (vf acc l)
  | [], acc, _, _ => rfl
  | c :: l, acc, h, hb => by
    have hc := h c (by simp)
    have hg := vf_ge l (10 * acc + (c.toNat - 48))
    have hb2 : vf (10 * acc + (c.toNat - 48)) l < 18446744073709551616 := hb
    unfold Dig at hc
    unfold parseUint10
    rw [if_pos hc, if_neg (by omega), if_neg (by omega), show acc * 10 + (c.toNat - 48) = 10 * acc + (c.toNat - 48) by omega]
    exact parse_fold l _ (fun x hx => h x (by simp [hx])) hb2
theorem parse_dec (g : Nat) (h : g < 18446744073709551616) : parseUint10 0 (decDigits g) = .ok g := by
  have e : vf 0 (decDigits g) = g := val_dec g
  rw [parse_fold _ 0 (dec_dig g) (by rw [e]; exact h), e]
theorem mag_dec (g : Nat) (h : g < 18446744073709551616) : parseMag (decDigits g) = .ok g := by
  unfold parseMag
  rw [if_neg (dec_ne g), parse_dec g h]
theorem atoi_dec (g : Nat) (h : g < 9223372036854775808) : atoiAll (decDigits g) = .ok (g : Int) := by
  have hm := mag_dec g (by omega)
  cases e : decDigits g with
  | nil => exact absurd e (dec_ne g)
  | cons c r =>
    have hc : Dig c := dec_dig g c (by rw [e]; simp)
    unfold Dig at hc
    rw [e] at hm
    unfold atoiAll
    simp only
    rw [if_neg (by omega), hm]
    simp only
    rw [if_neg (by omega), if_neg (by omega)]
    first | rfl | simp; omega
theorem atoi_rng {l : List UInt8} {v : Int} (h : atoiAll l = .ok v) : -9223372036854775808 ≤ v ∧ v ≤ 9223372036854775807 := by
  unfold atoiAll at h
  split at h
  · cases h
  · simp only at h
    split at h
    · cases h
    · cases h
    · split at h
      · cases h
      · split at h
        · cases h
        · simp only [NumEnd.ok.injEq] at h
          subst h
          split <;> omega
theorem sat_rng (l : List UInt8) : -9223372036854775808 ≤ atoiSat l ∧ atoiSat l ≤ 9223372036854775807 := by
  unfold atoiSat
  split <;> omega
theorem parseM_fold : ∀ (l : List UInt8) (acc : Nat), (∀ c ∈ l, Dig c) → vf acc l < 18446744073709551616 → parseUintM 18446744073709551615 acc l = .ok (vf acc l)
  | [], acc, _, _ => rfl
  | c :: l, acc, h, hb => by
    have hc := h c (by simp)
    have hg := vf_ge l (10 * acc + (c.toNat - 48))
    have hb2 : vf (10 * acc + (c.toNat - 48)) l < 18446744073709551616 := hb
    unfold Dig at hc
    unfold parseUintM
    rw [if_pos hc, if_neg (by omega), if_neg (by omega), show acc * 10 + (c.toNat - 48) = 10 * acc + (c.toNat - 48) by omega]
    exact parseM_fold l _ (fun x hx => h x (by simp [hx])) hb2
theorem magB_dec (g : Nat) (h : g < 18446744073709551616) : parseUintB 64 (decDigits g) = .ok g := by
  have e : vf 0 (decDigits g) = g := val_dec g
  unfold parseUintB
  rw [if_neg (dec_ne g), show (2 ^ 64 - 1 : Nat) = 18446744073709551615 from rfl, parseM_fold _ 0 (dec_dig g) (by rw [e]; exact h), e]
theorem pint_itoa (v : Int) (h0 : -9223372036854775808 ≤ v) (h1 : v ≤ 9223372036854775807) : parseIntB 64 (itoa v) = .ok v := by
  unfold itoa
  by_cases hn : v < 0
  · rw [if_pos hn]
    have hm := magB_dec v.natAbs (by omega)
    unfold parseIntB
    simp only
    rw [if_pos (by decide), hm]
    simp only [show (2 ^ (64 - 1) : Nat) = 9223372036854775808 from rfl]
    rw [if_neg (fun hh => hh.1 (by decide)), if_neg (by omega), if_pos (by decide)]
    congr 1
    omega
  · rw [if_neg hn]
    have hm := magB_dec v.toNat (by omega)
    cases e : decDigits v.toNat with
    | nil => exact absurd e (dec_ne _)
    | cons c r =>
      have hc : Dig c := dec_dig v.toNat c (by rw [e]; simp)
      unfold Dig at hc
      rw [e] at hm
      unfold parseIntB
      simp only
      rw [if_neg (by omega), hm]
      simp only [show (2 ^ (64 - 1) : Nat) = 9223372036854775808 from rfl]
      rw [if_neg (by omega), if_neg (by omega), if_neg (by omega)]
      congr 1
      omega
theorem pint_rng {l : List UInt8} {v : Int} (h : parseIntB 64 l = .ok v) : -9223372036854775808 ≤ v ∧ v ≤ 9223372036854775807 := by
  unfold parseIntB at h
  split at h
  · cases h
  · simp only at h
    split at h
    · cases h
    · cases h
    · simp only [show (2 ^ (64 - 1) : Nat) = 9223372036854775808 from rfl] at h
      split at h
      · cases h
      · split at h
        · cases h
        · simp only [NumEnd.ok.injEq] at h
          subst h
          split <;> omega
theorem psat_rng (l : List UInt8) : -9223372036854775808 ≤ intSat 64 l ∧ intSat 64 l ≤ 9223372036854775807 := by
  unfold intSat
  simp only [show (2 ^ (64 - 1) : Nat) = 9223372036854775808 from rfl, show (2 ^ (64 - 1) - 1 : Nat) = 9223372036854775807 from rfl]
  split <;> omega
end Go.Proofs.YtnaphgjkkagpoaaDoor.Gw
