/- Plain facts on masks of bits: what is in by words, how many, the least one above. Nothing of the program. -/
import Derived.Test.YtnabikoieolfcaaDoorPop
import Derived.Lib.TrailingZeros
import Derived.Laws.BitsAllLaws
namespace Go.Proofs.YtnabikoieolfcaaDoor
set_option linter.unusedVariables false
set_option linter.unusedSimpArgs false

/-- Is i in? -/
def bitAt (W : List Nat) (i : Nat) : Bool := (W.getD (i / 64) 0).testBit (i % 64)
/-- With another answer at one place. -/
def upd (f : Nat → Bool) (i : Nat) (b : Bool) : Nat → Bool := fun j => if j = i then b else f j
theorem upd_same (f : Nat → Bool) (i : Nat) (b : Bool) : upd f i b i = b := by simp [upd]
theorem upd_ne (f : Nat → Bool) {i j : Nat} (b : Bool) (h : j ≠ i) : upd f i b j = f j := by simp [upd, h]
theorem upd_self (f : Nat → Bool) {i : Nat} {b : Bool} (h : f i = b) : upd f i b = f := by
  funext j; simp only [upd]; split
  · rename_i e; rw [e, h]
  · rfl
theorem upd_upd (f : Nat → Bool) (i : Nat) (a b : Bool) : upd (upd f i a) i b = upd f i b := by
  funext j; simp only [upd]; split <;> rfl
/-- How many below n are in. -/
def card (f : Nat → Bool) : Nat → Nat
  | 0 => 0
  | n + 1 => card f n + if f n then 1 else 0
theorem card_le (f : Nat → Bool) : ∀ n, card f n ≤ n
  | 0 => Nat.le_refl _
  | n + 1 => by have := card_le f n; simp only [card]; split <;> omega
theorem card_congr {f g : Nat → Bool} : ∀ {n}, (∀ i, i < n → f i = g i) → card f n = card g n
  | 0, _ => rfl
  | n + 1, h => by simp only [card]; rw [card_congr fun i hi => h i (by omega), h n (by omega)]
theorem card_upd_out (f : Nat → Bool) {i n : Nat} (b : Bool) (h : n ≤ i) : card (upd f i b) n = card f n :=
  card_congr fun j hj => upd_ne f b (by omega)
theorem card_put (f : Nat → Bool) {i : Nat} : ∀ {n}, i < n → f i = false → card (upd f i true) n = card f n + 1
  | 0, h, _ => by omega
  | n + 1, h, hf => by
    simp only [card]
    by_cases e : i = n
    · subst e; rw [card_upd_out f true (Nat.le_refl _), upd_same, hf]; simp
    · rw [card_put f (by omega) hf, upd_ne f true (Ne.symm e)]; omega
theorem card_take (f : Nat → Bool) {i n : Nat} (h : i < n) (hf : f i = true) : card (upd f i false) n + 1 = card f n := by
  have e := card_put (upd f i false) h (upd_same f i false)
  rw [upd_upd, upd_self f hf] at e
  exact e.symm
theorem card_zero {f : Nat → Bool} : ∀ {n}, card f n = 0 → ∀ i, i < n → f i = false
  | 0, _, i, hi => by omega
  | n + 1, h, i, hi => by
    simp only [card] at h
    by_cases e : i = n
    · subst e
      rcases hb : f i with _ | _
      · rfl
      · rw [hb] at h; simp at h
    · exact card_zero (n := n) (by omega) i (by omega)
theorem card_none {f : Nat → Bool} : ∀ {n}, (∀ i, i < n → f i = false) → card f n = 0
  | 0, _ => rfl
  | n + 1, h => by simp only [card]; rw [card_none fun i hi => h i (by omega), h n (by omega)]; rfl
theorem card_stretch (f : Nat → Bool) {n : Nat} (h : ∀ i, n ≤ i → f i = false) : ∀ k, card f (n + k) = card f n
  | 0 => rfl
  | k + 1 => by rw [← Nat.add_assoc]; simp only [card]; rw [card_stretch f h k, h (n + k) (by omega)]; rfl
theorem card_add (f : Nat → Bool) (m : Nat) : ∀ k, card f (m + k) = card f m + card (fun i => f (m + i)) k
  | 0 => rfl
  | k + 1 => by rw [← Nat.add_assoc]; simp only [card]; rw [card_add f m k]; omega
theorem pop_card (n : Nat) : ∀ x, pop n x = card (fun i => x.testBit i) n := by
  induction n with
  | zero => intro x; rfl
  | succ n ih =>
    intro x
    have h := card_add (fun i => x.testBit i) 1 n
    rw [Nat.add_comm] at h
    rw [h, pop, ih]
    congr 1
    · simp only [card, Nat.zero_add, Nat.testBit_zero]
      have : x % 2 = 0 ∨ x % 2 = 1 := by omega
      rcases this with h | h <;> simp [h]
    · exact card_congr fun i _ => by rw [Nat.add_comm 1 i, Nat.testBit_succ]
theorem card_words (W : List Nat) (k : Nat) : card (bitAt W) (64 * (k + 1)) = card (bitAt W) (64 * k) + pop 64 (W.getD k 0) := by
  rw [show 64 * (k + 1) = 64 * k + 64 by omega, card_add, pop_card]
  congr 1
  refine card_congr fun i hi => ?_
  simp only [bitAt]
  rw [show (64 * k + i) / 64 = k by omega, show (64 * k + i) % 64 = i by omega]
theorem pop_le (n x : Nat) : pop n x ≤ n := by rw [pop_card]; exact card_le _ _

theorem bitAt_set (W : List Nat) (i : Nat) (v : Nat) (hi : i / 64 < W.length) (b : Bool) (hv : ∀ j, j < 64 → v.testBit j = if j = i % 64 then b else (W.getD (i / 64) 0).testBit j) : bitAt (W.set (i / 64) v) = upd (bitAt W) i b := by
  funext j
  simp only [bitAt, upd]
  by_cases e : j / 64 = i / 64
  · have e1 : (W.set (i / 64) v).getD (j / 64) 0 = v := by rw [e]; simp [List.getD_eq_getElem?_getD, hi]
    rw [e1, hv _ (by omega)]
    by_cases e2 : j = i
    · subst e2; simp
    · have e3 : j % 64 ≠ i % 64 := by omega
      rw [if_neg e3, if_neg e2, e]
  · have e1 : (W.set (i / 64) v).getD (j / 64) 0 = W.getD (j / 64) 0 := by
      simp only [List.getD_eq_getElem?_getD]
      rw [List.getElem?_set_ne (Ne.symm e)]
    have e2 : j ≠ i := fun h => e (by rw [h])
    rw [e1, if_neg e2]
theorem or_bit (v k : Nat) : ∀ j, j < 64 → (v ||| 2 ^ k).testBit j = if j = k then true else v.testBit j := by
  intro j _
  rw [Nat.testBit_or, Nat.testBit_two_pow]
  by_cases e : j = k
  · subst e; simp
  · simp [e, Ne.symm e]
theorem full_bit {j : Nat} (hj : j < 64) : (18446744073709551615 : Nat).testBit j = true := by
  have := Nat.testBit_two_pow_sub_one 64 j
  rw [show (2 ^ 64 - 1 : Nat) = 18446744073709551615 by decide] at this
  rw [this]; simpa using hj
theorem not_bit {k : Nat} (hk : k < 64) {j : Nat} (hj : j < 64) : (18446744073709551615 - 2 ^ k).testBit j = decide (j ≠ k) := by
  have h : (2 : Nat) ^ k < 2 ^ 64 := Nat.pow_lt_pow_right (by omega) hk
  have := Nat.testBit_two_pow_sub_succ h j
  rw [show (2 ^ 64 - (2 ^ k + 1) : Nat) = 18446744073709551615 - 2 ^ k by have : (2 : Nat) ^ 64 = 18446744073709551616 := by decide
                                                                          omega] at this
  rw [this, Nat.testBit_two_pow]
  by_cases e : j = k
  · subst e; simp
  · simp [e, Ne.symm e, hj]
theorem andnot_bit (v : Nat) {k : Nat} (hk : k < 64) : ∀ j, j < 64 → (v &&& (18446744073709551615 - 2 ^ k)).testBit j = if j = k then false else v.testBit j := by
  intro j hj
  rw [Nat.testBit_and, not_bit hk hj]
  by_cases e : j = k
  · subst e; simp
  · simp [e]
theorem and_pow (v k : Nat) : v &&& 2 ^ k = if v.testBit k then 2 ^ k else 0 := by
  apply Nat.eq_of_testBit_eq
  intro j
  rw [Nat.testBit_and, Nat.testBit_two_pow]
  by_cases e : k = j
  · subst e
    by_cases h : v.testBit k = true
    · simp [h, Nat.testBit_two_pow]
    · simp [h]
  · split
    · simp [e, Nat.testBit_two_pow]
    · simp [e]
theorem above_bit {s : Nat} (hs : s < 64) : ∀ j, j < 64 → (18446744073709551616 - 2 ^ s).testBit j = decide (s ≤ j) := by
  intro j hj
  have e : (18446744073709551616 - 2 ^ s : Nat) = (2 ^ (64 - s) - 1) * 2 ^ s := by
    rw [Nat.sub_mul, ← Nat.pow_add, show 64 - s + s = 64 by omega]; simp
  rw [e, Nat.testBit_mul_two_pow, Nat.testBit_two_pow_sub_one]
  by_cases h : s ≤ j
  · simp [h]; omega
  · simp [h]
theorem shl_full {s : Nat} (hs : s < 64) : (18446744073709551615 * 2 ^ s) % 18446744073709551616 = 18446744073709551616 - 2 ^ s := by
  have h : (2 : Nat) ^ s < 18446744073709551616 := by
    have := Nat.pow_lt_pow_right (a := 2) (by omega) hs
    simpa using this
  have h0 : 0 < (2 : Nat) ^ s := Nat.two_pow_pos s
  generalize 2 ^ s = p at h h0 ⊢
  have : 18446744073709551615 * p = 18446744073709551616 * (p - 1) + (18446744073709551616 - p) := by omega
  rw [this, Nat.mul_add_mod]
  exact Nat.mod_eq_of_lt (by omega)
theorem ctz_spec {v : Nat} (h0 : v ≠ 0) (h : v < 18446744073709551616) : Lib.ctz 64 v < 64 ∧ v.testBit (Lib.ctz 64 v) = true ∧ ∀ j, j < Lib.ctz 64 v → v.testBit j = false := by
  obtain ⟨m, hm, hk⟩ := Lib.ctzFrom_spec 64 v (by omega) h
  have e : Lib.ctz 64 v = Lib.ctzFrom 64 v := by simp [Lib.ctz, h0]
  rw [e]
  generalize Lib.ctzFrom 64 v = k at hm hk
  refine ⟨hk, ?_, fun j hj => ?_⟩
  · rw [hm, Nat.mul_comm, Nat.testBit_mul_two_pow]; simp
  · rw [hm, Nat.mul_comm, Nat.testBit_mul_two_pow]; simp; omega

/-- The least one above i (of n), or -1. -/
def nextI (f : Nat → Bool) (n : Nat) (i : Int) : Int := match (List.range n).find? (fun k : Nat => decide (i < (k : Int)) && f k) with
  | some k => (k : Int)
  | none => -1
theorem next_some {f : Nat → Bool} {n k : Nat} {i : Int} (h : i < k) (hk : k < n) (hf : f k = true) (hl : ∀ j : Nat, i < j → j < k → f j = false) : nextI f n i = k := by
  have : (List.range n).find? (fun k : Nat => decide (i < (k : Int)) && f k) = some k := by
    rw [List.find?_eq_some_iff_getElem]
    refine ⟨by simp [h, hf], k, by simpa using hk, by simp, fun j hj => ?_⟩
    simp only [List.getElem_range, Bool.not_eq_eq_eq_not, Bool.not_true, Bool.and_eq_false_imp, decide_eq_true_eq]
    exact fun hi => hl j hi hj
  simp only [nextI, this]
theorem next_none {f : Nat → Bool} {n : Nat} {i : Int} (h : ∀ j : Nat, i < j → j < n → f j = false) : nextI f n i = -1 := by
  have : (List.range n).find? (fun k : Nat => decide (i < (k : Int)) && f k) = none := by
    rw [List.find?_eq_none]
    intro j hj
    simp only [List.mem_range] at hj
    simp only [Bool.and_eq_true, decide_eq_true_eq, not_and, Bool.not_eq_true]
    exact fun hi => h j hi hj
  simp only [nextI, this]
theorem next_cases (f : Nat → Bool) (n : Nat) (i : Int) : (nextI f n i = -1 ∧ ∀ j : Nat, i < j → j < n → f j = false) ∨ ∃ k : Nat, nextI f n i = k ∧ i < k ∧ k < n ∧ f k = true ∧ ∀ j : Nat, i < j → j < k → f j = false := by
  rcases h : (List.range n).find? (fun k : Nat => decide (i < (k : Int)) && f k) with _ | k
  · left
    have h2 := h
    rw [List.find?_eq_none] at h2
    have h3 : ∀ j : Nat, i < j → j < n → f j = false := fun j hi hj => by
      have := h2 j (by simpa using hj)
      simp only [Bool.and_eq_true, decide_eq_true_eq, not_and, Bool.not_eq_true] at this
      exact this hi
    exact ⟨next_none h3, h3⟩
  · right
    rw [List.find?_eq_some_iff_getElem] at h
    obtain ⟨hp, m, hm, e, hl⟩ := h
    simp only [List.getElem_range] at e
    subst e
    simp only [Bool.and_eq_true, decide_eq_true_eq] at hp
    have hl' : ∀ j : Nat, i < j → j < m → f j = false := fun j hi hj => by
      have := hl j hj
      simp only [List.getElem_range, Bool.not_eq_eq_eq_not, Bool.not_true, Bool.and_eq_false_imp, decide_eq_true_eq] at this
      exact this hi
    have hmn : m < n := by simpa using hm
    exact ⟨m, next_some hp.1 hmn hp.2 hl', hp.1, hmn, hp.2, hl'⟩
end Go.Proofs.YtnabikoieolfcaaDoor
