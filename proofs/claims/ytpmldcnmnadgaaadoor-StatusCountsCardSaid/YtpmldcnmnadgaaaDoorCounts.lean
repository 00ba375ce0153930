/- Statuses of a row of goroutines, counted; the table's methods over them. -/
import Derived.Test.YtpmldcnmnadgaaaDoorTable2
import Derived.Deep.RegionHeld3
namespace Go.Proofs.YtpmldcnmnadgaaaDoor.statusCounts
open Go.RowKit
set_option linter.unusedVariables false
set_option linter.unusedSimpArgs false

/-- How many of a row are s. -/
abbrev cn (xs : List Int) (s : Int) (n : Nat) : Nat := cntF (fun i => xs.getD i 0) s n
theorem tc (b gg : Nat) (xs : List Int) (c n : Nat) (s : Int) (w : World) (hm : Mem w b gg xs c) (hc : c + n < 1000000000) (hi : n ≤ xs.length) (hx : ∀ i, i < n → xs.getD i 0 < 7) (hs0 : 0 ≤ s) :
    Calls Tryd.prog 10 #[.agg #[.int .i64 0, .int .i64 n], .pointer (some ⟨b, 0, none⟩), .int .u64 s] w fun e w' => e = .returned (.int .i64 (cn xs s n)) ∧ Mem w' b gg xs (c + n) ∧ Only b gg w w' := by
  have := tcount_any b gg xs c 0 n s w hm hc (by omega) (fun i hi => by rw [Nat.zero_add]; exact hx i hi) hs0
  simpa [cn] using this

theorem cn_set (F G : Nat → Int) (s : Int) (j : Nat) (t : Int) (hG : ∀ i, G i = if i = j then t else F i) (n : Nat) :
    cntF G s n + (if j < n ∧ F j = s then 1 else 0) = cntF F s n + (if j < n ∧ t = s then 1 else 0) := by
  induction n with
  | zero => simp [cntF]
  | succ n ih =>
    simp only [cntF]
    rw [hG n]
    by_cases h : n = j
    · subst h
      simp only [Nat.lt_irrefl, false_and, if_false, Nat.add_zero] at ih
      simp only [if_true, Nat.lt_succ_self, true_and]
      rw [ih]
      omega
    · rw [if_neg h]
      have e : (j < n + 1) = (j < n) := propext ⟨fun h2 => by omega, fun h2 => by omega⟩
      simp only [e]
      omega
theorem set_getD (xs : List Int) (j : Nat) (t : Int) (hj : j < xs.length) (i : Nat) : (xs.set j t).getD i 0 = if i = j then t else xs.getD i 0 := by
  rw [List.getD_eq_getElem?_getD, List.getD_eq_getElem?_getD, List.getElem?_set]
  by_cases h : j = i
  · subst h; simp [hj]
  · rw [if_neg h, if_neg (fun e => h e.symm)]
/-- All statuses below j together. -/
def sumF (F : Nat → Int) (n : Nat) : Nat → Nat
  | 0 => 0
  | j + 1 => sumF F n j + cntF F j n
theorem sumF_all (F : Nat → Int) (n : Nat) (hx : ∀ i, i < n → 0 ≤ F i ∧ F i < 7) : sumF F n 7 = n := by
  induction n with
  | zero => simp [sumF, cntF]
  | succ n ih =>
    have ih := ih (fun i hi => hx i (by omega))
    simp only [sumF, cntF] at ih ⊢
    obtain ⟨h0, h7⟩ := hx n (by omega)
    have : F n = 0 ∨ F n = 1 ∨ F n = 2 ∨ F n = 3 ∨ F n = 4 ∨ F n = 5 ∨ F n = 6 := by omega
    rcases this with h | h | h | h | h | h | h <;> simp only [h] <;> simp at ih ⊢ <;> omega
theorem sumF_le (F : Nat → Int) (n j : Nat) : sumF F n j ≤ n * j := by
  induction j with
  | zero => simp [sumF]
  | succ j ih =>
    have := cntF_le F (j : Int) n
    simp only [sumF]
    rw [Nat.mul_succ]; omega
abbrev sumC (xs : List Int) (n j : Nat) : Nat := sumF (fun i => xs.getD i 0) n j
theorem sumC_all (xs : List Int) (n : Nat) (hx : ∀ i, i < n → 0 ≤ xs.getD i 0 ∧ xs.getD i 0 < 7) : sumC xs n 7 = n := sumF_all _ n hx
theorem sumC_le (xs : List Int) (n j : Nat) : sumC xs n j ≤ n * j := sumF_le _ n j
theorem cn_seven (xs : List Int) (n : Nat) (hx : ∀ i, i < n → xs.getD i 0 < 7) : cn xs 7 n = 0 := by
  induction n with
  | zero => rfl
  | succ n ih =>
    have h := hx n (by omega)
    have ih := ih (fun i hi => hx i (by omega))
    simp only [cn, cntF] at ih ⊢
    rw [ih, if_neg (by omega)]
theorem legal_b {u t : Int} (h : stLegal u t = true) (h0 : 0 ≤ u) (h1 : u ≤ 6) : u ≤ 5 ∧ 1 ≤ t ∧ t ≤ 6 ∧ u ≠ t := by
  unfold stLegal at h
  split at h
  · simp at h; omega
  · split at h
    · simp at h; omega
    · simp at h; omega

/-- The memory, the table's variable, the steps, as they stand. -/
structure Cs (w0 : World) (b g tb K : Nat) (xs : List Int) (c : Nat) (w : World) : Prop where
  m : Mem w b g xs c
  t : w.heap[tb]? = some (.cells #[.int .i64 0, .int .i64 K] 27 (0, 0))
  s : StSteps w
  B : Below w0.heap.size w0 w
  len : xs.length = K
  v : ∀ i, i < K → 0 ≤ xs.getD i 0 ∧ xs.getD i 0 < 7
  hb : w0.heap.size ≤ b
  hg : w0.heap.size ≤ g
  tb1 : tb ≠ b
  tb2 : tb ≠ g
  g0 : 0 < w0.heap.size
theorem Cs.step {w0 w w' : World} {b g tb K c c' : Nat} {xs ys : List Int} (h : Cs w0 b g tb K xs c w) (ho : Only b g w w') (hm : Mem w' b g ys c') (hl : ys.length = K) (hv : ∀ i, i < K → 0 ≤ ys.getD i 0 ∧ ys.getD i 0 < 7) : Cs w0 b g tb K ys c' w' :=
  ⟨hm, ho.keep h.t h.tb1 h.tb2, h.s.only ho (by have := h.g0; have := h.hb; omega) (by have := h.g0; have := h.hg; omega), h.B.trans (ho.below h.hb h.hg h.B.size), hl, hv, h.hb, h.hg, h.tb1, h.tb2, h.g0⟩
theorem Cs.same {w0 w w' : World} {b g tb K c c' : Nat} {xs : List Int} (h : Cs w0 b g tb K xs c w) (ho : Only b g w w') (hm : Mem w' b g xs c') : Cs w0 b g tb K xs c' w' := h.step ho hm h.len h.v
theorem Cs.drew {w0 w : World} {b g tb K c : Nat} {xs : List Int} (h : Cs w0 b g tb K xs c w) : Cs w0 b g tb K xs c w.drew := h.same (Only.of_quiet ⟨1, rfl⟩) h.m.drew
theorem Cs.c0 {w0 w : World} {b g tb K c : Nat} {xs : List Int} (h : Cs w0 b g tb K xs c w) : w.cell? ⟨tb, 0, none⟩ = some (.int .i64 0) := cell_of_blk h.t rfl
theorem Cs.c1 {w0 w : World} {b g tb K c : Nat} {xs : List Int} (h : Cs w0 b g tb K xs c w) : w.cell? ⟨tb, 1, none⟩ = some (.int .i64 K) := cell_of_blk h.t rfl
/-- One count. -/
theorem Cs.count {w0 w : World} {b g tb K c : Nat} {xs : List Int} (h : Cs w0 b g tb K xs c w) (hc : c ≤ 900000000) (hK : K ≤ 20) (s : Int) (hs : 0 ≤ s) :
    Calls Tryd.prog 10 #[.agg #[.int .i64 0, .int .i64 K], .pointer (some ⟨b, 0, none⟩), .int .u64 s] w fun e w' => e = .returned (.int .i64 (cn xs s K)) ∧ Cs w0 b g tb K xs (c + K) w' :=
  (tc b g xs c K s w h.m (by omega) (by rw [h.len]; exact Nat.le_refl _) (fun i hi => (h.v i hi).2) hs).mono fun _ _ ⟨he, hm, ho⟩ => ⟨he, h.same ho hm⟩
theorem Cs.of {w0 w : World} {b g tb K c : Nat} {xs : List Int} (h : Cs w0 b g tb K xs c w) (hc : c ≤ 900000000) (j : Nat) (hj : j < K) (hK : K ≤ 20) :
    Calls Tryd.prog 9 #[.agg #[.int .i64 0, .int .i64 K], .pointer (some ⟨b, 0, none⟩), .int .i64 j] w fun e w' => e = .returned (.int .u64 (xs.getD j 0)) ∧ Cs w0 b g tb K xs (c + 1) w' :=
  (tof_in b g xs c 0 K j (xs.getD j 0) w h.m (by omega) (by omega) (by omega) (by omega) (by rw [h.len]; omega) (by congr 1; omega) (h.v j hj).2).mono fun _ _ ⟨he, hm, ho⟩ => ⟨he, h.same ho hm⟩
theorem Cs.move {w0 w : World} {b g tb K c : Nat} {xs : List Int} (h : Cs w0 b g tb K xs c w) (hc : c ≤ 900000000) (j : Nat) (hj : j < K) (hK : K ≤ 20) (t : Int) (t0 : 0 ≤ t) (hlg : stLegal (xs.getD j 0) t = true) :
    Calls Tryd.prog 11 #[.agg #[.int .i64 0, .int .i64 K], .pointer (some ⟨b, 0, none⟩), .int .i64 j, .int .u64 (xs.getD j 0), .int .u64 t] w fun e w' => e = .returned (.bool true) ∧ Cs w0 b g tb K (xs.set j t) (c + 1) w' := by
  have hv := h.v j hj
  have hlb := legal_b hlg hv.1 (by omega)
  refine (tmove_yes b g xs c 0 K j (xs.getD j 0) t w h.s h.m (by omega) (by omega) (by omega) (by omega) (by rw [h.len]; omega) hv.1 t0 hlg (by omega) (by omega) (by congr 1; omega)).mono ?_
  rintro e w' ⟨rfl, hm, ho⟩
  have e1 : ((0 : Int) + (j : Int)).toNat = j := by omega
  rw [e1] at hm
  refine ⟨rfl, h.step ho hm (by rw [List.length_set, h.len]) (fun i hi => ?_)⟩
  rw [set_getD _ _ _ (by rw [h.len]; exact hj)]
  split
  · omega
  · exact h.v i hi
theorem Cs.stay {w0 w : World} {b g tb K c : Nat} {xs : List Int} (h : Cs w0 b g tb K xs c w) (hc : c ≤ 900000000) (j : Nat) (hj : j < K) (hK : K ≤ 20) (t : Int) (t0 : 0 ≤ t) (hlg : stLegal (xs.getD j 0) t = false) :
    Calls Tryd.prog 11 #[.agg #[.int .i64 0, .int .i64 K], .pointer (some ⟨b, 0, none⟩), .int .i64 j, .int .u64 (xs.getD j 0), .int .u64 t] w fun e w' => e = .returned (.bool false) ∧ Cs w0 b g tb K xs c w' :=
  (tmove_illegal b g xs c 0 K j (xs.getD j 0) t w h.s h.m (by omega) (by omega) (by omega) (by omega) (by rw [h.len]; omega) (h.v j hj).1 t0 hlg).mono fun _ _ ⟨he, hm, ho⟩ => ⟨he, h.same ho hm⟩
end Go.Proofs.YtpmldcnmnadgaaaDoor.statusCounts
