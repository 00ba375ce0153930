/- What rises and sinks is turned about, and nothing else: each entry stays as often as it was. -/
import Derived.Test.YtlppnkemoomllaaHeap5
namespace Go.Proofs.Ytlppnkemoomllaa
set_option linter.unusedVariables false
set_option linter.unusedSimpArgs false

theorem enAt_get {es : List (Int × Int × Int)} {i : Nat} (h : i < es.length) : enAt es i = es[i] := by
  simp [enAt, List.getD_eq_getElem?_getD, h]
theorem count_set1 : ∀ (es : List (Int × Int × Int)) (i : Nat) (a e : Int × Int × Int), i < es.length →
    (es.set i a).count e + (if enAt es i = e then 1 else 0) = es.count e + (if a = e then 1 else 0)
  | [], i, a, e, h => by simp at h
  | x :: es, 0, a, e, _ => by
    simp only [List.set_cons_zero, List.count_cons, enAt, List.getD_cons_zero, beq_iff_eq]
    omega
  | x :: es, i + 1, a, e, h => by
    have := count_set1 es i a e (by simpa using h)
    simp only [List.set_cons_succ, List.count_cons, beq_iff_eq]
    have e1 : enAt (x :: es) (i + 1) = enAt es i := by simp [enAt]
    rw [e1]
    omega
theorem enAt_set (es : List (Int × Int × Int)) (i j : Nat) (a : Int × Int × Int) (hj : j < es.length) : enAt (es.set i a) j = if i = j then a else enAt es j := by
  unfold enAt
  rw [List.getD_eq_getElem?_getD, List.getD_eq_getElem?_getD, List.getElem?_set]
  by_cases h : i = j
  · subst h; simp [hj]
  · simp [h]
theorem sw_count (es : List (Int × Int × Int)) (i j : Nat) (hi : i < es.length) (hj : j < es.length) (e : Int × Int × Int) : (sw es i j).count e = es.count e := by
  have h1 := count_set1 es i (enAt es j) e hi
  have h2 := count_set1 (es.set i (enAt es j)) j (enAt es i) e (by simpa using hj)
  rw [enAt_set es i j _ hj] at h2
  unfold sw
  by_cases h : i = j
  · subst h; simp only [if_true] at h2; omega
  · rw [if_neg h] at h2; omega
theorem rise_count : ∀ (f : Nat) (es : List (Int × Int × Int)) (i : Nat) (hi : i < es.length) (e : Int × Int × Int), (riseF f es i).count e = es.count e
  | 0, es, i, hi, e => rfl
  | f + 1, es, i, hi, e => by
    unfold riseF
    split
    · rfl
    · split
      · rw [rise_count f _ _ (by rw [sw_len]; omega) e, sw_count es i _ hi (by omega) e]
      · rfl
theorem rise_len : ∀ (f : Nat) (es : List (Int × Int × Int)) (i : Nat), (riseF f es i).length = es.length
  | 0, es, i => rfl
  | f + 1, es, i => by
    unfold riseF
    split
    · rfl
    · split
      · rw [rise_len f, sw_len]
      · rfl
theorem sink_count : ∀ (f : Nat) (es : List (Int × Int × Int)) (i : Nat) (hi : i < es.length) (e : Int × Int × Int), (sinkF f es es.length i).count e = es.count e
  | 0, es, i, hi, e => rfl
  | f + 1, es, i, hi, e => by
    unfold sinkF
    split
    · rfl
    · have hl := lk_lt es es.length i hi 4
      have := sink_count f (sw es i (lk es es.length i 4)) (lk es es.length i 4) (by rw [sw_len]; exact hl) e
      rw [sw_len] at this
      rw [this, sw_count es i _ hi hl e]
theorem sink_len : ∀ (f : Nat) (es : List (Int × Int × Int)) (n i : Nat), (sinkF f es n i).length = es.length
  | 0, es, n, i => rfl
  | f + 1, es, n, i => by
    unfold sinkF
    split
    · rfl
    · rw [sink_len f, sw_len]
end Go.Proofs.Ytlppnkemoomllaa
