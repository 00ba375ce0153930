/- What a heap's Put, Take and Remove are to its row in order. -/
import Derived.Test.YtlppnkemoomllaaHeapO2
import Derived.Test.YtlppnkemoomllaaHeapP
import Derived.Test.YtlppnkemoomllaaHeapU
namespace Go.Proofs.Ytlppnkemoomllaa.Tk
set_option linter.unusedVariables false
set_option linter.unusedSimpArgs false

theorem count_app (es : List (Int × Int × Int)) (a e : Int × Int × Int) : (es ++ [a]).count e = if e = a then es.count a + 1 else es.count e := by
  rw [List.count_append]
  by_cases h : e = a
  · simp [h]
  · simp only [List.count_cons, List.count_nil, beq_iff_eq, if_neg h]
    rw [if_neg (fun q => h q.symm)]; omega
theorem put_count (es : List (Int × Int × Int)) (a e : Int × Int × Int) : (riseF es.length (es ++ [a]) es.length).count e = if e = a then es.count a + 1 else es.count e := by
  rw [rise_count _ _ _ (by simp) e, count_app]
theorem put_len (es : List (Int × Int × Int)) (a : Int × Int × Int) : (riseF es.length (es ++ [a]) es.length).length = es.length + 1 := by
  rw [rise_len]; simp
/-- What is behind the one at the top. -/
theorem take_count {es : List (Int × Int × Int)} {m : Nat} (hm : es.length = m + 1) (e : Int × Int × Int) :
    es.count e = (sinkF (m + 1) ((sw es 0 m).take m) m 0).count e + if e = enAt es 0 then 1 else 0 := by
  have hl : ((sw es 0 m).take m).length = m := by rw [List.length_take, sw_len]; omega
  have h1 : (sinkF (m + 1) ((sw es 0 m).take m) m 0).count e = ((sw es 0 m).take m).count e := by
    rcases Nat.eq_zero_or_pos m with h0 | h0
    · subst h0
      have : (sw es 0 0).take 0 = [] := rfl
      rw [this]
      have hk : lk [] 0 0 4 = 0 := by decide
      simp [sinkF, hk]
    · have := sink_count (m + 1) ((sw es 0 m).take m) 0 (by omega) e
      rw [hl] at this
      exact this
  have h2 := sw_count es 0 m (by omega) (by omega) e
  have h3 : sw es 0 m = (sw es 0 m).take m ++ [enAt es 0] := by
    have hsl : (sw es 0 m).length = m + 1 := by rw [sw_len]; exact hm
    have h4 := List.take_append_drop m (sw es 0 m)
    have h5 : (sw es 0 m).drop m = [enAt es 0] := by
      rw [List.drop_eq_getElem_cons (by omega)]
      have h6 : (sw es 0 m)[m] = enAt es 0 := by
        have := enAt_sw es 0 m m (by omega)
        rw [if_pos rfl] at this
        rw [← this, enAt_get]
      rw [h6, List.drop_eq_nil_of_le (by omega)]
    rw [h5] at h4
    exact h4.symm
  rw [h1, ← h2]
  conv => lhs; rw [h3]
  rw [List.count_append, List.count_cons, List.count_nil]
  by_cases h : e = enAt es 0
  · simp [h]
  · simp only [beq_iff_eq, if_neg h]; rw [if_neg (fun q => h q.symm)]
theorem take_len {es : List (Int × Int × Int)} {m : Nat} (hm : es.length = m + 1) : (sinkF (m + 1) ((sw es 0 m).take m) m 0).length = m := by
  rw [sink_len, List.length_take, sw_len]; omega
/-- What is left isn't ahead of the one that was taken. -/
theorem take_le {es : List (Int × Int × Int)} {m : Nat} (ho : Ord es) (hm : es.length = m + 1) : ∀ e, 0 < (sinkF (m + 1) ((sw es 0 m).take m) m 0).count e → leE (enAt es 0) e := by
  intro e he
  have h1 := take_count hm e
  have h2 : 0 < es.count e := by omega
  obtain ⟨i, hi, h3⟩ := List.mem_iff_getElem.1 (List.count_pos_iff.1 h2)
  have := root_le ho i i (Nat.le_refl _) hi
  rw [enAt_get hi, h3] at this
  exact this
theorem enAt_pos {es : List (Int × Int × Int)} (h : 0 < es.length) : 0 < es.count (enAt es 0) := by
  rw [List.count_pos_iff, enAt_get h]
  exact List.getElem_mem h

theorem sort_perm {l m : List (Int × Int × Int)} (h : l.Perm m) : sortE l = sortE m :=
  ord_unique _ _ ((sortE_perm l).trans (h.trans (sortE_perm m).symm)) (sortE_ord l) (sortE_ord m)
theorem sort_put (es : List (Int × Int × Int)) (x : Int × Int × Int) : sortE (riseF es.length (es ++ [x]) es.length) = insF x (sortE es) := by
  refine ord_unique _ _ ((sortE_perm _).trans ?_) (sortE_ord _) (insF_ord x _ (sortE_ord es))
  refine List.Perm.trans (List.perm_iff_count.2 fun e => rise_count _ _ _ (by simp) e) ?_
  refine List.Perm.trans ?_ (insF_perm x _).symm
  exact (List.perm_append_comm).trans ((sortE_perm es).symm.cons x)
theorem take_perm {es : List (Int × Int × Int)} {m : Nat} (hm : es.length = m + 1) : es.Perm (enAt es 0 :: sinkF (m + 1) ((sw es 0 m).take m) m 0) := by
  refine List.perm_iff_count.2 fun e => ?_
  rw [take_count hm e, List.count_cons]
  by_cases h : e = enAt es 0
  · simp [h]
  · simp only [beq_iff_eq, if_neg h]; rw [if_neg (fun q => h q.symm)]
theorem sort_take {es : List (Int × Int × Int)} {m : Nat} (ho : Ord es) (hm : es.length = m + 1) : sortE es = enAt es 0 :: sortE (sinkF (m + 1) ((sw es 0 m).take m) m 0) := by
  refine ord_unique _ _ ((sortE_perm _).trans ((take_perm hm).trans ((sortE_perm _).symm.cons _))) (sortE_ord _) (List.pairwise_cons.2 ⟨fun y hy => ?_, sortE_ord _⟩)
  exact take_le ho hm y (List.count_pos_iff.2 ((sortE_perm _).mem_iff.1 hy))
theorem sort_head {es : List (Int × Int × Int)} (ho : Ord es) (h : 0 < es.length) : ∃ l, sortE es = enAt es 0 :: l := by
  obtain ⟨m, hm⟩ : ∃ m, es.length = m + 1 := ⟨es.length - 1, by omega⟩
  exact ⟨_, sort_take ho hm⟩
theorem sort_len (es : List (Int × Int × Int)) : (sortE es).length = es.length := (sortE_perm es).length_eq
theorem sort_filter (p : Int × Int × Int → Bool) (es T : List (Int × Int × Int)) (h : T.Perm (es.filter p)) : sortE T = (sortE es).filter p :=
  ord_unique _ _ ((sortE_perm T).trans (h.trans ((sortE_perm es).symm.filter p))) (sortE_ord T) ((sortE_ord es).sublist (List.filter_sublist))
end Go.Proofs.Ytlppnkemoomllaa.Tk
