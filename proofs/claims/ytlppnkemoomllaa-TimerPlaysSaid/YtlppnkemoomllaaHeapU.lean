/- Rows of entries in order: the one that is built by insertion is the one that a sort makes. -/
import Derived.Test.YtlppnkemoomllaaRef09
namespace Go.Proofs.Ytlppnkemoomllaa
set_option linter.unusedVariables false
set_option linter.unusedSimpArgs false

theorem leE_anti {a b : Int × Int × Int} (h : leE a b) (h' : leE b a) : a = b := by
  obtain ⟨h1, h2, h3⟩ := heapAhead.ahead_tot a.1 a.2.1 a.2.2 b.1 b.2.1 b.2.2 h' h
  exact Prod.ext h1 (Prod.ext h2 h3)
theorem leE_total (a b : Int × Int × Int) : leE a b ∨ leE b a := by
  unfold leE
  cases h : aheadE b a with
  | false => exact .inl rfl
  | true => exact .inr (leE_of h)
theorem insF_perm (e : Int × Int × Int) : ∀ l, (insF e l).Perm (e :: l)
  | [] => List.Perm.refl _
  | x :: l => by
    unfold insF
    split
    · exact List.Perm.refl _
    · exact ((insF_perm e l).cons x).trans (List.Perm.swap e x l)
theorem insF_ord (e : Int × Int × Int) : ∀ l, l.Pairwise leE → (insF e l).Pairwise leE
  | [], h => by simp [insF]
  | x :: l, h => by
    unfold insF
    have hx := List.pairwise_cons.1 h
    split
    · rename_i ha
      refine List.pairwise_cons.2 ⟨fun y hy => ?_, h⟩
      rcases List.mem_cons.1 hy with rfl | hy
      · exact leE_of ha
      · exact leE_trans (leE_of ha) (hx.1 y hy)
    · rename_i ha
      refine List.pairwise_cons.2 ⟨fun y hy => ?_, insF_ord e l hx.2⟩
      rcases List.mem_cons.1 ((insF_perm e l).mem_iff.1 hy) with rfl | hy
      · unfold leE; simpa using ha
      · exact hx.1 y hy
theorem ord_unique : ∀ (l m : List (Int × Int × Int)), l.Perm m → l.Pairwise leE → m.Pairwise leE → l = m
  | [], m, hp, _, _ => (hp.nil_eq)
  | a :: l, [], hp, _, _ => by have := hp.length_eq; simp at this
  | a :: l, b :: m, hp, hl, hm => by
    have h1 := List.pairwise_cons.1 hl
    have h2 := List.pairwise_cons.1 hm
    have e : a = b := by
      have ha : a ∈ b :: m := hp.mem_iff.1 (List.mem_cons_self ..)
      have hb : b ∈ a :: l := hp.mem_iff.2 (List.mem_cons_self ..)
      rcases List.mem_cons.1 ha with h | h
      · exact h
      · rcases List.mem_cons.1 hb with h' | h'
        · exact h'.symm
        · exact leE_anti (h1.1 b h') (h2.1 a h)
    subst e
    rw [ord_unique l m (List.Perm.cons_inv hp) h1.2 h2.2]
/-- The row in order. -/
def sortE (l : List (Int × Int × Int)) : List (Int × Int × Int) := l.mergeSort (fun x y => !aheadE y x)
theorem sortE_perm (l : List (Int × Int × Int)) : (sortE l).Perm l := List.mergeSort_perm ..
theorem sortE_ord (l : List (Int × Int × Int)) : (sortE l).Pairwise leE := by
  have := List.pairwise_mergeSort (le := fun x y => !aheadE y x) (fun a b c h1 h2 => by
    have e1 : leE a b := by unfold leE; simpa using h1
    have e2 : leE b c := by unfold leE; simpa using h2
    have := leE_trans e1 e2
    unfold leE at this
    simp [this]) (fun a b => by
    rcases leE_total a b with h | h
    · unfold leE at h; simp [h]
    · unfold leE at h; simp [h]) l
  exact this.imp (fun h => by unfold leE; simpa using h)
/-- All of a row, one behind the other. -/
def insAll (l : List (Int × Int × Int)) : List (Int × Int × Int) := l.foldl (fun o e => insF e o) []
theorem insAll_spec : ∀ (l o : List (Int × Int × Int)), o.Pairwise leE → (l.foldl (fun o e => insF e o) o).Pairwise leE ∧ (l.foldl (fun o e => insF e o) o).Perm (l ++ o)
  | [], o, h => ⟨h, List.Perm.refl _⟩
  | e :: l, o, h => by
    obtain ⟨h1, h2⟩ := insAll_spec l (insF e o) (insF_ord e o h)
    refine ⟨h1, h2.trans ?_⟩
    exact ((List.Perm.refl l).append (insF_perm e o)).trans List.perm_middle
theorem insAll_sort (l : List (Int × Int × Int)) : insAll l = sortE l := by
  obtain ⟨h1, h2⟩ := insAll_spec l [] List.Pairwise.nil
  rw [List.append_nil] at h2
  exact ord_unique _ _ (h2.trans (sortE_perm l).symm) h1 (sortE_ord l)
end Go.Proofs.Ytlppnkemoomllaa
