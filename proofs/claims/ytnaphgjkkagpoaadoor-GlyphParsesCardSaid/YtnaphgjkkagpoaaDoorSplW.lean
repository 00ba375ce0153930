/- A text cut at its blanks, as lists of bytes; no program. -/
import Derived.Test.YtnaphgjkkagpoaaDoorGlW
import Derived.Lib.SplitLaws
namespace Go.Proofs.YtnaphgjkkagpoaaDoor
set_option linter.unusedVariables false
set_option linter.unusedSimpArgs false
open Go.Lib

/-- A text's words: what stands between its blanks. -/
def spl : List UInt8 → List (List UInt8)
  | [] => [[]]
  | c :: l => if c = 32 then [] :: spl l else match spl l with
    | h :: t => (c :: h) :: t
    | [] => [[c]]
theorem spl_ne : ∀ l, ∃ h t, spl l = h :: t
  | [] => ⟨_, _, rfl⟩
  | c :: l => by
    unfold spl
    split
    · exact ⟨_, _, rfl⟩
    · obtain ⟨h, t, e⟩ := spl_ne l
      rw [e]
      exact ⟨_, _, rfl⟩
theorem spl_blank (l : List UInt8) : spl (32 :: l) = [] :: spl l := by simp [spl]
theorem spl_other {c : UInt8} {l h : List UInt8} {t : List (List UInt8)} (hc : c ≠ 32) (e : spl l = h :: t) : spl (c :: l) = (c :: h) :: t := by
  simp [spl, hc, e]
theorem split_spl : ∀ l, splitK [32] 0 (count l [32]) l = spl l
  | [] => by rw [count_miss (by simp [index])]; rfl
  | b :: l => by
    by_cases hb : b = 32
    · subst hb
      rw [count_cons_eq, Nat.add_comm, spl_blank, ← split_spl l]
      have hix : index (32 :: l) [32] = 0 := by rw [index]; simp [List.isPrefixOf]
      rw [splitK, hix]
      simp
    · rw [count_cons_ne b 32 l hb]
      have hp : ([32] : List UInt8).isPrefixOf (b :: l) = false := by simp [List.isPrefixOf, Ne.symm hb]
      have hix : index (b :: l) [32] = if index l [32] == -1 then -1 else index l [32] + 1 := by rw [index, hp]; simp
      by_cases hm : index l [32] = -1
      · have ih := split_spl l
        rw [count_miss hm] at ih ⊢
        have e : spl l = [l] := ih.symm
        rw [spl_other hb e]
        rfl
      · have hge := index_ge l [32]
        obtain ⟨j, hj⟩ : ∃ j : Nat, index l [32] = j := ⟨(index l [32]).toNat, by omega⟩
        have ih := split_spl l
        rw [count_hit (by simp) hj] at ih ⊢
        rw [show 1 + count (List.drop (j + ([32] : List UInt8).length) l) [32] = count (List.drop (j + ([32] : List UInt8).length) l) [32] + 1 by omega] at ih ⊢
        rw [splitK, hj] at ih
        rw [if_neg (by simp)] at ih
        rw [splitK, hix, hj, if_neg (by simp; omega)]
        simp only [Int.toNat_natCast, Nat.add_zero] at ih
        rw [spl_other hb ih.symm]
        have : ((j : Int) + 1).toNat = j + 1 := by omega
        have h0 : ¬ ((j : Int) == -1) = true := by simp
        rw [if_neg h0, this]
        simp [Nat.add_assoc, Nat.add_comm 1]
theorem spl_app : ∀ {x r : List UInt8}, (∀ c ∈ x, c ≠ 32) → spl (x ++ 32 :: r) = x :: spl r
  | [], r, _ => spl_blank r
  | c :: x, r, h => spl_other (h c (by simp)) (spl_app (x := x) (fun d hd => h d (by simp [hd])))
theorem spl_one : ∀ {x : List UInt8}, (∀ c ∈ x, c ≠ 32) → spl x = [x]
  | [], _ => rfl
  | c :: x, h => spl_other (h c (by simp)) (spl_one (x := x) (fun d hd => h d (by simp [hd])))
theorem spl_tail : ∀ {x : List UInt8} {r : List (List UInt8)}, (∀ c ∈ x, c ≠ 32) → (∀ y ∈ r, ∀ c ∈ y, c ≠ 32) → spl (x ++ joinTail [32] r) = x :: r
  | x, [], hx, _ => by rw [show joinTail [32] ([] : List (List UInt8)) = [] from rfl, List.append_nil]; exact spl_one hx
  | x, y :: r, hx, hr => by
    rw [Gw.tail_cons, spl_app hx, spl_tail (hr y (by simp)) (fun z hz => hr z (by simp [hz]))]
/-- Words joined are cut again. -/
theorem spl_join {ws : List (List UInt8)} (h0 : ws ≠ []) (h : ∀ x ∈ ws, ∀ c ∈ x, c ≠ 32) : spl (join ws [32]) = ws := by
  cases ws with
  | nil => exact absurd rfl h0
  | cons x r => rw [join_cons]; exact spl_tail (h x (by simp)) (fun y hy => h y (List.mem_cons_of_mem _ hy))
theorem join_tail : ∀ l h t, spl l = h :: t → h ++ joinTail [32] t = l
  | [], h, t, e => by
    simp only [spl, List.cons.injEq] at e
    obtain ⟨rfl, rfl⟩ := e
    rfl
  | c :: l, h, t, e => by
    by_cases hc : c = 32
    · subst hc
      rw [spl_blank] at e
      simp only [List.cons.injEq] at e
      obtain ⟨rfl, rfl⟩ := e
      obtain ⟨h', t', e'⟩ := spl_ne l
      rw [e', Gw.tail_cons, join_tail l h' t' e']
      rfl
    · obtain ⟨h', t', e'⟩ := spl_ne l
      rw [spl_other hc e'] at e
      simp only [List.cons.injEq] at e
      obtain ⟨rfl, rfl⟩ := e
      rw [List.cons_append, join_tail l h' t' e']
/-- What was cut is joined again. -/
theorem join_spl (l : List UInt8) : join (spl l) [32] = l := by
  obtain ⟨h, t, e⟩ := spl_ne l
  rw [e, join_cons]
  exact join_tail l h t e
theorem spl_len : ∀ l, (spl l).length ≤ l.length + 1
  | [] => by simp [spl]
  | c :: l => by
    have ih := spl_len l
    by_cases hc : c = 32
    · subst hc; rw [spl_blank]; simp; omega
    · obtain ⟨h', t', e'⟩ := spl_ne l
      rw [spl_other hc e']; rw [e'] at ih; simp at ih ⊢; omega
theorem spl_word : ∀ l x, x ∈ spl l → x.length ≤ l.length
  | [], x, h => by simp [spl] at h; subst h; simp
  | c :: l, x, h => by
    by_cases hc : c = 32
    · subst hc
      rw [spl_blank] at h
      rcases List.mem_cons.1 h with rfl | h
      · simp
      · have := spl_word l x h; simp; omega
    · obtain ⟨h', t', e'⟩ := spl_ne l
      rw [spl_other hc e'] at h
      rcases List.mem_cons.1 h with rfl | h
      · have := spl_word l h' (by rw [e']; simp); simp; omega
      · have := spl_word l x (by rw [e']; simp [h]); simp; omega
end Go.Proofs.YtnaphgjkkagpoaaDoor
