/- The contracts of package batch, continued: List, Copy, Take, TakeMost, Half, Put. -/
import Derived.Test.YtpmggkngakdkhaaBatch
import Derived.Maps.AppendAt
import Derived.Laws.AppendOwnNone
namespace Go.Proofs.Ytpmggkngakdkhaa
set_option linter.unusedVariables false
set_option linter.unusedSimpArgs false
open Go.RowKit

theorem ClonePost.quiet {xs : List Int} {w w1 : World} {e : Ending} {w' : World} (h : ClonePost xs w1 e w') (hq : Quiet w w1) : ClonePost xs w e w' := by
  obtain ⟨v', he, ho, hb⟩ := h
  rw [hq.heap] at ho hb
  exact ⟨v', he, ho, (hq.below _).trans hb⟩
theorem NewPost.quiet {xs : List Int} {w w1 : World} {e : Ending} {w' : World} (h : NewPost xs w1 e w') (hq : Quiet w w1) : NewPost xs w e w' := by
  obtain ⟨p, r, he, ho, h1, h2, hb⟩ := h
  rw [hq.heap] at h1 h2 hb
  exact ⟨p, r, he, ho, h1, h2, (hq.below _).trans hb⟩

set_option maxHeartbeats 1000000 in
theorem list_any (p : Nat) (r : Option Nat) (xs : List Int) (w : World) (hb : Bat w p r xs) :
    Calls Try.prog 15 #[.pointer (some ⟨p, 0, none⟩)] w (ClonePost xs w) := by
  have hl := hb.len
  have HB := hid hb
  clear hb
  go_enter Try.func15, Try.ntmps15
  go_wp2_with fail
  refine (row_any p r xs _ HB.out).mono ?_
  rintro e w1 ⟨v, rfl, hr, hq⟩
  go_wp2_with fail
  refine (clone_int v xs _ (by omega) hr).mono ?_
  rintro e w2 ⟨v', rfl, ho, hbel⟩
  have FIN := hid (ClonePost.quiet ⟨v', rfl, ho, hbel⟩ hq)
  obtain ⟨va, vc, rfl⟩ := ho.slice
  clear ho hr
  go_wp2
  go_ret
  exact FIN.out

set_option maxHeartbeats 1000000 in
theorem bcopy_any (p : Nat) (r : Option Nat) (xs : List Int) (w : World) (hb : Bat w p r xs) :
    Calls Try.prog 11 #[.pointer (some ⟨p, 0, none⟩)] w (NewPost xs w) := by
  have hl := hb.len
  have HB := hid hb
  clear hb
  go_enter Try.func11, Try.ntmps11
  go_wp2_with fail
  refine (row_any p r xs _ HB.out).mono ?_
  rintro e w1 ⟨v, rfl, hr, hq⟩
  go_wp2_with fail
  refine (of_any v xs _ hl hr).mono ?_
  rintro e w2 ⟨p', r', rfl, h1, h2, h3, h4⟩
  have FIN := hid (NewPost.quiet ⟨p', r', rfl, h1, h2, h3, h4⟩ hq)
  clear h1
  go_wp2
  go_ret
  exact FIN.out

/-- What a take leaves: the rest of the row, in the same block or a new one. -/
def Left (p : Nat) (r : Option Nat) (ys : List Int) (w w' : World) : Prop :=
  ∃ r', Bat w' p r' ys ∧ OnlyO p r w w' ∧ (r' = r ∨ ∀ k, r' = some k → w.heap.size ≤ k)
theorem Left.quiet {p : Nat} {r : Option Nat} {ys : List Int} {w w1 w' : World} (h : Left p r ys w1 w') (hq : Quiet w w1) : Left p r ys w w' := by
  obtain ⟨r', h1, h2, h3⟩ := h
  exact ⟨r', h1, (OnlyO.quiet hq).trans h2 (.inl rfl), by rw [hq.heap] at h3; exact h3⟩

set_option maxHeartbeats 1000000 in
theorem take_nil (p : Nat) (r : Option Nat) (w : World) (hb : Bat w p r []) :
    Calls Try.prog 50 #[.pointer (some ⟨p, 0, none⟩)] w fun e w' => e = .returned (.tuple #[.int .i64 0, .bool false]) ∧ Quiet w w' := by
  have HB := hid hb
  clear hb
  have L := hid (fun w h => blen_any p r [] w h)
  go_enter Try.func50, Try.ntmps50
  go_wp2_with fail
  refine (L.out _ HB.out).mono ?_
  rintro e w1 ⟨rfl, hq⟩
  go_wp2
  go_ret2
  exact ⟨rfl, hq⟩

set_option maxHeartbeats 1000000 in
theorem take_cons (p : Nat) (r : Option Nat) (x : Int) (ys : List Int) (w : World) (hb : Bat w p r (x :: ys)) :
    Calls Try.prog 50 #[.pointer (some ⟨p, 0, none⟩)] w fun e w' => e = .returned (.tuple #[.int .i64 x, .bool true]) ∧ Left p r ys w w' := by
  have HB := hid hb
  have hl := hb.len
  obtain ⟨n, hn⟩ : ∃ n, n = (x :: ys).length := ⟨_, rfl⟩
  have L := hid (fun w h => blen_any p r (x :: ys) w h)
  rw [← hn] at L
  have hn0 : ((n : Int) == 0) = false := beq_eq_false_iff_ne.2 (by rw [hn]; simp; omega)
  have hnp : 0 < n := by rw [hn]; simp
  have HN := hid hn
  clear hb hn hl
  go_enter Try.func50, Try.ntmps50
  go_wp2_with fail
  refine (L.out _ HB.out).mono ?_
  rintro e w1 ⟨rfl, hq1⟩
  have HB1 := hid (HB.out.quiet hq1)
  go_wp2_with fail
  refine (row_any p r (x :: ys) _ HB1.out).mono ?_
  rintro e w2 ⟨v, rfl, hr, hq2⟩
  have HB2 := hid (HB1.out.quiet hq2)
  obtain ⟨a, c, rfl, _, hrd⟩ := hr
  obtain ⟨g, off, rfl, hg, hcell⟩ := hrd (by simp)
  have hc0 : w2.cell? ⟨g, off, none⟩ = some (.int .i64 x) := by simpa using hcell 0 (by simp)
  clear hrd hcell
  rw [← HN.out]
  go_wp2_with fail
  refine (drop_any p r (x :: ys) 1 _ HB2.out (by simp)).mono ?_
  rintro e w3 ⟨rfl, hleft⟩
  have HF := hid (Left.quiet (p := p) (r := r) (ys := ys) (w1 := w2) hleft (hq1.trans hq2))
  clear hleft
  go_wp2
  go_ret2
  exact ⟨rfl, HF.out⟩

/-- What TakeMost hands back, and leaves. -/
def MostPost (p : Nat) (r : Option Nat) (xs : List Int) (k : Nat) (w : World) (e : Ending) (w' : World) : Prop :=
  ∃ v r', e = .returned v ∧ Owns w' w.heap.size v (xs.take k) ∧ Bat w' p r' (xs.drop k) ∧ OnlyO p r w w' ∧ (r' = r ∨ ∀ k, r' = some k → w.heap.size ≤ k) ∧ (∀ q, v.ownBlock = some q → q ≠ p ∧ r' ≠ some q)

theorem drop_i (p : Nat) (r : Option Nat) (xs : List Int) (n : Int) (k : Nat) (hk : n = k) (w : World) (hb : Bat w p r xs) (hn : k ≤ xs.length) :
    Calls Try.prog 53 #[.pointer (some ⟨p, 0, none⟩), .int .i64 n] w (DropPost p r xs k w) := by
  subst hk; exact drop_any p r xs k w hb hn
theorem most_end {p : Nat} {r : Option Nat} {xs : List Int} {k : Nat} {w w2 w3 w4 : World} {v : Value} {e : Ending} (hq : Quiet w w2) (hb2 : Bat w2 p r xs) (ho : Owns w3 w2.heap.size v (xs.take k)) (hbel : Below w2.heap.size w2 w3) (hd : DropPost p r xs k w3 e w4) :
    MostPost p r xs k w (.returned v) w4 := by
  obtain ⟨_, r', h1, h2, h3⟩ := hd
  have hs : w2.heap.size = w.heap.size := by rw [hq.heap]
  have hol := ho.lt
  have hne : ∀ q, v.ownBlock = some q → q ≠ p ∧ r ≠ some q := fun q hq' => by
    have := (hol q hq').1
    refine ⟨by have := hb2.lt; omega, fun e => ?_⟩
    have := hb2.rlt q e
    omega
  refine ⟨v, r', rfl, ?_, h1, (OnlyO.quiet hq).trans ((OnlyO.of_below hbel).trans h2 (.inl rfl)) (.inl rfl), ?_, fun q hq' => ⟨(hne q hq').1, ?_⟩⟩
  · rw [← hs]
    exact ho.kept fun q hq' => h2.block q (hol q hq').2 (hne q hq').1 (fun e => (hne q hq').2 e.symm)
  · rcases h3 with h | h
    · exact .inl h
    · exact .inr fun q hq' => by have := h q hq'; have := hbel.size; omega
  · rcases h3 with h | h
    · rw [h]; exact (hne q hq').2
    · intro e; have := h q e; have := (hol q hq').2; omega
theorem reads_take {w : World} {a : Option Addr} {c : Nat} {xs : List Int} {k : Nat} (h : Reads w (.slice a xs.length c) xs) (hk : k ≤ xs.length) : Reads w (.slice a k c) (xs.take k) := by
  obtain ⟨a', c', he, h0, h1⟩ := h
  simp only [Value.slice.injEq, true_and] at he
  obtain ⟨rfl, rfl⟩ := he
  have hl : (xs.take k).length = k := by simp; omega
  refine ⟨a, c, by rw [hl], ⟨by omega, h0.2.1, h0.2.2⟩, fun h => ?_⟩
  obtain ⟨g, off, rfl, h2, h3⟩ := h1 (by omega)
  refine ⟨g, off, rfl, h2, fun j hj => ?_⟩
  rw [h3 j (by omega)]
  congr 2
  simp [List.getD_eq_getElem?_getD, List.getElem?_take]
  rw [if_pos (by omega)]

set_option maxHeartbeats 2000000 in
theorem most_any (p : Nat) (r : Option Nat) (xs : List Int) (n : Int) (k : Nat) (hk : (k : Int) = min (max n 0) xs.length) (w : World) (hb : Bat w p r xs) :
    Calls Try.prog 14 #[.pointer (some ⟨p, 0, none⟩), .int .i64 n] w (MostPost p r xs k w) := by
  have HB := hid hb
  have hl := hb.len
  have hkl : k ≤ xs.length := by omega
  obtain ⟨N, hN⟩ : ∃ N, N = xs.length := ⟨_, rfl⟩
  have L := hid (fun w h => blen_any p r xs w h)
  rw [← hN] at L
  have hcase : (n < 0 ∧ k = 0) ∨ (n = (k : Int) ∧ k ≤ N) ∨ ((N : Int) < n ∧ k = N) := by rw [hN]; omega
  have hNl : N ≤ 1000000 := by omega
  have HN := hid hN
  have HKL := hid hkl
  clear hb hk hl hN hkl
  rcases hcase with ⟨h1, rfl⟩ | ⟨rfl, h2⟩ | ⟨h1, h2⟩
  · go_enter Try.func14, Try.ntmps14
    go_wp2_with fail
    refine (L.out _ HB.out).mono ?_
    rintro e w1 ⟨rfl, hq1⟩
    have HB1 := hid (HB.out.quiet hq1)
    go_wp2_with fail
    refine (row_any p r xs _ HB1.out).mono ?_
    rintro e w2 ⟨v, rfl, hr, hq2⟩
    have HB2 := hid (HB1.out.quiet hq2)
    obtain ⟨a, c, rfl, hc, hrd⟩ := hr
    have RT := hid (reads_take (k := 0) (⟨a, c, rfl, hc, hrd⟩ : Reads w2 (.slice a xs.length c) xs) HKL.out)
    have hNc : N ≤ c := by rw [HN.out]; exact hc.1
    have hcm : c ≤ 9223372036854775807 := by have := hc.2.1; unfold maxLen at this; exact this
    have hac := hc.2.2
    clear hc hrd
    rw [← HN.out]
    rcases hac with ⟨rfl, rfl⟩ | ⟨ad, rfl⟩
    · obtain rfl : N = 0 := by omega
      go_wp2_with fail
      refine (clone_int _ (xs.take 0) _ (by have := HN.out; simp only [List.length_take]; omega) RT.out).mono ?_
      rintro e w3 ⟨v3, rfl, ho3, hbel3⟩
      have HO3 := hid ho3
      have HB3 := hid (HB2.out.below (w' := w3) hbel3)
      obtain ⟨va, vm, vc, rfl⟩ := ho3.slice3
      clear ho3
      go_wp2_with fail
      refine (drop_i p r xs 0 0 rfl _ HB3.out HKL.out).mono ?_
      rintro e w4 hd
      have FIN := hid (most_end (Quiet.trans hq1 hq2) HB2.out HO3.out hbel3 hd)
      obtain ⟨rfl, _⟩ := hd
      go_wp2
      go_ret
      exact FIN.out
    · go_wp2_with fail
      refine (clone_int _ (xs.take 0) _ (by have := HN.out; simp only [List.length_take]; omega) RT.out).mono ?_
      rintro e w3 ⟨v3, rfl, ho3, hbel3⟩
      have HO3 := hid ho3
      have HB3 := hid (HB2.out.below (w' := w3) hbel3)
      obtain ⟨va, vm, vc, rfl⟩ := ho3.slice3
      clear ho3
      go_wp2_with fail
      refine (drop_i p r xs 0 0 rfl _ HB3.out HKL.out).mono ?_
      rintro e w4 hd
      have FIN := hid (most_end (Quiet.trans hq1 hq2) HB2.out HO3.out hbel3 hd)
      obtain ⟨rfl, _⟩ := hd
      go_wp2
      go_ret
      exact FIN.out
  · by_cases h3 : k = N
    · obtain rfl : N = k := h3.symm
      clear h3
      go_enter Try.func14, Try.ntmps14
      go_wp2_with fail
      refine (L.out _ HB.out).mono ?_
      rintro e w1 ⟨rfl, hq1⟩
      have HB1 := hid (HB.out.quiet hq1)
      go_wp2_with fail
      refine (row_any p r xs _ HB1.out).mono ?_
      rintro e w2 ⟨v, rfl, hr, hq2⟩
      have HB2 := hid (HB1.out.quiet hq2)
      obtain ⟨a, c, rfl, hc, hrd⟩ := hr
      have RT := hid (reads_take (k := N) (⟨a, c, rfl, hc, hrd⟩ : Reads w2 (.slice a xs.length c) xs) HKL.out)
      have hNc : N ≤ c := by rw [HN.out]; exact hc.1
      have hcm : c ≤ 9223372036854775807 := by have := hc.2.1; unfold maxLen at this; exact this
      have hac := hc.2.2
      clear hc hrd
      rw [← HN.out]
      rcases hac with ⟨rfl, rfl⟩ | ⟨ad, rfl⟩
      · obtain rfl : N = 0 := by omega
        go_wp2_with fail
        refine (clone_int _ (xs.take 0) _ (by have := HN.out; simp only [List.length_take]; omega) RT.out).mono ?_
        rintro e w3 ⟨v3, rfl, ho3, hbel3⟩
        have HO3 := hid ho3
        have HB3 := hid (HB2.out.below (w' := w3) hbel3)
        obtain ⟨va, vm, vc, rfl⟩ := ho3.slice3
        clear ho3
        go_wp2_with fail
        refine (drop_i p r xs 0 0 rfl _ HB3.out HKL.out).mono ?_
        rintro e w4 hd
        have FIN := hid (most_end (Quiet.trans hq1 hq2) HB2.out HO3.out hbel3 hd)
        obtain ⟨rfl, _⟩ := hd
        go_wp2
        go_ret
        exact FIN.out
      · go_wp2_with fail
        refine (clone_int _ (xs.take N) _ (by have := HN.out; simp only [List.length_take]; omega) RT.out).mono ?_
        rintro e w3 ⟨v3, rfl, ho3, hbel3⟩
        have HO3 := hid ho3
        have HB3 := hid (HB2.out.below (w' := w3) hbel3)
        obtain ⟨va, vm, vc, rfl⟩ := ho3.slice3
        clear ho3
        go_wp2_with fail
        refine (drop_i p r xs N N rfl _ HB3.out HKL.out).mono ?_
        rintro e w4 hd
        have FIN := hid (most_end (Quiet.trans hq1 hq2) HB2.out HO3.out hbel3 hd)
        obtain ⟨rfl, _⟩ := hd
        go_wp2
        go_ret
        exact FIN.out
    · have h4 : k < N := by omega
      clear h3
      go_enter Try.func14, Try.ntmps14
      go_wp2_with fail
      refine (L.out _ HB.out).mono ?_
      rintro e w1 ⟨rfl, hq1⟩
      have HB1 := hid (HB.out.quiet hq1)
      go_wp2_with fail
      refine (row_any p r xs _ HB1.out).mono ?_
      rintro e w2 ⟨v, rfl, hr, hq2⟩
      have HB2 := hid (HB1.out.quiet hq2)
      obtain ⟨a, c, rfl, hc, hrd⟩ := hr
      have RT := hid (reads_take (k := k) (⟨a, c, rfl, hc, hrd⟩ : Reads w2 (.slice a xs.length c) xs) HKL.out)
      have hNc : N ≤ c := by rw [HN.out]; exact hc.1
      have hcm : c ≤ 9223372036854775807 := by have := hc.2.1; unfold maxLen at this; exact this
      have hac := hc.2.2
      clear hc hrd
      rw [← HN.out]
      rcases hac with ⟨rfl, rfl⟩ | ⟨ad, rfl⟩
      · exfalso; omega
      · go_wp2_with fail
        refine (clone_int _ (xs.take k) _ (by have := HN.out; simp only [List.length_take]; omega) RT.out).mono ?_
        rintro e w3 ⟨v3, rfl, ho3, hbel3⟩
        have HO3 := hid ho3
        have HB3 := hid (HB2.out.below (w' := w3) hbel3)
        obtain ⟨va, vm, vc, rfl⟩ := ho3.slice3
        clear ho3
        go_wp2_with fail
        refine (drop_i p r xs k k rfl _ HB3.out HKL.out).mono ?_
        rintro e w4 hd
        have FIN := hid (most_end (Quiet.trans hq1 hq2) HB2.out HO3.out hbel3 hd)
        obtain ⟨rfl, _⟩ := hd
        go_wp2
        go_ret
        exact FIN.out
  · obtain rfl : N = k := h2.symm
    clear h2
    go_enter Try.func14, Try.ntmps14
    go_wp2_with fail
    refine (L.out _ HB.out).mono ?_
    rintro e w1 ⟨rfl, hq1⟩
    have HB1 := hid (HB.out.quiet hq1)
    go_wp2_with fail
    refine (row_any p r xs _ HB1.out).mono ?_
    rintro e w2 ⟨v, rfl, hr, hq2⟩
    have HB2 := hid (HB1.out.quiet hq2)
    obtain ⟨a, c, rfl, hc, hrd⟩ := hr
    have RT := hid (reads_take (k := N) (⟨a, c, rfl, hc, hrd⟩ : Reads w2 (.slice a xs.length c) xs) HKL.out)
    have hNc : N ≤ c := by rw [HN.out]; exact hc.1
    have hcm : c ≤ 9223372036854775807 := by have := hc.2.1; unfold maxLen at this; exact this
    have hac := hc.2.2
    clear hc hrd
    rw [← HN.out]
    rcases hac with ⟨rfl, rfl⟩ | ⟨ad, rfl⟩
    · obtain rfl : N = 0 := by omega
      go_wp2_with fail
      refine (clone_int _ (xs.take 0) _ (by have := HN.out; simp only [List.length_take]; omega) RT.out).mono ?_
      rintro e w3 ⟨v3, rfl, ho3, hbel3⟩
      have HO3 := hid ho3
      have HB3 := hid (HB2.out.below (w' := w3) hbel3)
      obtain ⟨va, vm, vc, rfl⟩ := ho3.slice3
      clear ho3
      go_wp2_with fail
      refine (drop_i p r xs 0 0 rfl _ HB3.out HKL.out).mono ?_
      rintro e w4 hd
      have FIN := hid (most_end (Quiet.trans hq1 hq2) HB2.out HO3.out hbel3 hd)
      obtain ⟨rfl, _⟩ := hd
      go_wp2
      go_ret
      exact FIN.out
    · go_wp2_with fail
      refine (clone_int _ (xs.take N) _ (by have := HN.out; simp only [List.length_take]; omega) RT.out).mono ?_
      rintro e w3 ⟨v3, rfl, ho3, hbel3⟩
      have HO3 := hid ho3
      have HB3 := hid (HB2.out.below (w' := w3) hbel3)
      obtain ⟨va, vm, vc, rfl⟩ := ho3.slice3
      clear ho3
      go_wp2_with fail
      refine (drop_i p r xs N N rfl _ HB3.out HKL.out).mono ?_
      rintro e w4 hd
      have FIN := hid (most_end (Quiet.trans hq1 hq2) HB2.out HO3.out hbel3 hd)
      obtain ⟨rfl, _⟩ := hd
      go_wp2
      go_ret
      exact FIN.out
end Go.Proofs.Ytpmggkngakdkhaa
