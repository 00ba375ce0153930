/- Who runs by which machine, on which processor: what stands behind any events. -/
import Derived.Test.YtkimfejhgfnjoaaDoorModC
namespace Go.Proofs.YtkimfejhgfnjoaaDoor
open Go.RowKit
set_option linter.unusedVariables false
set_option linter.unusedSimpArgs false

/-- How many machines below n run one; what they run, by machines. -/
def rc (f : Int → Option (Int × Int)) : Nat → Nat
  | 0 => 0
  | n + 1 => rc f n + if (f n).isSome then 1 else 0
def gl (π : Int × Int → Int) (f : Int → Option (Int × Int)) : Nat → List Int
  | 0 => []
  | n + 1 => gl π f n ++ match f n with
    | none => []
    | some x => [π x]
theorem gl_none {π : Int × Int → Int} {f : Int → Option (Int × Int)} {n : Nat} (h : f n = none) : gl π f (n + 1) = gl π f n := by simp [gl, h]
theorem gl_some {π : Int × Int → Int} {f : Int → Option (Int × Int)} {n : Nat} {x : Int × Int} (h : f n = some x) : gl π f (n + 1) = gl π f n ++ [π x] := by simp [gl, h]
theorem gl_len (π : Int × Int → Int) (f : Int → Option (Int × Int)) : ∀ n, (gl π f n).length = rc f n
  | 0 => rfl
  | n + 1 => by
    have := gl_len π f n
    rcases h : f n with _ | x
    · rw [gl_none h]; simp [rc, h, this]
    · rw [gl_some h]; simp [rc, h, this]
theorem gl_mem {π : Int × Int → Int} {f : Int → Option (Int × Int)} {a : Int} : ∀ n, a ∈ gl π f n ↔ ∃ i : Nat, i < n ∧ ∃ x, f i = some x ∧ π x = a
  | 0 => by simp [gl]
  | n + 1 => by
    have ih := gl_mem (π := π) (f := f) (a := a) n
    rcases h : f n with _ | x
    · rw [gl_none h, ih]
      constructor
      · rintro ⟨i, hi, r⟩; exact ⟨i, by omega, r⟩
      · rintro ⟨i, hi, y, hy, r⟩
        refine ⟨i, ?_, y, hy, r⟩
        rcases Nat.lt_or_ge i n with h1 | h1
        · exact h1
        · have : i = n := by omega
          subst this
          rw [h] at hy; cases hy
    · rw [gl_some h, List.mem_append, ih, List.mem_singleton]
      constructor
      · rintro (⟨i, hi, r⟩ | e)
        · exact ⟨i, by omega, r⟩
        · exact ⟨n, by omega, x, h, e.symm⟩
      · rintro ⟨i, hi, y, hy, r⟩
        rcases Nat.lt_or_ge i n with h1 | h1
        · exact .inl ⟨i, h1, y, hy, r⟩
        · have : i = n := by omega
          subst this
          rw [h] at hy; cases hy
          exact .inr r.symm
theorem gl_new {π : Int × Int → Int} {f : Int → Option (Int × Int)} (hj : ∀ i j x y, f i = some x → f j = some y → i ≠ j → π x ≠ π y) {n : Nat} {x : Int × Int} (h : f n = some x) : π x ∉ gl π f n := by
  rw [gl_mem]
  rintro ⟨i, hi, y, hy, r⟩
  exact hj i n y x hy h (by omega) r
theorem gl_nodup {π : Int × Int → Int} {f : Int → Option (Int × Int)} (hj : ∀ i j x y, f i = some x → f j = some y → i ≠ j → π x ≠ π y) : ∀ n, (gl π f n).Nodup
  | 0 => by simp [gl]
  | n + 1 => by
    have ih := gl_nodup hj n
    rcases h : f n with _ | x
    · rw [gl_none h]; exact ih
    · rw [gl_some h, List.nodup_append]
      refine ⟨ih, by simp, fun a ha b hb e => ?_⟩
      rw [List.mem_singleton] at hb
      subst hb e
      exact gl_new hj h ha
theorem rc_up (f : Int → Option (Int × Int)) (m : Nat) (v : Option (Int × Int)) : ∀ n, rc (upf f m v) n + (if m < n ∧ (f m).isSome then 1 else 0) = rc f n + if m < n ∧ v.isSome then 1 else 0
  | 0 => by simp [rc]
  | n + 1 => by
    have ih := rc_up f m v n
    simp only [rc]
    by_cases h : (n : Int) = m
    · have hm : m = n := by omega
      subst hm
      simp only [Nat.lt_irrefl, false_and, if_false, Nat.add_zero] at ih
      have e : upf f m v m = v := by simp [upf]
      rw [ih, e]
      simp only [Nat.lt_succ_self, true_and]
      omega
    · have e : upf f m v n = f n := by simp [upf, h]
      rw [e]
      have h1 : (m < n + 1) ↔ m < n := by omega
      simp only [h1]
      omega
theorem rc_le (f : Int → Option (Int × Int)) : ∀ n, rc f n ≤ n
  | 0 => by simp [rc]
  | n + 1 => by have := rc_le f n; simp only [rc]; split <;> omega
/-- So many numbers apart, all below n: n at most. -/
theorem few : ∀ (n : Nat) (l : List Int), l.Nodup → (∀ a ∈ l, 0 ≤ a ∧ a < n) → l.length ≤ n
  | 0, l, _, h => by
    cases l with
    | nil => simp
    | cons a t => have := h a (by simp); omega
  | n + 1, l, hn, h => by
    have h1 := few n (l.erase (n : Int)) (hn.erase _) (fun a ha => by
      have h2 := List.mem_of_mem_erase ha
      have h3 := h a h2
      have h4 : a ≠ n := fun e => by subst e; exact (List.Nodup.not_mem_erase hn) ha
      omega)
    by_cases hm : (n : Int) ∈ l
    · rw [List.length_erase_of_mem hm] at h1; omega
    · rw [List.erase_of_not_mem hm] at h1; omega
/-- What stands behind any events. -/
structure Inv (K P : Nat) (s : Ms) : Prop where
  cM : s.M = K
  cP : s.P = P
  cG : s.G = 8
  rng : ∀ m g p, s.ru m = some (g, p) → (0 ≤ m ∧ m < K) ∧ (0 ≤ p ∧ p < P) ∧ (0 ≤ g ∧ g < 8) ∧ s.st g = 2 ∧ s.tk p = true
  inj : ∀ m m' g p g' p', s.ru m = some (g, p) → s.ru m' = some (g', p') → m ≠ m' → g ≠ g' ∧ p ≠ p'
  run : ∀ g, s.st g = 2 → ∃ m p, s.ru m = some (g, p)
  nr : s.nr = rc s.ru K
theorem Inv.new (K P : Nat) : Inv K P (newM P K 8) := by
  refine ⟨rfl, rfl, rfl, fun m g p h => by simp [newM] at h, fun m m' g p g' p' h => by simp [newM] at h, fun g h => by simp [newM] at h, ?_⟩
  have : ∀ n, rc (fun _ => none) n = 0 := by
    intro n
    induction n with
    | zero => rfl
    | succ n ih => simp [rc, ih]
  exact (this K).symm
theorem shaped_all {s : Ms} {k g m p v : Int} (h : shapedB s k g m p v = true) : 0 ≤ k ∧ k < 8 ∧ 0 ≤ g ∧ g < s.G ∧ -1 ≤ m ∧ m < s.M ∧ -1 ≤ p ∧ p < s.P ∧ (k = 0 ∨ k = 1 ∨ (m ≠ -1 ∧ p ≠ -1)) := by
  unfold shapedB evRight comesB at h
  simp only [Bool.and_eq_true, Bool.or_eq_true, Bool.not_eq_true', decide_eq_true_eq, decide_eq_false_iff_not] at h
  obtain ⟨⟨⟨k0, k8⟩, ⟨g0, _⟩, ⟨m0, _⟩, ⟨p0, _⟩, _⟩, hg, hm, hp, hc⟩ := h
  refine ⟨k0, k8, g0, hg, m0, hm, p0, hp, ?_⟩
  rcases hc with (h | h) | h
  · exact .inl h
  · exact .inr (.inl h)
  · exact .inr (.inr h)
theorem ev_from : ∀ k : Nat, k < 8 → 3 ≤ k → evStep0 k = 2 ∧ evStep1 k ≠ 2
  | 3, _, _ => by decide
  | 4, _, _ => by decide
  | 5, _, _ => by decide
  | 6, _, _ => by decide
  | 7, _, _ => by decide
theorem wrong_all {s : Ms} {k g m p v : Int} (h : wrongM s k g m p v = none) : shapedB s k g m p v = true ∧ stepsB s k g = true ∧ (k = 2 → s.ru m = none ∧ s.tk p = false) ∧ (leavesB k = true → s.ru m = some (g, p)) := by
  unfold wrongM at h
  split at h
  · cases h
  · rename_i h1
    split at h
    · cases h
    · rename_i h2
      split at h
      · cases h
      · rename_i h3
        split at h
        · cases h
        · rename_i h4
          refine ⟨by simpa using h1, by simpa using h2, fun e => ?_, fun e => ?_⟩
          · subst e
            unfold takenB at h3
            simp only [decide_true, Bool.true_and, Bool.or_eq_true, not_or, Bool.not_eq_true] at h3
            exact ⟨by simpa using h3.1, h3.2⟩
          · rw [e] at h4
            unfold isAtB at h4
            simpa using h4
theorem Inv.add {K P : Nat} {s : Ms} (h : Inv K P s) (k g m p v : Int) : Inv K P (addM s k g m p v) := by
  unfold addM
  split
  · rename_i hw
    obtain ⟨hs, ht, h2, h3⟩ := wrong_all hw
    obtain ⟨k0, k8, g0, g8, m0, mM, p0, pP, hc⟩ := shaped_all hs
    have eM := h.cM
    have eP := h.cP
    have eG := h.cG
    obtain ⟨kn, rfl⟩ : ∃ n : Nat, k = n := ⟨k.toNat, by omega⟩
    unfold doM
    by_cases hk2 : (kn : Int) = 2
    · obtain ⟨r1, r2⟩ := h2 hk2
      rw [if_pos hk2]
      have hkn : kn = 2 := by omega
      subst hkn
      have st1 : s.st g = 1 := by
        unfold stepsB at ht
        rw [if_neg (by decide)] at ht
        simpa [evStep0] using ht
      have hmp : m ≠ -1 ∧ p ≠ -1 := by omega
      obtain ⟨mn, rfl⟩ : ∃ n : Nat, m = n := ⟨m.toNat, by omega⟩
      refine ⟨h.cM, h.cP, h.cG, fun m' g' p' hr => ?_, fun m' m'' g' p' g'' p'' e1 e2 hne => ?_, fun g' hg' => ?_, ?_⟩
      · simp only [upf] at hr ⊢
        by_cases e : m' = mn
        · rw [if_pos e] at hr
          simp only [Option.some.injEq, Prod.mk.injEq] at hr
          obtain ⟨rfl, rfl⟩ := hr
          refine ⟨by omega, by omega, by omega, by simp [evStep1], by simp⟩
        · rw [if_neg e] at hr
          obtain ⟨q1, q2, q3, q4, q5⟩ := h.rng _ _ _ hr
          refine ⟨q1, q2, q3, ?_, ?_⟩
          · split
            · simp [evStep1]
            · exact q4
          · split
            · rfl
            · exact q5
      · simp only [upf] at e1 e2
        by_cases a1 : m' = mn
        · rw [if_pos a1] at e1
          rw [if_neg (by omega)] at e2
          simp only [Option.some.injEq, Prod.mk.injEq] at e1
          obtain ⟨rfl, rfl⟩ := e1
          obtain ⟨_, _, _, q4, q5⟩ := h.rng _ _ _ e2
          exact ⟨fun e => by subst e; omega, fun e => by subst e; rw [r2] at q5; cases q5⟩
        · rw [if_neg a1] at e1
          by_cases a2 : m'' = mn
          · rw [if_pos a2] at e2
            simp only [Option.some.injEq, Prod.mk.injEq] at e2
            obtain ⟨rfl, rfl⟩ := e2
            obtain ⟨_, _, _, q4, q5⟩ := h.rng _ _ _ e1
            exact ⟨fun e => by subst e; omega, fun e => by subst e; rw [r2] at q5; cases q5⟩
          · rw [if_neg a2] at e2
            exact h.inj _ _ _ _ _ _ e1 e2 hne
      · simp only [upf] at hg' ⊢
        by_cases e : g' = g
        · subst e
          exact ⟨mn, p, by simp⟩
        · rw [if_neg e] at hg'
          obtain ⟨m', p', hr⟩ := h.run _ hg'
          refine ⟨m', p', ?_⟩
          rw [if_neg (fun e2 => by rw [e2, r1] at hr; cases hr)]
          exact hr
      · have hu := rc_up s.ru mn (some (g, p)) K
        have n1 := h.nr
        rw [if_neg (by rw [r1]; simp), if_pos ⟨by omega, rfl⟩] at hu
        show s.nr + 1 = rc (upf s.ru mn (some (g, p))) K
        omega
    · rw [if_neg hk2]
      by_cases hl : leavesB (kn : Int) = true
      · rw [if_pos hl]
        have r1 := h3 hl
        obtain ⟨q1, q2, q3, q4, q5⟩ := h.rng _ _ _ r1
        have hk3 : 3 ≤ kn := by
          unfold leavesB comesB at hl
          simp at hl
          omega
        obtain ⟨v0, v1⟩ := ev_from kn (by omega) hk3
        obtain ⟨mn, rfl⟩ : ∃ n : Nat, m = n := ⟨m.toNat, by omega⟩
        refine ⟨h.cM, h.cP, h.cG, fun m' g' p' hr => ?_, fun m' m'' g' p' g'' p'' e1 e2 hne => ?_, fun g' hg' => ?_, ?_⟩
        · simp only [upf] at hr ⊢
          by_cases e : m' = mn
          · rw [if_pos e] at hr; cases hr
          · rw [if_neg e] at hr
            obtain ⟨y1, y2, y3, y4, y5⟩ := h.rng _ _ _ hr
            obtain ⟨i1, i2⟩ := h.inj _ _ _ _ _ _ hr r1 e
            exact ⟨y1, y2, y3, by rw [if_neg i1]; exact y4, by rw [if_neg i2]; exact y5⟩
        · simp only [upf] at e1 e2
          by_cases a1 : m' = mn
          · rw [if_pos a1] at e1; cases e1
          · rw [if_neg a1] at e1
            by_cases a2 : m'' = mn
            · rw [if_pos a2] at e2; cases e2
            · rw [if_neg a2] at e2
              exact h.inj _ _ _ _ _ _ e1 e2 hne
        · simp only [upf] at hg' ⊢
          by_cases e : g' = g
          · rw [if_pos e] at hg'
            rw [Int.toNat_natCast] at hg'
            exact absurd hg' v1
          · rw [if_neg e] at hg'
            obtain ⟨m', p', hr⟩ := h.run _ hg'
            refine ⟨m', p', ?_⟩
            rw [if_neg (fun e2 => by rw [e2, r1] at hr; simp only [Option.some.injEq, Prod.mk.injEq] at hr; exact e hr.1.symm)]
            exact hr
        · have hu := rc_up s.ru mn none K
          have n1 := h.nr
          rw [if_pos ⟨by omega, by rw [r1]; rfl⟩, if_neg (by simp)] at hu
          show s.nr - 1 = rc (upf s.ru mn none) K
          omega
      · rw [if_neg hl]
        have hk1 : kn = 0 ∨ kn = 1 := by
          unfold leavesB comesB at hl
          simp at hl
          omega
        have ns : s.st g ≠ 2 := by
          unfold stepsB at ht
          rcases hk1 with rfl | rfl
          · rw [if_neg (by decide)] at ht
            simp [evStep0] at ht
            omega
          · rw [if_pos (by decide)] at ht
            simp only [Bool.or_eq_true, decide_eq_true_eq] at ht
            omega
        have n1 : evStep1 ((kn : Int)).toNat = 1 := by rcases hk1 with rfl | rfl <;> rfl
        refine ⟨h.cM, h.cP, h.cG, fun m' g' p' hr => ?_, h.inj, fun g' hg' => ?_, h.nr⟩
        · obtain ⟨y1, y2, y3, y4, y5⟩ := h.rng _ _ _ hr
          exact ⟨y1, y2, y3, by simp only [upf]; rw [if_neg (fun e => ns (by rw [← e]; exact y4))]; exact y4, y5⟩
        · simp only [upf] at hg'
          by_cases e : g' = g
          · rw [if_pos e, n1] at hg'; cases hg'
          · rw [if_neg e] at hg'
            exact h.run _ hg'
  · exact h
/-- How many of the first n goroutines are Running. -/
def rn (st : Int → Int) : Nat → Nat
  | 0 => 0
  | n + 1 => rn st n + if st n = 2 then 1 else 0
def rl (st : Int → Int) : Nat → List Int
  | 0 => []
  | n + 1 => rl st n ++ if st n = 2 then [(n : Int)] else []
theorem rl_len (st : Int → Int) : ∀ n, (rl st n).length = rn st n
  | 0 => rfl
  | n + 1 => by
    have := rl_len st n
    simp only [rl, rn, List.length_append, this]
    split <;> simp
theorem rl_mem (st : Int → Int) (a : Int) : ∀ n : Nat, a ∈ rl st n ↔ (0 ≤ a ∧ a < n) ∧ st a = 2
  | 0 => by simp [rl]; omega
  | n + 1 => by
    have ih := rl_mem st a n
    simp only [rl, List.mem_append, ih]
    by_cases h : st n = 2
    · rw [if_pos h, List.mem_singleton]
      constructor
      · rintro (⟨⟨a1, a2⟩, a3⟩ | rfl)
        · exact ⟨⟨a1, by omega⟩, a3⟩
        · exact ⟨⟨by omega, by omega⟩, h⟩
      · rintro ⟨⟨a1, a2⟩, a3⟩
        by_cases e : a = n
        · exact .inr e
        · exact .inl ⟨⟨a1, by omega⟩, a3⟩
    · rw [if_neg h]
      constructor
      · rintro (⟨⟨a1, a2⟩, a3⟩ | h)
        · exact ⟨⟨a1, by omega⟩, a3⟩
        · simp at h
      · rintro ⟨⟨a1, a2⟩, a3⟩
        have : a ≠ n := fun e => h (by rw [← e]; exact a3)
        exact .inl ⟨⟨a1, by omega⟩, a3⟩
theorem rl_nodup (st : Int → Int) : ∀ n, (rl st n).Nodup
  | 0 => by simp [rl]
  | n + 1 => by
    have ih := rl_nodup st n
    simp only [rl]
    split
    · rw [List.nodup_append]
      refine ⟨ih, by simp, fun a ha b hb e => ?_⟩
      rw [List.mem_singleton] at hb
      subst hb e
      have := ((rl_mem st _ n).1 ha).1.2
      omega
    · simpa using ih
theorem Inv.injg {K P : Nat} {s : Ms} (h : Inv K P s) : ∀ i j x y, s.ru i = some x → s.ru j = some y → i ≠ j → x.1 ≠ y.1 := fun i j x y e1 e2 hne => (h.inj i j x.1 x.2 y.1 y.2 e1 e2 hne).1
theorem Inv.injp {K P : Nat} {s : Ms} (h : Inv K P s) : ∀ i j x y, s.ru i = some x → s.ru j = some y → i ≠ j → x.2 ≠ y.2 := fun i j x y e1 e2 hne => (h.inj i j x.1 x.2 y.1 y.2 e1 e2 hne).2
theorem Inv.cnt {K P : Nat} {s : Ms} (h : Inv K P s) : rn s.st 8 = s.nr := by
  rw [h.nr, ← gl_len Prod.fst s.ru K, ← rl_len]
  refine (List.Perm.length_eq ((List.perm_ext_iff_of_nodup (rl_nodup _ _) (gl_nodup h.injg _)).2 fun a => ?_))
  rw [rl_mem, gl_mem]
  constructor
  · rintro ⟨_, a3⟩
    obtain ⟨m, p, hr⟩ := h.run a a3
    obtain ⟨⟨m0, mK⟩, _⟩ := h.rng _ _ _ hr
    obtain ⟨mn, rfl⟩ : ∃ n : Nat, m = n := ⟨m.toNat, by omega⟩
    exact ⟨mn, by omega, _, hr, rfl⟩
  · rintro ⟨i, hi, ⟨g, p⟩, hr, rfl⟩
    obtain ⟨_, _, ⟨g0, g8⟩, hst, _⟩ := h.rng _ _ _ hr
    exact ⟨⟨g0, by simpa using g8⟩, hst⟩
theorem Inv.leP {K P : Nat} {s : Ms} (h : Inv K P s) : s.nr ≤ P := by
  rw [h.nr, ← gl_len Prod.snd s.ru K]
  refine few P _ (gl_nodup h.injp _) (fun a ha => ?_)
  rw [gl_mem] at ha
  obtain ⟨i, hi, ⟨g, p⟩, hr, rfl⟩ := ha
  exact (h.rng _ _ _ hr).2.1
theorem Inv.leK {K P : Nat} {s : Ms} (h : Inv K P s) : s.nr ≤ K := by rw [h.nr]; exact rc_le _ _
end Go.Proofs.YtkimfejhgfnjoaaDoor
