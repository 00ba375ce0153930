/- The model beside the document's: the events that were let so far say all; no program's run. -/
import Derived.Test.YtkimfejhgfnjoaaDoorModB
import Derived.Test.YtkimfejhgfnjoaaDoorModC
import Derived.Test.YtkimfejhgfnjoaaDoorLives15
import Derived.Test.YtkimfejhgfnjoaaDoorLegalA
import Derived.Test.YtkimfejhgfnjoaaDoorRdE
namespace Go.Proofs.YtkimfejhgfnjoaaDoor
open Go.RowKit
set_option linter.unusedVariables false
set_option linter.unusedSimpArgs false

/-- A goroutine's status, behind events; what a machine runs; is one run on a processor. -/
def sstep (g : Int) (s : Int) (e : Ev) : Int := if e.2.1 = g then evTo e.1 else s
def statL (L : List Ev) (g : Int) : Int := L.foldl (sstep g) 0
def rstep (m : Int) (s : Option (Int × Int)) (e : Ev) : Option (Int × Int) := if e.1 < 2 ∨ e.2.2.1 ≠ m then s else if e.1 = 2 then some (e.2.1, e.2.2.2.1) else none
def runsL (L : List Ev) (m : Int) : Option (Int × Int) := L.foldl (rstep m) none
def onP (x : Option (Int × Int)) (p : Int) : Bool := match x with | some y => decide (y.2 = p) | none => false
def usedL (L : List Ev) (M : Nat) (p : Int) : Bool := (List.range M).any fun m => onP (runsL L m) p
theorem statL_snoc (L : List Ev) (e : Ev) (g : Int) : statL (L ++ [e]) g = sstep g (statL L g) e := by simp [statL]
theorem runsL_snoc (L : List Ev) (e : Ev) (m : Int) : runsL (L ++ [e]) m = rstep m (runsL L m) e := by simp [runsL]
theorem evStep_rng : ∀ k : Nat, 0 ≤ evStep1 k ∧ evStep1 k ≤ 6
  | 0 | 1 | 2 | 3 | 4 | 5 | 6 | 7 => by decide
  | k + 8 => by simp [evStep1]
theorem evTo_rng (k : Int) : 0 ≤ evTo k ∧ evTo k ≤ 6 := by
  unfold evTo
  split
  · exact evStep_rng _
  · omega
theorem statL_rng (g : Int) : ∀ (L : List Ev) (s : Int), 0 ≤ s ∧ s ≤ 6 → 0 ≤ L.foldl (sstep g) s ∧ L.foldl (sstep g) s ≤ 6
  | [], s, h => h
  | e :: L, s, h => by
    rw [List.foldl_cons]
    refine statL_rng g L _ ?_
    unfold sstep
    split
    · exact evTo_rng _
    · exact h
theorem statL_ok (L : List Ev) (g : Int) : 0 ≤ statL L g ∧ statL L g ≤ 6 := statL_rng g L 0 (by omega)
/-- What is wrong with an event, behind those that were let. -/
def shapeL (P M G : Int) (k g m p v : Int) : Bool := evRight k g m p v && (decide (g < G) && (decide (m < M) && (decide (p < P) && !(decide (1 < k) && (decide (m < 0) || decide (p < 0))))))
def wrL (P M G : Int) (K : Nat) (L : List Ev) (k g m p v : Int) : Int :=
  if shapeL P M G k g m p v = false then 0
  else if k = 1 then (if (decide (statL L g < 3) || !stLegal (statL L g) 1) = true then 1 else -1)
  else if statL L g ≠ evFrom k then 1
  else if k = 0 then -1
  else if k = 2 then (if ((runsL L m).isSome || usedL L K p) = true then 2 else -1)
  else if runsL L m ≠ some (g, p) then 3 else -1
/-- The model is what the events say. -/
structure Rl (P : Int) (K : Nat) (G : Int) (s : Ms) (L : List Ev) : Prop where
  cM : s.M = K
  cP : s.P = P
  cG : s.G = G
  st : ∀ g, s.st g = statL L g
  ru : ∀ m, s.ru m = runsL L m
  tk : ∀ p, s.tk p = usedL L K p
  nr : s.nr = rc s.ru K
  rng : ∀ m x, s.ru m = some x → 0 ≤ m ∧ m < K
  inj : ∀ m m' x y, s.ru m = some x → s.ru m' = some y → m ≠ m' → x.2 ≠ y.2
  stg : ∀ g, s.st g ≠ 0 → 0 ≤ g ∧ g < G
theorem rc_zero : ∀ n, rc (fun _ => none) n = 0
  | 0 => rfl
  | n + 1 => by simp [rc, rc_zero n]
theorem Rl.new (P : Int) (K : Nat) (G : Int) : Rl P K G (newM P K G) [] := by
  refine ⟨rfl, rfl, rfl, fun _ => rfl, fun _ => rfl, fun p => ?_, ?_, fun m x h => by simp [newM] at h, fun m m' x y h => by simp [newM] at h, fun g h => absurd rfl h⟩
  · show false = usedL [] K p
    unfold usedL
    symm
    rw [List.any_eq_false]
    intro m _
    simp [runsL, onP]
  · show 0 = rc (fun _ => none) K
    rw [rc_zero]
theorem usedL_iff {L : List Ev} {K : Nat} {p : Int} : usedL L K p = true ↔ ∃ m : Nat, m < K ∧ ∃ x, runsL L m = some x ∧ x.2 = p := by
  unfold usedL
  rw [List.any_eq_true]
  constructor
  · rintro ⟨m, hm, h⟩
    refine ⟨m, List.mem_range.1 hm, ?_⟩
    unfold onP at h
    cases hr : runsL L m with
    | none => rw [hr] at h; cases h
    | some x => rw [hr] at h; exact ⟨x, rfl, of_decide_eq_true h⟩
  · rintro ⟨m, hm, x, hr, hx⟩
    exact ⟨m, List.mem_range.2 hm, by unfold onP; rw [hr]; exact decide_eq_true hx⟩
theorem ev_rng {k g m p v : Int} (h : evRight k g m p v = true) : (0 ≤ k ∧ k < 8) ∧ -1 ≤ m ∧ -1 ≤ p := by
  unfold evRight at h
  simp only [Bool.and_eq_true, decide_eq_true_eq] at h
  omega
theorem Rl.shape {P : Int} {K : Nat} {G : Int} {s : Ms} {L : List Ev} (h : Rl P K G s L) (k g m p v : Int) : shapedB s k g m p v = shapeL P K G k g m p v := by
  unfold shapedB shapeL
  rw [h.cM, h.cP, h.cG]
  cases hr : evRight k g m p v with
  | false => simp
  | true =>
    obtain ⟨hk, hm, hp⟩ := ev_rng hr
    unfold comesB
    congr 4
    by_cases h0 : k = 0
    · subst h0; simp
    · by_cases h1 : k = 1
      · subst h1; simp
      · have hk2 : 1 < k := by omega
        have e1 : decide (m < 0) = decide (m = -1) := by by_cases hh : m = -1 <;> simp [hh]; omega
        have e2 : decide (p < 0) = decide (p = -1) := by by_cases hh : p = -1 <;> simp [hh]; omega
        simp [h0, h1, hk2, e1, e2]
theorem evFrom_in {k : Int} (h0 : 0 ≤ k) (h8 : k < 8) : evFrom k = evStep0 k.toNat := by unfold evFrom; rw [if_pos ⟨h0, h8⟩]
/-- The two answers are one. -/
theorem Rl.wrong {P : Int} {K : Nat} {G : Int} {s : Ms} {L : List Ev} (h : Rl P K G s L) (k g m p v : Int) : wrL P K G K L k g m p v = match wrongM s k g m p v with | none => -1 | some n => (n : Int) := by
  unfold wrL wrongM
  rw [h.shape]
  cases hs : shapeL P K G k g m p v with
  | false => simp
  | true =>
    have hr : evRight k g m p v = true := by
      unfold shapeL at hs
      simp only [Bool.and_eq_true] at hs
      exact hs.1
    obtain ⟨⟨k0, k8⟩, _⟩ := ev_rng hr
    obtain ⟨s0, s6⟩ := statL_ok L g
    have tf : ¬ (true = false) := by decide
    rw [if_neg tf, if_neg tf]
    unfold stepsB takenB isAtB leavesB comesB
    rw [h.st g, h.ru m, h.tk p, evFrom_in k0 (by omega)]
    by_cases e1 : k = 1
    · subst e1
      rw [if_pos rfl, if_pos rfl]
      unfold stLegal
      rw [if_pos rfl]
      rcases (show statL L g = 0 ∨ statL L g = 1 ∨ statL L g = 2 ∨ statL L g = 3 ∨ statL L g = 4 ∨ statL L g = 5 ∨ statL L g = 6 by omega) with e | e | e | e | e | e | e <;> rw [e] <;> simp
    · rw [if_neg e1, if_neg e1]
      by_cases e2 : statL L g = evStep0 k.toNat
      · rw [if_neg (by simpa using e2), decide_eq_true e2, if_neg (show ¬ (true = false) by decide)]
        by_cases e3 : k = 0
        · subst e3; simp
        · rw [if_neg e3]
          by_cases e4 : k = 2
          · subst e4
            rw [if_pos rfl]
            by_cases e5 : ((runsL L m).isSome || usedL L K p) = true
            · simp [e5]
            · have e6 : ((runsL L m).isSome || usedL L K p) = false := by simpa using e5
              simp [e6]
          · rw [if_neg e4]
            by_cases e5 : runsL L m = some (g, p)
            · simp [e3, e1, e4, e5]
            · simp [e3, e1, e4, e5]
      · rw [if_pos e2, decide_eq_false e2, if_pos rfl]
        rfl
theorem evTo_in {k : Int} (h0 : 0 ≤ k) (h8 : k < 8) : evTo k = evStep1 k.toNat := by unfold evTo; rw [if_pos ⟨h0, h8⟩]
theorem usedL_up {P : Int} {K : Nat} {G : Int} {s : Ms} {L : List Ev} (h : Rl P K G s L) (e : Ev) (m0 : Int) (v : Option (Int × Int)) (h0 : 0 ≤ m0 ∧ m0 < K) (hu : ∀ m, runsL (L ++ [e]) m = upf s.ru m0 v m)
    (p0 : Int) (b : Bool) (hb : (v = none ∧ b = false ∧ ∃ y, s.ru m0 = some y ∧ y.2 = p0) ∨ (∃ y, v = some y ∧ y.2 = p0 ∧ b = true ∧ s.ru m0 = none)) (p : Int) : upf s.tk p0 b p = usedL (L ++ [e]) K p := by
  have key : usedL (L ++ [e]) K p = true ↔ ∃ m : Nat, m < K ∧ ∃ x, upf s.ru m0 v m = some x ∧ x.2 = p := by
    rw [usedL_iff]
    constructor
    · rintro ⟨m, hm, x, hx, hp⟩; exact ⟨m, hm, x, by rw [← hu]; exact hx, hp⟩
    · rintro ⟨m, hm, x, hx, hp⟩; exact ⟨m, hm, x, by rw [hu]; exact hx, hp⟩
  have old : ∀ q, s.tk q = true ↔ ∃ m : Nat, m < K ∧ ∃ x, s.ru m = some x ∧ x.2 = q := fun q => by
    rw [h.tk q, usedL_iff]
    constructor
    · rintro ⟨m, hm, x, hx, hp⟩; exact ⟨m, hm, x, by rw [h.ru]; exact hx, hp⟩
    · rintro ⟨m, hm, x, hx, hp⟩; exact ⟨m, hm, x, by rw [← h.ru]; exact hx, hp⟩
  have he : upf s.tk p0 b p = true ↔ ∃ m : Nat, m < K ∧ ∃ x, upf s.ru m0 v m = some x ∧ x.2 = p := by
    rcases hb with ⟨rfl, rfl, y, hy, hy2⟩ | ⟨y, rfl, hy2, rfl, hn⟩
    · by_cases hp : p = p0
      · subst hp
        simp only [upf, if_true]
        constructor
        · intro h; cases h
        · rintro ⟨m, hm, x, hx, hxp⟩
          split at hx
          · cases hx
          · rename_i hne
            exact absurd (hxp.trans hy2.symm) (h.inj _ _ _ _ hx hy hne)
      · simp only [upf, if_neg hp]
        rw [old p]
        constructor
        · rintro ⟨m, hm, x, hx, hxp⟩
          refine ⟨m, hm, x, ?_, hxp⟩
          rw [if_neg (fun e => ?_)]
          · exact hx
          · rw [e, hy] at hx
            cases hx
            exact hp (hxp.symm.trans hy2)
        · rintro ⟨m, hm, x, hx, hxp⟩
          split at hx
          · cases hx
          · exact ⟨m, hm, x, hx, hxp⟩
    · by_cases hp : p = p0
      · subst hp
        simp only [upf, if_true, true_iff]
        refine ⟨m0.toNat, by omega, y, ?_, hy2⟩
        rw [if_pos (by omega)]
      · simp only [upf, if_neg hp]
        rw [old p]
        constructor
        · rintro ⟨m, hm, x, hx, hxp⟩
          refine ⟨m, hm, x, ?_, hxp⟩
          rw [if_neg (fun e => ?_)]
          · exact hx
          · rw [e, hn] at hx; cases hx
        · rintro ⟨m, hm, x, hx, hxp⟩
          split at hx
          · cases hx
            exact absurd (hxp.symm.trans hy2) hp
          · exact ⟨m, hm, x, hx, hxp⟩
  cases h1 : upf s.tk p0 b p with
  | true => exact (key.2 (he.1 h1)).symm
  | false =>
    cases h2 : usedL (L ++ [e]) K p with
    | false => rfl
    | true => rw [he.2 (key.1 h2)] at h1; cases h1
/-- An event that is let. -/
theorem Rl.add {P : Int} {K : Nat} {G : Int} {s : Ms} {L : List Ev} (h : Rl P K G s L) {k g m p v : Int} (hw : wrongM s k g m p v = none) : Rl P K G (doM s k g m p) (L ++ [(k, g, m, p, v)]) := by
  obtain ⟨w1, w2, w3, w4⟩ := wrong_all hw
  obtain ⟨k0, k8, g0, g1, m0, m1, p0, p1, hc⟩ := shaped_all w1
  have hst : ∀ x, upf s.st g (evStep1 k.toNat) x = statL (L ++ [(k, g, m, p, v)]) x := fun x => by
    rw [statL_snoc]
    unfold upf sstep
    simp only
    rw [evTo_in k0 k8]
    by_cases hx : x = g
    · rw [if_pos hx, if_pos hx.symm]
    · rw [if_neg hx, if_neg (Ne.symm hx), h.st]
  have hsg : ∀ x, upf s.st g (evStep1 k.toNat) x ≠ 0 → 0 ≤ x ∧ x < G := fun x hx => by
    unfold upf at hx
    split at hx
    · rename_i e; subst e; rw [h.cG] at g1; exact ⟨g0, g1⟩
    · exact h.stg x hx
  rw [h.cM] at m1
  unfold doM
  by_cases e2 : k = 2
  · subst e2
    obtain ⟨hn, ht⟩ := w3 rfl
    have hm : 0 ≤ m ∧ m < K := by omega
    have hu : ∀ x, runsL (L ++ [((2 : Int), g, m, p, v)]) x = upf s.ru m (some (g, p)) x := fun x => by
      rw [runsL_snoc]
      unfold upf rstep
      simp only
      by_cases hx : x = m
      · rw [if_pos hx, if_neg (by omega)]; simp
      · rw [if_neg hx, if_pos (by omega), h.ru]
    rw [if_pos rfl]
    refine ⟨h.cM, h.cP, h.cG, hst, fun x => (hu x).symm, usedL_up h _ m (some (g, p)) hm hu p true (.inr ⟨_, rfl, rfl, rfl, hn⟩), ?_, fun x y hy => ?_, fun x x' y y' hy hy' hne => ?_, hsg⟩
    · have := rc_up s.ru m.toNat (some (g, p)) K
      rw [show ((m.toNat : Nat) : Int) = m by omega, hn] at this
      have h1 : m.toNat < K := by omega
      simp [h1] at this
      show s.nr + 1 = rc (upf s.ru m (some (g, p))) K
      rw [this, h.nr]
    · have hy : upf s.ru m (some (g, p)) x = some y := hy
      unfold upf at hy
      split at hy
      · rename_i e; subst e; exact hm
      · exact h.rng _ _ hy
    · have hy : upf s.ru m (some (g, p)) x = some y := hy
      have hy' : upf s.ru m (some (g, p)) x' = some y' := hy'
      have free : ∀ z u, s.ru z = some u → u.2 ≠ p := fun z u hz e => by
        have : s.tk p = true := by
          rw [h.tk p, usedL_iff]
          have hz2 := h.rng z u hz
          exact ⟨z.toNat, by omega, u, by rw [show ((z.toNat : Nat) : Int) = z by omega, ← h.ru]; exact hz, e⟩
        rw [ht] at this; cases this
      unfold upf at hy hy'
      split at hy
      · split at hy'
        · omega
        · cases hy
          exact Ne.symm (free _ _ hy')
      · split at hy'
        · cases hy'
          exact free _ _ hy
        · exact h.inj _ _ _ _ hy hy' hne
  · rw [if_neg e2]
    by_cases e3 : leavesB k = true
    · rw [if_pos e3]
      have hr := w4 e3
      have hm := h.rng _ _ hr
      have k3 : 3 ≤ k := by
        unfold leavesB comesB at e3
        simp at e3
        omega
      have hu : ∀ x, runsL (L ++ [(k, g, m, p, v)]) x = upf s.ru m none x := fun x => by
        rw [runsL_snoc]
        unfold upf rstep
        simp only
        by_cases hx : x = m
        · rw [if_pos hx, if_neg (by omega), if_neg e2]
        · rw [if_neg hx, if_pos (by omega), h.ru]
      refine ⟨h.cM, h.cP, h.cG, hst, fun x => (hu x).symm, usedL_up h _ m none hm hu p false (.inl ⟨rfl, rfl, _, hr, rfl⟩), ?_, fun x y hy => ?_, fun x x' y y' hy hy' hne => ?_, hsg⟩
      · have := rc_up s.ru m.toNat none K
        rw [show ((m.toNat : Nat) : Int) = m by omega, hr] at this
        have h1 : m.toNat < K := by omega
        simp [h1] at this
        show s.nr - 1 = rc (upf s.ru m none) K
        rw [h.nr]; omega
      · have hy : upf s.ru m none x = some y := hy
        unfold upf at hy
        split at hy
        · cases hy
        · exact h.rng _ _ hy
      · have hy : upf s.ru m none x = some y := hy
        have hy' : upf s.ru m none x' = some y' := hy'
        unfold upf at hy hy'
        split at hy
        · cases hy
        · split at hy'
          · cases hy'
          · exact h.inj _ _ _ _ hy hy' hne
    · rw [if_neg e3]
      have k1 : k < 2 := by
        unfold leavesB comesB at e3
        simp at e3
        omega
      have hu : ∀ x, runsL (L ++ [(k, g, m, p, v)]) x = s.ru x := fun x => by
        rw [runsL_snoc]
        unfold rstep
        rw [if_pos (.inl k1), h.ru]
      refine ⟨h.cM, h.cP, h.cG, hst, fun x => (hu x).symm, fun x => ?_, h.nr, h.rng, h.inj, hsg⟩
      show s.tk x = _
      rw [h.tk x]
      unfold usedL
      congr 1
      funext y
      rw [hu, h.ru]
end Go.Proofs.YtkimfejhgfnjoaaDoor
