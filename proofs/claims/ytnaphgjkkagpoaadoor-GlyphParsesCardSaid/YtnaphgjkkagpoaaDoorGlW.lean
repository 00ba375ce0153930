/- Words of events and rows of words: unlike events have unlike words; program-free. -/
import Derived.Lib.ItoaNum
import Derived.Lib.Join
namespace Go.Proofs.YtnaphgjkkagpoaaDoor.Gw
set_option linter.unusedVariables false
set_option linter.unusedSimpArgs false
open Go.Lib
/-- Two texts with one beginning: both begin with signs that are P, and go on with one that isn't. -/
theorem span_inj (P : UInt8 → Prop) : ∀ {a a' r r' : List UInt8}, (∀ c ∈ a, P c) → (∀ c ∈ a', P c) → (∀ c, r.head? = some c → ¬ P c) → (∀ c, r'.head? = some c → ¬ P c) → a ++ r = a' ++ r' → a = a' ∧ r = r'
  | [], [], r, r', _, _, _, _, h => ⟨rfl, by simpa using h⟩
  | [], c :: a', r, r', _, h2, h3, _, h => by
    simp only [List.nil_append, List.cons_append] at h
    exact absurd (h2 c (by simp)) (h3 c (by simp [h]))
  | c :: a, [], r, r', h1, _, _, h4, h => by
    simp only [List.nil_append, List.cons_append] at h
    exact absurd (h1 c (by simp)) (h4 c (by simp [← h]))
  | c :: a, c' :: a', r, r', h1, h2, h3, h4, h => by
    simp only [List.cons_append, List.cons.injEq] at h
    obtain ⟨e1, e2⟩ := span_inj P (fun c hc => h1 c (by simp [hc])) (fun c hc => h2 c (by simp [hc])) h3 h4 h.2
    exact ⟨by rw [h.1, e1], e2⟩
def Dig (c : UInt8) : Prop := 48 ≤ c.toNat ∧ c.toNat ≤ 57
theorem dig_of (d : Nat) (h : d < 10) : (UInt8.ofNat (48 + d)).toNat = 48 + d := by
  simp only [UInt8.toNat_ofNat']
  omega
theorem dec_dig : ∀ (u : Nat), ∀ c ∈ decDigits u, Dig c := by
  intro u
  induction u using Nat.strongRecOn with
  | _ u ih =>
    intro c hc
    rw [decDigits] at hc
    by_cases h : u < 10
    · rw [dif_pos h] at hc
      simp only [List.mem_singleton] at hc
      subst hc
      have := dig_of u h
      unfold Dig
      omega
    · rw [dif_neg h] at hc
      rcases List.mem_append.1 hc with hc | hc
      · exact ih _ (by omega) c hc
      · simp only [List.mem_singleton] at hc
        subst hc
        have := dig_of (u % 10) (by omega)
        unfold Dig
        omega
theorem dec_ne (u : Nat) : decDigits u ≠ [] := by
  rw [decDigits]
  split <;> simp
def val (l : List UInt8) : Nat := l.foldl (fun n c => 10 * n + (c.toNat - 48)) 0
theorem val_snoc (l : List UInt8) (c : UInt8) : val (l ++ [c]) = 10 * val l + (c.toNat - 48) := by simp [val]
theorem val_dec : ∀ (u : Nat), val (decDigits u) = u := by
  intro u
  induction u using Nat.strongRecOn with
  | _ u ih =>
    rw [decDigits]
    by_cases h : u < 10
    · rw [dif_pos h]
      have := dig_of u h
      simp only [val, List.foldl_cons, List.foldl_nil]
      omega
    · rw [dif_neg h, val_snoc, ih _ (by omega), dig_of _ (by omega)]
      omega
theorem dec_inj {u v : Nat} (h : decDigits u = decDigits v) : u = v := by
  rw [← val_dec u, h, val_dec]
theorem itoa_pos {n : Int} (h : 0 ≤ n) : itoa n = decDigits n.toNat := by unfold itoa; rw [if_neg (by omega)]
theorem itoa_dig {n : Int} (h : 0 ≤ n) : ∀ c ∈ itoa n, Dig c := by rw [itoa_pos h]; exact dec_dig _
theorem itoa_ne (n : Int) : itoa n ≠ [] := by unfold itoa; split; simp; exact dec_ne _
theorem itoa_inj {n m : Int} (h : itoa n = itoa m) : n = m := by
  unfold itoa at h
  split at h <;> split at h
  · simp only [List.cons.injEq, true_and] at h
    have := dec_inj h
    omega
  · have := dec_dig m.toNat 45 (by rw [← h]; simp)
    simp [Dig] at this
  · have := dec_dig n.toNat 45 (by rw [h]; simp)
    simp [Dig] at this
  · have := dec_inj h
    omega
theorem itoa_sgn (n : Int) : ∀ c ∈ itoa n, Dig c ∨ c = 45 := by
  intro c hc
  unfold itoa at hc
  split at hc
  · rcases List.mem_cons.1 hc with h | h
    · exact .inr h
    · exact .inl (dec_dig _ c h)
  · exact .inl (dec_dig _ c hc)
/-- The parts of a word. -/
def opt (b n z : Int) (s : UInt8) : List UInt8 := if n = z then [] else s :: itoa n
def gl : Nat → List UInt8
  | 0 => [43]
  | 1 => [33]
  | 2 => [226, 134, 146]
  | 3 => [226, 134, 186]
  | 4 => [226, 150, 160]
  | 5 => [226, 152, 190]
  | 6 => [226, 140, 155]
  | 7 => [226, 156, 157]
  | _ => []
def om (m : Int) : List UInt8 := if m = -1 then [] else 109 :: itoa m
def op (p : Int) : List UInt8 := if p = -1 then [] else 112 :: itoa p
def ov (v : Int) : List UInt8 := if v = 0 then [] else 61 :: itoa v
def wl (k : Nat) (g m p v : Int) : List UInt8 := gl k ++ (itoa g ++ (om m ++ (op p ++ ov v)))
theorem om_head {m : Int} : ∀ c, (om m).head? = some c → c = 109 := by unfold om; split <;> simp
theorem op_head {m : Int} : ∀ c, (op m).head? = some c → c = 112 := by unfold op; split <;> simp
theorem ov_head {m : Int} : ∀ c, (ov m).head? = some c → c = 61 := by unfold ov; split <;> simp
theorem head_app {a b : List UInt8} {c : UInt8} (h : (a ++ b).head? = some c) : a.head? = some c ∨ b.head? = some c := by
  cases a with
  | nil => exact .inr (by simpa using h)
  | cons x a => exact .inl (by simpa using h)
theorem gl_ne {k : Nat} (h : k < 8) : gl k ≠ [] :=
  match k, h with
  | 0, _ | 1, _ | 2, _ | 3, _ | 4, _ | 5, _ | 6, _ | 7, _ => by simp [gl]
theorem gl_inj {k j : Nat} {a b : List UInt8} (hk : k < 8) (hj : j < 8) (ha : ∀ c, a.head? = some c → Dig c) (hb : ∀ c, b.head? = some c → Dig c) (h : gl k ++ a = gl j ++ b) : k = j ∧ a = b := by
  have : ∀ i : Nat, i < 8 → i = 0 ∨ i = 1 ∨ i = 2 ∨ i = 3 ∨ i = 4 ∨ i = 5 ∨ i = 6 ∨ i = 7 := by omega
  rcases this k hk with rfl | rfl | rfl | rfl | rfl | rfl | rfl | rfl <;> rcases this j hj with rfl | rfl | rfl | rfl | rfl | rfl | rfl | rfl <;> simp [gl] at h ⊢ <;> exact h
theorem dig_head {g : Int} {r : List UInt8} (hg : 0 ≤ g) : ∀ c, (itoa g ++ r).head? = some c → Dig c := by
  intro c hc
  cases e : itoa g with
  | nil => exact absurd e (itoa_ne g)
  | cons x l =>
    rw [e] at hc
    simp only [List.cons_append, List.head?_cons, Option.some.injEq] at hc
    subst hc
    exact itoa_dig hg _ (by rw [e]; simp)
theorem nd109 : ¬ Dig 109 := by simp [Dig]
theorem nd112 : ¬ Dig 112 := by simp [Dig]
theorem nd61 : ¬ Dig 61 := by simp [Dig]
theorem ov_inj {v v' : Int} (h : ov v = ov v') : v = v' := by
  unfold ov at h
  split at h <;> split at h <;> simp at h
  · omega
  · exact itoa_inj h
theorem op_inj {p p' v v' : Int} (hp : -1 ≤ p) (hp' : -1 ≤ p') (h : op p ++ ov v = op p' ++ ov v') : p = p' ∧ v = v' := by
  unfold op at h
  split at h <;> split at h
  · exact ⟨by omega, ov_inj (by simpa using h)⟩
  · have := ov_head 112 (by rw [show ov v = _ by simpa using h]; simp)
    simp at this
  · have := ov_head 112 (by rw [show ov v' = _ by simpa using h.symm]; simp)
    simp at this
  · simp only [List.cons_append, List.cons.injEq, true_and] at h
    obtain ⟨e1, e2⟩ := span_inj Dig (itoa_dig (by omega)) (itoa_dig (by omega)) (fun c hc => by rw [ov_head c hc]; exact nd61) (fun c hc => by rw [ov_head c hc]; exact nd61) h
    exact ⟨itoa_inj e1, ov_inj e2⟩
theorem opv_head {p v : Int} : ∀ c, (op p ++ ov v).head? = some c → c = 112 ∨ c = 61 := fun c hc => (head_app hc).imp (op_head c) (ov_head c)
theorem opv_nd {p v : Int} : ∀ c, (op p ++ ov v).head? = some c → ¬ Dig c := fun c hc => by
  rcases opv_head c hc with rfl | rfl
  · exact nd112
  · exact nd61
theorem om_inj {m m' p p' v v' : Int} (hm : -1 ≤ m) (hm' : -1 ≤ m') (hp : -1 ≤ p) (hp' : -1 ≤ p') (h : om m ++ (op p ++ ov v) = om m' ++ (op p' ++ ov v')) : m = m' ∧ p = p' ∧ v = v' := by
  unfold om at h
  split at h <;> split at h
  · exact ⟨by omega, op_inj hp hp' (by simpa using h)⟩
  · have := opv_head 109 (by rw [show op p ++ ov v = _ by simpa using h]; simp)
    simp at this
  · have := opv_head 109 (by rw [show op p' ++ ov v' = _ by simpa using h.symm]; simp)
    simp at this
  · simp only [List.cons_append, List.cons.injEq, true_and] at h
    obtain ⟨e1, e2⟩ := span_inj Dig (itoa_dig (by omega)) (itoa_dig (by omega)) opv_nd opv_nd h
    exact ⟨itoa_inj e1, op_inj hp hp' e2⟩
theorem ompv_nd {m p v : Int} : ∀ c, (om m ++ (op p ++ ov v)).head? = some c → ¬ Dig c := fun c hc => by
  rcases head_app hc with h | h
  · rw [om_head c h]; exact nd109
  · exact opv_nd c h
theorem wl_inj {k k' : Nat} {g g' m m' p p' v v' : Int} (hk : k < 8) (hk' : k' < 8) (hg : 0 ≤ g) (hg' : 0 ≤ g') (hm : -1 ≤ m) (hm' : -1 ≤ m') (hp : -1 ≤ p) (hp' : -1 ≤ p') (h : wl k g m p v = wl k' g' m' p' v') : k = k' ∧ g = g' ∧ m = m' ∧ p = p' ∧ v = v' := by
  obtain ⟨e1, e2⟩ := gl_inj hk hk' (dig_head hg) (dig_head hg') h
  obtain ⟨e3, e4⟩ := span_inj Dig (itoa_dig hg) (itoa_dig hg') ompv_nd ompv_nd e2
  exact ⟨e1, itoa_inj e3, om_inj hm hm' hp hp' e4⟩
theorem wl_ne {k : Nat} {g m p v : Int} (hk : k < 8) : wl k g m p v ≠ [] := by
  unfold wl
  intro h
  exact gl_ne hk (List.append_eq_nil_iff.1 h).1
theorem gl_nb {k : Nat} (hk : k < 8) : ∀ c ∈ gl k, c ≠ 32 :=
  match k, hk with
  | 0, _ | 1, _ | 2, _ | 3, _ | 4, _ | 5, _ | 6, _ | 7, _ => by simp [gl]
theorem itoa_nb (n : Int) : ∀ c ∈ itoa n, c ≠ 32 := by
  intro c hc e
  subst e
  rcases itoa_sgn n 32 hc with h | h
  · simp [Dig] at h
  · simp at h
theorem wl_nb {k : Nat} {g m p v : Int} (hk : k < 8) : ∀ c ∈ wl k g m p v, c ≠ 32 := by
  intro c hc
  unfold wl at hc
  rcases List.mem_append.1 hc with h | h
  · exact gl_nb hk c h
  rcases List.mem_append.1 h with h | h
  · exact itoa_nb _ c h
  rcases List.mem_append.1 h with h | h
  · unfold om at h
    split at h
    · simp at h
    · rcases List.mem_cons.1 h with rfl | h
      · decide
      · exact itoa_nb _ c h
  rcases List.mem_append.1 h with h | h
  · unfold op at h
    split at h
    · simp at h
    · rcases List.mem_cons.1 h with rfl | h
      · decide
      · exact itoa_nb _ c h
  · unfold ov at h
    split at h
    · simp at h
    · rcases List.mem_cons.1 h with rfl | h
      · decide
      · exact itoa_nb _ c h
/-! Rows of words, blanks between them -/
def Wo (x : List UInt8) : Prop := x ≠ [] ∧ ∀ c ∈ x, c ≠ 32
theorem tail_head (r : List (List UInt8)) : ∀ c, (joinTail [32] r).head? = some c → ¬ c ≠ 32 := by
  intro c hc
  cases r with
  | nil => simp [joinTail] at hc
  | cons y r => simp [joinTail] at hc; simp [hc]
theorem tail_cons (y : List UInt8) (r : List (List UInt8)) : joinTail [32] (y :: r) = 32 :: (y ++ joinTail [32] r) := by simp [joinTail]
theorem tail_inj : ∀ {r s : List (List UInt8)}, (∀ x ∈ r, Wo x) → (∀ x ∈ s, Wo x) → joinTail [32] r = joinTail [32] s → r = s
  | [], [], _, _, _ => rfl
  | [], y :: s, _, _, h => by rw [tail_cons] at h; simp [joinTail] at h
  | y :: r, [], _, _, h => by rw [tail_cons] at h; simp [joinTail] at h
  | y :: r, z :: s, h1, h2, h => by
    rw [tail_cons, tail_cons] at h
    obtain ⟨e1, e2⟩ := span_inj (· ≠ 32) (h1 y (by simp)).2 (h2 z (by simp)).2 (tail_head r) (tail_head s) (by simpa using h)
    rw [e1, tail_inj (fun x hx => h1 x (by simp [hx])) (fun x hx => h2 x (by simp [hx])) e2]
theorem join_inj : ∀ {r s : List (List UInt8)}, (∀ x ∈ r, Wo x) → (∀ x ∈ s, Wo x) → join r [32] = join s [32] → r = s
  | [], [], _, _, _ => rfl
  | [], y :: s, _, h2, h => by
    rw [join_nil, join_cons] at h
    exact absurd (List.append_eq_nil_iff.1 h.symm).1 (h2 y (by simp)).1
  | y :: r, [], h1, _, h => by
    rw [join_nil, join_cons] at h
    exact absurd (List.append_eq_nil_iff.1 h).1 (h1 y (by simp)).1
  | y :: r, z :: s, h1, h2, h => by
    rw [join_cons, join_cons] at h
    obtain ⟨e1, e2⟩ := span_inj (· ≠ 32) (h1 y (by simp)).2 (h2 z (by simp)).2 (tail_head r) (tail_head s) h
    rw [e1, tail_inj (fun x hx => h1 x (by simp [hx])) (fun x hx => h2 x (by simp [hx])) e2]
theorem join_two {r s : List (List UInt8)} (hr : r ≠ []) (hs : s ≠ []) : join (r ++ s) [32] = join r [32] ++ (32 :: join s [32]) := by
  cases r with
  | nil => exact absurd rfl hr
  | cons y r =>
    cases s with
    | nil => exact absurd rfl hs
    | cons z s =>
      rw [List.cons_append, join_cons, join_cons, join_cons]
      simp [joinTail]
theorem join_nil_iff {r : List (List UInt8)} (h : ∀ x ∈ r, Wo x) : join r [32] = [] ↔ r = [] := by
  constructor
  · intro e
    exact join_inj h (s := []) (by simp) (by rw [e, join_nil])
  · rintro rfl; rfl
end Go.Proofs.YtnaphgjkkagpoaaDoor.Gw
