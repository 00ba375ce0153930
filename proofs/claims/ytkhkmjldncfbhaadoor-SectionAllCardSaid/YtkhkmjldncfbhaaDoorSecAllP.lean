/- SectionAll: where so many sections of one lock are, round by round. -/
import Derived.Test.YtkhkmjldncfbhaaDoorSect2
import Derived.Test.YtkhkmjldncfbhaaDoorLists
import Derived.Test.YtkhkmjldncfbhaaDoorIntsP
namespace Go.Proofs.YtkhkmjldncfbhaaDoor
set_option linter.unusedVariables false
set_option linter.unusedSimpArgs false
open Go.RowKit

theorem ifF {α : Type} (a b : α) : (if false = true then a else b) = b := rfl
/-- The stage of section j ahead of a round: z: the first one; else c: whose turn it is, d: how far it is. -/
def sgB (z : Bool) (c d j : Nat) : Nat := if z = true then 0 else if j + 1 < c then 4 else if j + 1 = c then (if d = 0 then 3 else 4) else if j = c then (if d = 0 then 1 else 2) else 1
def tmB (z : Bool) (e c d j : Nat) : Nat := if z = true then 0 else if j < c then e else if j = c then d - 1 else 0
def tkB (z : Bool) (j : Nat) : Nat := if z = true then 0 else j
/-- The round behind it. -/
def Nxt (e : Nat) (z : Bool) (c d c' d' : Nat) : Prop := (z = true ∧ c = 0 ∧ d = 0 ∧ c' = 0 ∧ d' = 0) ∨ (z = false ∧ d < e ∧ c' = c ∧ d' = d + 1) ∨ (z = false ∧ d = e ∧ c' = c + 1 ∧ d' = 0)
/-- In a round: the sections below i are a step further. -/
def sgI (z : Bool) (c d c' d' i j : Nat) : Nat := if j < i then sgB false c' d' j else sgB z c d j
def tmI (z : Bool) (e c d c' d' i j : Nat) : Nat := if j < i then tmB false e c' d' j else tmB z e c d j
def tkI (z : Bool) (i j : Nat) : Nat := if j < i then j else tkB z j
/-- The lock's two words, how often all did, how many aren't over. -/
def nxI (z : Bool) (k i : Nat) : Nat := if z = true then i else k
def svI (z : Bool) (c d i : Nat) : Nat := if z = true then 0 else if d = 0 ∧ i < c then c - 1 else c
def olI (z : Bool) (e c d i : Nat) : Nat := if z = true then 0 else c * e + (d - 1) + (if c < i ∧ 1 ≤ d then 1 else 0)
def lfI (z : Bool) (c i : Nat) : Nat := if z = true then i else i - c
def lfB (z : Bool) (k c d : Nat) : Nat := if z = true then k else if d = 0 ∧ 1 ≤ c then k - c + 1 else k - c
def rdB (z : Bool) (e c d : Nat) : Nat := if z = true then 0 else 1 + c * (e + 1) + d
/-- The row of who did. -/
def ordL (e n : Nat) : List Int := (List.range n).map fun x => ((x / e : Nat) : Int)
theorem ordL_len (e n : Nat) : (ordL e n).length = n := by simp [ordL]
theorem ordL_succ (e n : Nat) : ordL e (n + 1) = ordL e n ++ [((n / e : Nat) : Int)] := by simp [ordL, List.range_succ]
theorem ordL_get (e n x : Nat) (h : x < n) : (ordL e n).getD x 0 = ((x / e : Nat) : Int) := by
  rw [List.getD_eq_getElem?_getD]; simp [ordL, h]
theorem ord_at {e c d : Nat} (h1 : 1 ≤ d) (h2 : d ≤ e) : (c * e + (d - 1)) / e = c := by
  rw [Nat.add_comm, Nat.add_mul_div_right _ _ (by omega), Nat.div_eq_of_lt (by omega)]; omega
/-- A round is over: it is the next one's beginning. -/
theorem sg_next (z : Bool) (c d c' d' k j : Nat) (h : j < k) : sgI z c d c' d' k j = sgB false c' d' j := by unfold sgI; rw [if_pos h]
theorem tm_next (z : Bool) (e c d c' d' k j : Nat) (h : j < k) : tmI z e c d c' d' k j = tmB false e c' d' j := by unfold tmI; rw [if_pos h]
theorem tk_next (z : Bool) (k j : Nat) (h : j < k) : tkI z k j = tkB false j := by unfold tkI tkB; rw [if_pos h]; rfl
theorem nx_next (z : Bool) (k : Nat) : nxI z k k = nxI false k 0 := by unfold nxI; cases z <;> rfl
theorem sv_next {z : Bool} {e c d c' d' k : Nat} (h : Nxt e z c d c' d') (hk : c ≤ k) : svI z c d k = svI false c' d' 0 := by
  unfold Nxt at h; unfold svI
  rcases h with ⟨rfl, rfl, rfl, rfl, rfl⟩ | ⟨rfl, h1, rfl, rfl⟩ | ⟨rfl, rfl, rfl, rfl⟩
  · rfl
  · repeat rw [ifF]
    rw [if_neg (by omega), if_neg (by omega)]
  · repeat rw [ifF]
    rw [if_neg (by omega), if_pos (by omega)]; omega
theorem ol_next {z : Bool} {e c d c' d' k : Nat} (h : Nxt e z c d c' d') (he : 1 ≤ e) (hk : c < k ∨ (c = k ∧ d = 0)) : olI z e c d k = olI false e c' d' 0 := by
  unfold Nxt at h; unfold olI
  rcases h with ⟨rfl, rfl, rfl, rfl, rfl⟩ | ⟨rfl, h1, hc, hd⟩ | ⟨rfl, rfl, rfl, rfl⟩
  · simp
  · rw [hc, hd]; repeat rw [ifF]
    rw [if_neg (show ¬ (c < 0 ∧ 1 ≤ d + 1) by omega)]
    by_cases h2 : c < k ∧ 1 ≤ d
    · rw [if_pos h2]; omega
    · rw [if_neg h2]; omega
  · repeat rw [ifF]
    rw [if_neg (show ¬ (c + 1 < 0 ∧ 1 ≤ 0) by omega), if_pos (by omega), Nat.succ_mul]; omega
theorem lf_next {z : Bool} {e c d c' d' k : Nat} (h : Nxt e z c d c' d') (he : 1 ≤ e) (hk : c < k ∨ (c = k ∧ d = 0)) : lfI z c k = lfB false k c' d' := by
  unfold Nxt at h; unfold lfI lfB
  rcases h with ⟨rfl, rfl, rfl, rfl, rfl⟩ | ⟨rfl, h1, rfl, rfl⟩ | ⟨rfl, rfl, rfl, rfl⟩
  · simp
  · repeat rw [ifF]
    rw [if_neg (by omega)]
  · repeat rw [ifF]
    rw [if_pos (by omega)]; omega
theorem rd_next {z : Bool} {e c d c' d' : Nat} (h : Nxt e z c d c' d') : rdB z e c d + 1 = rdB false e c' d' := by
  unfold Nxt at h; unfold rdB
  rcases h with ⟨rfl, rfl, rfl, rfl, rfl⟩ | ⟨rfl, h1, rfl, rfl⟩ | ⟨rfl, rfl, rfl, rfl⟩
  · simp
  · (repeat rw [ifF]); omega
  · repeat rw [ifF]
    rw [Nat.succ_mul]; omega
/-- A round begins. -/
theorem sg_first (z : Bool) (c d c' d' j : Nat) : sgI z c d c' d' 0 j = sgB z c d j := by unfold sgI; rw [if_neg (by omega)]
theorem tm_first (z : Bool) (e c d c' d' j : Nat) : tmI z e c d c' d' 0 j = tmB z e c d j := by unfold tmI; rw [if_neg (by omega)]
theorem tk_first (z : Bool) (j : Nat) : tkI z 0 j = tkB z j := by unfold tkI; rw [if_neg (by omega)]
theorem sg_old {z : Bool} {c d c' d' i j : Nat} (h : j ≠ i) : sgI z c d c' d' (i + 1) j = sgI z c d c' d' i j := by
  unfold sgI
  by_cases hj : j < i
  · rw [if_pos hj, if_pos (by omega)]
  · rw [if_neg hj, if_neg (by omega)]
theorem tm_old {z : Bool} {e c d c' d' i j : Nat} (h : j ≠ i) : tmI z e c d c' d' (i + 1) j = tmI z e c d c' d' i j := by
  unfold tmI
  by_cases hj : j < i
  · rw [if_pos hj, if_pos (by omega)]
  · rw [if_neg hj, if_neg (by omega)]
theorem tk_old {z : Bool} {i j : Nat} (h : j ≠ i) : tkI z (i + 1) j = tkI z i j := by
  unfold tkI
  by_cases hj : j < i
  · rw [if_pos hj, if_pos (by omega)]
  · rw [if_neg hj, if_neg (by omega)]
theorem sg_new (z : Bool) (c d c' d' i : Nat) : sgI z c d c' d' (i + 1) i = sgB false c' d' i := by unfold sgI; rw [if_pos (by omega)]
theorem tm_new (z : Bool) (e c d c' d' i : Nat) : tmI z e c d c' d' (i + 1) i = tmB false e c' d' i := by unfold tmI; rw [if_pos (by omega)]
theorem tk_new (z : Bool) (i : Nat) : tkI z (i + 1) i = i := by unfold tkI; rw [if_pos (by omega)]
theorem sg_here (z : Bool) (c d c' d' i : Nat) : sgI z c d c' d' i i = sgB z c d i := by unfold sgI; rw [if_neg (by omega)]
theorem tm_here (z : Bool) (e c d c' d' i : Nat) : tmI z e c d c' d' i i = tmB z e c d i := by unfold tmI; rw [if_neg (by omega)]
theorem tk_here (z : Bool) (i : Nat) : tkI z i i = tkB z i := by unfold tkI; rw [if_neg (by omega)]
/-- What section i does in its round. -/
inductive Deed (z : Bool) (e c d c' d' i : Nat) : Prop
  | take (hz : z = true) (h1 : sgB false c' d' i = 1) (h2 : tmB false e c' d' i = 0) : Deed z e c d c' d' i
  | over (hz : z = false) (h0 : sgB z c d i = 4) (h1 : sgB false c' d' i = 4) (h2 : tmB false e c' d' i = tmB z e c d i) (h3 : svI z c d (i + 1) = svI z c d i) (h4 : olI z e c d (i + 1) = olI z e c d i) (h5 : i < c) : Deed z e c d c' d' i
  | free (hz : z = false) (h0 : sgB z c d i = 3) (h1 : sgB false c' d' i = 4) (h2 : tmB false e c' d' i = tmB z e c d i) (h3 : svI z c d (i + 1) = i + 1) (h3' : svI z c d i = i) (h4 : olI z e c d (i + 1) = olI z e c d i) (h5 : i < c) : Deed z e c d c' d' i
  | yes (hz : z = false) (h0 : sgB z c d i = 1) (h1 : sgB false c' d' i = 2) (h2 : tmB false e c' d' i = tmB z e c d i) (h3 : svI z c d (i + 1) = i) (h3' : svI z c d i = i) (h4 : olI z e c d (i + 1) = olI z e c d i) (h5 : c ≤ i) : Deed z e c d c' d' i
  | no (hz : z = false) (h0 : sgB z c d i = 1) (h1 : sgB false c' d' i = 1) (h2 : tmB false e c' d' i = tmB z e c d i) (h3 : svI z c d (i + 1) = svI z c d i) (h3' : svI z c d i ≠ i) (h4 : olI z e c d (i + 1) = olI z e c d i) (h5 : c ≤ i) : Deed z e c d c' d' i
  | does (hz : z = false) (h0 : sgB z c d i = 2) (h1 : sgB false c' d' i = if d < e then 2 else 3) (h2 : tmB false e c' d' i = d) (h2' : tmB z e c d i + 1 = d) (h3 : svI z c d (i + 1) = svI z c d i) (h4 : olI z e c d (i + 1) = olI z e c d i + 1) (h4' : olI z e c d i / e = i) (h5 : c ≤ i) : Deed z e c d c' d' i
theorem deed {z : Bool} {e c d c' d' i : Nat} (h : Nxt e z c d c' d') (he : 1 ≤ e) (hd : d ≤ e) : Deed z e c d c' d' i := by
  have hx := h
  unfold Nxt at h
  cases z
  · have h' : (d < e ∧ c' = c ∧ d' = d + 1) ∨ (d = e ∧ c' = c + 1 ∧ d' = 0) := by
      rcases h with ⟨h0, _⟩ | ⟨_, h⟩ | ⟨_, h⟩
      · cases h0
      · exact .inl h
      · exact .inr h
    clear h hx
    by_cases a1 : i + 1 < c
    · refine .over rfl ?_ ?_ ?_ ?_ ?_ (by omega)
      · unfold sgB; (repeat rw [ifF]); rw [if_pos a1]
      · unfold sgB; (repeat rw [ifF]); rw [if_pos (by omega)]
      · unfold tmB; (repeat rw [ifF]); rw [if_pos (by omega), if_pos (by omega)]
      · unfold svI; (repeat rw [ifF])
        by_cases hd0 : d = 0
        · rw [if_pos (by omega), if_pos (by omega)]
        · rw [if_neg (by omega), if_neg (by omega)]
      · unfold olI; (repeat rw [ifF]); rw [if_neg (by omega), if_neg (by omega)]
    · by_cases a2 : i + 1 = c
      · by_cases hd0 : d = 0
        · refine .free rfl ?_ ?_ ?_ ?_ ?_ ?_ (by omega)
          · unfold sgB; (repeat rw [ifF]); rw [if_neg a1, if_pos a2, if_pos hd0]
          · unfold sgB; (repeat rw [ifF]); rw [if_neg (by omega), if_pos (by omega), if_neg (by omega)]
          · unfold tmB; (repeat rw [ifF]); rw [if_pos (by omega), if_pos (by omega)]
          · unfold svI; (repeat rw [ifF]); rw [if_neg (by omega)]; omega
          · unfold svI; (repeat rw [ifF]); rw [if_pos (by omega)]; omega
          · unfold olI; (repeat rw [ifF]); rw [if_neg (by omega), if_neg (by omega)]
        · refine .over rfl ?_ ?_ ?_ ?_ ?_ (by omega)
          · unfold sgB; (repeat rw [ifF]); rw [if_neg a1, if_pos a2, if_neg hd0]
          · unfold sgB; (repeat rw [ifF])
            by_cases q : i + 1 < c'
            · rw [if_pos q]
            · rw [if_neg q, if_pos (by omega), if_neg (by omega)]
          · unfold tmB; (repeat rw [ifF]); rw [if_pos (by omega), if_pos (by omega)]
          · unfold svI; (repeat rw [ifF]); rw [if_neg (by omega), if_neg (by omega)]
          · unfold olI; (repeat rw [ifF]); rw [if_neg (by omega), if_neg (by omega)]
      · by_cases a3 : i = c
        · subst a3
          by_cases hd0 : d = 0
          · refine .yes rfl ?_ ?_ ?_ ?_ ?_ ?_ (by omega)
            · unfold sgB; (repeat rw [ifF]); rw [if_neg a1, if_neg a2, if_pos rfl, if_pos hd0]
            · unfold sgB; (repeat rw [ifF]); rw [if_neg (by omega), if_neg (by omega), if_pos (by omega), if_neg (by omega)]
            · unfold tmB; (repeat rw [ifF]); rw [if_neg (by omega), if_pos (by omega), if_neg (by omega), if_pos rfl]; omega
            · unfold svI; (repeat rw [ifF]); rw [if_neg (by omega)]
            · unfold svI; (repeat rw [ifF]); rw [if_neg (by omega)]
            · unfold olI; (repeat rw [ifF]); rw [if_neg (by omega), if_neg (by omega)]
          · refine .does rfl ?_ ?_ ?_ ?_ ?_ ?_ ?_ (by omega)
            · unfold sgB; (repeat rw [ifF]); rw [if_neg a1, if_neg a2, if_pos rfl, if_neg hd0]
            · unfold sgB; (repeat rw [ifF])
              rcases h' with ⟨q1, q2, q3⟩ | ⟨q1, q2, q3⟩
              · rw [if_neg (by omega), if_neg (by omega), if_pos (by omega), if_neg (by omega), if_pos q1]
              · rw [if_neg (by omega), if_pos (by omega), if_pos q3, if_neg (by omega)]
            · unfold tmB; (repeat rw [ifF])
              rcases h' with ⟨q1, q2, q3⟩ | ⟨q1, q2, q3⟩
              · rw [if_neg (by omega), if_pos (by omega)]; omega
              · rw [if_pos (by omega)]; omega
            · unfold tmB; (repeat rw [ifF]); rw [if_neg (by omega), if_pos rfl]; omega
            · unfold svI; (repeat rw [ifF]); rw [if_neg (by omega), if_neg (by omega)]
            · unfold olI; (repeat rw [ifF]); rw [if_pos (by omega), if_neg (by omega)]
            · unfold olI; (repeat rw [ifF]); rw [if_neg (by omega), Nat.add_zero]; exact ord_at (by omega) hd
        · refine .no rfl ?_ ?_ ?_ ?_ ?_ ?_ (by omega)
          · unfold sgB; (repeat rw [ifF]); rw [if_neg a1, if_neg a2, if_neg a3]
          · unfold sgB; (repeat rw [ifF])
            by_cases q : i = c'
            · rw [if_neg (by omega), if_neg (by omega), if_pos q, if_pos (by omega)]
            · rw [if_neg (by omega), if_neg (by omega), if_neg q]
          · unfold tmB; (repeat rw [ifF])
            by_cases q : i = c'
            · rw [if_neg (by omega), if_pos q, if_neg (by omega), if_neg a3]; omega
            · rw [if_neg (by omega), if_neg q, if_neg (by omega), if_neg a3]
          · unfold svI; (repeat rw [ifF]); rw [if_neg (by omega), if_neg (by omega)]
          · unfold svI; (repeat rw [ifF]); rw [if_neg (by omega)]; omega
          · unfold olI; (repeat rw [ifF])
            by_cases q : 1 ≤ d
            · rw [if_pos (by omega), if_pos (by omega)]
            · rw [if_neg (by omega), if_neg (by omega)]
  · have h' : c = 0 ∧ d = 0 ∧ c' = 0 ∧ d' = 0 := by
      rcases h with ⟨_, h⟩ | ⟨h0, _⟩ | ⟨h0, _⟩
      · exact h
      · cases h0
      · cases h0
    refine .take rfl ?_ ?_
    · unfold sgB; (repeat rw [ifF])
      by_cases q : i = c'
      · rw [if_neg (by omega), if_neg (by omega), if_pos q, if_pos (by omega)]
      · rw [if_neg (by omega), if_neg (by omega), if_neg q]
    · unfold tmB; (repeat rw [ifF])
      by_cases q : i = c'
      · rw [if_neg (by omega), if_pos q]; omega
      · rw [if_neg (by omega), if_neg q]
end Go.Proofs.YtkhkmjldncfbhaaDoor
