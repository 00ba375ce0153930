/- Slices of the document's timers (four cells each): what one reads as. -/
import Derived.Test.YtlppnkemoomllaaBase
import Derived.OwnWalk
import Derived.Laws.AppendOwnNone
namespace Go.Proofs.Ytlppnkemoomllaa
set_option linter.unusedVariables false
set_option linter.unusedSimpArgs false
open Go.RowKit

abbrev Tr := Int × Int × Int × Int
/-- The cells of one timer. -/
def tr (e : Tr) : List Value := [.int .i64 e.1, .int .i64 e.2.1, .int .u64 e.2.2.1, .int .i64 e.2.2.2]
/-- The cells of a row of timers. -/
def ft (es : List Tr) : List Value := es.flatMap tr
theorem ft_cons (e : Tr) (es : List Tr) : ft (e :: es) = .int .i64 e.1 :: .int .i64 e.2.1 :: .int .u64 e.2.2.1 :: .int .i64 e.2.2.2 :: ft es := by simp [ft, tr]
theorem ft_len : ∀ es : List Tr, (ft es).length = es.length * 4
  | [] => rfl
  | e :: es => by rw [ft_cons]; simp [ft_len es]; omega
theorem ft_app (xs ys : List Tr) : ft (xs ++ ys) = ft xs ++ ft ys := by simp [ft]
def tAt (es : List Tr) (i : Nat) : Tr := es.getD i (0, 0, 0, 0)
theorem ft_get : ∀ (es : List Tr) (i : Nat), i < es.length → (ft es)[i * 4]? = some (.int .i64 (tAt es i).1) ∧ (ft es)[i * 4 + 1]? = some (.int .i64 (tAt es i).2.1) ∧ (ft es)[i * 4 + 2]? = some (.int .u64 (tAt es i).2.2.1) ∧ (ft es)[i * 4 + 3]? = some (.int .i64 (tAt es i).2.2.2)
  | [], i, h => by simp at h
  | e :: es, 0, _ => by rw [ft_cons]; simp [tAt]
  | e :: es, i + 1, h => by
    have := ft_get es i (by simpa using h)
    rw [ft_cons]
    simp only [show (i + 1) * 4 = i * 4 + 1 + 1 + 1 + 1 by omega, List.getElem?_cons_succ]
    simpa [tAt] using this
theorem ft_at {es : List Tr} {j : Nat} {u : Value} (h : (ft es)[j]? = some u) : ∃ i r, i < es.length ∧ r < 4 ∧ j = i * 4 + r ∧ (tr (tAt es i))[r]? = some u := by
  have hj : j < es.length * 4 := by rw [← ft_len]; exact (List.getElem?_eq_some_iff.1 h).1
  obtain ⟨h0, h1, h2, h3⟩ := ft_get es (j / 4) (by omega)
  have hr : j % 4 = 0 ∨ j % 4 = 1 ∨ j % 4 = 2 ∨ j % 4 = 3 := by omega
  rcases hr with e | e | e | e
  · rw [show j = j / 4 * 4 by omega, h0] at h
    exact ⟨j / 4, 0, by omega, by omega, by omega, h⟩
  · rw [show j = j / 4 * 4 + 1 by omega, h1] at h
    exact ⟨j / 4, 1, by omega, by omega, by omega, h⟩
  · rw [show j = j / 4 * 4 + 2 by omega, h2] at h
    exact ⟨j / 4, 2, by omega, by omega, by omega, h⟩
  · rw [show j = j / 4 * 4 + 3 by omega, h3] at h
    exact ⟨j / 4, 3, by omega, by omega, by omega, h⟩
theorem ft_ones (es : List Tr) : ∀ u ∈ ft es, u.oneCell' = true := by
  intro u hu
  obtain ⟨e, _, he⟩ := List.mem_flatMap.1 hu
  simp [tr] at he
  rcases he with rfl | rfl | rfl | rfl <;> rfl
theorem t_take {es : List Tr} {k : Nat} (h : k < es.length) : es.take (k + 1) = es.take k ++ [tAt es k] := by
  rw [List.take_add_one, List.getElem?_eq_getElem h]
  simp [tAt, List.getElem?_eq_getElem h]
theorem t_drop {es : List Tr} {k : Nat} (h : k < es.length) : es.drop k = tAt es k :: es.drop (k + 1) := by
  rw [List.drop_eq_getElem_cons h]
  simp [tAt, List.getElem?_eq_getElem h]
/-- A slice that reads as timers (four cells each), in memory that is there. -/
def RdT (w : World) (v : Value) (es : List Tr) : Prop :=
  ∃ a c, v = .slice a es.length c ∧ (es.length ≤ c ∧ c ≤ maxLen ∧ ((a = none ∧ c = 0) ∨ ∃ ad, a = some ad)) ∧ (0 < es.length → ∃ g off, a = some ⟨g, off, none⟩ ∧ g < w.heap.size ∧ ∀ i, i < es.length →
    w.cell? ⟨g, off + i * 4, none⟩ = some (.int .i64 (tAt es i).1) ∧ w.cell? ⟨g, off + i * 4 + 1, none⟩ = some (.int .i64 (tAt es i).2.1) ∧ w.cell? ⟨g, off + i * 4 + 2, none⟩ = some (.int .u64 (tAt es i).2.2.1) ∧ w.cell? ⟨g, off + i * 4 + 3, none⟩ = some (.int .i64 (tAt es i).2.2.2))
theorem RdT.below {w w' : World} {v : Value} {es : List Tr} (h : RdT w v es) (hb : Below w.heap.size w w') : RdT w' v es := by
  obtain ⟨a, c, h1, h2, h4⟩ := h
  refine ⟨a, c, h1, h2, fun h0 => ?_⟩
  obtain ⟨g, off, e, hg, hc⟩ := h4 h0
  have hs := hb.size
  refine ⟨g, off, e, by omega, fun i hi => ?_⟩
  obtain ⟨q0, q1, q2, q3⟩ := hc i hi
  exact ⟨(hb.cell (p := ⟨g, _, none⟩) hg).trans q0, (hb.cell (p := ⟨g, _, none⟩) hg).trans q1, (hb.cell (p := ⟨g, _, none⟩) hg).trans q2, (hb.cell (p := ⟨g, _, none⟩) hg).trans q3⟩
theorem own_rdT {w : World} {base : Nat} {t : TypeId} {v : Value} {es : List Tr} (h : w.ownsRow base t 4 v es.length (ft es)) : RdT w v es := by
  obtain ⟨h0, ⟨h1, h2⟩ | ⟨q, cap, cur, h1, h2, h3, h4, h5, h6, h7⟩⟩ := id h
  · exact ⟨none, 0, by rw [h1, h2], ⟨by omega, by simp, .inl ⟨rfl, rfl⟩⟩, fun h => by omega⟩
  · refine ⟨_, cap, h1, ⟨h4, h5, .inr ⟨_, rfl⟩⟩, fun hn => ⟨q, 0, rfl, by obtain ⟨hl, _⟩ := Array.getElem?_eq_some_iff.1 h3; exact hl, fun i hi => ?_⟩⟩
    subst h1
    obtain ⟨k0, k1, k2, k3⟩ := ft_get es i hi
    have k := fun j => h.cellAt (g := q) (cap := cap) j
    have hl := ft_len es
    simp only [Nat.zero_add]
    exact ⟨(k _ (by omega)).trans k0, (k _ (by omega)).trans k1, (k _ (by omega)).trans k2, (k _ (by omega)).trans k3⟩
theorem RdT.news {w : World} {ad : Addr} {n c : Nat} {es : List Tr} (h : RdT w (.slice (some ad) n c) es) {w' : World} (hb : Below w.heap.size w w') : ∀ j u, (ft es)[j]? = some u → w'.cell? (ad.add j) = some u := by
  intro j u hj
  obtain ⟨i, r, h1, h2, rfl, h4⟩ := ft_at hj
  obtain ⟨a, c', e, _, hh⟩ := h.below hb
  simp only [Value.slice.injEq] at e
  obtain ⟨rfl, rfl, rfl⟩ := e
  obtain ⟨g, off, e, hg, hc⟩ := hh (by omega)
  simp only [Option.some.injEq] at e
  subst e
  have he : (⟨g, off, none⟩ : Addr).add (i * 4 + r) = ⟨g, off + i * 4 + r, none⟩ := by
    rw [Addr.add_lit, Nat.add_assoc]
  rw [he]
  obtain ⟨c0, c1, c2, c3⟩ := hc i h1
  match r, h2, h4 with
  | 0, _, h4 => simp [tr] at h4; subst h4; exact c0
  | 1, _, h4 => simp [tr] at h4; subst h4; exact c1
  | 2, _, h4 => simp [tr] at h4; subst h4; exact c2
  | 3, _, h4 => simp [tr] at h4; subst h4; exact c3
theorem RdT.nil (w : World) : RdT w (.slice none 0 0) [] := ⟨none, 0, rfl, ⟨by simp, by unfold maxLen; omega, .inl ⟨rfl, rfl⟩⟩, fun h => absurd h (by simp)⟩
end Go.Proofs.Ytlppnkemoomllaa
