/- Slices of pairs of numbers: what one reads as. -/
import Derived.Test.YtaogpodncphpjaaPre1
import Derived.OwnWalk
import Derived.Laws.AppendOwnNone
namespace Go.Proofs.Ytaogpodncphpjaa
set_option linter.unusedVariables false
set_option linter.unusedSimpArgs false
open Go.RowKit

/-- The cells of a row of pairs. -/
def fw (es : List (Int × Int)) : List Value := es.flatMap fun e => [.int .i64 e.1, .int .i64 e.2]
theorem fw_cons (e : Int × Int) (es : List (Int × Int)) : fw (e :: es) = .int .i64 e.1 :: .int .i64 e.2 :: fw es := by simp [fw]
theorem fw_len : ∀ es : List (Int × Int), (fw es).length = es.length * 2
  | [] => rfl
  | e :: es => by rw [fw_cons]; simp [fw_len es]; omega
theorem fw_app (xs ys : List (Int × Int)) : fw (xs ++ ys) = fw xs ++ fw ys := by simp [fw]
def wAt (es : List (Int × Int)) (i : Nat) : Int × Int := es.getD i (0, 0)
theorem fw_get : ∀ (es : List (Int × Int)) (i : Nat), i < es.length → (fw es)[i * 2]? = some (.int .i64 (wAt es i).1) ∧ (fw es)[i * 2 + 1]? = some (.int .i64 (wAt es i).2)
  | [], i, h => by simp at h
  | e :: es, 0, _ => by rw [fw_cons]; simp [wAt]
  | e :: es, i + 1, h => by
    have := fw_get es i (by simpa using h)
    rw [fw_cons]
    simp only [show (i + 1) * 2 = i * 2 + 1 + 1 by omega, List.getElem?_cons_succ]
    simpa [wAt] using this
theorem fw_at {es : List (Int × Int)} {j : Nat} {u : Value} (h : (fw es)[j]? = some u) : ∃ i r, i < es.length ∧ r < 2 ∧ j = i * 2 + r ∧ ([.int .i64 (wAt es i).1, .int .i64 (wAt es i).2] : List Value)[r]? = some u := by
  have hj : j < es.length * 2 := by rw [← fw_len]; exact (List.getElem?_eq_some_iff.1 h).1
  obtain ⟨h0, h1⟩ := fw_get es (j / 2) (by omega)
  have hr : j % 2 = 0 ∨ j % 2 = 1 := by omega
  rcases hr with e | e
  · rw [show j = j / 2 * 2 by omega, h0] at h
    exact ⟨j / 2, 0, by omega, by omega, by omega, h⟩
  · rw [show j = j / 2 * 2 + 1 by omega, h1] at h
    exact ⟨j / 2, 1, by omega, by omega, by omega, h⟩
theorem fw_ones (es : List (Int × Int)) : ∀ u ∈ fw es, u.oneCell' = true := by
  intro u hu
  obtain ⟨e, _, he⟩ := List.mem_flatMap.1 hu
  simp at he
  rcases he with rfl | rfl <;> rfl
theorem w_take {es : List (Int × Int)} {k : Nat} (h : k < es.length) : es.take (k + 1) = es.take k ++ [wAt es k] := by
  rw [List.take_add_one, List.getElem?_eq_getElem h]
  simp [wAt, List.getElem?_eq_getElem h]
theorem w_drop {es : List (Int × Int)} {k : Nat} (h : k < es.length) : es.drop k = wAt es k :: es.drop (k + 1) := by
  rw [List.drop_eq_getElem_cons h]
  simp [wAt, List.getElem?_eq_getElem h]
/-- A slice that reads as pairs (two cells each), in memory that is there. -/
def RdW (w : World) (v : Value) (es : List (Int × Int)) : Prop :=
  ∃ a c, v = .slice a es.length c ∧ (es.length ≤ c ∧ c ≤ maxLen ∧ ((a = none ∧ c = 0) ∨ ∃ ad, a = some ad)) ∧ (0 < es.length → ∃ g off, a = some ⟨g, off, none⟩ ∧ g < w.heap.size ∧ ∀ i, i < es.length →
    w.cell? ⟨g, off + i * 2, none⟩ = some (.int .i64 (wAt es i).1) ∧ w.cell? ⟨g, off + i * 2 + 1, none⟩ = some (.int .i64 (wAt es i).2))
theorem RdW.below {w w' : World} {v : Value} {es : List (Int × Int)} (h : RdW w v es) (hb : Below w.heap.size w w') : RdW w' v es := by
  obtain ⟨a, c, h1, h2, h4⟩ := h
  refine ⟨a, c, h1, h2, fun h0 => ?_⟩
  obtain ⟨g, off, e, hg, hc⟩ := h4 h0
  have hs := hb.size
  refine ⟨g, off, e, by omega, fun i hi => ?_⟩
  obtain ⟨q0, q1⟩ := hc i hi
  exact ⟨(hb.cell (p := ⟨g, _, none⟩) hg).trans q0, (hb.cell (p := ⟨g, _, none⟩) hg).trans q1⟩
theorem own_rdW {w : World} {base : Nat} {t : TypeId} {v : Value} {es : List (Int × Int)} (h : w.ownsRow base t 2 v es.length (fw es)) : RdW w v es := by
  obtain ⟨h0, ⟨h1, h2⟩ | ⟨q, cap, cur, h1, h2, h3, h4, h5, h6, h7⟩⟩ := id h
  · exact ⟨none, 0, by rw [h1, h2], ⟨by omega, by simp, .inl ⟨rfl, rfl⟩⟩, fun h => by omega⟩
  · refine ⟨_, cap, h1, ⟨h4, h5, .inr ⟨_, rfl⟩⟩, fun hn => ⟨q, 0, rfl, by obtain ⟨hl, _⟩ := Array.getElem?_eq_some_iff.1 h3; exact hl, fun i hi => ?_⟩⟩
    subst h1
    obtain ⟨k0, k1⟩ := fw_get es i hi
    have k := fun j => h.cellAt (g := q) (cap := cap) j
    have hl := fw_len es
    simp only [Nat.zero_add]
    exact ⟨(k _ (by omega)).trans k0, (k _ (by omega)).trans k1⟩
theorem RdW.news {w : World} {ad : Addr} {n c : Nat} {es : List (Int × Int)} (h : RdW w (.slice (some ad) n c) es) {w' : World} (hb : Below w.heap.size w w') : ∀ j u, (fw es)[j]? = some u → w'.cell? (ad.add j) = some u := by
  intro j u hj
  obtain ⟨i, r, h1, h2, rfl, h4⟩ := fw_at hj
  obtain ⟨a, c', e, _, hh⟩ := h.below hb
  simp only [Value.slice.injEq] at e
  obtain ⟨rfl, rfl, rfl⟩ := e
  obtain ⟨g, off, e, hg, hc⟩ := hh (by omega)
  simp only [Option.some.injEq] at e
  subst e
  have he : (⟨g, off, none⟩ : Addr).add (i * 2 + r) = ⟨g, off + i * 2 + r, none⟩ := by
    rw [Addr.add_lit, Nat.add_assoc]
  rw [he]
  obtain ⟨c0, c1⟩ := hc i h1
  match r, h2, h4 with
  | 0, _, h4 => simp at h4; subst h4; exact c0
  | 1, _, h4 => simp at h4; subst h4; exact c1
theorem RdW.nil (w : World) : RdW w (.slice none 0 0) [] := ⟨none, 0, rfl, ⟨by simp, by unfold maxLen; omega, .inl ⟨rfl, rfl⟩⟩, fun h => absurd h (by simp)⟩
end Go.Proofs.Ytaogpodncphpjaa
