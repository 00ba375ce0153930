/- Slices of events: what one reads as. -/
import Derived.Test.YtopidlcifaenjaaGreatDoorPre1
import Derived.Test.YtopidlcifaenjaaGreatDoorStructs
import Derived.OwnWalk
import Derived.Laws.AppendOwnNone
namespace Go.Proofs.YtopidlcifaenjaaGreatDoor
set_option linter.unusedVariables false
set_option linter.unusedSimpArgs false
set_option maxRecDepth 20000
open Go.RowKit

/-- An event: its kind, goroutine, machine, processor, value. -/
abbrev Ev := Int × Int × Int × Int × Int
def evc (e : Ev) : List Value := [.int .i64 e.1, .int .i64 e.2.1, .int .i64 e.2.2.1, .int .i64 e.2.2.2.1, .int .i64 e.2.2.2.2]
/-- The cells of a row of events. -/
def fe (es : List Ev) : List Value := es.flatMap evc
theorem fe_cons (e : Ev) (es : List Ev) : fe (e :: es) = .int .i64 e.1 :: .int .i64 e.2.1 :: .int .i64 e.2.2.1 :: .int .i64 e.2.2.2.1 :: .int .i64 e.2.2.2.2 :: fe es := by simp [fe, evc]
theorem fe_len : ∀ es : List Ev, (fe es).length = es.length * 5
  | [] => rfl
  | e :: es => by rw [fe_cons]; simp [fe_len es]; omega
theorem fe_app (xs ys : List Ev) : fe (xs ++ ys) = fe xs ++ fe ys := by simp [fe]
def evAt (es : List Ev) (i : Nat) : Ev := es.getD i (0, 0, 0, 0, 0)
theorem fe_get : ∀ (es : List Ev) (i : Nat), i < es.length →
    (fe es)[i * 5]? = some (.int .i64 (evAt es i).1) ∧ (fe es)[i * 5 + 1]? = some (.int .i64 (evAt es i).2.1) ∧ (fe es)[i * 5 + 2]? = some (.int .i64 (evAt es i).2.2.1) ∧ (fe es)[i * 5 + 3]? = some (.int .i64 (evAt es i).2.2.2.1) ∧ (fe es)[i * 5 + 4]? = some (.int .i64 (evAt es i).2.2.2.2)
  | [], i, h => by simp at h
  | e :: es, 0, _ => by rw [fe_cons]; simp [evAt]
  | e :: es, i + 1, h => by
    have := fe_get es i (by simpa using h)
    rw [fe_cons]
    simp only [show (i + 1) * 5 = i * 5 + 1 + 1 + 1 + 1 + 1 by omega, List.getElem?_cons_succ]
    simpa [evAt] using this
theorem fe_at {es : List Ev} {j : Nat} {u : Value} (h : (fe es)[j]? = some u) : ∃ i r, i < es.length ∧ r < 5 ∧ j = i * 5 + r ∧ (evc (evAt es i))[r]? = some u := by
  have hj : j < es.length * 5 := by rw [← fe_len]; exact (List.getElem?_eq_some_iff.1 h).1
  obtain ⟨h0, h1, h2, h3, h4⟩ := fe_get es (j / 5) (by omega)
  have hr : j % 5 = 0 ∨ j % 5 = 1 ∨ j % 5 = 2 ∨ j % 5 = 3 ∨ j % 5 = 4 := by omega
  rcases hr with e | e | e | e | e
  · rw [show j = j / 5 * 5 by omega, h0] at h
    exact ⟨j / 5, 0, by omega, by omega, by omega, h⟩
  · rw [show j = j / 5 * 5 + 1 by omega, h1] at h
    exact ⟨j / 5, 1, by omega, by omega, by omega, h⟩
  · rw [show j = j / 5 * 5 + 2 by omega, h2] at h
    exact ⟨j / 5, 2, by omega, by omega, by omega, h⟩
  · rw [show j = j / 5 * 5 + 3 by omega, h3] at h
    exact ⟨j / 5, 3, by omega, by omega, by omega, h⟩
  · rw [show j = j / 5 * 5 + 4 by omega, h4] at h
    exact ⟨j / 5, 4, by omega, by omega, by omega, h⟩
theorem fe_ones (es : List Ev) : ∀ u ∈ fe es, u.oneCell' = true := by
  intro u hu
  obtain ⟨e, _, he⟩ := List.mem_flatMap.1 hu
  simp [evc] at he
  rcases he with rfl | rfl | rfl | rfl | rfl <;> rfl
theorem ev_take {es : List Ev} {k : Nat} (h : k < es.length) : es.take (k + 1) = es.take k ++ [evAt es k] := by
  rw [List.take_add_one, List.getElem?_eq_getElem h]
  simp [evAt, List.getElem?_eq_getElem h]
theorem cell_ltE {w : World} {a : Addr} {v : Value} (h : w.cell? a = some v) : a.block < w.heap.size := by
  rcases Nat.lt_or_ge a.block w.heap.size with h' | h'
  · exact h'
  · simp [World.cell?, Array.getElem?_eq_none h'] at h
/-- A slice that reads as events (five cells each), in memory that is there. -/
def RdE (w : World) (v : Value) (es : List Ev) : Prop :=
  ∃ a c, v = .slice a es.length c ∧ (es.length ≤ c ∧ c ≤ maxLen ∧ ((a = none ∧ c = 0) ∨ ∃ ad, a = some ad)) ∧ (0 < es.length → ∃ g off, a = some ⟨g, off, none⟩ ∧ g < w.heap.size ∧ ∀ i, i < es.length →
    w.cell? ⟨g, off + i * 5, none⟩ = some (.int .i64 (evAt es i).1) ∧ w.cell? ⟨g, off + i * 5 + 1, none⟩ = some (.int .i64 (evAt es i).2.1) ∧ w.cell? ⟨g, off + i * 5 + 2, none⟩ = some (.int .i64 (evAt es i).2.2.1) ∧ w.cell? ⟨g, off + i * 5 + 3, none⟩ = some (.int .i64 (evAt es i).2.2.2.1) ∧ w.cell? ⟨g, off + i * 5 + 4, none⟩ = some (.int .i64 (evAt es i).2.2.2.2))
theorem RdE.below {w w' : World} {v : Value} {es : List Ev} (h : RdE w v es) (hb : Below w.heap.size w w') : RdE w' v es := by
  obtain ⟨a, c, h1, h2, h4⟩ := h
  refine ⟨a, c, h1, h2, fun h0 => ?_⟩
  obtain ⟨g, off, e, hg, hc⟩ := h4 h0
  have hs := hb.size
  refine ⟨g, off, e, by omega, fun i hi => ?_⟩
  obtain ⟨q0, q1, q2, q3, q4⟩ := hc i hi
  exact ⟨(hb.cell (p := ⟨g, _, none⟩) hg).trans q0, (hb.cell (p := ⟨g, _, none⟩) hg).trans q1, (hb.cell (p := ⟨g, _, none⟩) hg).trans q2, (hb.cell (p := ⟨g, _, none⟩) hg).trans q3, (hb.cell (p := ⟨g, _, none⟩) hg).trans q4⟩
theorem own_rdE {w : World} {base : Nat} {t : TypeId} {v : Value} {es : List Ev} (h : w.ownsRow base t 5 v es.length (fe es)) : RdE w v es := by
  obtain ⟨h0, ⟨h1, h2⟩ | ⟨q, cap, cur, h1, h2, h3, h4, h5, h6, h7⟩⟩ := id h
  · exact ⟨none, 0, by rw [h1, h2], ⟨by omega, by simp, .inl ⟨rfl, rfl⟩⟩, fun h => by omega⟩
  · refine ⟨_, cap, h1, ⟨h4, h5, .inr ⟨_, rfl⟩⟩, fun hn => ⟨q, 0, rfl, by obtain ⟨hl, _⟩ := Array.getElem?_eq_some_iff.1 h3; exact hl, fun i hi => ?_⟩⟩
    subst h1
    obtain ⟨k0, k1, k2, k3, k4⟩ := fe_get es i hi
    have k := fun j => h.cellAt (g := q) (cap := cap) j
    have hl := fe_len es
    simp only [Nat.zero_add]
    exact ⟨(k _ (by omega)).trans k0, (k _ (by omega)).trans k1, (k _ (by omega)).trans k2, (k _ (by omega)).trans k3, (k _ (by omega)).trans k4⟩
theorem RdE.news {w : World} {ad : Addr} {n c : Nat} {es : List Ev} (h : RdE w (.slice (some ad) n c) es) {w' : World} (hb : Below w.heap.size w w') : ∀ j u, (fe es)[j]? = some u → w'.cell? (ad.add j) = some u := by
  intro j u hj
  obtain ⟨i, r, h1, h2, rfl, h4⟩ := fe_at hj
  obtain ⟨a, c', e, _, hh⟩ := h.below hb
  simp only [Value.slice.injEq] at e
  obtain ⟨rfl, rfl, rfl⟩ := e
  obtain ⟨g, off, e, hg, hc⟩ := hh (by omega)
  simp only [Option.some.injEq] at e
  subst e
  have he : (⟨g, off, none⟩ : Addr).add (i * 5 + r) = ⟨g, off + i * 5 + r, none⟩ := by
    rw [Addr.add_lit, Nat.add_assoc]
  rw [he]
  obtain ⟨c0, c1, c2, c3, c4⟩ := hc i h1
  match r, h2, h4 with
  | 0, _, h4 => simp [evc] at h4; subst h4; exact c0
  | 1, _, h4 => simp [evc] at h4; subst h4; exact c1
  | 2, _, h4 => simp [evc] at h4; subst h4; exact c2
  | 3, _, h4 => simp [evc] at h4; subst h4; exact c3
  | 4, _, h4 => simp [evc] at h4; subst h4; exact c4
/-- Events that came in. -/
theorem IsStructs.rdE {w : World} {a : Option Addr} {len cap : Nat} {Z : Nat → Nat → Int} (h : IsStructs [.i64, .i64, .i64, .i64, .i64] w a len cap Z) :
    ∃ es : List Ev, es.length = len ∧ ∀ w', Below w.heap.size w w' → RdE w' (.slice a len cap) es := by
  refine ⟨(List.range len).map fun k => (Z k 0, Z k 1, Z k 2, Z k 3, Z k 4), by simp, fun w' hb => ?_⟩
  have hl : ((List.range len).map fun k => (Z k 0, Z k 1, Z k 2, Z k 3, Z k 4)).length = len := by simp
  have ho := h.open
  have hsz := hb.size
  rcases h with ⟨rfl, rfl, rfl⟩ | ⟨⟨bx, off, spot⟩, rfl, h1, h2, h3⟩
  · exact ⟨none, 0, by simp, ⟨by simp, by unfold maxLen; omega, .inl ⟨rfl, rfl⟩⟩, fun h => absurd h (by simp)⟩
  · refine ⟨_, _, by rw [hl], ⟨by omega, h2, .inr ⟨_, rfl⟩⟩, fun hpos => ?_⟩
    rw [hl] at hpos
    obtain ⟨bx', off', he, hc⟩ := ho hpos (by simp)
    have hlt : bx' < w.heap.size := cell_ltE (hc w (Below.refl _ _) 0 hpos 0 .i64 rfl).1
    refine ⟨bx', off', he, by omega, fun i hi => ?_⟩
    rw [hl] at hi
    have hz : evAt ((List.range len).map fun k => (Z k 0, Z k 1, Z k 2, Z k 3, Z k 4)) i = (Z i 0, Z i 1, Z i 2, Z i 3, Z i 4) := by
      simp [evAt, List.getElem?_range hi]
    rw [hz]
    have q0 := (hc w' hb i hi 0 .i64 rfl).1
    have q1 := (hc w' hb i hi 1 .i64 rfl).1
    have q2 := (hc w' hb i hi 2 .i64 rfl).1
    have q3 := (hc w' hb i hi 3 .i64 rfl).1
    have q4 := (hc w' hb i hi 4 .i64 rfl).1
    simp only [List.length_cons, List.length_nil, Nat.reduceAdd, Nat.add_zero, ← Nat.add_assoc] at q0 q1 q2 q3 q4
    exact ⟨q0, q1, q2, q3, q4⟩
end Go.Proofs.YtopidlcifaenjaaGreatDoor
