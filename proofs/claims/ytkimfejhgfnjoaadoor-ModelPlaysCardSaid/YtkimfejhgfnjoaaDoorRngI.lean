/- A range over a map with integer keys, told by a function: which keys are still to come. Of no program of its own. -/
import Derived.Test.YtkimfejhgfnjoaaDoorMaps
import Derived.Maps.RangeRun
namespace Go.Proofs.YtkimfejhgfnjoaaDoor
set_option linter.unusedVariables false
set_option linter.unusedSimpArgs false
open Go.RowKit Go.MapKept
open Go.ChangeMaps (setBlock)

/-- Block b is a map; block r an iterator over it; left: which keys are still to come; cnt: how many. -/
structure RgI (w : World) (b r : Nat) (q : IntKind) (g : Int → Option Value) (n : Nat) (left : Int → Bool) (cnt : Nat) : Prop where
  h : ∃ es clock since seen c0, w.heap[b]? = some (.map es clock) ∧ Stamped es clock ∧ (∀ x ∈ es.toList, IsKey (.int q) x.key) ∧ es.size = n ∧ (∀ a v, g a = some v ↔ ∃ x ∈ es.toList, x.key = .int q a ∧ x.val = v) ∧
    w.heap[r]? = some (.mapIter (some b) since seen c0) ∧ (∀ x ∈ es.toList, x.born < since) ∧ (leftOf es seen).size = cnt ∧ (∀ a, left a = true ↔ ∃ x ∈ es.toList, x.key = .int q a ∧ seen.contains x.born = false) ∧ since ≤ c0 ∧ since ≤ clock
/-- How many are still to come: for the measure. -/
def leftI (w : World) (b r : Nat) : Nat :=
  match w.heap[b]?, w.heap[r]? with
  | some (.map es _), some (.mapIter _ _ seen _) => (leftOf es seen).size
  | _, _ => 0
theorem entry_eq : ∀ {l : List MapEntry}, l.Pairwise (fun x y => x.key ≠ y.key) → ∀ {x y : MapEntry}, x ∈ l → y ∈ l → x.key = y.key → x = y
  | [], _, _, _, hx, _, _ => by simp at hx
  | a :: r, hp, x, y, hx, hy, h => by
    obtain ⟨h1, h2⟩ := List.pairwise_cons.1 hp
    rcases List.mem_cons.1 hx with ex | hx'
    · rcases List.mem_cons.1 hy with ey | hy'
      · rw [ex, ey]
      · exact absurd (ex ▸ h) (h1 y hy')
    · rcases List.mem_cons.1 hy with ey | hy'
      · exact absurd (ey ▸ h).symm (h1 x hx')
      · exact entry_eq h2 hx' hy' h
def strike (left : Int → Bool) (a : Int) : Int → Bool := fun x => left x && !(x == a)
namespace RgI
variable {w w' : World} {b r n cnt : Nat} {q : IntKind} {g : Int → Option Value} {left : Int → Bool} {P : Program}
theorem map (h : RgI w b r q g n left cnt) : MapI w b q g n := by
  obtain ⟨es, clock, since, seen, c0, h1, h2, h3, h4, h5, _⟩ := h.h
  exact ⟨es, clock, h1, h2, h3, h4, h5⟩
theorem left_eq (h : RgI w b r q g n left cnt) : leftI w b r = cnt := by
  obtain ⟨es, clock, since, seen, c0, h1, h2, h3, h4, h5, h6, h7, h8, _⟩ := h.h
  simp only [leftI, h1, h6]; exact h8
theorem lt (h : RgI w b r q g n left cnt) : b < w.heap.size ∧ r < w.heap.size ∧ r ≠ b := by
  obtain ⟨es, clock, since, seen, c0, h1, h2, h3, h4, h5, h6, _⟩ := h.h
  refine ⟨(Array.getElem?_eq_some_iff.1 h1).1, (Array.getElem?_eq_some_iff.1 h6).1, fun e => ?_⟩
  rw [e, h1] at h6; cases h6
theorem kept (h : RgI w b r q g n left cnt) (h1 : w'.heap[b]? = w.heap[b]?) (h2 : w'.heap[r]? = w.heap[r]?) : RgI w' b r q g n left cnt := by
  obtain ⟨es, clock, since, seen, c0, e1, e2, e3, e4, e5, e6, rest⟩ := h.h
  exact ⟨es, clock, since, seen, c0, h1.trans e1, e2, e3, e4, e5, h2.trans e6, rest⟩
/-- 'range m'. -/
theorem start {t kt et : TypeId} (h : MapI w b q g n) (hm : P.underlying t = some (.map kt et)) :
    ∃ o, (Instr.range t (.map (some b))).run P w = .ok (.pointer (some ⟨w.heap.size, 0, none⟩)) (w.alloc o) ∧ RgI (w.alloc o) b w.heap.size q g n (fun a => (g a).isSome) n := by
  have hlt := h.lt
  obtain ⟨es, clock, h1, h2, h3, h4, h5⟩ := h.h
  refine ⟨_, run_range_map w t kt et b es clock hm h1, es, clock, clock, #[], clock, ((MapKept.heap_alloc w _).2 b hlt).trans h1, h2, h3, h4, h5, (MapKept.heap_alloc w _).1, h2.1, by unfold leftOf; rw [Array.filter_eq_self.2 (fun x _ => by simp)]; exact h4, fun a => ?_, Nat.le_refl _, Nat.le_refl _⟩
  constructor
  · intro hs
    obtain ⟨v, hv⟩ := Option.isSome_iff_exists.1 hs
    obtain ⟨x, hx, hk, _⟩ := (h5 a v).1 hv
    exact ⟨x, hx, hk, by simp⟩
  · rintro ⟨x, hx, hk, _⟩
    exact Option.isSome_iff_exists.2 ⟨x.val, (h5 a x.val).2 ⟨x, hx, hk, rfl⟩⟩
/-- The step. -/
theorem next (h : RgI w b r q g n left cnt) :
    (cnt = 0 ∧ (∀ a, left a = false) ∧ ∀ ty, (Instr.next (.pointer (some ⟨r, 0, none⟩)) false ty).run P w = .ok (.tuple #[.bool false]) w) ∨
    ∃ a v w' cnt', left a = true ∧ g a = some v ∧ (∀ ty, (Instr.next (.pointer (some ⟨r, 0, none⟩)) false ty).run P w = .ok (.tuple #[.bool true, .int q a, v]) w') ∧
      RgI w' b r q g n (strike left a) cnt' ∧ cnt' < cnt ∧ Only r r w w' ∧ (Instr.entry (.pointer (some ⟨r, 0, none⟩))).run P w' = .ok (.tuple #[.int q a, v]) w' := by
  have hne := h.lt.2.2
  obtain ⟨es, clock, since, seen, c0, h1, h2, h3, h4, h5, h6, h7, rfl, h9, h10, h11⟩ := h.h
  have hst := (stamped_iff es clock).1 h2
  rcases run_next_at (P := P) w 0 r b since c0 seen es clock h6 h1 h7 h10 with ⟨e0, hrun⟩ | ⟨e, he, w1, hal, hrun⟩
  · refine .inl ⟨e0, fun a => ?_, fun ty => hrun⟩
    cases hk : left a
    · rfl
    · obtain ⟨x, hx, _, hc⟩ := (h9 a).1 hk
      rw [all_seen es seen e0 x hx] at hc
      cases hc
  · obtain ⟨hem, hes⟩ := mem_left he
    obtain ⟨a, hka⟩ : ∃ a, e.key = .int q a := by
      have := h3 e hem
      cases hk : e.key <;> simp [hk, IsKey] at this ⊢
      exact this
    have hr1 : w1.heap[r]? = some (.mapIter (some b) since seen c0) := by rcases hal with rfl | rfl <;> exact h6
    have hb1 : w1.heap[b]? = some (.map es clock) := by rcases hal with rfl | rfl <;> exact h1
    have hset := Go.MapKept.heap_set (o' := .mapIter (some b) since (seen.push e.born) clock) hr1
    have hb' : (setBlock w1 r (.mapIter (some b) since (seen.push e.born) clock)).heap[b]? = some (.map es clock) := (hset.2 b (fun e1 => hne e1.symm)).trans hb1
    have hkeys : ∀ x ∈ es.toList, x.key = .int q a → x = e := fun x hx hxk => entry_eq hst.2.2 hx hem (hxk.trans hka.symm)
    refine .inr ⟨a, e.val, _, _, (h9 a).2 ⟨e, hem, hka, hes⟩, (h5 a e.val).2 ⟨e, hem, hka, rfl⟩, fun ty => by rw [← hka]; exact hrun,
      ⟨es, clock, since, seen.push e.born, clock, hb', h2, h3, h4, h5, hset.1, h7, rfl, fun c => ?_, h11, h11⟩, left_shrinks es seen e he, ?_, by
        rw [← hka]; exact run_entry_at _ r b since seen es clock e hset.1 hb' hem hst.2.1⟩
    · simp only [strike, Bool.and_eq_true, Bool.not_eq_true', beq_eq_false_iff_ne]
      rw [h9 c]
      constructor
      · rintro ⟨⟨x, hx, hxk, hxc⟩, hca⟩
        refine ⟨x, hx, hxk, ?_⟩
        rw [contains_push, hxc, Bool.false_or, beq_eq_false_iff_ne]
        intro hb2
        have := born_inj hst.2.1 hx hem hb2
        subst this
        rw [hxk] at hka
        simp only [Value.int.injEq] at hka
        exact hca hka.2
      · rintro ⟨x, hx, hxk, hxc⟩
        rw [contains_push, Bool.or_eq_false_iff] at hxc
        refine ⟨⟨x, hx, hxk, hxc.1⟩, fun hca => ?_⟩
        subst hca
        have := hkeys x hx hxk
        subst this
        simp at hxc
    · rcases hal with rfl | rfl <;> exact ⟨rfl, rfl, rfl, by simp [setBlock], fun i _ hi _ => hset.2 i hi⟩
end RgI
end Go.Proofs.YtkimfejhgfnjoaaDoor
