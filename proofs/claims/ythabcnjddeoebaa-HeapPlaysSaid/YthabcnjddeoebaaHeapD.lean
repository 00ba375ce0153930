/- slices.DeleteFunc with Heap.Remove's test: what isn't the goroutine's stays, in its order. -/
import Derived.Test.YthabcnjddeoebaaHeapR
import Derived.Test.YthabcnjddeoebaaHeap8
import Derived.Deep.Upon
namespace Go.Proofs.Ythabcnjddeoebaa
set_option linter.unusedVariables false
set_option linter.unusedSimpArgs false
open Go.RowKit

theorem setCells_blk3 (b : Nat) (t : TypeId) : ∀ (vs : List Value) (o : Nat) (w : World) (cur : Array Value), w.heap[b]? = some (.cells cur t (0, 0)) →
    ∃ cur' : Array Value, (w.setCells b o vs).heap[b]? = some (.cells cur' t (0, 0)) ∧ cur'.size = cur.size ∧ ∀ k, k < cur.size → cur'[k]? = if o ≤ k ∧ k < o + vs.length then vs[k - o]? else cur[k]?
  | [], o, w, cur, h => ⟨cur, h, rfl, fun k _ => by rw [if_neg (fun h => absurd h.2 (by have := h.1; simp only [List.length_nil]; omega))]⟩
  | v :: vs, o, w, cur, h => by
    have h1 : (w.setCell ⟨b, o, none⟩ v).heap[b]? = some (.cells (cur.setIfInBounds o v) t (0, 0)) := by
      simp [World.setCell, Array.getElem?_modify, h]
    obtain ⟨cur', h2, h3, h4⟩ := setCells_blk3 b t vs (o + 1) (w.setCell ⟨b, o, none⟩ v) _ h1
    refine ⟨cur', h2, by simpa using h3, fun k hk => ?_⟩
    rw [h4 k (by simpa using hk)]
    by_cases e : k = o
    · subst e
      rw [if_neg (by omega), if_pos (by simp)]
      simp [hk]
    · by_cases hr : o + 1 ≤ k ∧ k < o + 1 + vs.length
      · rw [if_pos hr, if_pos (by simp; omega), show k - o = (k - (o + 1)) + 1 by omega]; rfl
      · rw [if_neg hr, if_neg (by simp; omega)]
        rw [Array.getElem?_setIfInBounds]
        rw [if_neg (Ne.symm e)]

theorem zeroE3 (w : World) : (zeroValue 28).run Try.prog w = .ok (.agg #[.int .i64 0, .int .u64 0, .int .i64 0]) w := by kernel_rfl
theorem run_clear3 (w : World) (g o n c : Nat) (cur : Array Value) (hb : w.heap[g]? = some (.cells cur 28 (0, 0))) (hn : 0 < n) (hs : o + n * 3 ≤ cur.size) :
    ∃ Z : List Value, Z.length = n * 3 ∧ ∀ ty, (Builtin.clear_ #[22] ty #[.slice (some ⟨g, o, none⟩) n c]).run Try.prog w = .ok (.tuple #[]) (w.setCells g o Z) := by
  obtain ⟨Z, hZ⟩ : ∃ Z, Z = (Builtin.zeroCells (Value.agg #[.int .i64 0, .int .u64 0, .int .i64 0]).cells n).toList := ⟨_, rfl⟩
  have hl : Z.length = n * 3 := by rw [hZ]; simp [Builtin.zeroCells, Value.cells]
  have h1 : ∀ v ∈ Z, v.oneCell' = true := by
    intro v hv
    rw [hZ] at hv
    simp only [Builtin.zeroCells, Array.toList_map, List.mem_map] at hv
    obtain ⟨i, _, rfl⟩ := hv
    have hr : i % 3 = 0 ∨ i % 3 = 1 ∨ i % 3 = 2 := by omega
    rcases hr with e | e | e <;> simp [Value.cells, e, Value.oneCell']
  have hst := run_storeCells_cells (P := Try.prog) g o Z 0 w (fun j hj => by
    have : o + j < cur.size := by omega
    simp [World.cell?, hb, this]) (fun j hj => by simp [World.frozen?, hb]) h1
  simp only [Nat.add_zero] at hst
  refine ⟨Z, hl, fun ty => ?_⟩
  obtain ⟨m, rfl⟩ : ∃ m, n = m + 1 := ⟨n - 1, by omega⟩
  simp [Builtin.clear_, run_underlying Try.underlying22, zeroE3, ← hZ, hst]
theorem only_cells (g : Nat) : ∀ (vs : List Value) (o : Nat) (w : World), Only g g w (w.setCells g o vs)
  | [], o, w => Only.refl _ _ _
  | v :: vs, o, w => by
    have h := only_cells g vs (o + 1) (w.setCell ⟨g, o, none⟩ v)
    have h1 : Only g g w (w.setCell ⟨g, o, none⟩ v) := ⟨rfl, rfl, rfl, by simp [World.setCell], fun q _ hq _ => Below.heap_setCell _ _ _ _ hq⟩
    exact h1.trans h
theorem own_clear {w : World} {base g n c m : Nat} {R : List (Int × Int × Int)} (h : w.ownsRow base 28 3 (.slice (some ⟨g, 0, none⟩) n c) n (fl R)) (hR : R.length = n) (hm : m ≤ n) (Z : List Value) :
    (w.setCells g (m * 3) Z).ownsRow base 28 3 (.slice (some ⟨g, 0, none⟩) m c) m (fl (R.take m)) := by
  have hml : (R.take m).length = m := by rw [List.length_take]; omega
  obtain ⟨h0, ⟨h1, h2⟩ | ⟨q, cap, cur, h1, h2, h3, h4, h5, h6, h7⟩⟩ := h
  · cases h1
  · simp only [Value.slice.injEq, Option.some.injEq, Addr.mk.injEq] at h1
    obtain ⟨⟨rfl, _⟩, _, rfl⟩ := h1
    obtain ⟨cur', k1, k2, k3⟩ := setCells_blk3 g 28 Z (m * 3) w cur h3
    refine ⟨by rw [fl_len, hml], .inr ⟨g, c, cur', rfl, h2, k1, by omega, h5, by rw [k2]; exact h6, ?_⟩⟩
    rw [fl_take, ← h7, List.take_take]
    apply List.ext_getElem?
    intro k
    rw [List.getElem?_take, List.getElem?_take]
    by_cases hk : k < m * 3
    · rw [if_pos hk, if_pos (by omega), Array.getElem?_toList, Array.getElem?_toList, k3 k (by omega), if_neg (by omega)]
    · rw [if_neg hk, if_neg (by omega)]
/-- The row while it is gone through. -/
structure Dg (w : World) (base gr n c : Nat) (es : List (Int × Int × Int)) (g : Int) (k m : Nat) (R : List (Int × Int × Int)) (wr : World) : Prop where
  own : wr.ownsRow base 28 3 (.slice (some ⟨gr, 0, none⟩) n c) n (fl R)
  len : R.length = n
  tk : R.take m = (es.take k).filter (fun e => !isG g e)
  dr : R.drop k = es.drop k
  ml : m < k
  only : Only gr gr w wr
namespace Dg
variable {w wr w' : World} {base gr n c k m : Nat} {es R : List (Int × Int × Int)} {g : Int}
theorem below (h : Dg w base gr n c es g k m R wr) (hb : Below wr.heap.size wr w') : Dg w base gr n c es g k m R w' := by
  refine ⟨?_, h.len, h.tk, h.dr, h.ml, h.only.trans ⟨hb.os, hb.tape, hb.output, hb.size, fun q hq _ _ => hb.block q hq⟩⟩
  obtain ⟨h0, h1 | ⟨q, cap, cur, h1, h2, h3, h4⟩⟩ := h.own
  · exact ⟨h0, .inl h1⟩
  · exact ⟨h0, .inr ⟨q, cap, cur, h1, h2, (hb.block q (by obtain ⟨hl, _⟩ := Array.getElem?_eq_some_iff.1 h3; exact hl)).trans h3, h4⟩⟩
theorem cells (h : Dg w base gr n c es g k m R wr) (i : Nat) (hi : i < n) :
    wr.cell? ⟨gr, i * 3, none⟩ = some (.int .i64 (enAt R i).1) ∧ wr.cell? ⟨gr, i * 3 + 1, none⟩ = some (.int .u64 (enAt R i).2.1) ∧ wr.cell? ⟨gr, i * 3 + 2, none⟩ = some (.int .i64 (enAt R i).2.2) := by
  have hl := h.len
  obtain ⟨h1, h2, h3⟩ := fl_get R i (by omega)
  have k := fun j => h.own.cellAt (g := gr) (cap := c) j
  have hl := fl_len R
  exact ⟨(k _ (by omega)).trans h1, (k _ (by omega)).trans h2, (k _ (by omega)).trans h3⟩
theorem fr (h : Dg w base gr n c es g k m R wr) (i : Nat) : wr.frozen? ⟨gr, i, none⟩ = false := by
  obtain ⟨h0, ⟨h1, h2⟩ | ⟨q, cap, cur, h1, h2, h3, h4, h5, _⟩⟩ := h.own
  · cases h1
  · simp only [Value.slice.injEq, Option.some.injEq, Addr.mk.injEq] at h1
    obtain ⟨⟨rfl, _⟩, _⟩ := h1
    simp [World.frozen?, h3]
theorem lt (h : Dg w base gr n c es g k m R wr) : gr < wr.heap.size := by
  obtain ⟨h0, ⟨h1, h2⟩ | ⟨q, cap, cur, h1, h2, h3, h4, h5, _⟩⟩ := h.own
  · cases h1
  · simp only [Value.slice.injEq, Option.some.injEq, Addr.mk.injEq] at h1
    obtain ⟨⟨rfl, _⟩, _⟩ := h1
    obtain ⟨hl, _⟩ := Array.getElem?_eq_some_iff.1 h3; exact hl
theorem hd (h : Dg w base gr n c es g k m R wr) (hk : k < n) (hes : es.length = n) : enAt R k = enAt es k := by
  have h1 := h.dr
  have hl := h.len
  rw [drop_enAt (show k < R.length by omega), drop_enAt (show k < es.length by omega)] at h1
  exact (List.cons.inj h1).1
theorem tk1 (es : List (Int × Int × Int)) (k : Nat) (hk : k < es.length) : es.take (k + 1) = es.take k ++ [enAt es k] := by
  rw [List.take_succ_eq_append_getElem hk, enAt_get hk]
/-- It is the goroutine's. -/
theorem skip (h : Dg w base gr n c es g k m R wr) (hk : k < n) (hes : es.length = n) (hg : isG g (enAt es k) = true) : Dg w base gr n c es g (k + 1) m R wr := by
  have hl := h.len
  refine ⟨h.own, h.len, ?_, ?_, by have := h.ml; omega, h.only⟩
  · rw [tk1 es k (by omega), List.filter_append, h.tk]; simp [hg]
  · have h1 := h.dr
    rw [drop_enAt (show k < R.length by omega), drop_enAt (show k < es.length by omega)] at h1
    exact (List.cons.inj h1).2
/-- It stays. -/
theorem stay (h : Dg w base gr n c es g k m R wr) (hk : k < n) (hes : es.length = n) (x1 x2 x3 : Int) (hx : enAt es k = (x1, x2, x3)) (hg : isG g (x1, x2, x3) = false) :
    Dg w base gr n c es g (k + 1) (m + 1) (R.set m (x1, x2, x3)) (((wr.setCell ⟨gr, m * 3, none⟩ (.int .i64 x1)).setCell ⟨gr, m * 3 + 1, none⟩ (.int .u64 x2)).setCell ⟨gr, m * 3 + 2, none⟩ (.int .i64 x3)) := by
  have hl := h.len
  have hmk := h.ml
  have o6 := own_set (own_set (own_set h.own (m * 3) (.int .i64 x1)) (m * 3 + 1) (.int .u64 x2)) (m * 3 + 2) (.int .i64 x3)
  refine ⟨?_, by simpa using hl, ?_, ?_, by omega, ?_⟩
  · rw [fl_set R m _ (by omega)]; exact o6
  · rw [List.take_succ_eq_append_getElem (by simp; omega), List.take_set_of_le (Nat.le_refl m)]
    rw [h.tk, tk1 es k (by omega), List.filter_append, hx]
    simp [hg]
  · rw [List.drop_set_of_lt (by omega)]
    have h1 := h.dr
    rw [drop_enAt (show k < R.length by omega), drop_enAt (show k < es.length by omega)] at h1
    exact (List.cons.inj h1).2
  · refine h.only.trans ⟨rfl, rfl, rfl, by simp [World.setCell], fun q _ hq _ => ?_⟩
    rw [Below.heap_setCell _ _ _ _ hq, Below.heap_setCell _ _ _ _ hq, Below.heap_setCell _ _ _ _ hq]
end Dg
end Go.Proofs.Ythabcnjddeoebaa
