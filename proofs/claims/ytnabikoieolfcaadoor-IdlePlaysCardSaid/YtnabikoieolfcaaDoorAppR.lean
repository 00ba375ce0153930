/- append of a row that reads; a row of the call's own, changed at one place. -/
import Derived.Test.YtnabikoieolfcaaDoorInts
import Derived.Laws.CopyOwn
import Derived.Laws.MakeOwn
import Derived.Laws.OwnMore
import Derived.Laws.AppendOwnNone
import Derived.Maps.AppendAt
namespace Go.Proofs.YtnabikoieolfcaaDoor
set_option linter.unusedVariables false
set_option linter.unusedSimpArgs false
open Go.RowKit

theorem Owns.kept {w w' : World} {base : Nat} {v : Value} {xs : List Int} (h : Owns w base v xs) (hb : ∀ k, v.ownBlock = some k → w'.heap[k]? = w.heap[k]?) : Owns w' base v xs := by
  obtain ⟨h0, h1 | ⟨g, cap, cur, h1, h2, h3, h4⟩⟩ := h
  · exact ⟨h0, .inl h1⟩
  · exact ⟨h0, .inr ⟨g, cap, cur, h1, h2, by rw [hb g (by rw [h1]; rfl)]; exact h3, h4⟩⟩
theorem Owns.lt {w : World} {base : Nat} {v : Value} {xs : List Int} (h : Owns w base v xs) : ∀ k, v.ownBlock = some k → base ≤ k ∧ k < w.heap.size := World.ownsRow.lt h
theorem wpList_append_reads {P : Program} {w : World} {ops : Array Oper} {rest : List Oper} {o : Oper} {a : Act} {Q : Exit → Act → World → Prop} (hgd : o.guard = none) (s x : Operand) (t : TypeId)
    (ho : o.op = .call { callee := .builtin .append, args := #[s, x], argTypes := #[t, t] })
    (base : Nat) (e : TypeId) (i : TypeInfo) (z : Value) (bytes : Nat) (ht : P.underlying t = some (.slice e)) (hi : P.info? e = some i) (hz : i.zero = some z)
    (hsize : i.size = 1) (hby : i.bytes = bytes) (hzs : z.cells.size = 1)
    (v : Value) (n : Nat) (xs : List Value) (hs : a.eval s = v) (hown : w.ownsRow base e 1 v n xs)
    (ys : List Int) (vy : Value) (hx : a.eval x = vy) (hr : Reads w vy ys)
    (h63 : n + ys.length ≤ maxLen) (hbytes : (n + ys.length) * bytes ≤ 140737488355328) (hbase : base ≤ w.heap.size)
    (h : ∀ v' w', w'.ownsRow base e 1 v' (n + ys.length) (xs ++ ys.map (Value.int .i64)) → w.grownBy w' v.ownBlock → (v'.ownBlock = v.ownBlock ∨ v'.ownBlock = some w.heap.size) → wpList P ops Q rest (a.put o.dst v') w') :
    wpList P ops Q (o :: rest) a w := by
  obtain ⟨ad, c, rfl, hc, hrd⟩ := hr
  rcases hc.2.2 with ⟨rfl, rfl⟩ | ⟨ad', rfl⟩
  · have hy0 : ys = [] := List.length_eq_zero_iff.1 (by omega)
    subst hy0
    exact wpList_append_own_none hgd s x t ho base e i 1 ht hi v n xs hs hown hx (h v w (by simpa using hown) (.refl _ _) (.inl rfl))
  · refine wpList_append_own_at w hgd s x t ho base e i z 1 bytes ht hi hz hsize hby hzs (by decide) v n xs hs hown ad' ys.length c (ys.map (Value.int .i64)) hx (by simp) ?_ (ones_of ys) h63 hbytes hbase (fun v' w' h1 h2 _ h3 => h v' w' h1 h2 h3)
    intro j u hj
    have hpos : 0 < ys.length := by
      rcases Nat.eq_zero_or_pos ys.length with h | h
      · rw [List.length_eq_zero_iff] at h; subst h; simp at hj
      · exact h
    obtain ⟨g', off', h2, h3, h4⟩ := hrd hpos
    simp only [Option.some.injEq] at h2
    subst h2
    exact news_of h4 j u hj

theorem Owns.step {w : World} {base : Nat} {a : Option Addr} {n c : Nat} {zs : List Int} (h : Owns w base (.slice a n c) zs) (hn : zs.length = n) (k : Nat) (hk : k < n) :
    ∃ B, a = some ⟨B, 0, none⟩ ∧ base ≤ B ∧ B < w.heap.size ∧ w.cell? ⟨B, k, none⟩ = some (.int .i64 (zs.getD k 0)) ∧ w.frozen? ⟨B, k, none⟩ = false ∧ ∀ y, Owns (w.setCell ⟨B, k, none⟩ (.int .i64 y)) base (.slice a n c) (zs.set k y) := by
  have hrd := h.reads
  obtain ⟨h0, ⟨h1, h2⟩ | ⟨g, cap, cur, h1, h2, h3, h4, h5, h6, h7⟩⟩ := h
  · omega
  · simp only [Value.slice.injEq] at h1
    obtain ⟨rfl, _, rfl⟩ := h1
    refine ⟨g, rfl, h2, by rw [Array.getElem?_eq_some_iff] at h3; exact h3.1, ?_, by simp [World.frozen?, h3], fun y => ?_⟩
    · obtain ⟨a', c', he, _, hr⟩ := hrd
      simp only [Value.slice.injEq] at he
      obtain ⟨g', off', e2, e3, e4⟩ := hr (by omega)
      rw [← he.1] at e2
      simp only [Option.some.injEq, Addr.mk.injEq] at e2
      obtain ⟨rfl, rfl, _⟩ := e2
      simpa using e4 k (by omega)
    · refine ⟨by simp, .inr ⟨g, c, cur.setIfInBounds k (.int .i64 y), by simp [hn], h2, by simp [World.setCell, Array.getElem?_modify, h3], by simpa using h4, h5, by simpa using h6, ?_⟩⟩
      simp only [List.length_set, Nat.mul_one, Array.toList_setIfInBounds] at h7 ⊢
      rw [List.take_set, h7, List.map_set]
theorem Owns.reads_n {w : World} {base : Nat} {v : Value} {xs : List Int} {n : Nat} (h : Owns w base v xs) (hn : xs.length = n) : ∃ a c, v = .slice a n c := by
  subst hn; exact h.slice
end Go.Proofs.YtnabikoieolfcaaDoor
