/- What an append onto a new empty slice leaves; a step of a region that draws, by an append's run. -/
import Derived.Test.YtdbionbdcjpmaaaOff
import Derived.Deep.RegionHeld3
namespace Go.Proofs.Ytdbionbdcjpmaaa
set_option linter.unusedVariables false
set_option linter.unusedSimpArgs false
open Go.RowKit

theorem Offs.src {P : Program} {w : World} {base : Nat} {t e e' : TypeId} {a : Option Addr} {n c : Nat} {xs : List Value} (ht : P.underlying t = some (.slice e')) (h : Offs w base e (.slice a n c) xs) (h1 : ∀ u ∈ xs, u.oneCell' = true) :
    Src P 1 t (.slice a n c) xs.length xs w := by
  rcases h with ⟨h0, rfl⟩ | ⟨g, off, cap, cur, h0, h2, h3, h4, h5, h6, h7⟩
  · simp only [Value.slice.injEq] at h0
    obtain ⟨rfl, rfl, rfl⟩ := h0
    exact Src.ofNil w ht 0
  · simp only [Value.slice.injEq] at h0
    obtain ⟨rfl, rfl, rfl⟩ := h0
    refine Src.ofSlice w ht _ _ _ _ (by simp) (fun j u hj => ?_) h1
    have hjl : j < xs.length := (List.getElem?_eq_some_iff.1 hj).1
    have := h7 j hjl
    rw [hj] at this
    rw [Addr.add_lit]
    simp [World.cell?, h3, this]

theorem run_append_fresh {P : Program} (w : World) (base : Nat) (t ty e : TypeId) (i : TypeInfo) (z : Value) (bytes : Nat) (ht : P.underlying t = some (.slice e)) (hi : P.info? e = some i) (hz : i.zero = some z)
    (hsize : i.size = 1) (hby : i.bytes = bytes) (hzs : z.cells.size = 1)
    (g : Nat) (hg : w.heap[g]? = some (.cells #[] e (0, 0))) (hgb : base ≤ g) (x : Value) (us : List Value) (hsrc : Src P 1 t x us.length us w)
    (h63 : us.length ≤ maxLen) (hbytes : us.length * bytes ≤ 140737488355328) (hbase : base ≤ w.heap.size) :
    ∃ v' w', (Builtin.append_ #[t, t] ty #[.slice (some ⟨g, 0, none⟩) 0 0, x]).run P w = .ok v' w' ∧ Offs w' base e v' us ∧ w.grownBy w' none ∧ (v'.ownBlock = some g ∨ v'.ownBlock = some w.heap.size) := by
  subst hby
  rw [← hsize] at hsrc
  rcases Nat.eq_zero_or_pos us.length with h0 | h0
  · have hrun := run_append_room_src (P := P) w t t ty e i ht hi g 0 0 0 x us.length us hsrc (by omega) (fun j hj => by
      have : us = [] := List.length_eq_zero_iff.1 h0
      rw [this] at hj; simp at hj) (fun j hj => by
      have : us = [] := List.length_eq_zero_iff.1 h0
      rw [this] at hj; simp at hj)
    have hus : us = [] := List.length_eq_zero_iff.1 h0
    subst hus
    refine ⟨_, _, hrun, .inr ⟨g, 0, 0, #[], by simp, hgb, by simpa [World.setCells] using hg, by simp, by simp, by simp, fun j hj => by simp at hj⟩, ⟨rfl, rfl, rfl, by simp [World.setCells], fun k _ _ => by simp [World.setCells]⟩, .inl rfl⟩
  · have h31 : ((0 + us.length : Nat) : Int) ≤ 9223372036854775807 := by simp only [maxLen] at h63; omega
    have hold : (Builtin.firstCells i.size 0 (.slice (some ⟨g, 0, none⟩) 0 0)).run P w.drew = .ok ([] : List Value).toArray w.drew :=
      run_firstCells_some w.drew i.size 0 ⟨g, 0, none⟩ 0 0 [] (by simp) (fun j x hj => by simp at hj)
    have hrun := run_append_grow_src (P := P) w t t ty e i z ht hi hz (some ⟨g, 0, none⟩) 0 0 [] hold x us.length us hsrc (by omega) h31 (growslice_fits (by omega) (by rw [Nat.zero_add]; exact hbytes))
    have hge := grownCap_ge w (0 + us.length) 0 e
    have hcm : grownCap w (0 + us.length) 0 e ≤ maxLen := grownCap_le_maxLen w (0 + us.length) 0 e (by omega)
    refine ⟨_, _, hrun, .inr ⟨w.heap.size, 0, _, _, by simp, hbase, Deep.blk_alloc_new w.drew _, by simpa using hge, hcm, ?_, ?_⟩, ⟨rfl, rfl, rfl, by simp, fun k hk _ => Below.heap_alloc w.drew _ k hk⟩, .inr rfl⟩
    · simp only [Array.size_append, List.size_toArray, size_zeroCells, hzs, List.nil_append]
      omega
    · intro j hj
      rw [Nat.zero_add, Array.getElem?_append_left (by simpa using hj), List.getElem?_toArray]
      simp

/-- An append of a region that draws, by what it runs to. -/
theorem step_app {P : Program} {ops : Array Oper} {o : Oper} {a : Act} {w : World} {K : Act → World → Prop} {Q : Exit → Act → World → Prop} {E : Prop} (hgd : o.guard = none) (s x : Operand) (t : TypeId)
    (ho : o.op = .call { callee := .builtin .append, args := #[s, x], argTypes := #[t, t] }) (ty : TypeId) (hty : o.type = ty) (sv xv : Value) (hs : a.eval s = sv) (hx : a.eval x = xv) {R : Value → World → Prop}
    (hr : ∃ v' w', (Builtin.append_ #[t, t] ty #[sv, xv]).run P w = .ok v' w' ∧ R v' w') (h : ∀ v' w', R v' w' → K (a.put o.dst v') w') :
    if Region.wanted o (yielded ops a.tmps) = true then Oper.wp P o a w K Q else E := by
  have hw : Region.wanted o (yielded ops a.tmps) = true := by simp [Region.wanted, hgd]
  rw [if_pos hw]
  obtain ⟨v', w', hrun, hR⟩ := hr
  subst hty
  unfold Oper.wp execOp
  simp only [ho, resolve, invoke, builtin, Sem.run_bind, Sem.run_pure, Result.andThen_ok, List.map_toArray, List.map_cons, List.map_nil, hs, hx, hrun]
  exact h v' w' hR
end Go.Proofs.Ytdbionbdcjpmaaa
