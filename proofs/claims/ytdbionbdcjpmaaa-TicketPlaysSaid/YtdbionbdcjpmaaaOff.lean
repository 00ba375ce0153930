/- A slice of the call's own, from any place of its block on (`x = x[1:]`), and an append onto it. Elements of one cell. -/
import Derived.Test.YtdbionbdcjpmaaaBase
import Derived.WalkKit
import Derived.WalkLawsBesides
import Derived.WalkSpells
import Derived.Below
import Derived.Outline
import Derived.Deep.OwnRows
import Derived.Deep.Upon
import Derived.Maps.AppendAt
namespace Go.Proofs.Ytdbionbdcjpmaaa
set_option linter.unusedVariables false
set_option linter.unusedSimpArgs false
open Go.RowKit

def Offs (w : World) (base : Nat) (e : TypeId) (v : Value) (xs : List Value) : Prop :=
  (v = .slice none 0 0 ∧ xs = []) ∨
  ∃ g off cap, ∃ cur : Array Value, v = .slice (some ⟨g, off, none⟩) xs.length cap ∧ base ≤ g ∧ w.heap[g]? = some (.cells cur e (0, 0)) ∧ xs.length ≤ cap ∧ cap ≤ maxLen ∧ off + cap ≤ cur.size ∧ ∀ j, j < xs.length → cur[off + j]? = xs[j]?

theorem Offs.nil (w : World) (base : Nat) (e : TypeId) : Offs w base e (.slice none 0 0) [] := .inl ⟨rfl, rfl⟩
theorem Offs.slice {w : World} {base : Nat} {e : TypeId} {v : Value} {xs : List Value} (h : Offs w base e v xs) : ∃ a c, v = .slice a xs.length c := by
  rcases h with ⟨rfl, rfl⟩ | ⟨g, off, cap, cur, h1, _⟩
  · exact ⟨none, 0, rfl⟩
  · exact ⟨_, _, h1⟩
theorem Offs.lt {w : World} {base : Nat} {e : TypeId} {v : Value} {xs : List Value} (h : Offs w base e v xs) : ∀ q, v.ownBlock = some q → base ≤ q ∧ q < w.heap.size := by
  intro q hq
  rcases h with ⟨rfl, rfl⟩ | ⟨g, off, cap, cur, h1, h2, h3, _⟩
  · simp [Value.ownBlock] at hq
  · rw [h1] at hq
    simp only [Value.ownBlock, Option.some.injEq] at hq
    subst hq
    exact ⟨h2, by obtain ⟨hl, _⟩ := Array.getElem?_eq_some_iff.1 h3; exact hl⟩
theorem Offs.kept {w w' : World} {base : Nat} {e : TypeId} {v : Value} {xs : List Value} (h : Offs w base e v xs) (hk : ∀ q, v.ownBlock = some q → w'.heap[q]? = w.heap[q]?) : Offs w' base e v xs := by
  rcases h with ⟨rfl, rfl⟩ | ⟨g, off, cap, cur, h1, h2, h3, h4⟩
  · exact .inl ⟨rfl, rfl⟩
  · exact .inr ⟨g, off, cap, cur, h1, h2, (hk g (by rw [h1]; rfl)).trans h3, h4⟩
theorem Offs.alloc {w : World} {base : Nat} {e : TypeId} {v : Value} {xs : List Value} (h : Offs w base e v xs) (o : Obj) : Offs (w.alloc o) base e v xs :=
  h.kept (fun q hq => Below.heap_alloc w o q (h.lt q hq).2)
theorem Offs.drew {w : World} {base : Nat} {e : TypeId} {v : Value} {xs : List Value} (h : Offs w base e v xs) : Offs w.drew base e v xs := h.kept (fun _ _ => rfl)
theorem Offs.grown {w w' : World} {base : Nat} {e : TypeId} {v : Value} {xs : List Value} {row : Option Nat} (h : Offs w base e v xs) (hg : w.grownBy w' row) (hne : ∀ q, v.ownBlock = some q → row ≠ some q) : Offs w' base e v xs :=
  h.kept (fun q hq => hg.block q (h.lt q hq).2 (fun e => hne q hq e.symm))
/-- Where it lies, if it has something. -/
theorem Offs.pos {w : World} {base : Nat} {e : TypeId} {a : Option Addr} {n c : Nat} {u : Value} {us : List Value} (h : Offs w base e (.slice a n c) (u :: us)) :
    ∃ g off, a = some ⟨g, off, none⟩ ∧ n = us.length + 1 ∧ n ≤ c ∧ c ≤ maxLen ∧ w.cell? ⟨g, off, none⟩ = some u ∧ g < w.heap.size ∧ base ≤ g ∧
      (c = 1 → Offs w base e (.slice (some ⟨g, off, none⟩) us.length 0) us) ∧ (Offs w base e (.slice (some ⟨g, off + 1, none⟩) us.length (c - 1)) us) := by
  rcases h with ⟨h0, h1⟩ | ⟨g, off, cap, cur, h1, h2, h3, h4, h5, h6, h7⟩
  · cases h1
  · simp only [Value.slice.injEq] at h1
    obtain ⟨rfl, rfl, rfl⟩ := h1
    simp only [List.length_cons] at h4 h7
    obtain ⟨hl, _⟩ := Array.getElem?_eq_some_iff.1 h3
    refine ⟨g, off, rfl, rfl, h4, h5, ?_, hl, h2, ?_, ?_⟩
    · have := h7 0 (by omega)
      simp only [Nat.add_zero] at this
      simp [World.cell?, h3, this]
    · intro hc
      exact .inr ⟨g, off, 0, cur, by rw [show us.length = 0 by omega], h2, h3, by omega, by omega, by omega, fun j hj => by omega⟩
    · refine .inr ⟨g, off + 1, c - 1, cur, rfl, h2, h3, by omega, by omega, by omega, fun j hj => ?_⟩
      have := h7 (j + 1) (by omega)
      rw [show off + 1 + j = off + (j + 1) by omega, this]; rfl

theorem set1_blk (b o : Nat) (t : TypeId) (v : Value) (w : World) (cur : Array Value) (h : w.heap[b]? = some (.cells cur t (0, 0))) :
    (w.setCells b o [v]).heap[b]? = some (.cells (cur.setIfInBounds o v) t (0, 0)) := by
  show (w.setCell ⟨b, o, none⟩ v).heap[b]? = _
  simp [World.setCell, Array.getElem?_modify, h]

theorem run_append_offs {P : Program} (w : World) (base : Nat) (t ty e : TypeId) (i : TypeInfo) (z : Value) (bytes : Nat) (ht : P.underlying t = some (.slice e)) (hi : P.info? e = some i) (hz : i.zero = some z)
    (hsize : i.size = 1) (hby : i.bytes = bytes) (hzs : z.cells.size = 1)
    (v : Value) (xs : List Value) (hown : Offs w base e v xs) (ad : Addr) (c : Nat) (u : Value) (hu : w.cell? ad = some u) (h1 : u.oneCell' = true)
    (h63 : xs.length + 1 ≤ maxLen) (hbytes : (xs.length + 1) * bytes ≤ 140737488355328) (hbase : base ≤ w.heap.size) :
    ∃ v' w', (Builtin.append_ #[t, t] ty #[v, .slice (some ad) 1 c]).run P w = .ok v' w' ∧ Offs w' base e v' (xs ++ [u]) ∧ w.grownBy w' v.ownBlock ∧ (v'.ownBlock = v.ownBlock ∨ v'.ownBlock = some w.heap.size) := by
  subst hby
  have hsrc : Src P i.size t (.slice (some ad) 1 c) 1 [u] w := Src.ofSlice w ht ad 1 c [u] (by rw [hsize]; rfl) (fun j x hj => by
    match j, hj with
    | 0, hj => simp at hj; subst hj; simpa [Addr.add] using hu) (fun x hx => by simp at hx; subst hx; exact h1)
  have h31 : ((xs.length + 1 : Nat) : Int) ≤ 9223372036854775807 := by simp only [maxLen] at h63; omega
  have grown : ∀ (a : Option Addr) (old : Nat), v = .slice a xs.length old → old < xs.length + 1 → (Builtin.firstCells i.size xs.length (.slice a xs.length old)).run P w.drew = .ok xs.toArray w.drew →
      ∃ v' w', (Builtin.append_ #[t, t] ty #[v, .slice (some ad) 1 c]).run P w = .ok v' w' ∧ Offs w' base e v' (xs ++ [u]) ∧ w.grownBy w' v.ownBlock ∧ (v'.ownBlock = v.ownBlock ∨ v'.ownBlock = some w.heap.size) := by
    rintro a old rfl ho hold
    have hrun := run_append_grow_src (P := P) w t t ty e i z ht hi hz a xs.length old xs hold (.slice (some ad) 1 c) 1 [u] hsrc ho h31 (growslice_fits ho hbytes)
    have hge := grownCap_ge w (xs.length + 1) old e
    have hcm : grownCap w (xs.length + 1) old e ≤ maxLen := grownCap_le_maxLen w (xs.length + 1) old e h63
    refine ⟨_, _, hrun, .inr ⟨w.heap.size, 0, _, _, by simp, hbase, Deep.blk_alloc_new w.drew _, by simpa using hge, hcm, ?_, ?_⟩, ⟨rfl, rfl, rfl, by simp, fun k hk _ => Below.heap_alloc w.drew _ k hk⟩, .inr rfl⟩
    · simp only [Array.size_append, List.size_toArray, size_zeroCells, hzs, List.length_append, List.length_singleton]
      omega
    · intro j hj
      rw [Nat.zero_add, Array.getElem?_append_left (by simpa using hj), List.getElem?_toArray]
  rcases hown with ⟨rfl, rfl⟩ | ⟨g, off, cap, cur, rfl, h2, h3, h4, h5, h6, h7⟩
  · exact grown none 0 rfl (by simp) (run_firstCells_none w.drew i.size 0 0 0)
  · by_cases hroom : xs.length + 1 ≤ cap
    · have hcell : (w.cell? ⟨g, off + xs.length * i.size + 0, none⟩).isSome = true := by
        rw [hsize, Nat.mul_one, Nat.add_zero]
        simp [World.cell?, h3]
        omega
      have hrun := run_append_room_src (P := P) w t t ty e i ht hi g off xs.length cap (.slice (some ad) 1 c) 1 [u] hsrc hroom
        (fun j hj => by obtain rfl : j = 0 := by simpa using hj
                        exact hcell)
        (fun j hj => by simp [World.frozen?, h3])
      rw [hsize, Nat.mul_one] at hrun
      refine ⟨_, _, hrun, .inr ⟨g, off, cap, _, by simp, h2, set1_blk g _ e u w cur h3, by simpa using hroom, h5, by simpa using h6, fun j hj => ?_⟩, ⟨World.os_setCells _ _ _ _, rfl, World.output_setCells _ _ _ _, by simp [World.setCells, World.setCell], fun k hk hne => World.heap_setCells_other w g _ _ hk (fun e => hne (by rw [e]; rfl))⟩, .inl rfl⟩
      rw [List.length_append, List.length_singleton] at hj
      rw [Array.getElem?_setIfInBounds]
      by_cases he : j = xs.length
      · subst he
        rw [if_pos rfl, if_pos (by omega)]; simp
      · rw [if_neg (by omega), h7 j (by omega), List.getElem?_append_left (by omega)]
    · refine grown _ cap rfl (by omega) (run_firstCells_some w.drew i.size xs.length ⟨g, off, none⟩ xs.length cap xs (by rw [hsize, Nat.mul_one]) (fun j x hj => ?_))
      have hjl : j < xs.length := (List.getElem?_eq_some_iff.1 hj).1
      have := h7 j hjl
      rw [hj] at this
      rw [Addr.add_lit]
      have hd : w.drew.heap[g]? = some (.cells cur e (0, 0)) := h3
      simp [World.cell?, hd, this]

/-- For the walk: one element more. -/
theorem wpList_append_offs {P : Program} {ops : Array Oper} {rest : List Oper} {o : Oper} {a : Act} {Q : Exit → Act → World → Prop} (hgd : o.guard = none) (s x : Operand) (t : TypeId)
    (ho : o.op = .call { callee := .builtin .append, args := #[s, x], argTypes := #[t, t] })
    (w : World) (base : Nat) (e : TypeId) (i : TypeInfo) (z : Value) (bytes : Nat) (ht : P.underlying t = some (.slice e)) (hi : P.info? e = some i) (hz : i.zero = some z)
    (hsize : i.size = 1) (hby : i.bytes = bytes) (hzs : z.cells.size = 1)
    (v : Value) (xs : List Value) (hs : a.eval s = v) (hown : Offs w base e v xs) (ad : Addr) (c : Nat) (u : Value) (hx : a.eval x = .slice (some ad) 1 c) (hu : w.cell? ad = some u) (h1 : u.oneCell' = true)
    (h63 : xs.length + 1 ≤ maxLen) (hbytes : (xs.length + 1) * bytes ≤ 140737488355328) (hbase : base ≤ w.heap.size)
    (h : ∀ v' w', Offs w' base e v' (xs ++ [u]) → w.grownBy w' v.ownBlock → (v'.ownBlock = v.ownBlock ∨ v'.ownBlock = some w.heap.size) → wpList P ops Q rest (a.put o.dst v') w') :
    wpList P ops Q (o :: rest) a w := by
  refine wpList_plain hgd fun K hK => ?_
  obtain ⟨v', w', hr, h2, h3, h4⟩ := run_append_offs (P := P) w base t o.type e i z bytes ht hi hz hsize hby hzs v xs hown ad c u hu h1 h63 hbytes hbase
  unfold Oper.wp execOp
  simp only [ho, resolve, invoke, builtin, Sem.run_bind, Sem.run_pure, Result.andThen_ok, List.map_toArray, List.map_cons, List.map_nil, hs, hx, hr]
  exact hK _ _ (h v' w' h2 h3 h4)
end Go.Proofs.Ytdbionbdcjpmaaa
