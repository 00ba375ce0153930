/- The document's memory as a value: is, set. -/
import Derived.Test.YtdbionbdcjpmaaaCopyA
import Derived.Test.YtdbionbdcjpmaaaOffM
import Derived.Deep.CutRange
import Derived.Deep.CutBlock
namespace Go.Proofs.Ytdbionbdcjpmaaa
set_option linter.unusedVariables false
set_option linter.unusedSimpArgs false
open Go.RowKit

theorem cell_blk1 {w : World} {p i : Nat} {cs : Array Value} {t : TypeId} {v : Value} (h : w.heap[p]? = some (.cells cs t (0, 0))) (hi : cs[i]? = some v) : w.cell? ⟨p, i, none⟩ = some v := by
  simp [World.cell?, h, hi]
/-- Words as values. -/
def vals (xs : List Int) : List Value := xs.map (Value.int .u64)
theorem vals_len (xs : List Int) : (vals xs).length = xs.length := by simp [vals]
theorem vals_one (xs : List Int) : ∀ u ∈ vals xs, u.oneCell' = true := by
  intro u hu
  obtain ⟨x, _, rfl⟩ := List.mem_map.1 hu
  rfl
theorem vals_get (xs : List Int) (j : Nat) (h : j < xs.length) : (vals xs)[j]? = some (.int .u64 (xs.getD j 0)) := by
  simp [vals, List.getD_eq_getElem?_getD, h]
theorem vals_set (xs : List Int) (j : Nat) (x : Int) : (vals xs).set j (.int .u64 x) = vals (xs.set j x) := by simp [vals, List.map_set]
theorem Offs.at' {w : World} {base : Nat} {e : TypeId} {n c : Nat} {xs : List Value} {g off : Nat} (h : Offs w base e (.slice (some ⟨g, off, none⟩) n c) xs) (j : Nat) (u : Value) (hj : xs[j]? = some u) : w.cell? ⟨g, off + j, none⟩ = some u := by
  rcases h with ⟨h0, _⟩ | ⟨g', off', cap, cur, h1, h2, h3, h4, h5, h6, h7⟩
  · cases h0
  · simp only [Value.slice.injEq, Option.some.injEq, Addr.mk.injEq] at h1
    obtain ⟨⟨rfl, rfl, _⟩, _, _⟩ := h1
    have hjl : j < xs.length := (List.getElem?_eq_some_iff.1 hj).1
    simp [World.cell?, h3, h7 j hjl, hj]
theorem Offs.fr {w : World} {base : Nat} {e : TypeId} {n c : Nat} {xs : List Value} {g off : Nat} (h : Offs w base e (.slice (some ⟨g, off, none⟩) n c) xs) (j : Nat) : w.frozen? ⟨g, j, none⟩ = false := by
  rcases h with ⟨h0, _⟩ | ⟨g', off', cap, cur, h1, h2, h3, h4, h5, h6, h7⟩
  · cases h0
  · simp only [Value.slice.injEq, Option.some.injEq, Addr.mk.injEq] at h1
    obtain ⟨⟨rfl, rfl, _⟩, _, _⟩ := h1
    simp [World.frozen?, h3]
theorem Offs.setAt {w : World} {base : Nat} {e : TypeId} {n c : Nat} {xs : List Value} {g off : Nat} (h : Offs w base e (.slice (some ⟨g, off, none⟩) n c) xs) (j : Nat) (u : Value) (hj : j < xs.length) :
    Offs (w.setCell ⟨g, off + j, none⟩ u) base e (.slice (some ⟨g, off, none⟩) n c) (xs.set j u) := by
  rcases h with ⟨h0, _⟩ | ⟨g', off', cap, cur, h1, h2, h3, h4, h5, h6, h7⟩
  · cases h0
  · simp only [Value.slice.injEq, Option.some.injEq, Addr.mk.injEq] at h1
    obtain ⟨⟨rfl, rfl, _⟩, rfl, rfl⟩ := h1
    refine .inr ⟨g, off, c, cur.setIfInBounds (off + j) u, by simp, h2, by simp [World.setCell, Array.getElem?_modify, h3], by simpa using h4, h5, by simpa using h6, fun i hi => ?_⟩
    rw [Array.getElem?_setIfInBounds, List.getElem?_set]
    rw [List.length_set] at hi
    by_cases hij : j = i
    · subst hij; simp [hj]; omega
    · rw [if_neg (by omega), if_neg hij]; exact h7 i hi
theorem Offs.mono' {w : World} {base base' : Nat} {e : TypeId} {v : Value} {xs : List Value} (h : Offs w base e v xs) (hb : base' ≤ base) : Offs w base' e v xs := by
  rcases h with h | ⟨g, off, cap, cur, h1, h2, h3⟩
  · exact .inl h
  · exact .inr ⟨g, off, cap, cur, h1, by omega, h3⟩
/-- Where it lies, if it has something. -/
theorem Offs.pos' {w : World} {base : Nat} {e : TypeId} {a : Option Addr} {n c : Nat} {xs : List Value} (h : Offs w base e (.slice a n c) xs) (hn : 0 < xs.length) : (∃ g off, a = some ⟨g, off, none⟩ ∧ base ≤ g ∧ g < w.heap.size) ∧ n = xs.length ∧ n ≤ c ∧ c ≤ maxLen := by
  rcases h with ⟨_, rfl⟩ | ⟨g, off, cap, cur, h1, h2, h3, h4, h5, h6, h7⟩
  · simp at hn
  · simp only [Value.slice.injEq] at h1
    obtain ⟨rfl, rfl, rfl⟩ := h1
    obtain ⟨hl, _⟩ := Array.getElem?_eq_some_iff.1 h3
    exact ⟨⟨g, off, rfl, h2, hl⟩, rfl, h4, h5⟩

theorem wpList_app {P : Program} {ops : Array Oper} {rest : List Oper} {o : Oper} {a : Act} {w : World} {Q : Exit → Act → World → Prop} (hgd : o.guard = none) (s x : Operand) (t : TypeId)
    (ho : o.op = .call { callee := .builtin .append, args := #[s, x], argTypes := #[t, t] }) (ty : TypeId) (hty : o.type = ty) (sv xv : Value) (hs : a.eval s = sv) (hx : a.eval x = xv) {R : Value → World → Prop}
    (hr : ∃ v' w', (Builtin.append_ #[t, t] ty #[sv, xv]).run P w = .ok v' w' ∧ R v' w') (h : ∀ v' w', R v' w' → wpList P ops Q rest (a.put o.dst v') w') :
    wpList P ops Q (o :: rest) a w := by
  refine wpList_plain hgd fun K hK => ?_
  obtain ⟨v', w', hrun, hR⟩ := hr
  subst hty
  unfold Oper.wp execOp
  simp only [ho, resolve, invoke, builtin, Sem.run_bind, Sem.run_pure, Result.andThen_ok, List.map_toArray, List.map_cons, List.map_nil, hs, hx, hrun]
  exact hK _ _ (h v' w' hR)

/-- The box and the result's cells are there; what was there is as it was. -/
structure Kq (w y : World) (k : Int) (a : Option Addr) (n c : Nat) : Prop where
  below : Below w.heap.size w y
  box : y.heap[w.heap.size]? = some (.cells #[.slice a n c, .int .i64 k] 28 (0, 0))
  res : y.heap[w.heap.size + 1]? = some (.cells #[.slice none 0 0, .int .i64 0] 28 (0, 0))
  size : w.heap.size + 2 ≤ y.heap.size
namespace Kq
variable {w y y' : World} {k : Int} {a : Option Addr} {n c : Nat}
theorem s (h : Kq w y k a n c) : y.cell? ⟨w.heap.size, 0, none⟩ = some (.slice a n c) ∧ y.cell? ⟨w.heap.size, 1, none⟩ = some (.int .i64 k) := ⟨cell_blk1 h.box rfl, cell_blk1 h.box rfl⟩
theorem r (h : Kq w y k a n c) : (y.cell? ⟨w.heap.size + 1, 0, none⟩ = some (.slice none 0 0) ∧ y.cell? ⟨w.heap.size + 1, 1, none⟩ = some (.int .i64 0)) ∧ y.frozen? ⟨w.heap.size + 1, 0, none⟩ = false ∧ y.frozen? ⟨w.heap.size + 1, 1, none⟩ = false :=
  ⟨⟨cell_blk1 h.res rfl, cell_blk1 h.res rfl⟩, by simp [World.frozen?, h.res], by simp [World.frozen?, h.res]⟩
theorem next (h : Kq w y k a n c) (hb : Below y.heap.size y y') : Kq w y' k a n c := by
  have hs := h.size
  have hs2 := hb.size
  exact ⟨h.below.trans (hb.mono h.below.size), (hb.block _ (by omega)).trans h.box, (hb.block _ (by omega)).trans h.res, by omega⟩
theorem drew (h : Kq w y k a n c) : Kq w y.drew k a n c := ⟨h.below.trans (Quiet.below ⟨1, rfl⟩ _), h.box, h.res, h.size⟩
theorem stored (h : Kq w y k a n c) (u1 u2 : Value) : ((y.setCell ⟨w.heap.size + 1, 0, none⟩ u1).setCell ⟨w.heap.size + 1, 1, none⟩ u2).cell? ⟨w.heap.size, 0, none⟩ = some (.slice a n c) ∧ ((y.setCell ⟨w.heap.size + 1, 0, none⟩ u1).setCell ⟨w.heap.size + 1, 1, none⟩ u2).cell? ⟨w.heap.size, 1, none⟩ = some (.int .i64 k) := by
  have e : ((y.setCell ⟨w.heap.size + 1, 0, none⟩ u1).setCell ⟨w.heap.size + 1, 1, none⟩ u2).heap[w.heap.size]? = y.heap[w.heap.size]? := by
    rw [Below.heap_setCell _ _ _ _ (by show w.heap.size ≠ w.heap.size + 1; omega), Below.heap_setCell _ _ _ _ (by show w.heap.size ≠ w.heap.size + 1; omega)]
  exact ⟨cell_blk1 (e.trans h.box) rfl, cell_blk1 (e.trans h.box) rfl⟩
theorem fin (h : Kq w y k a n c) (u1 u2 : Value) : Below w.heap.size w ((y.setCell ⟨w.heap.size + 1, 0, none⟩ u1).setCell ⟨w.heap.size + 1, 1, none⟩ u2) ∧ ((y.setCell ⟨w.heap.size + 1, 0, none⟩ u1).setCell ⟨w.heap.size + 1, 1, none⟩ u2).heap[w.heap.size + 1]? = some (.cells #[u1, u2] 28 (0, 0)) ∧
    ∀ k, k ≠ w.heap.size + 1 → ((y.setCell ⟨w.heap.size + 1, 0, none⟩ u1).setCell ⟨w.heap.size + 1, 1, none⟩ u2).heap[k]? = y.heap[k]? := by
  refine ⟨(h.below.setCell (by simp) _).setCell (by simp) _, by simp [World.setCell, Array.getElem?_modify, h.res], fun k hk => ?_⟩
  rw [Below.heap_setCell _ _ _ _ hk, Below.heap_setCell _ _ _ _ hk]
end Kq
theorem kq_first (w : World) (k : Int) (a : Option Addr) (n c : Nat) : Kq w ((w.alloc (.cells #[.slice a n c, .int .i64 k] 28)).alloc (.cells #[.slice none 0 0, .int .i64 0] 28)) k a n c := by
  refine ⟨((Below.refl w.heap.size w).alloc (Nat.le_refl _) _).alloc (by simp) _, (Below.heap_alloc _ _ _ (by simp)).trans (Deep.blk_alloc_new _ _), ?_, by simp⟩
  have := Deep.blk_alloc_new (w.alloc (.cells #[.slice a n c, .int .i64 k] 28)) (.cells #[.slice none 0 0, .int .i64 0] 28)
  rw [World.size_alloc] at this
  exact this

set_option maxHeartbeats 4000000 in
theorem ris_in (k i : Int) (a : Option Addr) (n c : Nat) (w : World) (hi0 : 0 ≤ i) (hi : i < n) :
    Calls Try.prog 33 #[.agg #[.slice a n c, .int .i64 k], .int .i64 i] w fun e w' => e = .returned (.bool true) ∧ Below w.heap.size w w' := by
  have HB := hid ((Below.refl w.heap.size w).alloc (Nat.le_refl _) (.cells #[.slice a n c, .int .i64 k] 28))
  go_enter Try.func33, Try.ntmps33
  go_wp2
  go_ret
  exact ⟨rfl, HB.out⟩
set_option maxHeartbeats 4000000 in
theorem ris_out (k i : Int) (a : Option Addr) (n c : Nat) (w : World) (hi : i < 0 ∨ (n : Int) ≤ i) :
    Calls Try.prog 33 #[.agg #[.slice a n c, .int .i64 k], .int .i64 i] w fun e w' => e = .returned (.bool false) ∧ Below w.heap.size w w' := by
  have HB := hid ((Below.refl w.heap.size w).alloc (Nat.le_refl _) (.cells #[.slice a n c, .int .i64 k] 28))
  by_cases h0 : i < 0
  · clear hi
    go_enter Try.func33, Try.ntmps33
    go_wp2
    go_ret
    exact ⟨rfl, HB.out⟩
  · have h1 : (n : Int) ≤ i := by omega
    have h2 : 0 ≤ i := by omega
    have h3 : decide (i < (n : Int)) = false := decide_eq_false (by omega)
    clear hi h0
    go_enter Try.func33, Try.ntmps33
    go_wp2
    go_ret
    exact ⟨by simp [h3], HB.out⟩
/-- What set answers. -/
def SetPost (w : World) (n : Nat) (xs : List Int) (k : Int) (e : Ending) (w' : World) : Prop :=
  ∃ g o c, e = .returned (.agg #[.slice (some ⟨g, o, none⟩) n c, .int .i64 k]) ∧ Offs w' w.heap.size 30 (.slice (some ⟨g, o, none⟩) n c) (vals xs) ∧ Below w.heap.size w w'
set_option maxHeartbeats 4000000 in
theorem rset (k : Nat) (i x : Int) (base n c : Nat) (a : Option Addr) (xs : List Int) (w : World) (h : Offs w base 30 (.slice a n c) (vals xs)) (hl : xs.length ≤ 1000) (hi0 : 0 ≤ i) (hi : i < xs.length) (hk : k ≤ 1000000) :
    Calls Try.prog 34 #[.agg #[.slice a n c, .int .i64 k], .int .i64 i, .int .u64 x] w (SetPost w n (xs.set i.toNat x) ((k : Int) + 1)) := by
  obtain ⟨⟨g, off, rfl, _, hg⟩, hn, hnc, hcm⟩ := h.pos' (by rw [vals_len]; omega)
  rw [vals_len] at hn
  have K0 := kq_first w k (some ⟨g, off, none⟩) n c
  obtain ⟨w2, hw2⟩ : ∃ y, y = ((w.alloc (.cells #[.slice (some ⟨g, off, none⟩) n c, .int .i64 k] 28)).alloc (.cells #[.slice none 0 0, .int .i64 0] 28)) := ⟨_, rfl⟩
  rw [← hw2] at K0
  have hsz : w2.heap.size = w.heap.size + 2 := by rw [hw2]; simp
  have K3 := K0.next ((Below.refl _ w2).alloc (Nat.le_refl _) (.cells #[] 30))
  have O3 : Offs (w2.alloc (.cells #[] 30)) base 30 (.slice (some ⟨g, off, none⟩) n c) (vals xs) := h.kept (fun q hq => K3.below.block q (h.lt q hq).2)
  have AP : Hid (∃ v' w', (Builtin.append_ #[26, 26] 26 #[.slice (some ⟨w.heap.size + 2, 0, none⟩) 0 0, .slice (some ⟨g, off, none⟩) n c]).run Try.prog (w2.alloc (.cells #[] 30)) = .ok v' w' ∧
      ∃ g1 o1 c1, v' = .slice (some ⟨g1, o1, none⟩) n c1 ∧ Offs w' (w.heap.size + 2) 30 (.slice (some ⟨g1, o1, none⟩) n c1) (vals xs) ∧ Kq w w' k (some ⟨g, off, none⟩) n c ∧ n ≤ c1 ∧ c1 ≤ 9223372036854775807) := by
    obtain ⟨i0, hi', hz0, hz1, hz2⟩ := info_parts infoU64
    obtain ⟨v', w', hrun, h2, h3, h4⟩ := run_append_fresh (P := Try.prog) (w2.alloc (.cells #[] 30)) (w.heap.size + 2) 26 26 30 i0 _ 8 Try.underlying26 hi' hz0 hz1 hz2 rfl (w.heap.size + 2) (by rw [← hsz]; exact Deep.blk_alloc_new _ _) (Nat.le_refl _) (.slice (some ⟨g, off, none⟩) n c) (vals xs)
      (O3.src Try.underlying26 (vals_one xs)) (by rw [vals_len]; unfold maxLen; omega) (by rw [vals_len]; omega) (by simp [hsz])
    obtain ⟨a1, c1, rfl⟩ := h2.slice
    obtain ⟨⟨g1, o1, rfl, _, _⟩, e2, e3, e4⟩ := h2.pos' (by rw [vals_len]; omega)
    rw [vals_len, ← hn] at h2 e3
    refine ⟨_, w', by rw [vals_len, ← hn] at hrun; exact hrun, g1, o1, c1, rfl, h2, K3.next ⟨h3.os, h3.tape, h3.output, h3.size, fun q hq => h3.block q hq (by simp)⟩, e3, by unfold maxLen at e4; exact e4⟩
  subst hw2
  have HL := hid hl
  have HN := hid hn
  have hin : i < n := by omega
  have hiN : Hid (i.toNat < (vals xs).length) := hid (by rw [vals_len]; omega)
  clear K0 hsz K3 O3 h hl hn hi hg hnc hcm
  go_enter Try.func34, Try.ntmps34
  go_wp2_with (at_builtin; refine wpList_app (by rfl) _ _ 26 (by rfl) _ (by rfl) _ _ (by rfl) (by rfl) AP.out ?_)
  rintro v1 w1 g1 o1 c1 rfl o k1 hn1 hc1
  have hst := o.at' i.toNat _ (vals_get xs i.toNat (by have := HN.out; omega))
  have hfz := o.fr (o1 + i.toNat)
  have hg1 := (o.pos' (by have := hiN.out; omega)).1
  have hgx : w.heap.size + 2 ≤ g1 := by
    obtain ⟨gx, ox, e, h1, _⟩ := hg1
    simp only [Option.some.injEq, Addr.mk.injEq, and_true] at e
    omega
  have OS := hid (o.setAt i.toNat (.int .u64 x) hiN.out)
  have KS : Kq w (w1.setCell ⟨g1, o1 + i.toNat, none⟩ (.int .u64 x)) k (some ⟨g, off, none⟩) n c := by
    refine ⟨k1.below.setCell (by show w.heap.size ≤ g1; omega) _, ?_, ?_, by simpa [World.setCell] using k1.size⟩
    · rw [Below.heap_setCell _ _ _ _ (by show w.heap.size ≠ g1; omega)]; exact k1.box
    · rw [Below.heap_setCell _ _ _ _ (by show w.heap.size + 1 ≠ g1; omega)]; exact k1.res
  rw [vals_set] at OS
  obtain ⟨⟨r0, r1⟩, r2, r3⟩ := KS.r
  obtain ⟨s0, s1⟩ := KS.s
  have FN := hid (KS.fin (.slice (some ⟨g1, o1, none⟩) n c1) (.int .i64 ((k : Int) + 1)))
  have HG := hid hgx
  have hin0 : (i.toNat : Int) = i := by omega
  have KS' := hid KS
  clear o k1 hg1 KS AP
  go_upto_region 3 with (fail)
  generalize w1.setCell ⟨g1, o1 + i.toNat, none⟩ (.int .u64 x) = wS at *
  clear hst hfz hin0 s1 s0
  have s1 := (KS'.out.s).2
  have s0 := (KS'.out.s).1
  go_wp2_with fail
  obtain ⟨hb, hc, hk'⟩ := FN.out
  have H := hid (⟨hb, (OS.out.mono' (show w.heap.size ≤ w.heap.size + 2 by omega)).kept (fun q hq => hk' q (by have := OS.out.lt q hq; omega))⟩ : Below w.heap.size w _ ∧ Offs _ w.heap.size 30 _ _)
  have d0 := cell_blk1 (i := 0) hc rfl
  have d1 := cell_blk1 (i := 1) hc rfl
  clear hb hc hk' FN OS
  generalize (wS.setCell ⟨w.heap.size + 1, 0, none⟩ (.slice (some ⟨g1, o1, none⟩) n c1)).setCell ⟨w.heap.size + 1, 1, none⟩ (.int .i64 ((k : Int) + 1)) = W at *
  refine bodyPost_ret (v := .agg #[.slice (some ⟨g1, o1, none⟩) n c1, .int .i64 ((k : Int) + 1)]) (by simp [results, Try.results34, go_sem, d0, d1]) rfl ⟨g1, o1, c1, rfl, H.out.2, H.out.1⟩
end Go.Proofs.Ytdbionbdcjpmaaa
