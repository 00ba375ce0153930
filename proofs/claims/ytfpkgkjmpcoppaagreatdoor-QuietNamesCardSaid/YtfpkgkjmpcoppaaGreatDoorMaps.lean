/- Maps with integer keys, as functions: what a look-up, a store, a deletion run to. Of no program of its own. -/
import Derived.Test.YtfpkgkjmpcoppaaGreatDoorPre1
import Derived.MapKept
namespace Go.Proofs.YtfpkgkjmpcoppaaGreatDoor
set_option linter.unusedVariables false
set_option linter.unusedSimpArgs false
open Go.RowKit Go.MapKept

/-- Block b is a map of n entries with integer keys: key a has g a. -/
structure MapI (w : World) (b : Nat) (q : IntKind) (g : Int → Option Value) (n : Nat) : Prop where
  h : ∃ es clock, w.heap[b]? = some (.map es clock) ∧ Stamped es clock ∧ (∀ x ∈ es.toList, IsKey (.int q) x.key) ∧ es.size = n ∧ ∀ a v, g a = some v ↔ ∃ x ∈ es.toList, x.key = .int q a ∧ x.val = v
/-- With another answer for one key. -/
def updG (g : Int → Option Value) (a : Int) (v : Option Value) : Int → Option Value := fun x => if x = a then v else g x
theorem updG_same (g : Int → Option Value) (a : Int) (v : Option Value) : updG g a v a = v := by simp [updG]
theorem updG_ne (g : Int → Option Value) {a x : Int} (v : Option Value) (h : x ≠ a) : updG g a v x = g x := by simp [updG, h]
namespace MapI
variable {w : World} {b : Nat} {q : IntKind} {g : Int → Option Value} {n : Nat}
theorem lt (h : MapI w b q g n) : b < w.heap.size := by
  obtain ⟨es, clock, h1, _⟩ := h.h
  rw [Array.getElem?_eq_some_iff] at h1; exact h1.1
theorem kept (h : MapI w b q g n) {w' : World} (e : w'.heap[b]? = w.heap[b]?) : MapI w' b q g n := by
  obtain ⟨es, clock, h1, h2⟩ := h.h
  exact ⟨es, clock, e.trans h1, h2⟩
theorem new (w : World) (q : IntKind) : MapI (w.alloc (.map #[] 0)) w.heap.size q (fun _ => none) 0 :=
  ⟨#[], 0, (heap_alloc w _).1, stamped_empty 0, by simp, rfl, by simp⟩
theorem isKey (q : IntKind) (a : Int) : IsKey (.int q) (.int q a) := by simp [IsKey]
theorem find (h : MapI w b q g n) (a : Int) : ∃ es clock, w.heap[b]? = some (.map es clock) ∧ ((g a = none ∧ Instr.findNow (.int q) (.int q a) es.toList 0 = some none ∧ ∀ x ∈ es.toList, x.key ≠ .int q a) ∨ ∃ j e, g a = some e.val ∧ Instr.findNow (.int q) (.int q a) es.toList 0 = some (some (j, e.val)) ∧ es[j]? = some e ∧ e.key = .int q a) := by
  obtain ⟨es, clock, h1, h2, h3, h4, h5⟩ := h.h
  refine ⟨es, clock, h1, ?_⟩
  rcases findNow_spec (isKey q a) es.toList 0 h3 with ⟨e1, e2⟩ | ⟨j, e, e1, e2, e3⟩
  · refine .inl ⟨?_, e1, e2⟩
    rcases hg : g a with _ | v
    · rfl
    · obtain ⟨x, hx, hk, _⟩ := (h5 a v).1 hg
      exact absurd hk (e2 x hx)
  · refine .inr ⟨j, e, (h5 a e.val).2 ⟨e, List.mem_of_getElem? e2, e3, rfl⟩, by simpa using e1, by simpa using e2, e3⟩
variable {P : Program} {t kt et : TypeId}
theorem look_hit (h : MapI w b q g n) (hm : P.underlying t = some (.map kt et)) (hd : P.underlying kt = some (.int q)) {a : Int} {v : Value} (ha : g a = some v) (ok : Bool) :
    (Instr.lookup t (.map (some b)) (.int q a) ok).run P w = .ok (if ok then .tuple #[v, .bool true] else v) w := by
  obtain ⟨es, clock, h1, h2 | ⟨j, e, h2, h3, h4, h5⟩⟩ := h.find a
  · rw [ha] at h2; cases h2.1
  · rw [ha] at h2; simp only [Option.some.injEq] at h2; subst h2
    have hck := run_checkKey (P := P) (w := w) hd (isKey q a) es.isEmpty 9999
    simp only [Instr.lookup, Sem.run_bind, run_underlying hm, MapKept.run_getObj_map h1, Sem.run_pure, Result.andThen]
    simp [hck, run_findKey hd h3, Result.andThen]
theorem look_miss (h : MapI w b q g n) (hm : P.underlying t = some (.map kt et)) (hd : P.underlying kt = some (.int q)) {z : Value} (hz : ∀ w, (zeroValue et).run P w = .ok z w) {a : Int} (ha : g a = none) (ok : Bool) :
    (Instr.lookup t (.map (some b)) (.int q a) ok).run P w = .ok (if ok then .tuple #[z, .bool false] else z) w := by
  obtain ⟨es, clock, h1, h2 | ⟨j, e, h2, h3, h4, h5⟩⟩ := h.find a
  · have hck := run_checkKey (P := P) (w := w) hd (isKey q a) es.isEmpty 9999
    simp only [Instr.lookup, Sem.run_bind, run_underlying hm, MapKept.run_getObj_map h1, Sem.run_pure, Result.andThen]
    simp [hck, run_findKey hd h2.2.1, hz, Result.andThen]
  · rw [ha] at h2; cases h2
theorem len (h : MapI w b q g n) (hm : P.underlying t = some (.map kt et)) (ty : TypeId) : (Builtin.len_ #[t] ty #[.map (some b)]).run P w = .ok (.int .i64 n) w := by
  obtain ⟨es, clock, h1, _, _, h2, _⟩ := h.h
  subst h2
  simp [Builtin.len_, run_underlying hm, MapKept.run_getObj_map h1, Result.andThen, goInt]
theorem set_only {o : Obj} {w : World} {b : Nat} {es : Array MapEntry} {clock : Nat} (h1 : w.heap[b]? = some (.map es clock)) : Only b b w { w with heap := w.heap.setIfInBounds b o } :=
  ⟨rfl, rfl, rfl, by simp, fun k _ hk _ => (heap_set h1).2 k hk⟩
theorem store (h : MapI w b q g n) (hm : P.underlying t = some (.map kt et)) (hd : P.underlying kt = some (.int q)) (a : Int) (v : Value) :
    ∃ w', (Instr.mapUpdate t (.map (some b)) (.int q a) v).run P w = .ok () w' ∧ MapI w' b q (updG g a (some v)) (if g a = none then n + 1 else n) ∧ Only b b w w' := by
  obtain ⟨es, clock, h1, hs, hk, hn, hg⟩ := h.h
  rcases findNow_spec (isKey q a) es.toList 0 hk with ⟨e1, e2⟩ | ⟨j, e, e1, e2, e3⟩
  · have hga : g a = none := by
      rcases hga : g a with _ | v
      · rfl
      · obtain ⟨x, hx, hk, _⟩ := (hg a v).1 hga
        exact absurd hk (e2 x hx)
    rw [if_pos hga]
    refine ⟨{ w with heap := w.heap.setIfInBounds b (.map (es.push { key := .int q a, val := v, born := clock }) (clock + 1)) }, by simp [Instr.mapUpdate, run_underlying hm, MapKept.run_getObj_map h1, run_checkKey hd (isKey q a), run_findKey hd e1, run_setObj_map _ h1, Result.andThen], ⟨_, _, (heap_set h1).1, stamped_push hs e2, ?_, by simp [hn], ?_⟩, set_only h1⟩
    · intro x hx
      simp only [Array.toList_push, List.mem_append, List.mem_singleton] at hx
      rcases hx with hx | rfl
      · exact hk x hx
      · exact isKey q a
    · intro c u
      simp only [Array.toList_push, List.mem_append, List.mem_singleton, updG]
      split
      · rename_i e; subst e
        constructor
        · intro hu; simp only [Option.some.injEq] at hu; exact ⟨_, .inr rfl, rfl, hu⟩
        · rintro ⟨x, hx | rfl, hxk, hxv⟩
          · exact absurd hxk (e2 x hx)
          · rw [← hxv]
      · rename_i hne
        rw [hg]
        constructor
        · rintro ⟨x, hx, r⟩; exact ⟨x, .inl hx, r⟩
        · rintro ⟨x, hx | rfl, hxk, hxv⟩
          · exact ⟨x, hx, hxk, hxv⟩
          · simp only [Value.int.injEq] at hxk; exact absurd hxk.2.symm hne
  · have hj : es[j]? = some e := by simpa using e2
    have hga : g a ≠ none := fun hc => by
      have := (hg a e.val).2 ⟨e, List.mem_of_getElem? e2, e3, rfl⟩
      rw [hc] at this; cases this
    rw [if_neg hga]
    have hkey : ∀ e', es[j]? = some e' → ({ e' with key := .int q a, val := v } : MapEntry).key = e'.key := fun e' he' => by rw [hj] at he'; cases he'; exact e3.symm
    refine ⟨{ w with heap := w.heap.setIfInBounds b (.map (es.modify j fun e => { e with key := .int q a, val := v }) clock) }, by simp [Instr.mapUpdate, run_underlying hm, MapKept.run_getObj_map h1, run_checkKey hd (isKey q a), run_findKey hd e1, hj, e3, run_keyThatStays (isKey q a), run_setObj_map _ h1, Result.andThen], ⟨_, _, (heap_set h1).1, stamped_modify hs _ _ (fun _ _ => rfl) (fun e' _ he' => hkey e' he'), isKey_modify hk _ _ hkey, by simpa using hn, ?_⟩, set_only h1⟩
    have hst := (stamped_iff es clock).1 hs
    intro c u
    have hmem : ∀ x, x ∈ (es.modify j fun e => { e with key := .int q a, val := v }).toList ↔ (x ∈ es.toList ∧ x.key ≠ .int q a) ∨ x = { e with key := .int q a, val := v } := by
      intro x
      have hp := hst.2.2
      constructor
      · intro hx
        obtain ⟨i, hi⟩ := List.mem_iff_getElem?.1 hx
        rw [Array.getElem?_toList, Array.getElem?_modify] at hi
        split at hi
        · rename_i e; subst e
          rw [hj] at hi; simp only [Option.map_some, Option.some.injEq] at hi
          exact .inr hi.symm
        · rename_i hne
          refine .inl ⟨by rw [← Array.getElem?_toList] at hi; exact List.mem_of_getElem? hi, fun hxk => ?_⟩
          have hi' : es.toList[i]? = some x := by rw [Array.getElem?_toList]; exact hi
          obtain ⟨hi1, hi2⟩ := List.getElem?_eq_some_iff.1 hi'
          obtain ⟨hj1, hj2⟩ := List.getElem?_eq_some_iff.1 e2
          rcases Nat.lt_or_gt_of_ne hne with h | h
          · exact List.pairwise_iff_getElem.1 hp j i hj1 hi1 h (by rw [hi2, hj2, e3, hxk])
          · exact List.pairwise_iff_getElem.1 hp i j hi1 hj1 h (by rw [hi2, hj2, e3, hxk])
      · rintro (⟨hx, hxk⟩ | rfl)
        · obtain ⟨i, hi⟩ := List.mem_iff_getElem?.1 hx
          have hne : j ≠ i := fun e => by
            subst e
            rw [e2] at hi; simp only [Option.some.injEq] at hi; subst hi; exact hxk e3
          refine List.mem_iff_getElem?.2 ⟨i, ?_⟩
          rw [Array.getElem?_toList, Array.getElem?_modify, if_neg hne, ← Array.getElem?_toList]; exact hi
        · refine List.mem_iff_getElem?.2 ⟨j, ?_⟩
          rw [Array.getElem?_toList, Array.getElem?_modify, if_pos rfl, hj]; rfl
    simp only [updG]
    split
    · rename_i ec; subst ec
      constructor
      · intro hu; simp only [Option.some.injEq] at hu; exact ⟨_, (hmem _).2 (.inr rfl), rfl, hu⟩
      · rintro ⟨x, hx, hxk, hxv⟩
        rcases (hmem x).1 hx with ⟨_, h⟩ | rfl
        · exact absurd hxk h
        · rw [← hxv]
    · rename_i hne
      rw [hg]
      constructor
      · rintro ⟨x, hx, hxk, hxv⟩
        exact ⟨x, (hmem x).2 (.inl ⟨hx, fun h => hne (by rw [hxk] at h; simp only [Value.int.injEq] at h; exact h.2)⟩), hxk, hxv⟩
      · rintro ⟨x, hx, hxk, hxv⟩
        rcases (hmem x).1 hx with ⟨h, _⟩ | rfl
        · exact ⟨x, h, hxk, hxv⟩
        · simp only [Value.int.injEq] at hxk; exact absurd hxk.2.symm hne
theorem del (h : MapI w b q g n) (hm : P.underlying t = some (.map kt et)) (hd : P.underlying kt = some (.int q)) (ty : TypeId) (a : Int) :
    ∃ w', (Builtin.delete_ #[t, kt] ty #[.map (some b), .int q a]).run P w = .ok (.tuple #[]) w' ∧ MapI w' b q (updG g a none) (if g a = none then n else n - 1) ∧ Only b b w w' := by
  obtain ⟨es, clock, h1, hs, hk, hn, hg⟩ := h.h
  rcases findNow_spec (isKey q a) es.toList 0 hk with ⟨e1, e2⟩ | ⟨j, e, e1, e2, e3⟩
  · have hga : g a = none := by
      rcases hga : g a with _ | v
      · rfl
      · obtain ⟨x, hx, hk, _⟩ := (hg a v).1 hga
        exact absurd hk (e2 x hx)
    rw [if_pos hga]
    refine ⟨_, by simp [Builtin.delete_, run_underlying hm, MapKept.run_getObj_map h1, run_checkKey hd (isKey q a), run_findKey hd e1, run_setObj_map _ h1, Result.andThen], ⟨_, _, (heap_set h1).1, hs, hk, hn, fun c u => ?_⟩, set_only h1⟩
    simp only [updG]
    split
    · rename_i ec; subst ec
      rw [← hga]; exact hg _ u
    · exact hg c u
  · have hj : es[j]? = some e := by simpa using e2
    have hga : g a ≠ none := fun hc => by
      have := (hg a e.val).2 ⟨e, List.mem_of_getElem? e2, e3, rfl⟩
      rw [hc] at this; cases this
    rw [if_neg hga]
    have hjs : j < es.size := by rw [Array.getElem?_eq_some_iff] at hj; exact hj.1
    have hlist : (es.eraseIdxIfInBounds j).toList = es.toList.eraseIdx j := by
      unfold Array.eraseIdxIfInBounds
      rw [dif_pos hjs, Array.toList_eraseIdx]
    have hst := (stamped_iff es clock).1 hs
    have hmem : ∀ x, x ∈ (es.eraseIdxIfInBounds j).toList ↔ x ∈ es.toList ∧ x.key ≠ .int q a := by
      intro x
      rw [hlist, List.mem_eraseIdx_iff_getElem?]
      constructor
      · rintro ⟨i, hne, hi⟩
        refine ⟨List.mem_of_getElem? hi, fun hxk => ?_⟩
        obtain ⟨hi1, hi2⟩ := List.getElem?_eq_some_iff.1 hi
        obtain ⟨hj1, hj2⟩ := List.getElem?_eq_some_iff.1 e2
        rcases Nat.lt_or_gt_of_ne hne with h | h
        · exact List.pairwise_iff_getElem.1 hst.2.2 i j hi1 hj1 h (by rw [hi2, hj2, e3, hxk])
        · exact List.pairwise_iff_getElem.1 hst.2.2 j i hj1 hi1 h (by rw [hi2, hj2, e3, hxk])
      · rintro ⟨hx, hxk⟩
        obtain ⟨i, hi⟩ := List.mem_iff_getElem?.1 hx
        refine ⟨i, fun e => ?_, hi⟩
        subst e
        rw [e2] at hi; simp only [Option.some.injEq] at hi; subst hi; exact hxk e3
    refine ⟨_, by simp [Builtin.delete_, run_underlying hm, MapKept.run_getObj_map h1, run_checkKey hd (isKey q a), run_findKey hd e1, run_setObj_map _ h1, Result.andThen], ⟨_, _, (heap_set h1).1, stamped_erase hs _, fun x hx => hk x ((hmem x).1 hx).1, ?_, fun c u => ?_⟩, set_only h1⟩
    · have : (es.eraseIdxIfInBounds j).toList.length = es.toList.length - 1 := by rw [hlist, List.length_eraseIdx]; simp [hjs]
      rw [Array.length_toList, Array.length_toList, hn] at this; exact this
    · simp only [updG]
      split
      · rename_i ec; subst ec
        constructor
        · intro h; cases h
        · rintro ⟨x, hx, hxk, _⟩
          exact absurd hxk ((hmem x).1 hx).2
      · rename_i hne
        rw [hg]
        constructor
        · rintro ⟨x, hx, hxk, hxv⟩
          exact ⟨x, (hmem x).2 ⟨hx, fun h => hne (by rw [hxk] at h; simp only [Value.int.injEq] at h; exact h.2)⟩, hxk, hxv⟩
        · rintro ⟨x, hx, hxk, hxv⟩
          exact ⟨x, ((hmem x).1 hx).1, hxk, hxv⟩
end MapI
end Go.Proofs.YtfpkgkjmpcoppaaGreatDoor
