/- Maps as functions, whatever the key's type (KeyT: what a key's type must do): what a look-up, a store, an entry and its store run to. Of no program of its own. -/
import Derived.Test.YtcfgkblonnmblaaBase
import Derived.MapKept
namespace Go.Proofs.Ytcfgkblonnmblaa
set_option linter.unusedVariables false
set_option linter.unusedSimpArgs false
open Go.RowKit Go.MapKept

/-- What a key's type does: its values are the enc's, its test and its search run. -/
structure KeyT (P : Program) (kt : TypeId) (κ : Type) (enc : κ → Value) : Prop where
  inj : ∀ a b, enc a = enc b → a = b
  chk : ∀ e w a, (Instr.checkKey e 10000 kt (enc a)).run P w = .ok () w
  fnd : ∀ w a (l : List MapEntry), (∀ x ∈ l, ∃ b, x.key = enc b) →
    ((Instr.findKey kt (enc a) l).run P w = .ok none w ∧ ∀ x ∈ l, x.key ≠ enc a) ∨ ∃ j e, (Instr.findKey kt (enc a) l).run P w = .ok (some (j, e.val)) w ∧ l[j]? = some e ∧ e.key = enc a
  stay : ∀ a w, (Instr.keyThatStays (enc a) (enc a)).run P w = .ok (enc a) w

variable {κ : Type}

/-- Block b is a map of n entries: key a has g a. -/
structure MapK (w : World) (b : Nat) (enc : κ → Value) (g : κ → Option Value) (n : Nat) : Prop where
  h : ∃ es clock, w.heap[b]? = some (.map es clock) ∧ Stamped es clock ∧ (∀ x ∈ es.toList, ∃ c, x.key = enc c) ∧ es.size = n ∧ ∀ a v, g a = some v ↔ ∃ x ∈ es.toList, x.key = enc a ∧ x.val = v
/-- .. and key a was born at s. -/
structure MapS (w : World) (b : Nat) (enc : κ → Value) (g : κ → Option Value) (n : Nat) (a : κ) (s : Nat) : Prop where
  h : ∃ es clock, w.heap[b]? = some (.map es clock) ∧ Stamped es clock ∧ (∀ x ∈ es.toList, ∃ c, x.key = enc c) ∧ es.size = n ∧ (∀ a v, g a = some v ↔ ∃ x ∈ es.toList, x.key = enc a ∧ x.val = v) ∧ ∃ x ∈ es.toList, x.key = enc a ∧ x.born = s
/-- With another answer for one key. -/
def updK [DecidableEq κ] (g : κ → Option Value) (a : κ) (v : Option Value) : κ → Option Value := fun x => if x = a then v else g x
theorem updK_same [DecidableEq κ] (g : κ → Option Value) (a : κ) (v : Option Value) : updK g a v a = v := by simp [updK]
theorem updK_ne [DecidableEq κ] (g : κ → Option Value) {a x : κ} (v : Option Value) (h : x ≠ a) : updK g a v x = g x := by simp [updK, h]
theorem updK_updK [DecidableEq κ] (g : κ → Option Value) (a : κ) (u v : Option Value) : updK (updK g a u) a v = updK g a v := by
  funext x; unfold updK; split <;> simp_all

theorem MapS.weak {w : World} {b : Nat} {enc : κ → Value} {g : κ → Option Value} {n : Nat} {a : κ} {s : Nat} (h : MapS w b enc g n a s) : MapK w b enc g n := by
  obtain ⟨es, clock, h1, h2, h3, h4, h5, _⟩ := h.h
  exact ⟨es, clock, h1, h2, h3, h4, h5⟩
theorem MapS.kept {w : World} {b : Nat} {enc : κ → Value} {g : κ → Option Value} {n : Nat} {a : κ} {s : Nat} (h : MapS w b enc g n a s) {w' : World} (e : w'.heap[b]? = w.heap[b]?) : MapS w' b enc g n a s := by
  obtain ⟨es, clock, h1, h2⟩ := h.h
  exact ⟨es, clock, e.trans h1, h2⟩

theorem modify_mem {es : Array MapEntry} {clock : Nat} (hs : Stamped es clock) {j : Nat} {e : MapEntry} (hj : es[j]? = some e) (f : MapEntry → MapEntry) (x : MapEntry) :
    x ∈ (es.modify j f).toList ↔ (x ∈ es.toList ∧ x.key ≠ e.key) ∨ x = f e := by
  have hp := ((stamped_iff es clock).1 hs).2.2
  have e2 : es.toList[j]? = some e := by rw [Array.getElem?_toList]; exact hj
  constructor
  · intro hx
    obtain ⟨i, hi⟩ := List.mem_iff_getElem?.1 hx
    rw [Array.getElem?_toList, Array.getElem?_modify] at hi
    split at hi
    · rename_i e'; subst e'
      rw [hj] at hi; simp only [Option.map_some, Option.some.injEq] at hi
      exact .inr hi.symm
    · rename_i hne
      refine .inl ⟨by rw [← Array.getElem?_toList] at hi; exact List.mem_of_getElem? hi, fun hxk => ?_⟩
      have hi' : es.toList[i]? = some x := by rw [Array.getElem?_toList]; exact hi
      obtain ⟨hi1, hi2⟩ := List.getElem?_eq_some_iff.1 hi'
      obtain ⟨hj1, hj2⟩ := List.getElem?_eq_some_iff.1 e2
      rcases Nat.lt_or_gt_of_ne hne with h | h
      · exact List.pairwise_iff_getElem.1 hp j i hj1 hi1 h (by rw [hi2, hj2, hxk])
      · exact List.pairwise_iff_getElem.1 hp i j hi1 hj1 h (by rw [hi2, hj2, hxk])
  · rintro (⟨hx, hxk⟩ | rfl)
    · obtain ⟨i, hi⟩ := List.mem_iff_getElem?.1 hx
      have hne : j ≠ i := fun q => by
        subst q
        rw [e2] at hi; simp only [Option.some.injEq] at hi; subst hi; exact hxk rfl
      refine List.mem_iff_getElem?.2 ⟨i, ?_⟩
      rw [Array.getElem?_toList, Array.getElem?_modify, if_neg hne, ← Array.getElem?_toList]; exact hi
    · refine List.mem_iff_getElem?.2 ⟨j, ?_⟩
      rw [Array.getElem?_toList, Array.getElem?_modify, if_pos rfl, hj]; rfl

namespace MapK
variable {w : World} {b : Nat} {enc : κ → Value} {g : κ → Option Value} {n : Nat}
theorem lt (h : MapK w b enc g n) : b < w.heap.size := by
  obtain ⟨es, clock, h1, _⟩ := h.h
  rw [Array.getElem?_eq_some_iff] at h1; exact h1.1
theorem kept (h : MapK w b enc g n) {w' : World} (e : w'.heap[b]? = w.heap[b]?) : MapK w' b enc g n := by
  obtain ⟨es, clock, h1, h2⟩ := h.h
  exact ⟨es, clock, e.trans h1, h2⟩
theorem new (w : World) (enc : κ → Value) : MapK (w.alloc (.map #[] 0)) w.heap.size enc (fun _ => none) 0 :=
  ⟨#[], 0, (heap_alloc w _).1, stamped_empty 0, by simp, rfl, by simp⟩
variable {P : Program} {t kt et : TypeId}
theorem set_only {o : Obj} {w : World} {b : Nat} {es : Array MapEntry} {clock : Nat} (h1 : w.heap[b]? = some (.map es clock)) : Only b b w { w with heap := w.heap.setIfInBounds b o } :=
  ⟨rfl, rfl, rfl, by simp, fun k _ hk _ => (heap_set h1).2 k hk⟩

theorem look_hit (h : MapK w b enc g n) (K : KeyT P kt κ enc) (hm : P.underlying t = some (.map kt et)) {a : κ} {v : Value} (ha : g a = some v) (ok : Bool) :
    (Instr.lookup t (.map (some b)) (enc a) ok).run P w = .ok (if ok then .tuple #[v, .bool true] else v) w := by
  obtain ⟨es, clock, h1, hs, hk, hn, hg⟩ := h.h
  rcases K.fnd w a es.toList hk with ⟨e1, e2⟩ | ⟨j, e, e1, e2, e3⟩
  · obtain ⟨x, hx, hxk, _⟩ := (hg a v).1 ha
    exact absurd hxk (e2 x hx)
  · have hv : e.val = v := by
      have := (hg a e.val).2 ⟨e, List.mem_of_getElem? e2, e3, rfl⟩
      rw [ha] at this; exact (Option.some.inj this).symm
    subst hv
    simp only [Instr.lookup, Sem.run_bind, run_underlying hm, MapKept.run_getObj_map h1, Sem.run_pure, Result.andThen]
    simp [K.chk, e1, Result.andThen]
theorem look_miss (h : MapK w b enc g n) (K : KeyT P kt κ enc) (hm : P.underlying t = some (.map kt et)) {z : Value} (hz : ∀ w, (zeroValue et).run P w = .ok z w) {a : κ} (ha : g a = none) (ok : Bool) :
    (Instr.lookup t (.map (some b)) (enc a) ok).run P w = .ok (if ok then .tuple #[z, .bool false] else z) w := by
  obtain ⟨es, clock, h1, hs, hk, hn, hg⟩ := h.h
  rcases K.fnd w a es.toList hk with ⟨e1, e2⟩ | ⟨j, e, e1, e2, e3⟩
  · simp only [Instr.lookup, Sem.run_bind, run_underlying hm, MapKept.run_getObj_map h1, Sem.run_pure, Result.andThen]
    simp [K.chk, e1, hz, Result.andThen]
  · have := (hg a e.val).2 ⟨e, List.mem_of_getElem? e2, e3, rfl⟩
    rw [ha] at this; cases this
theorem len (h : MapK w b enc g n) (hm : P.underlying t = some (.map kt et)) (ty : TypeId) : (Builtin.len_ #[t] ty #[.map (some b)]).run P w = .ok (.int .i64 n) w := by
  obtain ⟨es, clock, h1, _, _, h2, _⟩ := h.h
  subst h2
  simp [Builtin.len_, run_underlying hm, MapKept.run_getObj_map h1, Result.andThen, goInt]

/-- The list behind a push, behind a change of one. -/
theorem push_spec [DecidableEq κ] {es : Array MapEntry} (hg : ∀ a v, g a = some v ↔ ∃ x ∈ es.toList, x.key = enc a ∧ x.val = v) (hinj : ∀ a b, enc a = enc b → a = b) (a : κ) (v : Value) (s : Nat) (e2 : ∀ x ∈ es.toList, x.key ≠ enc a) :
    ∀ c u, updK g a (some v) c = some u ↔ ∃ x ∈ (es.push { key := enc a, val := v, born := s }).toList, x.key = enc c ∧ x.val = u := by
  intro c u
  simp only [Array.toList_push, List.mem_append, List.mem_singleton, updK]
  split
  · rename_i e; subst e
    constructor
    · intro hu; simp only [Option.some.injEq] at hu; exact ⟨_, .inr rfl, rfl, hu⟩
    · rintro ⟨x, hx | rfl, hxk, hxv⟩
      · exact absurd hxk (e2 x hx)
      · rw [← hxv]
  · rename_i hne
    rw [hg]
    constructor
    · rintro ⟨x, hx, r⟩; exact ⟨x, .inl hx, r⟩
    · rintro ⟨x, hx | rfl, hxk, hxv⟩
      · exact ⟨x, hx, hxk, hxv⟩
      · exact absurd (hinj _ _ hxk).symm hne
theorem modify_spec [DecidableEq κ] {es : Array MapEntry} {clock : Nat} (hs : Stamped es clock) (hg : ∀ a v, g a = some v ↔ ∃ x ∈ es.toList, x.key = enc a ∧ x.val = v) (hinj : ∀ a b, enc a = enc b → a = b) (a : κ) (v : Value) {j : Nat} {e : MapEntry}
    (hj : es[j]? = some e) (e3 : e.key = enc a) (f : MapEntry → MapEntry) (fk : (f e).key = enc a) (fv : (f e).val = v) :
    ∀ c u, updK g a (some v) c = some u ↔ ∃ x ∈ (es.modify j f).toList, x.key = enc c ∧ x.val = u := by
  intro c u
  have hmem := modify_mem hs hj f
  simp only [updK]
  split
  · rename_i ec; subst ec
    constructor
    · intro hu; simp only [Option.some.injEq] at hu; exact ⟨_, (hmem _).2 (.inr rfl), fk, fv.trans hu⟩
    · rintro ⟨x, hx, hxk, hxv⟩
      rcases (hmem x).1 hx with ⟨_, h⟩ | rfl
      · exact absurd hxk (by rw [← e3]; exact h)
      · rw [← hxv, fv]
  · rename_i hne
    rw [hg]
    constructor
    · rintro ⟨x, hx, hxk, hxv⟩
      exact ⟨x, (hmem x).2 (.inl ⟨hx, fun h => hne (hinj _ _ (by rw [← hxk, h, e3]))⟩), hxk, hxv⟩
    · rintro ⟨x, hx, hxk, hxv⟩
      rcases (hmem x).1 hx with ⟨h, _⟩ | rfl
      · exact ⟨x, h, hxk, hxv⟩
      · exact absurd (hinj _ _ (hxk.symm.trans fk)) hne
theorem key_modify {es : Array MapEntry} {clock : Nat} (hs : Stamped es clock) (hk : ∀ x ∈ es.toList, ∃ c, x.key = enc c) {j : Nat} {e : MapEntry} (hj : es[j]? = some e) (f : MapEntry → MapEntry) (a : κ) (fk : (f e).key = enc a) :
    ∀ x ∈ (es.modify j f).toList, ∃ c, x.key = enc c := fun x hx => by
  rcases (modify_mem hs hj f x).1 hx with ⟨h, _⟩ | rfl
  · exact hk x h
  · exact ⟨a, fk⟩
theorem none_of {es : Array MapEntry} (hg : ∀ a v, g a = some v ↔ ∃ x ∈ es.toList, x.key = enc a ∧ x.val = v) {a : κ} (e2 : ∀ x ∈ es.toList, x.key ≠ enc a) : g a = none := by
  rcases hga : g a with _ | v
  · rfl
  · obtain ⟨x, hx, hk, _⟩ := (hg a v).1 hga
    exact absurd hk (e2 x hx)

theorem store [DecidableEq κ] (h : MapK w b enc g n) (K : KeyT P kt κ enc) (hm : P.underlying t = some (.map kt et)) (a : κ) (v : Value) :
    ∃ w', (Instr.mapUpdate t (.map (some b)) (enc a) v).run P w = .ok () w' ∧ MapK w' b enc (updK g a (some v)) (if g a = none then n + 1 else n) ∧ Only b b w w' := by
  obtain ⟨es, clock, h1, hs, hk, hn, hg⟩ := h.h
  rcases K.fnd w a es.toList hk with ⟨e1, e2⟩ | ⟨j, e, e1, e2, e3⟩
  · rw [if_pos (none_of hg e2)]
    refine ⟨{ w with heap := w.heap.setIfInBounds b (.map (es.push { key := enc a, val := v, born := clock }) (clock + 1)) }, by simp [Instr.mapUpdate, run_underlying hm, MapKept.run_getObj_map h1, K.chk, e1, run_setObj_map _ h1, Result.andThen], ⟨_, _, (heap_set h1).1, stamped_push hs e2, ?_, by simp [hn], push_spec hg K.inj a v clock e2⟩, set_only h1⟩
    intro x hx
    simp only [Array.toList_push, List.mem_append, List.mem_singleton] at hx
    rcases hx with hx | rfl
    · exact hk x hx
    · exact ⟨a, rfl⟩
  · have hj : es[j]? = some e := by simpa using e2
    have hga : g a ≠ none := fun hc => by
      have := (hg a e.val).2 ⟨e, List.mem_of_getElem? e2, e3, rfl⟩
      rw [hc] at this; cases this
    rw [if_neg hga]
    have hkey : ∀ e', es[j]? = some e' → ({ e' with key := enc a, val := v } : MapEntry).key = e'.key := fun e' he' => by rw [hj] at he'; cases he'; exact e3.symm
    exact ⟨{ w with heap := w.heap.setIfInBounds b (.map (es.modify j fun e => { e with key := enc a, val := v }) clock) }, by simp [Instr.mapUpdate, run_underlying hm, MapKept.run_getObj_map h1, K.chk, e1, hj, e3, K.stay, run_setObj_map _ h1, Result.andThen], ⟨_, _, (heap_set h1).1, stamped_modify hs _ _ (fun _ _ => rfl) (fun e' _ he' => hkey e' he'), key_modify hs hk hj _ a rfl, by simpa using hn, modify_spec hs hg K.inj a v hj e3 _ rfl rfl⟩, set_only h1⟩

/-- What an entry is asked for: its value (or the zero), and its stamp. -/
theorem entry [DecidableEq κ] (h : MapK w b enc g n) (K : KeyT P kt κ enc) (hm : P.underlying t = some (.map kt et)) {z : Value} (hz : ∀ w, (zeroValue et).run P w = .ok z w) (a : κ) :
    ∃ w' s, (Instr.mapEntry t (.map (some b)) (enc a)).run P w = .ok (.tuple #[(g a).getD z, .int .i64 (s : Nat)]) w' ∧ MapS w' b enc (updK g a (some ((g a).getD z))) (if g a = none then n + 1 else n) a s ∧ Only b b w w' := by
  obtain ⟨es, clock, h1, hs, hk, hn, hg⟩ := h.h
  rcases K.fnd w a es.toList hk with ⟨e1, e2⟩ | ⟨j, e, e1, e2, e3⟩
  · have hga := none_of hg e2
    rw [if_pos hga]
    refine ⟨{ w with heap := w.heap.setIfInBounds b (.map (es.push { key := enc a, val := z, born := clock }) (clock + 1)) }, clock, by simp [Instr.mapEntry, run_underlying hm, MapKept.run_getObj_map h1, K.chk, e1, hz, run_setObj_map _ h1, Result.andThen, hga, goInt], ⟨_, _, (heap_set h1).1, stamped_push hs e2, ?_, by simp [hn], by rw [hga]; exact push_spec hg K.inj a z clock e2, ?_⟩, set_only h1⟩
    · intro x hx
      simp only [Array.toList_push, List.mem_append, List.mem_singleton] at hx
      rcases hx with hx | rfl
      · exact hk x hx
      · exact ⟨a, rfl⟩
    · exact ⟨{ key := enc a, val := z, born := clock }, by simp, rfl, rfl⟩
  · have hj : es[j]? = some e := by simpa using e2
    have hga : g a = some e.val := (hg a e.val).2 ⟨e, List.mem_of_getElem? e2, e3, rfl⟩
    have hkey : ∀ e', es[j]? = some e' → ({ e' with key := enc a } : MapEntry).key = e'.key := fun e' he' => by rw [hj] at he'; cases he'; exact e3.symm
    rw [if_neg (by rw [hga]; simp)]
    refine ⟨{ w with heap := w.heap.setIfInBounds b (.map (es.modify j fun e => { e with key := enc a }) clock) }, e.born, by simp [Instr.mapEntry, run_underlying hm, MapKept.run_getObj_map h1, K.chk, e1, hj, e3, K.stay, run_setObj_map _ h1, Result.andThen, hga, goInt], ⟨_, _, (heap_set h1).1, stamped_modify hs _ _ (fun _ _ => rfl) (fun e' _ he' => hkey e' he'), key_modify hs hk hj _ a rfl, by simpa using hn, by rw [hga]; exact modify_spec hs hg K.inj a _ hj e3 _ rfl rfl, ?_⟩, set_only h1⟩
    exact ⟨{ e with key := enc a }, (modify_mem hs hj _ _).2 (.inr rfl), rfl, rfl⟩
end MapK
/-- The store into an entry that was asked for. -/
theorem MapS.put [DecidableEq κ] {w : World} {b : Nat} {enc : κ → Value} {g : κ → Option Value} {n : Nat} {a : κ} {s : Nat} (h : MapS w b enc g n a s) {P : Program} {t kt : TypeId} (K : KeyT P kt κ enc) (v : Value) :
    ∃ w', (Instr.entryStore t (.map (some b)) (.int .i64 (s : Nat)) v).run P w = .ok () w' ∧ MapK w' b enc (updK g a (some v)) n ∧ Only b b w w' := by
  obtain ⟨es, clock, h1, hs, hk, hn, hg, x, hx, hxk, hxs⟩ := h.h
  have hst := (stamped_iff es clock).1 hs
  obtain ⟨j, hj⟩ := List.mem_iff_getElem?.1 hx
  obtain ⟨hjl, hjx⟩ := List.getElem?_eq_some_iff.1 hj
  have hfi : es.findIdx? (fun e => (e.born : Int) == ((s : Nat) : Int)) = some j := by
    rw [Array.findIdx?_eq_some_iff_getElem]
    refine ⟨by simpa using hjl, by simp only [Array.getElem_toList] at hjx; rw [hjx, hxs]; simp, fun i hi => ?_⟩
    have hil : i < es.toList.length := by omega
    have hnd := hst.2.1
    have : (es.toList.map (·.born))[i]'(by simpa using hil) ≠ (es.toList.map (·.born))[j]'(by simpa using hjl) := List.pairwise_iff_getElem.1 hnd i j _ _ hi
    simp only [List.getElem_map, hjx, hxs, Array.getElem_toList] at this
    intro hc
    exact this (by simp at hc; simpa using (by omega : es[i].born = s))
  have hj' : es[j]? = some x := by rw [← Array.getElem?_toList]; exact hj
  refine ⟨{ w with heap := w.heap.setIfInBounds b (.map (es.modify j fun e => { e with val := v }) clock) }, by simp [Instr.entryStore, MapKept.run_getObj_map h1, hfi, run_setObj_map _ h1, Result.andThen, asInt, asIntOf], ⟨_, _, (heap_set h1).1, stamped_modify hs _ _ (fun _ _ => rfl) (fun e' _ he' => rfl), MapK.key_modify hs hk hj' _ a hxk, by simpa using hn, MapK.modify_spec hs hg K.inj a v hj' hxk _ hxk rfl⟩, MapK.set_only h1⟩
end Go.Proofs.Ytcfgkblonnmblaa
