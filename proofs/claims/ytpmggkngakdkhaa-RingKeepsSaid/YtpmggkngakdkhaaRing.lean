/- A ring in memory: its cells, and what a store to one of them makes of it. -/
import Derived.Test.YtpmggkngakdkhaaGlobal4
import Derived.Test.YtpmggkngakdkhaaRef5
import Derived.Test.YtpmggkngakdkhaaStay
namespace Go.Proofs.Ytpmggkngakdkhaa
set_option linter.unusedVariables false
set_option linter.unusedSimpArgs false
open Go.RowKit

/-- Block p is a ring: places A, n of them from h on, who is next, whether one is, the streak. -/
structure Rg0 (w : World) (p : Nat) (A : Nat → Int) (h n : Nat) (nx : Int) (hs : Bool) (st : Int) : Prop where
  blk : ∃ cs : Array Value, w.heap[p]? = some (.cells cs 75 (0, 0)) ∧ (∀ i, i < 256 → cs[i]? = some (.int .i64 (A i))) ∧ cs[256]? = some (.int .i64 h) ∧ cs[257]? = some (.int .i64 n) ∧ cs[258]? = some (.int .i64 nx) ∧ cs[259]? = some (.bool hs) ∧ cs[260]? = some (.int .i64 st)
  hh : h < 256
  hn : n ≤ 256
  sz : ∀ cs t fr, w.heap[p]? = some (.cells cs t fr) → cs.size = 261
theorem Rg0.lt {w : World} {p : Nat} {A : Nat → Int} {h n : Nat} {nx : Int} {hs : Bool} {st : Int} (H : Rg0 w p A h n nx hs st) : p < w.heap.size := by
  obtain ⟨cs, h1, _⟩ := H.blk
  rw [Array.getElem?_eq_some_iff] at h1; exact h1.1
theorem Rg0.cell {w : World} {p : Nat} {A : Nat → Int} {h n : Nat} {nx : Int} {hs : Bool} {st : Int} (H : Rg0 w p A h n nx hs st) (i : Nat) (hi : i < 256) : w.cell? ⟨p, i, none⟩ = some (.int .i64 (A i)) := by
  obtain ⟨cs, h1, h2, _⟩ := H.blk
  simp [World.cell?, h1, h2 i hi]
theorem Rg0.frz {w : World} {p : Nat} {A : Nat → Int} {h n : Nat} {nx : Int} {hs : Bool} {st : Int} (H : Rg0 w p A h n nx hs st) (i : Nat) : w.frozen? ⟨p, i, none⟩ = false := by
  obtain ⟨cs, h1, _⟩ := H.blk
  simp [World.frozen?, h1]
theorem Rg0.c256 {w : World} {p : Nat} {A : Nat → Int} {h n : Nat} {nx : Int} {hs : Bool} {st : Int} (H : Rg0 w p A h n nx hs st) : w.cell? ⟨p, 256, none⟩ = some (.int .i64 h) := by
  obtain ⟨cs, h1, _, h3, _⟩ := H.blk
  simp [World.cell?, h1, h3]
theorem Rg0.c257 {w : World} {p : Nat} {A : Nat → Int} {h n : Nat} {nx : Int} {hs : Bool} {st : Int} (H : Rg0 w p A h n nx hs st) : w.cell? ⟨p, 257, none⟩ = some (.int .i64 n) := by
  obtain ⟨cs, h1, _, _, h3, _⟩ := H.blk
  simp [World.cell?, h1, h3]
theorem Rg0.c258 {w : World} {p : Nat} {A : Nat → Int} {h n : Nat} {nx : Int} {hs : Bool} {st : Int} (H : Rg0 w p A h n nx hs st) : w.cell? ⟨p, 258, none⟩ = some (.int .i64 nx) := by
  obtain ⟨cs, h1, _, _, _, h3, _⟩ := H.blk
  simp [World.cell?, h1, h3]
theorem Rg0.c259 {w : World} {p : Nat} {A : Nat → Int} {h n : Nat} {nx : Int} {hs : Bool} {st : Int} (H : Rg0 w p A h n nx hs st) : w.cell? ⟨p, 259, none⟩ = some (.bool hs) := by
  obtain ⟨cs, h1, _, _, _, _, h3, _⟩ := H.blk
  simp [World.cell?, h1, h3]
theorem Rg0.c260 {w : World} {p : Nat} {A : Nat → Int} {h n : Nat} {nx : Int} {hs : Bool} {st : Int} (H : Rg0 w p A h n nx hs st) : w.cell? ⟨p, 260, none⟩ = some (.int .i64 st) := by
  obtain ⟨cs, h1, _, _, _, _, _, h3⟩ := H.blk
  simp [World.cell?, h1, h3]
theorem Rg0.kept {w w' : World} {p : Nat} {A : Nat → Int} {h n : Nat} {nx : Int} {hs : Bool} {st : Int} (H : Rg0 w p A h n nx hs st) (hp : w'.heap[p]? = w.heap[p]?) : Rg0 w' p A h n nx hs st := by
  obtain ⟨cs, h1, h2⟩ := H.blk
  exact ⟨⟨cs, hp.trans h1, h2⟩, H.hh, H.hn, fun cs t fr hc => H.sz cs t fr (hp ▸ hc)⟩
theorem set_cs {w : World} {p i : Nat} {v : Value} {cs : Array Value} {t : TypeId} (h : w.heap[p]? = some (.cells cs t (0, 0))) : (w.setCell ⟨p, i, none⟩ v).heap[p]? = some (.cells (cs.setIfInBounds i v) t (0, 0)) := by
  simp [World.setCell, Array.getElem?_modify, h]
theorem set_sz {w : World} {p i m : Nat} {v : Value} {cs0 : Array Value} {t0 : TypeId} (h : ∀ cs t fr, w.heap[p]? = some (.cells cs t fr) → cs.size = m) (h1 : w.heap[p]? = some (.cells cs0 t0 (0, 0))) : ∀ cs t fr, (w.setCell ⟨p, i, none⟩ v).heap[p]? = some (.cells cs t fr) → cs.size = m := by
  intro cs t fr hc
  rw [set_cs h1] at hc
  simp only [Option.some.injEq, Obj.cells.injEq] at hc
  rw [← hc.1, Array.size_setIfInBounds]
  exact h _ _ _ h1
theorem get_set_ne {cs : Array Value} {i j : Nat} {v : Value} (h : i ≠ j) : (cs.setIfInBounds i v)[j]? = cs[j]? := by
  simp [Array.getElem?_setIfInBounds, h]
theorem get_set_eq {cs : Array Value} {i : Nat} {v u : Value} (h : cs[i]? = some u) : (cs.setIfInBounds i v)[i]? = some v := by
  have := (Array.getElem?_eq_some_iff.1 h).1
  simp [Array.getElem?_setIfInBounds, this]
theorem Rg0.set_place {w : World} {p : Nat} {A : Nat → Int} {h n : Nat} {nx : Int} {hs : Bool} {st : Int} (H : Rg0 w p A h n nx hs st) (i : Nat) (hi : i < 256) (v : Int) : Rg0 (w.setCell ⟨p, i, none⟩ (.int .i64 v)) p (fun j => if j = i then v else A j) h n nx hs st := by
  obtain ⟨cs, h1, h2, h3, h4, h5, h6, h7⟩ := H.blk
  refine ⟨⟨_, set_cs h1, fun j hj => ?_, ?_, ?_, ?_, ?_, ?_⟩, H.hh, H.hn, set_sz H.sz h1⟩
  · by_cases e : j = i
    · subst e; rw [get_set_eq (h2 j hj)]; simp
    · rw [get_set_ne (fun h => e h.symm), h2 j hj]; simp [e]
  all_goals (rw [get_set_ne (by omega)]; assumption)
theorem Rg0.set_head {w : World} {p : Nat} {A : Nat → Int} {h n : Nat} {nx : Int} {hs : Bool} {st : Int} (H : Rg0 w p A h n nx hs st) (h' : Nat) (hh : h' < 256) (k : Int) (hk : k = h') : Rg0 (w.setCell ⟨p, 256, none⟩ (.int .i64 k)) p A h' n nx hs st := by
  obtain ⟨cs, h1, h2, h3, h4, h5, h6, h7⟩ := H.blk
  subst hk
  refine ⟨⟨_, set_cs h1, fun j hj => ?_, get_set_eq h3, ?_, ?_, ?_, ?_⟩, hh, H.hn, set_sz H.sz h1⟩
  · rw [get_set_ne (by omega)]; exact h2 j hj
  all_goals (rw [get_set_ne (by omega)]; assumption)
theorem Rg0.set_n {w : World} {p : Nat} {A : Nat → Int} {h n : Nat} {nx : Int} {hs : Bool} {st : Int} (H : Rg0 w p A h n nx hs st) (n' : Nat) (hn : n' ≤ 256) (k : Int) (hk : k = n') : Rg0 (w.setCell ⟨p, 257, none⟩ (.int .i64 k)) p A h n' nx hs st := by
  obtain ⟨cs, h1, h2, h3, h4, h5, h6, h7⟩ := H.blk
  subst hk
  refine ⟨⟨_, set_cs h1, fun j hj => ?_, ?_, get_set_eq h4, ?_, ?_, ?_⟩, H.hh, hn, set_sz H.sz h1⟩
  · rw [get_set_ne (by omega)]; exact h2 j hj
  all_goals (rw [get_set_ne (by omega)]; assumption)
theorem Rg0.set_next {w : World} {p : Nat} {A : Nat → Int} {h n : Nat} {nx : Int} {hs : Bool} {st : Int} (H : Rg0 w p A h n nx hs st) (k : Int) : Rg0 (w.setCell ⟨p, 258, none⟩ (.int .i64 k)) p A h n k hs st := by
  obtain ⟨cs, h1, h2, h3, h4, h5, h6, h7⟩ := H.blk
  refine ⟨⟨_, set_cs h1, fun j hj => ?_, ?_, ?_, get_set_eq h5, ?_, ?_⟩, H.hh, H.hn, set_sz H.sz h1⟩
  · rw [get_set_ne (by omega)]; exact h2 j hj
  all_goals (rw [get_set_ne (by omega)]; assumption)
theorem Rg0.set_has {w : World} {p : Nat} {A : Nat → Int} {h n : Nat} {nx : Int} {hs : Bool} {st : Int} (H : Rg0 w p A h n nx hs st) (k : Bool) : Rg0 (w.setCell ⟨p, 259, none⟩ (.bool k)) p A h n nx k st := by
  obtain ⟨cs, h1, h2, h3, h4, h5, h6, h7⟩ := H.blk
  refine ⟨⟨_, set_cs h1, fun j hj => ?_, ?_, ?_, ?_, get_set_eq h6, ?_⟩, H.hh, H.hn, set_sz H.sz h1⟩
  · rw [get_set_ne (by omega)]; exact h2 j hj
  all_goals (rw [get_set_ne (by omega)]; assumption)
theorem Rg0.set_streak {w : World} {p : Nat} {A : Nat → Int} {h n : Nat} {nx : Int} {hs : Bool} {st : Int} (H : Rg0 w p A h n nx hs st) (k : Int) : Rg0 (w.setCell ⟨p, 260, none⟩ (.int .i64 k)) p A h n nx hs k := by
  obtain ⟨cs, h1, h2, h3, h4, h5, h6, h7⟩ := H.blk
  refine ⟨⟨_, set_cs h1, fun j hj => ?_, ?_, ?_, ?_, ?_, get_set_eq h7⟩, H.hh, H.hn, set_sz H.sz h1⟩
  · rw [get_set_ne (by omega)]; exact h2 j hj
  all_goals (rw [get_set_ne (by omega)]; assumption)

/-- A ring as a row: its numbers in order, who is next, whether one is, the streak. -/
structure Rg (w : World) (p : Nat) (xs : List Int) (nx : Int) (hs : Bool) (st : Int) : Prop where
  ex : ∃ A h, Rg0 w p A h xs.length nx hs st ∧ ∀ i, i < xs.length → xs.getD i 0 = A ((h + i) % 256)
theorem Rg.lt {w : World} {p : Nat} {xs : List Int} {nx : Int} {hs : Bool} {st : Int} (H : Rg w p xs nx hs st) : p < w.heap.size := by
  obtain ⟨A, h, h1, _⟩ := H.ex; exact h1.lt
theorem Rg.le {w : World} {p : Nat} {xs : List Int} {nx : Int} {hs : Bool} {st : Int} (H : Rg w p xs nx hs st) : xs.length ≤ 256 := by
  obtain ⟨A, h, h1, _⟩ := H.ex; exact h1.hn
theorem Rg.kept {w w' : World} {p : Nat} {xs : List Int} {nx : Int} {hs : Bool} {st : Int} (H : Rg w p xs nx hs st) (hp : w'.heap[p]? = w.heap[p]?) : Rg w' p xs nx hs st := by
  obtain ⟨A, h, h1, h2⟩ := H.ex
  exact ⟨A, h, h1.kept hp, h2⟩
theorem Rg.below {w w' : World} {p : Nat} {xs : List Int} {nx : Int} {hs : Bool} {st : Int} (H : Rg w p xs nx hs st) (hb : Below w.heap.size w w') : Rg w' p xs nx hs st := H.kept (hb.block _ H.lt)
theorem Rg.quiet {w w' : World} {p : Nat} {xs : List Int} {nx : Int} {hs : Bool} {st : Int} (H : Rg w p xs nx hs st) (hb : Quiet w w') : Rg w' p xs nx hs st := H.below (hb.below _)
theorem row_push {A : Nat → Int} {h : Nat} {xs : List Int} (g : Int) (hx : ∀ i, i < xs.length → xs.getD i 0 = A ((h + i) % 256)) (hl : xs.length < 256) (hh : h < 256) :
    ∀ i, i < (xs ++ [g]).length → (xs ++ [g]).getD i 0 = (fun j => if j = (h + xs.length) % 256 then g else A j) ((h + i) % 256) := by
  intro i hi
  rw [List.length_append, List.length_singleton] at hi
  by_cases e : i = xs.length
  · subst e; simp
  · have h1 : (h + i) % 256 ≠ (h + xs.length) % 256 := by omega
    simp only [if_neg h1]
    rw [← hx i (by omega)]
    simp [List.getElem?_append_left (show i < xs.length by omega)]
theorem row_pop {A : Nat → Int} {h : Nat} {x : Int} {xs : List Int} (hx : ∀ i, i < (x :: xs).length → (x :: xs).getD i 0 = A ((h + i) % 256)) (hh : h < 256) :
    x = A h ∧ ∀ i, i < xs.length → xs.getD i 0 = A (((h + 1) % 256 + i) % 256) := by
  refine ⟨?_, fun i hi => ?_⟩
  · have := hx 0 (by simp)
    rw [Nat.add_zero, Nat.mod_eq_of_lt hh] at this
    simpa using this
  · have := hx (i + 1) (by simp; omega)
    rw [List.getD_cons_succ] at this
    rw [this]
    congr 1
    omega
end Go.Proofs.Ytpmggkngakdkhaa
