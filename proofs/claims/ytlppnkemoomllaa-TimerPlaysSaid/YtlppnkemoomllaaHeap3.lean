/- A heap's memory; Len and swap as contracts. -/
import Derived.Test.YtlppnkemoomllaaHeap2
import Derived.Maps.AppendAt
import Derived.StillTailTactics
namespace Go.Proofs.Ytlppnkemoomllaa
set_option linter.unusedVariables false
set_option linter.unusedSimpArgs false
open Go.RowKit

/-- The cells of a row of entries. -/
def fl (es : List (Int × Int × Int)) : List Value := es.flatMap ent
theorem fl_cons (e : Int × Int × Int) (es : List (Int × Int × Int)) : fl (e :: es) = .int .i64 e.1 :: .int .u64 e.2.1 :: .int .i64 e.2.2 :: fl es := by simp [fl, ent]
theorem fl_len : ∀ es : List (Int × Int × Int), (fl es).length = es.length * 3
  | [] => rfl
  | e :: es => by rw [fl_cons]; simp [fl_len es]; omega
theorem fl_app (xs ys : List (Int × Int × Int)) : fl (xs ++ ys) = fl xs ++ fl ys := by simp [fl]
/-- An entry by its place. -/
def enAt (es : List (Int × Int × Int)) (i : Nat) : Int × Int × Int := es.getD i (0, 0, 0)
theorem fl_get : ∀ (es : List (Int × Int × Int)) (i : Nat), i < es.length →
    (fl es)[i * 3]? = some (.int .i64 (enAt es i).1) ∧ (fl es)[i * 3 + 1]? = some (.int .u64 (enAt es i).2.1) ∧ (fl es)[i * 3 + 2]? = some (.int .i64 (enAt es i).2.2)
  | [], i, h => by simp at h
  | e :: es, 0, _ => by rw [fl_cons]; simp [enAt]
  | e :: es, i + 1, h => by
    have := fl_get es i (by simpa using h)
    rw [fl_cons]
    simp only [show (i + 1) * 3 = i * 3 + 1 + 1 + 1 by omega, List.getElem?_cons_succ]
    simpa [enAt] using this
theorem fl_set : ∀ (es : List (Int × Int × Int)) (i : Nat) (e : Int × Int × Int), i < es.length →
    fl (es.set i e) = (((fl es).set (i * 3) (.int .i64 e.1)).set (i * 3 + 1) (.int .u64 e.2.1)).set (i * 3 + 2) (.int .i64 e.2.2)
  | [], i, e, h => by simp at h
  | x :: es, 0, e, _ => by simp [fl_cons]
  | x :: es, i + 1, e, h => by
    have := fl_set es i e (by simpa using h)
    rw [List.set_cons_succ, fl_cons, this, fl_cons]
    simp only [show (i + 1) * 3 = i * 3 + 1 + 1 + 1 by omega, show i * 3 + 1 + 1 + 1 + 1 = (i * 3 + 1) + 1 + 1 + 1 by omega, show i * 3 + 1 + 1 + 1 + 2 = (i * 3 + 2) + 1 + 1 + 1 by omega, List.set_cons_succ]

/-- A heap: its struct lies in block p, its entries are the call's own. -/
structure Hp (w : World) (base p : Nat) (v : Value) (es : List (Int × Int × Int)) : Prop where
  st : w.heap[p]? = some (.cells #[v] 63 (0, 0))
  own : w.ownsRow base 37 3 v es.length (fl es)
  ne : v.ownBlock ≠ some p
  len : es.length ≤ 100000
namespace Hp
variable {w w' : World} {base p : Nat} {v : Value} {es : List (Int × Int × Int)}
theorem lt (h : Hp w base p v es) : p < w.heap.size := by obtain ⟨hl, _⟩ := Array.getElem?_eq_some_iff.1 h.st; exact hl
theorem c0 (h : Hp w base p v es) : w.cell? ⟨p, 0, none⟩ = some v := cell_ent h.st rfl
theorem f0 (h : Hp w base p v es) : w.frozen? ⟨p, 0, none⟩ = false := by simp [World.frozen?, h.st]
theorem slice (h : Hp w base p v es) : ∃ a c, v = .slice a es.length c := by
  obtain ⟨h0, ⟨h1, h2⟩ | ⟨q, cap, cur, h1, h2⟩⟩ := h.own
  · exact ⟨none, 0, by rw [h1, h2]⟩
  · exact ⟨_, _, h1⟩
theorem kept (h : Hp w base p v es) (hp : w'.heap[p]? = w.heap[p]?) (hk : ∀ q, v.ownBlock = some q → w'.heap[q]? = w.heap[q]?) : Hp w' base p v es := by
  refine ⟨hp.trans h.st, ?_, h.ne, h.len⟩
  obtain ⟨h0, h1 | ⟨q, cap, cur, h1, h2, h3, h4⟩⟩ := h.own
  · exact ⟨h0, .inl h1⟩
  · exact ⟨h0, .inr ⟨q, cap, cur, h1, h2, (hk q (by rw [h1]; rfl)).trans h3, h4⟩⟩
/-- Where the entries lie. -/
theorem pos {a : Option Addr} {n c : Nat} (h : Hp w base p (.slice a n c) es) (hn : 0 < es.length) : ∃ g, a = some ⟨g, 0, none⟩ ∧ n = es.length ∧ n ≤ c ∧ c ≤ maxLen ∧ base ≤ g ∧ g < w.heap.size ∧ g ≠ p := by
  obtain ⟨h0, ⟨h1, h2⟩ | ⟨q, cap, cur, h1, h2, h3, h4, h5, _⟩⟩ := h.own
  · omega
  · simp only [Value.slice.injEq] at h1
    obtain ⟨rfl, rfl, rfl⟩ := h1
    obtain ⟨hl, _⟩ := Array.getElem?_eq_some_iff.1 h3
    exact ⟨q, rfl, rfl, h4, h5, h2, hl, fun e => h.ne (by rw [← e]; rfl)⟩
theorem cells {g c : Nat} (h : Hp w base p (.slice (some ⟨g, 0, none⟩) es.length c) es) (i : Nat) (hi : i < es.length) :
    w.cell? ⟨g, i * 3, none⟩ = some (.int .i64 (enAt es i).1) ∧ w.cell? ⟨g, i * 3 + 1, none⟩ = some (.int .u64 (enAt es i).2.1) ∧ w.cell? ⟨g, i * 3 + 2, none⟩ = some (.int .i64 (enAt es i).2.2) := by
  obtain ⟨h1, h2, h3⟩ := fl_get es i hi
  have k := fun j => h.own.cellAt (g := g) (cap := c) j
  have hl := fl_len es
  exact ⟨(k _ (by omega)).trans h1, (k _ (by omega)).trans h2, (k _ (by omega)).trans h3⟩
theorem frees {g c : Nat} {n : Nat} (h : Hp w base p (.slice (some ⟨g, 0, none⟩) n c) es) (i : Nat) : w.frozen? ⟨g, i, none⟩ = false := by
  obtain ⟨h0, ⟨h1, h2⟩ | ⟨q, cap, cur, h1, h2, h3, h4, h5, _⟩⟩ := h.own
  · cases h1
  · simp only [Value.slice.injEq, Option.some.injEq, Addr.mk.injEq] at h1
    obtain ⟨⟨rfl, _⟩, _⟩ := h1
    simp [World.frozen?, h3]
end Hp

/-- The change that a heap's deeds make: its struct, its row (block base), new blocks. -/
structure OnlyH (p : Nat) (base : Nat) (w w' : World) : Prop where
  os : w'.os = w.os
  tape : w'.tape = w.tape
  output : w'.output = w.output
  size : w.heap.size ≤ w'.heap.size
  block : ∀ k, k < w.heap.size → k ≠ base → k ≠ p → w'.heap[k]? = w.heap[k]?

set_option maxHeartbeats 1000000 in
theorem hlen (w : World) (base p : Nat) (v : Value) (es : List (Int × Int × Int)) (h : Hp w base p v es) :
    Calls Try.prog 28 #[.pointer (some ⟨p, 0, none⟩)] w fun e w' => e = .returned (.int .i64 es.length) ∧ w' = w := by
  obtain ⟨a, c, rfl⟩ := h.slice
  have c0 := h.c0
  clear h
  go_enter Try.func28, Try.ntmps28
  go_wp2
  go_ret
  exact ⟨rfl, rfl⟩

theorem own_set {w : World} {base g n c sz : Nat} {t : TypeId} {xs : List Value} (h : w.ownsRow base t sz (.slice (some ⟨g, 0, none⟩) n c) n xs) (k : Nat) (u : Value) :
    (w.setCell ⟨g, k, none⟩ u).ownsRow base t sz (.slice (some ⟨g, 0, none⟩) n c) n (xs.set k u) := by
  obtain ⟨h0, ⟨h1, h2⟩ | ⟨q, cap, cur, h1, h2, h3, h4, h5, h6, h7⟩⟩ := h
  · cases h1
  · simp only [Value.slice.injEq, Option.some.injEq, Addr.mk.injEq] at h1
    obtain ⟨⟨rfl, _⟩, _, rfl⟩ := h1
    refine ⟨by simpa using h0, .inr ⟨g, c, cur.setIfInBounds k u, rfl, h2, by simp [World.setCell, Array.getElem?_modify, h3], h4, h5, by simpa using h6, ?_⟩⟩
    rw [Array.toList_setIfInBounds, List.take_set, h7]
/-- Two entries change their places. -/
def sw (es : List (Int × Int × Int)) (i j : Nat) : List (Int × Int × Int) := (es.set i (enAt es j)).set j (enAt es i)
theorem sw_len (es : List (Int × Int × Int)) (i j : Nat) : (sw es i j).length = es.length := by simp [sw]
theorem OnlyH.refl {p base : Nat} (w : World) : OnlyH p base w w := ⟨rfl, rfl, rfl, Nat.le_refl _, fun _ _ _ _ => rfl⟩
theorem OnlyH.trans {p base : Nat} {a b c : World} (h : OnlyH p base a b) (k : OnlyH p base b c) : OnlyH p base a c :=
  ⟨k.os.trans h.os, k.tape.trans h.tape, k.output.trans h.output, Nat.le_trans h.size k.size, fun i h1 h2 h3 => (k.block i (Nat.lt_of_lt_of_le h1 h.size) h2 h3).trans (h.block i h1 h2 h3)⟩
theorem OnlyH.set {p base g : Nat} (w : World) (k : Nat) (u : Value) (hg : base = g ∨ g = p) : OnlyH p base w (w.setCell ⟨g, k, none⟩ u) :=
  ⟨rfl, rfl, rfl, by simp [World.setCell], fun i _ h2 h3 => Below.heap_setCell _ _ _ _ (by show i ≠ g; omega)⟩
theorem OnlyH.drew {p base : Nat} (w : World) : OnlyH p base w w.drew := ⟨rfl, rfl, rfl, Nat.le_refl _, fun _ _ _ _ => rfl⟩
def SwapPost (base p g : Nat) (v : Value) (es : List (Int × Int × Int)) (w : World) (e : Ending) (w' : World) : Prop := e = .returned (.tuple #[]) ∧ Hp w' base p v es ∧ OnlyH p g w w'
structure Rw (w : World) (base p g n c : Nat) (xs : List Value) : Prop where
  st : w.heap[p]? = some (.cells #[.slice (some ⟨g, 0, none⟩) n c] 63 (0, 0))
  own : w.ownsRow base 37 3 (.slice (some ⟨g, 0, none⟩) n c) n xs
theorem Rw.set {w : World} {base p g n c : Nat} {xs : List Value} (h : Rw w base p g n c xs) (hne : g ≠ p) (k : Nat) (u : Value) : Rw (w.setCell ⟨g, k, none⟩ u) base p g n c (xs.set k u) :=
  ⟨(Below.heap_setCell _ _ _ _ (fun e => hne e.symm)).trans h.st, own_set h.own k u⟩
theorem swap_fin {w : World} {base p g c i j : Nat} {es : List (Int × Int × Int)} (h : Hp w base p (.slice (some ⟨g, 0, none⟩) es.length c) es) (hi : i < es.length) (hj : j < es.length) (x1 x2 x3 y1 y2 y3 : Int)
    (hx : enAt es i = (x1, x2, x3)) (hy : enAt es j = (y1, y2, y3)) :
    Hid (SwapPost base p g (.slice (some ⟨g, 0, none⟩) es.length c) (sw es i j) w (.returned (.tuple #[]))
      ((((((w.setCell ⟨g, i * 3, none⟩ (.int .i64 y1)).setCell ⟨g, i * 3 + 1, none⟩ (.int .u64 y2)).setCell ⟨g, i * 3 + 2, none⟩ (.int .i64 y3)).setCell ⟨g, j * 3, none⟩ (.int .i64 x1)).setCell ⟨g, j * 3 + 1, none⟩ (.int .u64 x2)).setCell ⟨g, j * 3 + 2, none⟩ (.int .i64 x3)).drew) := by
  have hb : base ≤ g ∧ g ≠ p := by
    obtain ⟨g', h1, _, _, _, h2, _, h3⟩ := h.pos (by omega)
    simp only [Option.some.injEq, Addr.mk.injEq] at h1
    exact ⟨h1.1 ▸ h2, h1.1 ▸ h3⟩
  have R0 : Rw w base p g es.length c (fl es) := ⟨h.st, h.own⟩
  have R6 := (((((R0.set hb.2 (i * 3) (.int .i64 y1)).set hb.2 (i * 3 + 1) (.int .u64 y2)).set hb.2 (i * 3 + 2) (.int .i64 y3)).set hb.2 (j * 3) (.int .i64 x1)).set hb.2 (j * 3 + 1) (.int .u64 x2)).set hb.2 (j * 3 + 2) (.int .i64 x3)
  have O6 := ((((((OnlyH.set (p := p) (base := g) (g := g) w (i * 3) (.int .i64 y1) (.inl rfl)).trans (OnlyH.set _ (i * 3 + 1) (.int .u64 y2) (.inl rfl))).trans (OnlyH.set _ (i * 3 + 2) (.int .i64 y3) (.inl rfl))).trans (OnlyH.set _ (j * 3) (.int .i64 x1) (.inl rfl))).trans (OnlyH.set _ (j * 3 + 1) (.int .u64 x2) (.inl rfl))).trans (OnlyH.set _ (j * 3 + 2) (.int .i64 x3) (.inl rfl))).trans (OnlyH.drew _)
  have e : fl (sw es i j) = _ := (fl_set (es.set i (enAt es j)) j (enAt es i) (by simpa using hj)).trans (by rw [fl_set es i (enAt es j) hi])
  rw [hx, hy] at e
  generalize (((((w.setCell ⟨g, i * 3, none⟩ (.int .i64 y1)).setCell ⟨g, i * 3 + 1, none⟩ (.int .u64 y2)).setCell ⟨g, i * 3 + 2, none⟩ (.int .i64 y3)).setCell ⟨g, j * 3, none⟩ (.int .i64 x1)).setCell ⟨g, j * 3 + 1, none⟩ (.int .u64 x2)).setCell ⟨g, j * 3 + 2, none⟩ (.int .i64 x3) = W at R6 O6 ⊢
  have HW : Hp W base p (.slice (some ⟨g, 0, none⟩) es.length c) (sw es i j) := ⟨R6.st, by rw [sw_len, e]; exact R6.own, h.ne, by rw [sw_len]; exact h.len⟩
  exact ⟨rfl, HW.kept rfl (fun _ _ => rfl), O6⟩

set_option maxHeartbeats 4000000 in
theorem swap_any (w : World) (base p g c i j : Nat) (es : List (Int × Int × Int)) (h : Hp w base p (.slice (some ⟨g, 0, none⟩) es.length c) es) (hi : i < es.length) (hj : j < es.length) :
    Calls Try.prog 29 #[.pointer (some ⟨p, 0, none⟩), .int .i64 i, .int .i64 j] w (SwapPost base p g (.slice (some ⟨g, 0, none⟩) es.length c) (sw es i j) w) := by
  have c0 := h.c0
  obtain ⟨i0, i1, i2⟩ := h.cells i hi
  obtain ⟨j0, j1, j2⟩ := h.cells j hj
  have hl := h.len
  have H := hid h
  obtain ⟨x1, hx1⟩ : ∃ x, x = (enAt es i).1 := ⟨_, rfl⟩
  obtain ⟨x2, hx2⟩ : ∃ x, x = (enAt es i).2.1 := ⟨_, rfl⟩
  obtain ⟨x3, hx3⟩ : ∃ x, x = (enAt es i).2.2 := ⟨_, rfl⟩
  obtain ⟨y1, hy1⟩ : ∃ x, x = (enAt es j).1 := ⟨_, rfl⟩
  obtain ⟨y2, hy2⟩ : ∃ x, x = (enAt es j).2.1 := ⟨_, rfl⟩
  obtain ⟨y3, hy3⟩ : ∃ x, x = (enAt es j).2.2 := ⟨_, rfl⟩
  rw [← hx1] at i0
  rw [← hx2] at i1
  rw [← hx3] at i2
  rw [← hy1] at j0
  rw [← hy2] at j1
  rw [← hy3] at j2
  have FIN := swap_fin h hi hj x1 x2 x3 y1 y2 y3 (by rw [hx1, hx2, hx3]) (by rw [hy1, hy2, hy3])
  have FIE := hid (fun (e : i = j) => swap_fin h hi hj x1 x2 x3 x1 x2 x3 (by rw [hx1, hx2, hx3]) (by rw [← e, hx1, hx2, hx3]))
  clear h hx1 hx2 hx3 hy1 hy2 hy3
  have fr := H.out.frees
  have f0 := fr (i * 3)
  have f1 := fr (i * 3 + 1)
  have f2 := fr (i * 3 + 2)
  have e0 := fr (j * 3)
  have e1 := fr (j * 3 + 1)
  have e2 := fr (j * 3 + 2)
  clear fr
  rcases Nat.lt_trichotomy i j with hij | hij | hij
  · have hij' : (i : Int) < j := by omega
    go_enter Try.func29, Try.ntmps29
    go_wp2_with fail
    go_region
    go_wp2
    go_end0
    exact FIN.out
  · subst hij
    go_enter Try.func29, Try.ntmps29
    go_wp2_with fail
    go_region
    go_wp2
    go_end0
    exact (FIE.out (by trivial)).out
  · have hij' : (j : Int) < i := by omega
    go_enter Try.func29, Try.ntmps29
    go_wp2_with fail
    go_region
    go_wp2
    go_end0
    exact FIN.out
end Go.Proofs.Ytlppnkemoomllaa
