/- timer.Timers: heaps side by side, a map, a count; what it is, what a deed on one heap leaves. -/
import Derived.Test.YtlppnkemoomllaaHeapQ
import Derived.Test.YtlppnkemoomllaaFrZ
import Derived.Test.YtlppnkemoomllaaHeapTk
import Derived.Test.YtlppnkemoomllaaHeapO2
import Derived.Test.YtlppnkemoomllaaMaps
namespace Go.Proofs.Ytlppnkemoomllaa
set_option linter.unusedVariables false
set_option linter.unusedSimpArgs false
open Go.RowKit

abbrev En := Int × Int × Int
def updN {α : Type} (f : Nat → α) (i : Nat) (x : α) : Nat → α := fun j => if j = i then x else f j
def updI {α : Type} (f : Int → α) (i : Int) (x : α) : Int → α := fun j => if j = i then x else f j
theorem updN_same {α : Type} (f : Nat → α) (i : Nat) (x : α) : updN f i x i = x := by simp [updN]
theorem updN_ne {α : Type} (f : Nat → α) {i j : Nat} (x : α) (h : j ≠ i) : updN f i x j = f j := by simp [updN, h]
/-- The timers at block t: n heaps (es), who has one (inn: k of them), how many were added; Z: foreign blocks. -/
structure Tq (Z : Nat → Prop) (w : World) (t hb mb n c : Nat) (hp : Nat → Nat) (v : Nat → Value) (es : Nat → List En) (inn : Int → Bool) (k ad : Nat) : Prop where
  box : w.heap[t]? = some (.cells #[.slice (some ⟨hb, 0, none⟩) n c, .map (some mb), .int .u64 ad] 60 (0, 0))
  row : hb < w.heap.size ∧ ∀ i, i < n → w.cell? ⟨hb, i, none⟩ = some (.pointer (some ⟨hp i, 0, none⟩))
  hc : n ≤ c ∧ c ≤ maxLen
  mp : ∃ g, MapI w mb .i64 g k ∧ ∀ a, (g a = some (.bool true) ∧ inn a = true) ∨ (g a = none ∧ inn a = false)
  he : ∀ i, i < n → Hp w 0 (hp i) (v i) (es i)
  ord : ∀ i, i < n → Ord (es i)
  fix : t ≠ hb ∧ t ≠ mb ∧ hb ≠ mb
  hpx : ∀ i, i < n → hp i ≠ t ∧ hp i ≠ hb ∧ hp i ≠ mb
  hpi : ∀ i j, i < n → j < n → hp i = hp j → i = j
  own : ∀ i, i < n → ∀ q, (v i).ownBlock = some q → (q ≠ t ∧ q ≠ hb ∧ q ≠ mb) ∧ (∀ j, j < n → q ≠ hp j) ∧ (∀ j, j < n → j ≠ i → (v j).ownBlock ≠ some q)
  zf : (¬ Z t ∧ ¬ Z hb ∧ ¬ Z mb) ∧ (∀ i, i < n → ¬ Z (hp i)) ∧ (∀ i, i < n → ∀ q, (v i).ownBlock = some q → ¬ Z q)
def Tm (Z : Nat → Prop) (w : World) (t n : Nat) (es : Nat → List En) (inn : Int → Bool) (k ad : Nat) : Prop := ∃ hb mb c hp v, Tq Z w t hb mb n c hp v es inn k ad
variable {Z : Nat → Prop} {w w' : World} {t hb mb n c : Nat} {hp : Nat → Nat} {v : Nat → Value} {es : Nat → List En} {inn : Int → Bool} {k ad : Nat}
theorem own_lt0 {p : Nat} {v : Value} {es : List En} (h : Hp w 0 p v es) {q : Nat} (hq : v.ownBlock = some q) : q < w.heap.size := (h.own_lt q hq).2
theorem Tq.lt (h : Tq Z w t hb mb n c hp v es inn k ad) : t < w.heap.size ∧ hb < w.heap.size ∧ mb < w.heap.size := by
  obtain ⟨g, h1, _⟩ := h.mp
  obtain ⟨hl, _⟩ := Array.getElem?_eq_some_iff.1 h.box
  exact ⟨hl, h.row.1, h1.lt⟩
/-- All that is as it was keeps the timers. -/
theorem Tq.kept (h : Tq Z w t hb mb n c hp v es inn k ad) (ht : w'.heap[t]? = w.heap[t]?) (hh : w'.heap[hb]? = w.heap[hb]?) (hm : w'.heap[mb]? = w.heap[mb]?) (hs : w.heap.size ≤ w'.heap.size)
    (hx : ∀ i, i < n → w'.heap[hp i]? = w.heap[hp i]?) (hv : ∀ i, i < n → ∀ q, (v i).ownBlock = some q → w'.heap[q]? = w.heap[q]?) : Tq Z w' t hb mb n c hp v es inn k ad := by
  obtain ⟨g, h1, h2⟩ := h.mp
  refine ⟨ht.trans h.box, ⟨Nat.lt_of_lt_of_le h.row.1 hs, fun i hi => ?_⟩, h.hc, ⟨g, h1.kept hm, h2⟩, fun i hi => (h.he i hi).kept (hx i hi) (hv i hi), h.ord, h.fix, h.hpx, h.hpi, h.own, h.zf⟩
  have := h.row.2 i hi
  simpa [World.cell?, hh] using this
theorem Tq.below (h : Tq Z w t hb mb n c hp v es inn k ad) (hb' : Below w.heap.size w w') : Tq Z w' t hb mb n c hp v es inn k ad :=
  h.kept (hb'.block _ h.lt.1) (hb'.block _ h.lt.2.1) (hb'.block _ h.lt.2.2) hb'.size (fun i hi => hb'.block _ (h.he i hi).lt) (fun i hi q hq => hb'.block _ (own_lt0 (h.he i hi) hq))
theorem Tm.below (h : Tm Z w t n es inn k ad) (hb' : Below w.heap.size w w') : Tm Z w' t n es inn k ad := by
  obtain ⟨hb, mb, c, hp, v, h⟩ := h
  exact ⟨hb, mb, c, hp, v, h.below hb'⟩
/-- One heap is another one. -/
theorem Tq.up (h : Tq Z w t hb mb n c hp v es inn k ad) {i : Nat} (hi : i < n) {v' : Value} {T : List En} (hH : Hp w' 0 (hp i) v' T) (hO : Ord T) (hq : OnlyQ (hp i) (v i) w w')
    (hn : ∀ q, v'.ownBlock = some q → (v i).ownBlock = some q ∨ w.heap.size ≤ q) (hz : ∀ k, Z k → k < w.heap.size) : Tq Z w' t hb mb n c hp (updN v i v') (updN es i T) inn k ad := by
  obtain ⟨g, h1, h2⟩ := h.mp
  obtain ⟨lt, lh, lm⟩ := h.lt
  have oi := h.own i hi
  have xi := h.hpx i hi
  have no : ∀ x, (∀ q, (v i).ownBlock = some q → q ≠ x) → (v i).ownBlock ≠ some x := fun x hx e => hx x e rfl
  have kt : w'.heap[t]? = w.heap[t]? := hq.block t lt (fun e => xi.1 e.symm) (no t fun q e => (oi q e).1.1)
  have kh : w'.heap[hb]? = w.heap[hb]? := hq.block hb lh (fun e => xi.2.1 e.symm) (no hb fun q e => (oi q e).1.2.1)
  have km : w'.heap[mb]? = w.heap[mb]? := hq.block mb lm (fun e => xi.2.2 e.symm) (no mb fun q e => (oi q e).1.2.2)
  have kj : ∀ j, j < n → j ≠ i → w'.heap[hp j]? = w.heap[hp j]? := fun j hj hji => hq.block (hp j) (h.he j hj).lt (fun e => hji (h.hpi j i hj hi e)) (no (hp j) fun q e => (oi q e).2.1 j hj)
  have kv : ∀ j, j < n → j ≠ i → ∀ q, (v j).ownBlock = some q → w'.heap[q]? = w.heap[q]? := fun j hj hji q e =>
    hq.block q (own_lt0 (h.he j hj) e) ((h.own j hj q e).2.1 i hi) (fun e2 => (oi q e2).2.2 j hj hji e)
  have nw : ∀ q, v'.ownBlock = some q → (q ≠ t ∧ q ≠ hb ∧ q ≠ mb) ∧ (∀ j, j < n → q ≠ hp j) ∧ (∀ j, j < n → j ≠ i → (v j).ownBlock ≠ some q) ∧ ¬ Z q := fun q e => by
    rcases hn q e with e | e
    · exact ⟨(oi q e).1, (oi q e).2.1, (oi q e).2.2, h.zf.2.2 i hi q e⟩
    · refine ⟨⟨by omega, by omega, by omega⟩, fun j hj e2 => ?_, fun j hj _ e2 => ?_, fun hzq => ?_⟩
      · have := (h.he j hj).lt; omega
      · have := own_lt0 (h.he j hj) e2; omega
      · have := hz q hzq; omega
  refine ⟨kt.trans h.box, ⟨Nat.lt_of_lt_of_le lh hq.size, fun j hj => ?_⟩, h.hc, ⟨g, h1.kept km, h2⟩, fun j hj => ?_, fun j hj => ?_, h.fix, h.hpx, h.hpi, fun j hj q e => ?_, h.zf.1, h.zf.2.1, fun j hj q e => ?_⟩
  · have := h.row.2 j hj
    simpa [World.cell?, kh] using this
  · by_cases hji : j = i
    · subst hji; rw [updN_same, updN_same]; exact hH
    · rw [updN_ne _ _ hji, updN_ne _ _ hji]; exact (h.he j hj).kept (kj j hj hji) (kv j hj hji)
  · by_cases hji : j = i
    · subst hji; rw [updN_same]; exact hO
    · rw [updN_ne _ _ hji]; exact h.ord j hj
  · by_cases hji : j = i
    · subst hji
      rw [updN_same] at e
      obtain ⟨a1, a2, a3, a4⟩ := nw q e
      exact ⟨a1, a2, fun l hl hlj => by rw [updN_ne _ _ hlj]; exact a3 l hl hlj⟩
    · rw [updN_ne _ _ hji] at e
      obtain ⟨a1, a2, a3⟩ := h.own j hj q e
      refine ⟨a1, a2, fun l hl hlj => ?_⟩
      by_cases hli : l = i
      · subst hli
        rw [updN_same]
        exact fun e2 => (nw q e2).2.2.1 j hj hji e
      · rw [updN_ne _ _ hli]; exact a3 l hl hlj
  · by_cases hji : j = i
    · subst hji
      rw [updN_same] at e
      exact (nw q e).2.2.2
    · rw [updN_ne _ _ hji] at e
      exact h.zf.2.2 j hj q e
theorem FrZ.of_q (h : Tq Z w t hb mb n c hp v es inn k ad) {i : Nat} (hi : i < n) (hq : OnlyQ (hp i) (v i) w w') (ho : w'.os = w.os ∧ w'.tape = w.tape ∧ w'.output = w.output) : FrZ Z w w' :=
  ⟨ho.1, ho.2.1, ho.2.2, hq.size, fun x hx hz => hq.block x hx (fun e => h.zf.2.1 i hi (e ▸ hz)) (fun e => h.zf.2.2 i hi x e hz)⟩
theorem undT : Try.prog.underlying 57 = some (.map 3 4) := by kernel_rfl
theorem undTI : Try.prog.underlying 3 = some (.int .i64) := by kernel_rfl
theorem zeroTB (w : World) : (zeroValue 4).run Try.prog w = .ok (.bool false) w := by kernel_rfl
theorem Tq.look (h : Tq Z w t hb mb n c hp v es inn k ad) (a : Int) : (Instr.lookup 57 (.map (some mb)) (.int .i64 a) false).run Try.prog w = .ok (.bool (inn a)) w := by
  obtain ⟨g, h1, h2⟩ := h.mp
  rcases h2 a with ⟨e, e2⟩ | ⟨e, e2⟩
  · rw [e2]; exact h1.look_hit undT undTI e false
  · rw [e2]; exact h1.look_miss undT undTI zeroTB e false
theorem Tq.len (h : Tq Z w t hb mb n c hp v es inn k ad) (ty : TypeId) : (Builtin.len_ #[57] ty #[.map (some mb)]).run Try.prog w = .ok (.int .i64 k) w := by
  obtain ⟨g, h1, _⟩ := h.mp
  exact h1.len undT ty
theorem Tq.onlyM (h : Tq Z w t hb mb n c hp v es inn k ad) (o : Only mb mb w w') {inn' : Int → Bool} {k' : Nat} (hm : ∃ g, MapI w' mb .i64 g k' ∧ ∀ a, (g a = some (.bool true) ∧ inn' a = true) ∨ (g a = none ∧ inn' a = false)) :
    Tq Z w' t hb mb n c hp v es inn' k' ad ∧ FrZ Z w w' := by
  obtain ⟨lt, lh, lm⟩ := h.lt
  have b := fun x hx (e : x ≠ mb) => o.block x hx e e
  refine ⟨⟨(b t lt h.fix.2.1).trans h.box, ⟨Nat.lt_of_lt_of_le lh o.size, fun i hi => ?_⟩, h.hc, hm, fun i hi => (h.he i hi).kept (b _ (h.he i hi).lt (h.hpx i hi).2.2) (fun q hq => b q (own_lt0 (h.he i hi) hq) (h.own i hi q hq).1.2.2), h.ord, h.fix, h.hpx, h.hpi, h.own, h.zf⟩,
    ⟨o.os, o.tape, o.output, o.size, fun x hx hz => b x hx (fun e => h.zf.1.2.2 (e ▸ hz))⟩⟩
  have := h.row.2 i hi
  simpa [World.cell?, b hb lh h.fix.2.2] using this
theorem Tq.store (h : Tq Z w t hb mb n c hp v es inn k ad) (a : Int) (ha : inn a = false) :
    ∃ w', (Instr.mapUpdate 57 (.map (some mb)) (.int .i64 a) (.bool true)).run Try.prog w = .ok () w' ∧ Tq Z w' t hb mb n c hp v es (updI inn a true) (k + 1) ad ∧ FrZ Z w w' := by
  obtain ⟨g, h1, h2⟩ := h.mp
  obtain ⟨w', r, m, o⟩ := h1.store undT undTI a (.bool true)
  have hg : g a = none := by rcases h2 a with ⟨_, e⟩ | ⟨e, _⟩; · rw [ha] at e; cases e
                             · exact e
  rw [if_pos hg] at m
  obtain ⟨h3, h4⟩ := h.onlyM o (inn' := updI inn a true) ⟨_, m, fun x => by
    simp only [updG, updI]
    by_cases hx : x = a
    · simp [hx]
    · simp only [if_neg hx]; exact h2 x⟩
  exact ⟨w', r, h3, h4⟩
theorem Tq.del (h : Tq Z w t hb mb n c hp v es inn k ad) (a : Int) (ha : inn a = true) (ty : TypeId) :
    ∃ w', (Builtin.delete_ #[57, 3] ty #[.map (some mb), .int .i64 a]).run Try.prog w = .ok (.tuple #[]) w' ∧ Tq Z w' t hb mb n c hp v es (updI inn a false) (k - 1) ad ∧ FrZ Z w w' := by
  obtain ⟨g, h1, h2⟩ := h.mp
  obtain ⟨w', r, m, o⟩ := h1.del undT undTI ty a
  have hg : g a ≠ none := by rcases h2 a with ⟨e, _⟩ | ⟨_, e⟩; · rw [e]; simp
                             · rw [ha] at e; cases e
  rw [if_neg hg] at m
  obtain ⟨h3, h4⟩ := h.onlyM o (inn' := updI inn a false) ⟨_, m, fun x => by
    simp only [updG, updI]
    by_cases hx : x = a
    · simp [hx]
    · simp only [if_neg hx]; exact h2 x⟩
  exact ⟨w', r, h3, h4⟩
/-- The count. -/
theorem Tq.count (h : Tq Z w t hb mb n c hp v es inn k ad) (ad' : Nat) : Tq Z (w.setCell ⟨t, 2, none⟩ (.int .u64 ad')) t hb mb n c hp v es inn k ad' ∧ FrZ Z w (w.setCell ⟨t, 2, none⟩ (.int .u64 ad')) := by
  obtain ⟨lt, lh, lm⟩ := h.lt
  have b : ∀ x, x ≠ t → (w.setCell ⟨t, 2, none⟩ (.int .u64 ad')).heap[x]? = w.heap[x]? := fun x hx => Below.heap_setCell _ _ _ _ hx
  have hs : (w.setCell ⟨t, 2, none⟩ (.int .u64 ad')).heap.size = w.heap.size := by simp [World.setCell]
  obtain ⟨g, h1, h2⟩ := h.mp
  refine ⟨⟨by simp [World.setCell, Array.getElem?_modify, h.box], ⟨by rw [hs]; exact lh, fun i hi => ?_⟩, h.hc, ⟨g, h1.kept (b mb h.fix.2.1.symm), h2⟩, fun i hi => (h.he i hi).kept (b _ (h.hpx i hi).1) (fun q hq => b q (h.own i hi q hq).1.1), h.ord, h.fix, h.hpx, h.hpi, h.own, h.zf⟩,
    ⟨rfl, rfl, rfl, by rw [hs]; exact Nat.le_refl _, fun x hx hz => b x (fun e => h.zf.1.1 (e ▸ hz))⟩⟩
  have := h.row.2 i hi
  simpa [World.cell?, b hb h.fix.1.symm] using this
end Go.Proofs.Ytlppnkemoomllaa
