/- HeapPlays: a heap, and a row beside it. -/
import Derived.Test.YthabcnjddeoebaaLives09
import Derived.Test.YthabcnjddeoebaaHeap8
import Derived.Test.YthabcnjddeoebaaHeapQ
import Derived.Test.YthabcnjddeoebaaHeapCp
import Derived.Test.YthabcnjddeoebaaHeapTk
import Derived.Test.YthabcnjddeoebaaRef09R
import Derived.Test.YthabcnjddeoebaaHeapV
import Derived.Test.YthabcnjddeoebaaHeapSo
import Derived.Test.YthabcnjddeoebaaStructs
import Derived.Test.YthabcnjddeoebaaStructs2
import Derived.Deep.CutRange
import Derived.Deep.CutBlock
import Derived.Deep.QuietTactic
import Derived.BigQuiet
import Derived.Deep.RegionHeld3
namespace Go.Proofs.Ythabcnjddeoebaa.heapPlays
open Go.RowKit
set_option linter.unusedVariables false
set_option linter.unusedSimpArgs false

/-- The block that a slice lies in. -/
def sb : Value → Option Nat
  | .slice (some a) _ _ => some a.block
  | _ => none
/-- A heap at P of es, beside it a row that reads as r. -/
structure Pl (w : World) (P B : Nat) (es r : List (Int × Int × Int)) (v vw : Value) (wr : World) : Prop where
  hp : Hp wr (P + 1) P v es
  ord : Ord es
  rd : Rd3 wr vw r
  sep : ∀ g, sb vw = some g → 0 < r.length → g ≠ P ∧ v.ownBlock ≠ some g
  bl : Below w.heap.size w wr
  sz : P + 1 ≤ wr.heap.size
  len : es.length ≤ B
  wP : w.heap.size ≤ P
variable {w wr w' : World} {P B : Nat} {es r T r' : List (Int × Int × Int)} {v vw v' vw' : Value}
theorem rd_lt (h : Rd3 wr vw r) (hr : 0 < r.length) : ∃ g off c, vw = .slice (some ⟨g, off, none⟩) r.length c ∧ g < wr.heap.size ∧ ∀ i, i < r.length →
    wr.cell? ⟨g, off + i * 3, none⟩ = some (.int .i64 (enAt r i).1) ∧ wr.cell? ⟨g, off + i * 3 + 1, none⟩ = some (.int .u64 (enAt r i).2.1) ∧ wr.cell? ⟨g, off + i * 3 + 2, none⟩ = some (.int .i64 (enAt r i).2.2) := by
  obtain ⟨a, c, h1, h2, h3, h4⟩ := h
  obtain ⟨g, off, rfl, hg, hc⟩ := h4 hr
  exact ⟨g, off, c, h1, hg, hc⟩
theorem Pl.below (h : Pl w P B es r v vw wr) (hb : Below wr.heap.size wr w') : Pl w P B es r v vw w' :=
  ⟨h.hp.below hb, h.ord, h.rd.below hb, h.sep, h.bl.trans (hb.mono h.bl.size), Nat.le_trans h.sz hb.size, h.len, h.wP⟩
theorem cell_eq {a b : World} {g : Nat} (h : b.heap[g]? = a.heap[g]?) (k : Nat) : b.cell? ⟨g, k, none⟩ = a.cell? ⟨g, k, none⟩ := by
  unfold World.cell?
  simp only [h]
theorem rd_q (h : Pl w P B es r v vw wr) (hq : OnlyQ P v wr w') : Rd3 w' vw r := by
  obtain ⟨a, c, h1, h2, h3, h4⟩ := h.rd
  refine ⟨a, c, h1, h2, h3, fun h0 => ?_⟩
  obtain ⟨g, off, rfl, hg, hc⟩ := h4 h0
  obtain ⟨s1, s2⟩ := h.sep g (by rw [h1]; rfl) h0
  have hb := hq.block g hg s1 s2
  refine ⟨g, off, rfl, Nat.lt_of_lt_of_le hg hq.size, fun i hi => ?_⟩
  rw [cell_eq hb, cell_eq hb, cell_eq hb]
  exact hc i hi
theorem Pl.act {B' : Nat} (h : Pl w P B es r v vw wr) (hp : Hp w' (P + 1) P v' T) (ho : Ord T) (hq : OnlyQ P v wr w') (hv : OnlyV P (P + 1) wr w')
    (hn : ∀ q, v'.ownBlock = some q → v.ownBlock = some q ∨ wr.heap.size ≤ q) (hl : T.length ≤ B') : Pl w P B' T r v' vw w' := by
  have hz := h.sz
  have hw := h.wP
  refine ⟨hp, ho, rd_q h hq, fun g hg h0 => ?_, h.bl.trans (hv.below (by omega) hw h.bl.size), Nat.le_trans hz hv.size, hl, hw⟩
  obtain ⟨s1, s2⟩ := h.sep g hg h0
  refine ⟨s1, fun e => ?_⟩
  rcases hn g e with e | e
  · exact s2 e
  · obtain ⟨g2, off, c, e2, hl2, _⟩ := rd_lt h.rd h0
    rw [e2] at hg
    simp only [sb, Option.some.injEq] at hg
    omega
theorem Pl.row (h : Pl w P B es r v vw wr) {t : TypeId} (ho : w'.ownsRow wr.heap.size t 3 vw' r'.length (fl r')) (hb : Below wr.heap.size wr w') : Pl w P B es r' v vw' w' := by
  have h2 := h.below hb
  have hz := h.sz
  refine ⟨h2.hp, h2.ord, own_rd3 ho, fun g hg h0 => ?_, h2.bl, h2.sz, h2.len, h2.wP⟩
  obtain ⟨_, ⟨h3, h4⟩ | ⟨q, cap, cur, h3, h4, _⟩⟩ := ho
  · omega
  · rw [h3] at hg
    simp only [sb, Option.some.injEq] at hg
    subst hg
    have hp := h.hp.lt
    refine ⟨by omega, fun e => ?_⟩
    have := (h.hp.own_lt _ e).2
    omega
theorem Pl.grow {B' : Nat} (h : Pl w P B es r v vw wr) (hB : B ≤ B') : Pl w P B' es r v vw wr := ⟨h.hp, h.ord, h.rd, h.sep, h.bl, h.sz, Nat.le_trans h.len hB, h.wP⟩
theorem Pl.to (h : Pl w P B es r v vw wr) (e : r = r') : Pl w P B es r' v vw wr := e ▸ h
theorem Pl.tail {x : Int × Int × Int} {g off n c : Nat} (h : Pl w P B es (x :: r) v (.slice (some ⟨g, off, none⟩) (n + 1) c) wr) (hn : n = r.length) (hcc : 0 < c) : Pl w P B es r v (.slice (some ⟨g, off + 3, none⟩) n (c - 1)) wr := by
  obtain ⟨a, c2, h1, h2, h3, h4⟩ := h.rd
  simp only [Value.slice.injEq, List.length_cons] at h1
  obtain ⟨rfl, h1, rfl⟩ := h1
  obtain ⟨g2, off2, e, hg, hc⟩ := h4 (by simp)
  simp only [Option.some.injEq, Addr.mk.injEq] at e
  obtain ⟨rfl, rfl, _⟩ := e
  simp only [List.length_cons] at h2 hc
  refine ⟨h.hp, h.ord, ⟨_, _, by rw [hn], by omega, by omega, fun h0 => ⟨g, off + 3, rfl, hg, fun i hi => ?_⟩⟩, fun g3 hg3 _ => h.sep g3 (by simpa [sb] using hg3) (by simp), h.bl, h.sz, h.len, h.wP⟩
  obtain ⟨q0, q1, q2⟩ := hc (i + 1) (by omega)
  have e1 : off + (i + 1) * 3 = off + 3 + i * 3 := by omega
  rw [e1] at q0 q1 q2
  exact ⟨q0, q1, q2⟩
theorem Pl.nilrow {x : Int × Int × Int} {a : Option Addr} {n : Nat} (h : Pl w P B es (x :: r) v vw wr) (hn : n = r.length) (hn0 : n = 0) : Pl w P B es r v (.slice a n 0) wr :=
  ⟨h.hp, h.ord, ⟨a, 0, by rw [hn], by omega, by simp, fun h0 => by omega⟩, fun g _ h0 => by omega, h.bl, h.sz, h.len, h.wP⟩
end Go.Proofs.Ythabcnjddeoebaa.heapPlays
