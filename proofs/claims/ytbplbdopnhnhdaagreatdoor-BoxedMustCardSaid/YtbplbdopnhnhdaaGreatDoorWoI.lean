/- A log of events: Add. -/
import Derived.Test.YtbplbdopnhnhdaaGreatDoorRight
import Derived.Test.YtbplbdopnhnhdaaGreatDoorBig
import Derived.Deep.AppendLies
import Derived.Deep.RegionHeld3
import Derived.Deep.RegionLaw
namespace Go.Proofs.YtbplbdopnhnhdaaGreatDoor
open Go.RowKit
set_option linter.unusedVariables false
set_option linter.unusedSimpArgs false
set_option maxRecDepth 20000
theorem infoEv : (Tryz.prog.info? 34).map (fun i => (i.zero, i.size, i.bytes)) = some (some (.agg #[.int .i64 0, .int .i64 0, .int .i64 0, .int .i64 0, .int .i64 0]), 5, 40) := by kernel_rfl
/-- A log's row, of a block of the call's own: n events. -/
structure Lg (w : World) (base : Nat) (v : Value) (n : Nat) (xs : List Value) : Prop where
  own : w.ownsRow base 34 5 v n xs
theorem Lg.kept {w w' : World} {base n : Nat} {v : Value} {xs : List Value} (h : Lg w base v n xs) (hk : ∀ q, v.ownBlock = some q → w'.heap[q]? = w.heap[q]?) : Lg w' base v n xs := by
  obtain ⟨h0, h1 | ⟨q, cap, cur, h1, h2, h3, h4⟩⟩ := h.own
  · exact ⟨h0, .inl h1⟩
  · exact ⟨h0, .inr ⟨q, cap, cur, h1, h2, (hk q (by rw [h1]; rfl)).trans h3, h4⟩⟩
theorem Lg.lt {w : World} {base n : Nat} {v : Value} {xs : List Value} (h : Lg w base v n xs) : ∀ q, v.ownBlock = some q → base ≤ q ∧ q < w.heap.size := World.ownsRow.lt h.own
/-- What Add leaves: the cell at ⟨p, o⟩ is written, and the row. -/
def LogP (p o base : Nat) (v : Value) (n : Nat) (xs : List Value) (k g m q x : Int) (w w' : World) : Prop :=
  ∃ (v' : Value) (w4 : World), w' = w4.setCell ⟨p, o, none⟩ v' ∧ Lg w' base v' (n + 1) (xs ++ [.int .i64 k, .int .i64 g, .int .i64 m, .int .i64 q, .int .i64 x]) ∧ v'.ownBlock ≠ some p ∧ (∀ b, v'.ownBlock = some b → v.ownBlock = some b ∨ w.heap.size ≤ b) ∧
    w4.os = w.os ∧ w4.tape = w.tape ∧ w4.output = w.output ∧ w.heap.size ≤ w4.heap.size ∧ ∀ b, b < w.heap.size → v.ownBlock ≠ some b → w4.heap[b]? = w.heap[b]?
set_option maxHeartbeats 8000000 in
theorem log_add (w : World) (p o base : Nat) (v : Value) (n : Nat) (xs : List Value) (k g m q x : Int) (hr : evRight k g m q x = true) (hc : w.cell? ⟨p, o, none⟩ = some v) (hf : w.frozen? ⟨p, o, none⟩ = false) (h : Lg w base v n xs) (hvp : v.ownBlock ≠ some p) (hb : base ≤ w.heap.size) (hn : n < 100000) :
    Calls Tryz.prog 81 #[.pointer (some ⟨p, o, none⟩), .agg #[.int .i64 k, .int .i64 g, .int .i64 m, .int .i64 q, .int .i64 x]] w fun e w' => e = .returned (.bool true) ∧ LogP p o base v n xs k g m q x w w' := by
  have hp : p < w.heap.size := by
    rcases Nat.lt_or_ge p w.heap.size with h' | h'
    · exact h'
    · simp [World.cell?, Array.getElem?_eq_none h'] at hc
  have RA := hid (right_any k g m q x (w.alloc (.cells #[.int .i64 k, .int .i64 g, .int .i64 m, .int .i64 q, .int .i64 x] 34)))
  rw [hr] at RA
  have HL := hid h
  have HC := hid hc
  have HF := hid hf
  have HV := hid hvp
  have HB := hid hb
  have HP := hid hp
  have BX := hid (show Below w.heap.size w (w.alloc (.cells #[.int .i64 k, .int .i64 g, .int .i64 m, .int .i64 q, .int .i64 x] 34)) from (Below.refl _ _).alloc (Nat.le_refl _) _)
  have NB := hid (heap_alloc_new w (.cells #[.int .i64 k, .int .i64 g, .int .i64 m, .int .i64 q, .int .i64 x] 34))
  clear h hc hf hvp hb hp hr
  go_enter Tryz.func81, Tryz.ntmps81
  go_wp2_with fail
  refine RA.out.mono ?_
  rintro e w2 ⟨rfl, hb2⟩
  have B2 := hid (BX.out.trans (hb2.mono BX.out.size))
  have NB2 := hid (show w2.heap[w.heap.size]? = some (.cells #[.int .i64 k, .int .i64 g, .int .i64 m, .int .i64 q, .int .i64 x] 34 (0, 0)) from (hb2.block _ (by simp)).trans NB.out)
  clear hb2 RA NB
  have L2 := hid (HL.out.kept (w' := w2) (fun b hb => B2.out.block b (HL.out.lt b hb).2))
  have c0 : w2.cell? ⟨p, o, none⟩ = some v := (B2.out.cell (p := ⟨p, o, none⟩) HP.out).trans HC.out
  have hpl2 : p < w2.heap.size := by have := HP.out; have := B2.out.size; omega
  have c1 : (w2.alloc (.cells #[.int .i64 k, .int .i64 g, .int .i64 m, .int .i64 q, .int .i64 x] 34)).cell? ⟨p, o, none⟩ = some v := by rw [← c0]; exact World.cell?_of_block (Below.heap_alloc _ _ _ hpl2)
  have hs2 : w.heap.size + 1 ≤ w2.heap.size := by
    have := NB2.out; rw [Array.getElem?_eq_some_iff] at this; exact this.1
  have n0 : w2.cell? ⟨w.heap.size, 0, none⟩ = some (.int .i64 k) := by simp [World.cell?, NB2.out]
  have n1 : w2.cell? ⟨w.heap.size, 1, none⟩ = some (.int .i64 g) := by simp [World.cell?, NB2.out]
  have n2 : w2.cell? ⟨w.heap.size, 2, none⟩ = some (.int .i64 m) := by simp [World.cell?, NB2.out]
  have n3 : w2.cell? ⟨w.heap.size, 3, none⟩ = some (.int .i64 q) := by simp [World.cell?, NB2.out]
  have n4 : w2.cell? ⟨w.heap.size, 4, none⟩ = some (.int .i64 x) := by simp [World.cell?, NB2.out]
  have HS2 := hid hs2
  have OWN := hid L2.out.own
  have A1 := hid (show n + 1 ≤ maxLen by unfold maxLen; omega)
  have A2 := hid (show (n + 1) * 40 ≤ 140737488355328 by omega)
  have XB := hid (show (w2.alloc (.cells #[.int .i64 k, .int .i64 g, .int .i64 m, .int .i64 q, .int .i64 x] 34)).drew.heap[w2.heap.size]? = some (.cells #[.int .i64 k, .int .i64 g, .int .i64 m, .int .i64 q, .int .i64 x] 34 (0, 0)) from heap_alloc_new w2 _)
  have PC := hid (fun (w4 : World) (hg : (w2.alloc (.cells #[.int .i64 k, .int .i64 g, .int .i64 m, .int .i64 q, .int .i64 x] 34)).drew.grownBy w4 v.ownBlock) =>
    (show w4.cell? ⟨p, o, none⟩ = some v ∧ w4.frozen? ⟨p, o, none⟩ = false by
      have e : w4.heap[p]? = w.heap[p]? := (hg.block p (by simp; have := HP.out; have := HS2.out; omega) (fun e => HV.out e.symm)).trans ((Below.heap_alloc w2 _ _ (by have := HP.out; have := HS2.out; omega)).trans (B2.out.block p HP.out))
      exact ⟨by rw [← HC.out]; simp [World.cell?, e], by rw [← HF.out]; simp [World.frozen?, e]⟩))
  have FIN := hid (fun (w4 : World) gg cap (hown : w4.ownsRow base 34 5 (.slice (some ⟨gg, 0, none⟩) (n + 1) cap) (n + 1) (xs ++ [.int .i64 k, .int .i64 g, .int .i64 m, .int .i64 q, .int .i64 x])) (hg : (w2.alloc (.cells #[.int .i64 k, .int .i64 g, .int .i64 m, .int .i64 q, .int .i64 x] 34)).drew.grownBy w4 v.ownBlock) (hat : v.ownBlock = some gg ∨ gg = w2.heap.size + 1) =>
    (show LogP p o base v n xs k g m q x w (w4.setCell ⟨p, o, none⟩ (.slice (some ⟨gg, 0, none⟩) (n + 1) cap)) from by
      have hgp : gg ≠ p := by
        rcases hat with h | h
        · intro e; exact HV.out (by rw [h, e])
        · have := HP.out; have := HS2.out; omega
      refine ⟨_, w4, rfl, ⟨ownsRow_setCell_other hown (a := ⟨p, o, none⟩) (by simp [Value.ownBlock]; exact hgp) _⟩, by simp [Value.ownBlock]; exact hgp, fun b hb => ?_, hg.os.trans B2.out.os, hg.tape.trans B2.out.tape, hg.output.trans B2.out.output, ?_, fun b h1 h2 => ?_⟩
      · simp only [Value.ownBlock, Option.some.injEq] at hb
        subst hb
        rcases hat with h | h
        · exact .inl h
        · exact .inr (by have := HS2.out; omega)
      · have := hg.size; simp at this; have := HS2.out; omega
      · exact (hg.block b (by simp; have := HS2.out; omega) (fun e => h2 e.symm)).trans ((Below.heap_alloc w2 _ _ (by have := HS2.out; omega)).trans (B2.out.block b h1))))
  obtain ⟨i0, hi, hz0, hz1, hz2⟩ := info_parts infoEv
  clear HL
  go_wp2_with fail
  go_region_law ((refine step_append_lies _ (by rfl) _ _ _ (by rfl) base 34 i0 _ 5 40 Tryz.underlying88 hi hz0 hz1 hz2 rfl (by omega) _ n _ (by rfl) (World.ownsRow.alloc OWN.out _) ⟨w2.heap.size, 0, none⟩ 1 1 [.int .i64 k, .int .i64 g, .int .i64 m, .int .i64 q, .int .i64 x] (by rfl) (by rfl) (World.news_of_block (cs := #[.int .i64 k, .int .i64 g, .int .i64 m, .int .i64 q, .int .i64 x]) (t := 34) (fr := (0, 0)) XB.out) (by simp [Value.oneCell']) (by omega) A1.out A2.out (by have := HB.out; have := HS2.out; simp; omega) (w2.heap.size + 1) (by simp) ?_; intro gg cap w4 hown4 hgrow4 hat4 hlt4; obtain ⟨y0, f0⟩ := PC.out _ hgrow4; have FN := hid (FIN.out _ _ _ hown4 hgrow4 hat4); clear hown4 hgrow4 hat4 hlt4))
  all_goals
    have FX := hid FN.out
    clear FN y0 f0 c0 c1 n0 n1 n2 n3 n4
    go_wp2
    go_ret
    exact ⟨rfl, FX.out⟩
end Go.Proofs.YtbplbdopnhnhdaaGreatDoor
