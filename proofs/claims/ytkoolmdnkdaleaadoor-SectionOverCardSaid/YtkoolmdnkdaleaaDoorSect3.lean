/- Sections whose do counts (SectionOver's closure). -/
import Derived.Test.YtkoolmdnkdaleaaDoorSect2
namespace Go.Proofs.YtkoolmdnkdaleaaDoor
set_option linter.unusedVariables false
set_option linter.unusedSimpArgs false
open Go.RowKit

set_option maxHeartbeats 1000000 in
theorem over1 (d : Nat) (n tm : Int) (w : World) (hd : w.heap[d]? = some (.cells #[.int .i64 n] 3 (0, 0))) (hn : 0 ≤ n) (hn2 : n ≤ 1000000) :
    Calls Tryd.prog 16 #[.int .i64 tm, .pointer (some ⟨d, 0, none⟩)] w fun e w' => e = .returned (.bool false) ∧ w' = w.setCell ⟨d, 0, none⟩ (.int .i64 (n + 1)) := by
  have c0 : w.cell? ⟨d, 0, none⟩ = some (.int .i64 n) := by simp [World.cell?, hd]
  have f0 : w.frozen? ⟨d, 0, none⟩ = false := by simp [World.frozen?, hd]
  clear hd
  go_enter Tryd.func16, Tryd.ntmps16
  go_wp2
  go_ret
  exact ⟨rfl, rfl⟩
/-- What a do that counts leaves. -/
def CntPost (d : Nat) (n : Int) (w w' : World) : Prop := w'.heap[d]? = some (.cells #[.int .i64 n] 3 (0, 0)) ∧ Only d d w w'
set_option maxHeartbeats 1000000 in
theorem goes_over (d : Nat) (n tm : Int) (w : World) (hd : w.heap[d]? = some (.cells #[.int .i64 n] 3 (0, 0))) (hn : 0 ≤ n) (hn2 : n ≤ 1000000) :
    Calls Tryd.prog 21 #[.func (.func 16) #[] #[.pointer (some ⟨d, 0, none⟩)], .int .i64 tm] w fun e w' => e = .returned (.bool false) ∧ CntPost d (n + 1) w w' := by
  have hmf : ∀ (fn : Fn) (first cap : Array Value) (w : World), (Instr.makeFunc fn first cap).run Tryd.prog w = .ok (.func fn first cap) w := fun _ _ _ _ => rfl
  have hnn := fun fn first cap w => func_neq fn first cap w
  have hlt : d < w.heap.size := by rw [Array.getElem?_eq_some_iff] at hd; exact hd.1
  have O1 := hid (fun w (h : w.heap[d]? = some (.cells #[.int .i64 n] 3 (0, 0))) => over1 d n tm w h hn hn2)
  have HD := hid hd
  have h2 : (w.alloc (.cells #[.bool false] 4)).heap[d]? = some (.cells #[.int .i64 n] 3 (0, 0)) := by rw [Below.heap_alloc _ _ _ hlt]; exact hd
  have H2 := hid h2
  have FIN := hid (show CntPost d (n + 1) w ((w.setCell ⟨d, 0, none⟩ (.int .i64 (n + 1))).alloc (.cells #[.bool false] 4)) from by
    have e1 : (w.setCell ⟨d, 0, none⟩ (.int .i64 (n + 1))).heap[d]? = some (.cells #[.int .i64 (n + 1)] 3 (0, 0)) := by simp [World.setCell, Array.getElem?_modify, hd]
    have o1 : Only d d w (w.setCell ⟨d, 0, none⟩ (.int .i64 (n + 1))) := ⟨rfl, rfl, rfl, by simp [World.setCell], fun k _ h1 _ => Below.heap_setCell _ _ _ _ h1⟩
    exact ⟨by rw [Below.heap_alloc _ _ _ (Nat.lt_of_lt_of_le hlt o1.size)]; exact e1, o1.trans (Only.alloc _ _)⟩)
  have g1 : ((w.alloc (.cells #[.bool false] 4)).setCell ⟨d, 0, none⟩ (.int .i64 (n + 1))).cell? ⟨w.heap.size, 0, none⟩ = some (.bool false) := by
    rw [World.cell?_setCell_other _ _ _ _ (by intro e; simp only [Addr.mk.injEq] at e; omega)]
    exact cell_of_blk (i := 0) (Deep.blk_alloc_new _ _) rfl
  have g2 : ((w.alloc (.cells #[.bool false] 4)).setCell ⟨d, 0, none⟩ (.int .i64 (n + 1))).frozen? ⟨w.heap.size, 0, none⟩ = false := by
    rw [World.frozen?_setCell]; exact free_of_blk (Deep.blk_alloc_new _ _)
  clear hd h2
  go_enter_defers Tryd.func21, Tryd.ntmps21
  go_wp2_with fail
  refine (O1.out _ H2.out).mono ?_
  rintro e w' ⟨rfl, rfl⟩
  go_wp2
  refine leaves_cons (f := 26) (args := #[.pointer (some ⟨w.heap.size, 0, none⟩)]) (by simp) (by simp [go_sem]) ?_
  refine (catch_idle ⟨w.heap.size, 0, none⟩ _).mono ?_
  rintro e u' w'' ⟨rfl, rfl, rfl⟩
  simp [Leaves, settle, results, Tryd.results21, go_sem]
  exact FIN.out

variable {w : World} {s b g : Nat} {nx sv f : Int} {xs : List Int}
/-- A counting section at stage n: did is in block d. -/
structure Oc (w0 w : World) (d : Nat) (n : Nat) : Prop where
  h : w.heap[d]? = some (.cells #[.int .i64 (if n ≤ 2 then 0 else 1)] 3 (0, 0))
  hd : w0.heap.size ≤ d
theorem Oc.kept {w0 w w' : World} {d n m : Nat} (h : Oc w0 w d n) (e : w'.heap[d]? = w.heap[d]?) (hnm : (if m ≤ 2 then (0 : Int) else 1) = if n ≤ 2 then 0 else 1) : Oc w0 w' d m := ⟨by rw [hnm]; exact e.trans h.h, h.hd⟩
theorem Oc.lt {w0 w : World} {d n : Nat} (h : Oc w0 w d n) : d < w.heap.size := by
  have := h.h
  rw [Array.getElem?_eq_some_iff] at this; exact this.1
/-- What a counting section's step leaves (ahead of its end). -/
def ONext (w0 : World) (s b g d : Nat) (nx sv f : Int) (n : Nat) (xs : List Int) (q : Nat) (w : World) (e : Ending) (w' : World) : Prop :=
  ∃ xs', e = .returned (.bool (decide (3 ≤ n))) ∧ Al w' s nx sv f (n + 1) xs' ∧ Me w0 w' b g xs' (q + 2) ∧ Oc w0 w' d (n + 1)
theorem ostep {w0 : World} {n q d : Nat} (h : Al w s nx sv f n xs) (hm : Me w0 w b g xs q) (ho : Oc w0 w d n) (hn : n < 4) (hsw : w0.heap.size ≤ s) (h1 : s ≠ b) (h2 : s ≠ g) (d1 : d ≠ s) (d2 : d ≠ b) (d3 : d ≠ g) (hq : q < 1000000) (h3 : 0 ≤ nx) (h4 : nx < 8) (h5 : 0 ≤ sv) (h6 : sv < 8) (hne : nx ≠ sv) (hf : inU f) :
    Calls Tryd.prog 11 #[.pointer (some ⟨s, 0, none⟩), .pointer (some ⟨b, 0, none⟩), .func (.func 16) #[] #[.pointer (some ⟨d, 0, none⟩)]] w (ONext w0 s b g d nx sv f n xs q w) := by
  obtain ⟨tk, hsc, htk⟩ := h.c
  obtain ⟨c, hc, hmem⟩ := hm.m
  have hl := hm.l
  have fin : ∀ (m : Nat) (r : Bool) (u : Int), m = n + 1 → r = decide (3 ≤ n) → u = (if m ≤ 2 then 0 else 1) → n ≠ 2 → ∀ e w', NPost r s 0 b g nx sv f m u xs c w e w' → ONext w0 s b g d nx sv f n xs q w e w' := by
    rintro m r u rfl rfl rfl hn2 e w' ⟨tk', he, hs', rfl, ⟨c', hc', hm'⟩, ho3⟩
    refine ⟨_, he, ⟨⟨tk', hs', fun _ => rfl⟩, by omega, ?_, ?_⟩, hm.step ho3 hsw hm' (by simp [hl]) (by omega), ho.kept (ho3.block d ho.lt d1 d2 d3) ?_⟩
    · rw [getD_set_ne (by omega), getD_set_eq (by omega)]
    · rw [getD_set_eq (by simp [hl]; omega)]
    · by_cases h : n ≤ 1
      · rw [if_pos (by omega), if_pos (by omega)]
      · rw [if_neg (by omega), if_neg (by omega)]
  match n, hn with
  | 0, _ => exact (nstep_0 _ hsc hmem h1 h2 (by omega) h3 (by omega) h5 (by omega) hne h.hn h.hs hf).mono (fin 1 false _ rfl rfl rfl (by omega))
  | 1, _ => obtain rfl := htk (by omega); exact (nstep_1 _ hsc hmem h1 h2 (by omega) h5 (by omega) h.hn h.hs hf).mono (fin 2 false _ rfl rfl rfl (by omega))
  | 3, _ => obtain rfl := htk (by omega); exact (nstep_3 _ hsc hmem h1 h2 (by omega) h5 (by omega) h.hn h.hs hf).mono (fin 4 true _ rfl rfl rfl (by omega))
  | 2, _ =>
    obtain rfl := htk (by omega)
    have hgo := goes_over d 0 0 w ho.h (by omega) (by omega)
    refine (step_do _ false (CntPost d (0 + 1) w) hsc hgo (fun w1 hb => hsc.kept (hb.2.block _ hsc.lt (Ne.symm d1) (Ne.symm d1))) (by omega) (by omega)).mono ?_
    rintro e w' ⟨w1, ⟨hb, ho1⟩, he, rfl⟩
    simp only [Bool.false_eq_true, if_false]
    have h1' := hsc.kept (ho1.block _ hsc.lt (Ne.symm d1) (Ne.symm d1))
    have hm1 := hmem.other ho1 (Ne.symm d2) (Ne.symm d2) (Ne.symm d3) (Ne.symm d3)
    have hB1 : Below w0.heap.size w0 w1 := hm.B.trans (ho1.below ho.hd ho.hd hm.B.size)
    have hM1 : Me w0 w1 b g xs q := ⟨⟨c, hc, hm1⟩, hl, hB1, hm.hb, hm.hg, hm.T.eq (ho1.block _ hm.T.lt (by have := hm.t; have := ho.hd; omega) (by have := hm.t; have := ho.hd; omega)), hm.t⟩
    have ho3 : On3 s 0 b g w1 ((w1.setCell ⟨s, 0 + 2, none⟩ (.int .i64 3)).setCell ⟨s, 0 + 4, none⟩ (.int .i64 (0 + 1))) := (On3.set w1 _ _ (by omega)).trans (On3.set _ _ _ (by omega))
    refine ⟨xs, he, ⟨⟨_, (h1'.stage 3).times 1, fun _ => rfl⟩, by omega, h.hn.trans rfl, h.hs.trans rfl⟩, hM1.step ho3 hsw (mem_set (mem_set hm1 h1 h2) h1 h2) hl (by omega), ⟨?_, ho.hd⟩⟩
    exact (ho3.block d (by have := ho.lt; have := ho1.size; omega) d1 d2 d3).trans hb
end Go.Proofs.YtkoolmdnkdaleaaDoor
