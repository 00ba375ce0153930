/- Sections: goesOn, told to go on or not; each step of a section. -/
import Derived.Test.YtkhkmjldncfbhaaDoorTicketA
import Derived.Defers
import Derived.Recover
import Derived.Laws.Pointers
import Derived.StillTailTactics
namespace Go.Proofs.YtkhkmjldncfbhaaDoor
set_option linter.unusedVariables false
set_option linter.unusedSimpArgs false
open Go.RowKit

theorem catch_idle (p : Addr) (w : World) :
    CallsD Tryd.prog 18 #[.pointer (some p)] .returning w fun e u' w' => e = .returned (.tuple #[]) ∧ u' = .returning ∧ w' = w := by
  refine callsD_of_wpS Tryd.func18 rfl fun c₀ cs hu => ?_
  apply wpS_seq
  apply wpS_region
  simp [wpOpsS, go_sem, recoverD, hu, Tryd.ntmps18, Exit.thenS]
  refine wpS_cond (t := false) (by simp [Act.eval, Array.replicate]) ?_
  simp only [Bool.false_eq_true, if_false]
  refine wpS_of_wp (wp_skip ?_)
  cases c₀
  simp_all [bodyPostS, results, Tryd.results18]

theorem func_neq_nil (w : World) : (binOp .neq 35 .nilFunc .nilFunc).run Tryd.prog w = .ok (.bool false) w := by
  rfl
theorem func_neq (fn : Fn) (first cap : Array Value) (w : World) : (binOp .neq 35 (.func fn first cap) .nilFunc).run Tryd.prog w = .ok (.bool true) w := by
  rfl
/-- A nil do isn't told to go on. -/
theorem goes_nil (tm : Int) (w : World) :
    Calls Tryd.prog 13 #[.nilFunc, .int .i64 tm] w fun e w' => e = .returned (.bool false) ∧ Below w.heap.size w w' := by
  have hmf : ∀ (fn : Fn) (first cap : Array Value) (w : World), (Instr.makeFunc fn first cap).run Tryd.prog w = .ok (.func fn first cap) w := fun _ _ _ _ => rfl
  have hnn := fun w => func_neq_nil w
  go_enter_defers Tryd.func13, Tryd.ntmps13
  go_wp2
  refine leaves_cons (f := 18) (args := #[.pointer (some ⟨w.heap.size, 0, none⟩)]) (by simp) (by simp [go_sem]) ?_
  refine (catch_idle ⟨w.heap.size, 0, none⟩ _).mono ?_
  rintro e u' w'' ⟨rfl, rfl, rfl⟩
  simp [Leaves, settle, results, Tryd.results13, go_sem]
  first
    | exact ((Below.refl _ _).alloc (Nat.le_refl _) _).setCell (by simp) _
    | exact (Below.refl _ _).alloc (Nat.le_refl _) _

/-- At ⟨s, o⟩ lies a section: its lock's words, its stage, its ticket, how often it did. -/
structure Sct (w : World) (s o : Nat) (nx sv st tk tm : Int) : Prop where
  c0 : w.cell? ⟨s, o, none⟩ = some (.int .i64 nx)
  c1 : w.cell? ⟨s, o + 1, none⟩ = some (.int .i64 sv)
  c2 : w.cell? ⟨s, o + 2, none⟩ = some (.int .i64 st)
  c3 : w.cell? ⟨s, o + 3, none⟩ = some (.int .u64 tk)
  c4 : w.cell? ⟨s, o + 4, none⟩ = some (.int .i64 tm)
  fz : ∀ i, w.frozen? ⟨s, i, none⟩ = false
theorem Sct.lt {w : World} {s o : Nat} {nx sv st tk tm : Int} (h : Sct w s o nx sv st tk tm) : s < w.heap.size := by
  have := h.c0
  rcases Nat.lt_or_ge s w.heap.size with h' | h'
  · exact h'
  · simp [World.cell?, Array.getElem?_eq_none h'] at this
theorem Sct.kept {w w' : World} {s o : Nat} {nx sv st tk tm : Int} (h : Sct w s o nx sv st tk tm) (e : w'.heap[s]? = w.heap[s]?) : Sct w' s o nx sv st tk tm := by
  have c : ∀ i, w'.cell? ⟨s, i, none⟩ = w.cell? ⟨s, i, none⟩ := fun i => by simp [World.cell?, e]
  have f : ∀ i, w'.frozen? ⟨s, i, none⟩ = w.frozen? ⟨s, i, none⟩ := fun i => by simp [World.frozen?, e]
  exact ⟨(c _).trans h.c0, (c _).trans h.c1, (c _).trans h.c2, (c _).trans h.c3, (c _).trans h.c4, fun i => (f i).trans (h.fz i)⟩
theorem cell_set_ne {w : World} {s i j : Nat} {v : Value} (h : i ≠ j) : (w.setCell ⟨s, i, none⟩ v).cell? ⟨s, j, none⟩ = w.cell? ⟨s, j, none⟩ := World.cell?_setCell_other _ _ _ _ (by intro e; simp only [Addr.mk.injEq] at e; exact h e.2.1)
theorem Sct.stage {w : World} {s o : Nat} {nx sv st tk tm : Int} (h : Sct w s o nx sv st tk tm) (v : Int) : Sct (w.setCell ⟨s, o + 2, none⟩ (.int .i64 v)) s o nx sv v tk tm :=
  ⟨(cell_set_ne (by omega)).trans h.c0, (cell_set_ne (by omega)).trans h.c1, World.cell?_setCell_same _ _ _ h.c2, (cell_set_ne (by omega)).trans h.c3, (cell_set_ne (by omega)).trans h.c4, fun i => by rw [World.frozen?_setCell]; exact h.fz i⟩
theorem Sct.tick {w : World} {s o : Nat} {nx sv st tk tm : Int} (h : Sct w s o nx sv st tk tm) (v : Int) : Sct (w.setCell ⟨s, o + 3, none⟩ (.int .u64 v)) s o nx sv st v tm :=
  ⟨(cell_set_ne (by omega)).trans h.c0, (cell_set_ne (by omega)).trans h.c1, (cell_set_ne (by omega)).trans h.c2, World.cell?_setCell_same _ _ _ h.c3, (cell_set_ne (by omega)).trans h.c4, fun i => by rw [World.frozen?_setCell]; exact h.fz i⟩
theorem Sct.times {w : World} {s o : Nat} {nx sv st tk tm : Int} (h : Sct w s o nx sv st tk tm) (v : Int) : Sct (w.setCell ⟨s, o + 4, none⟩ (.int .i64 v)) s o nx sv st tk v :=
  ⟨(cell_set_ne (by omega)).trans h.c0, (cell_set_ne (by omega)).trans h.c1, (cell_set_ne (by omega)).trans h.c2, (cell_set_ne (by omega)).trans h.c3, World.cell?_setCell_same _ _ _ h.c4, fun i => by rw [World.frozen?_setCell]; exact h.fz i⟩
/-- Only the section at ⟨s, o⟩, and blocks b and g. -/
structure On3 (s o b g : Nat) (w w' : World) : Prop where
  os : w'.os = w.os
  tape : w'.tape = w.tape
  output : w'.output = w.output
  size : w.heap.size ≤ w'.heap.size
  block : ∀ k, k < w.heap.size → k ≠ s → k ≠ b → k ≠ g → w'.heap[k]? = w.heap[k]?
  cell : ∀ i, i < o ∨ o + 5 ≤ i → w'.cell? ⟨s, i, none⟩ = w.cell? ⟨s, i, none⟩
  fz : ∀ i, w'.frozen? ⟨s, i, none⟩ = w.frozen? ⟨s, i, none⟩
theorem On3.refl (s o b g : Nat) (w : World) : On3 s o b g w w := ⟨rfl, rfl, rfl, Nat.le_refl _, fun _ _ _ _ _ => rfl, fun _ _ => rfl, fun _ => rfl⟩
theorem On3.trans {s o b g : Nat} {a c d : World} (h : On3 s o b g a c) (k : On3 s o b g c d) : On3 s o b g a d :=
  ⟨k.os.trans h.os, k.tape.trans h.tape, k.output.trans h.output, Nat.le_trans h.size k.size, fun i hi h1 h2 h3 => (k.block i (Nat.lt_of_lt_of_le hi h.size) h1 h2 h3).trans (h.block i hi h1 h2 h3), fun i hi => (k.cell i hi).trans (h.cell i hi), fun i => (k.fz i).trans (h.fz i)⟩
theorem On3.of_only {s o b g : Nat} {w w' : World} (h : Only b g w w') (hs : s < w.heap.size) (h1 : s ≠ b) (h2 : s ≠ g) : On3 s o b g w w' := by
  have e := h.block s hs h1 h2
  exact ⟨h.os, h.tape, h.output, h.size, fun k hk _ h3 h4 => h.block k hk h3 h4, fun i _ => by simp [World.cell?, e], fun i => by simp [World.frozen?, e]⟩
theorem On3.set {s o b g : Nat} (w : World) (i : Nat) (v : Value) (hi : o ≤ i ∧ i < o + 5) : On3 s o b g w (w.setCell ⟨s, i, none⟩ v) :=
  ⟨rfl, rfl, rfl, by simp [World.setCell], fun k _ h1 _ _ => Below.heap_setCell _ _ _ _ h1, fun j hj => cell_set_ne (by omega), fun j => World.frozen?_setCell _ _ _ _⟩
theorem On3.below {s o b g B : Nat} {w0 w w' : World} (h : On3 s o b g w w') (hs : B ≤ s) (hb : B ≤ b) (hg : B ≤ g) (hB : Below B w0 w) (hs0 : B ≤ w.heap.size) : Below B w0 w' :=
  hB.trans ⟨h.os, h.tape, h.output, h.size, fun k hk => h.block k (by omega) (by omega) (by omega) (by omega)⟩
/-- What a step leaves. -/
def SPost (r : Bool) (s o b g : Nat) (nx sv st tk tm : Int) (xs : List Int) (c : Nat) (w : World) (e : Ending) (w' : World) : Prop :=
  e = .returned (.bool r) ∧ Sct w' s o nx sv st tk tm ∧ Mem w' b g xs c ∧ On3 s o b g w w'
theorem mem_set {w : World} {s i b g : Nat} {xs : List Int} {c : Nat} {v : Value} (h : Mem w b g xs c) (h1 : s ≠ b) (h2 : s ≠ g) : Mem (w.setCell ⟨s, i, none⟩ v) b g xs c := h.setOther h1 h2

variable {w : World} {s o b g : Nat} {nx sv tk tm : Int} {xs : List Int} {c : Nat}
set_option maxHeartbeats 1000000 in
theorem step_take (dv : Value) (h : Sct w s o nx sv 0 tk tm) (hm : Mem w b g xs c) (h1 : s ≠ b) (h2 : s ≠ g) (hc : c < 1000000000) (h3 : 0 ≤ nx) (h4 : nx < xs.length) (t : Int) (ht : xs.getD nx.toNat 0 = t) (hu : inU t) :
    Calls Tryd.prog 8 #[.pointer (some ⟨s, o, none⟩), .pointer (some ⟨b, 0, none⟩), dv] w (SPost false s o b g nx sv 1 t tm (xs.set nx.toNat (U (t + 1))) (c + 1) w) := by
  have TK := hid (take_in b g xs c nx sv w hm hc h3 h4 t ht hu)
  have H := hid h
  have c0 := h.c0
  have c1 := h.c1
  have c2 := h.c2
  clear h hm ht hu h3 h4
  go_enter Tryd.func8, Tryd.ntmps8
  go_wp2_with fail
  refine TK.out.mono ?_
  rintro e w2 ⟨rfl, hm2, ho2⟩
  have S2 := hid (H.out.kept (ho2.block s H.out.lt h1 h2))
  have d2 := S2.out.c2
  have d3 := S2.out.c3
  have df := S2.out.fz
  have FIN := hid (show SPost false s o b g nx sv 1 t tm _ (c + 1) w (.returned (.bool false)) ((w2.setCell ⟨s, o + 3, none⟩ (.int .u64 t)).setCell ⟨s, o + 2, none⟩ (.int .i64 1)) from
    ⟨rfl, (S2.out.tick t).stage 1, mem_set (mem_set hm2 h1 h2) h1 h2, (On3.of_only ho2 H.out.lt h1 h2).trans ((On3.set w2 _ _ (by omega)).trans (On3.set _ _ _ (by omega)))⟩)
  clear hm2 ho2 c0 c1 c2
  go_wp2
  go_ret
  exact FIN.out
set_option maxHeartbeats 1000000 in
theorem step_over (dv : Value) (h : Sct w s o nx sv 4 tk tm) (hm : Mem w b g xs c) :
    Calls Tryd.prog 8 #[.pointer (some ⟨s, o, none⟩), .pointer (some ⟨b, 0, none⟩), dv] w fun e w' => e = .returned (.bool true) ∧ w = w' := by
  have c2 := h.c2
  clear h hm
  go_enter Tryd.func8, Tryd.ntmps8
  go_wp2
  go_ret
  exact ⟨rfl, rfl⟩
set_option maxHeartbeats 1000000 in
theorem step_none (dv : Value) (st : Int) (h : Sct w s o nx sv st tk tm) (hst : st < 0 ∨ 4 < st) :
    Calls Tryd.prog 8 #[.pointer (some ⟨s, o, none⟩), .pointer (some ⟨b, 0, none⟩), dv] w fun e w' => e = .returned (.bool false) ∧ w = w' := by
  have c2 := h.c2
  have t0 : (st == 0) = false := beq_eq_false_iff_ne.2 (by omega)
  have t1 : (st == 1) = false := beq_eq_false_iff_ne.2 (by omega)
  have t2 : (st == 2) = false := beq_eq_false_iff_ne.2 (by omega)
  have t3 : (st == 3) = false := beq_eq_false_iff_ne.2 (by omega)
  have t4 : (st == 4) = false := beq_eq_false_iff_ne.2 (by omega)
  clear h hst
  go_enter Tryd.func8, Tryd.ntmps8
  go_wp2
  go_ret
  exact ⟨rfl, rfl⟩
/-- Do: what 'goesOn' answers, and what it leaves, is told. -/
def DoPost (s o : Nat) (tm : Int) (r : Bool) (Φ : World → Prop) (e : Ending) (w' : World) : Prop :=
  ∃ w1, Φ w1 ∧ e = .returned (.bool false) ∧ w' = (if r then w1 else w1.setCell ⟨s, o + 2, none⟩ (.int .i64 3)).setCell ⟨s, o + 4, none⟩ (.int .i64 (tm + 1))
set_option maxHeartbeats 1000000 in
theorem step_do (dv : Value) (r : Bool) (Φ : World → Prop) (h : Sct w s o nx sv 2 tk tm) (hD : Calls Tryd.prog 13 #[dv, .int .i64 tm] w fun e w' => e = .returned (.bool r) ∧ Φ w') (h1 : ∀ w1, Φ w1 → Sct w1 s o nx sv 2 tk tm) (htm : -1000000 ≤ tm) (htm2 : tm ≤ 1000000) :
    Calls Tryd.prog 8 #[.pointer (some ⟨s, o, none⟩), .pointer (some ⟨b, 0, none⟩), dv] w (DoPost s o tm r Φ) := by
  have c2 := h.c2
  have c4 := h.c4
  have D := hid hD
  have H1 := hid h1
  clear h hD h1
  rcases r with _ | _
  all_goals
    go_enter Tryd.func8, Tryd.ntmps8
    go_wp2_with fail
    refine D.out.mono ?_
    rintro e w2 ⟨rfl, hw2⟩
    have d2 := (H1.out w2 hw2).c2
    have d4 := (H1.out w2 hw2).c4
    have df := (H1.out w2 hw2).fz
    have HW := hid hw2
    clear c2 c4 hw2
    go_wp2
    go_ret
    exact ⟨w2, HW.out, rfl, rfl⟩
set_option maxHeartbeats 2000000 in
theorem step_wait_yes (dv : Value) (h : Sct w s o nx sv 1 tk tm) (hm : Mem w b g xs c) (h1 : s ≠ b) (h2 : s ≠ g) (hc : c < 1000000000) (h3 : 0 ≤ sv) (h4 : sv < xs.length) (x : Int) (hx : xs.getD sv.toNat 0 = x) (ut : inU tk) (ux : inU x) (hr : decide (tk = x) = true) :
    Calls Tryd.prog 8 #[.pointer (some ⟨s, o, none⟩), .pointer (some ⟨b, 0, none⟩), dv] w (SPost false s o b g nx sv 2 tk tm xs (c + 1) w) := by
  have HL := hid (fun w' (q : Mem w' b g xs c) => held_in b g xs c nx sv tk w' q hc h3 h4 x hx true hr ut ux)
  have H := hid h
  have HM := hid hm
  have c0 := h.c0
  have c1 := h.c1
  have c2 := h.c2
  have c3 := h.c3
  clear h hm hx ut ux hr h3 h4
  go_enter Tryd.func8, Tryd.ntmps8
  go_wp2_with fail
  go_still_tail 9, (by kernel_rfl)
  change wpList _ _ _ _ _ w.drew
  have M2 := hid HM.out.drew
  have S1 := hid (H.out.kept (w' := w.drew) rfl)
  have O1 := hid (only_drew (w := w) (b := b) (g := g) (Only.refl b g w.drew))
  clear c0 c1 c2 c3
  generalize w.drew = w2 at M2 S1 O1 ⊢
  go_wp2_with fail
  refine (HL.out w2 M2.out).mono ?_
  rintro e w3 ⟨rfl, hm3, ho3⟩
  have S3 := hid (S1.out.kept (ho3.block s S1.out.lt h1 h2))
  have d2 := S3.out.c2
  have df := S3.out.fz
  have FIN := hid (show SPost false s o b g nx sv 2 tk tm xs (c + 1) w (.returned (.bool false)) (w3.setCell ⟨s, o + 2, none⟩ (.int .i64 2)) from
    ⟨rfl, S3.out.stage 2, mem_set hm3 h1 h2, (On3.of_only (O1.out.trans ho3) H.out.lt h1 h2).trans (On3.set w3 _ _ (by omega))⟩)
  clear hm3 ho3
  go_wp2
  go_ret
  exact FIN.out
set_option maxHeartbeats 2000000 in
theorem step_wait_no (dv : Value) (h : Sct w s o nx sv 1 tk tm) (hm : Mem w b g xs c) (h1 : s ≠ b) (h2 : s ≠ g) (hc : c < 1000000000) (h3 : 0 ≤ sv) (h4 : sv < xs.length) (x : Int) (hx : xs.getD sv.toNat 0 = x) (ut : inU tk) (ux : inU x) (hr : decide (tk = x) = false) :
    Calls Tryd.prog 8 #[.pointer (some ⟨s, o, none⟩), .pointer (some ⟨b, 0, none⟩), dv] w (SPost false s o b g nx sv 1 tk tm xs (c + 1) w) := by
  have HL := hid (fun w' (q : Mem w' b g xs c) => held_in b g xs c nx sv tk w' q hc h3 h4 x hx false hr ut ux)
  have H := hid h
  have HM := hid hm
  have c0 := h.c0
  have c1 := h.c1
  have c2 := h.c2
  have c3 := h.c3
  clear h hm hx ut ux hr h3 h4
  go_enter Tryd.func8, Tryd.ntmps8
  go_wp2_with fail
  go_still_tail 9, (by kernel_rfl)
  change wpList _ _ _ _ _ w.drew
  have M2 := hid HM.out.drew
  have S1 := hid (H.out.kept (w' := w.drew) rfl)
  have O1 := hid (only_drew (w := w) (b := b) (g := g) (Only.refl b g w.drew))
  clear c0 c1 c2 c3
  generalize w.drew = w2 at M2 S1 O1 ⊢
  go_wp2_with fail
  refine (HL.out w2 M2.out).mono ?_
  rintro e w3 ⟨rfl, hm3, ho3⟩
  have S3 := hid (S1.out.kept (ho3.block s S1.out.lt h1 h2))
  have d2 := S3.out.c2
  have df := S3.out.fz
  have FIN := hid (show SPost false s o b g nx sv 1 tk tm xs (c + 1) w (.returned (.bool false)) w3 from
    ⟨rfl, S3.out, hm3, On3.of_only (O1.out.trans ho3) H.out.lt h1 h2⟩)
  clear hm3 ho3
  go_wp2
  go_ret
  exact FIN.out
set_option maxHeartbeats 2000000 in
theorem step_free (dv : Value) (h : Sct w s o nx sv 3 tk tm) (hm : Mem w b g xs c) (h1 : s ≠ b) (h2 : s ≠ g) (hc : c < 999999999) (h3 : 0 ≤ sv) (h4 : sv < xs.length) (hx : xs.getD sv.toNat 0 = tk) (ut : inU tk) :
    Calls Tryd.prog 8 #[.pointer (some ⟨s, o, none⟩), .pointer (some ⟨b, 0, none⟩), dv] w (SPost true s o b g nx sv 4 tk tm (xs.set sv.toNat (U (tk + 1))) (c + 2) w) := by
  have HL := hid (fun w' (q : Mem w' b g xs c) => free_yes b g xs c nx sv tk w' q hc h3 h4 hx ut)
  have H := hid h
  have HM := hid hm
  have c0 := h.c0
  have c1 := h.c1
  have c2 := h.c2
  have c3 := h.c3
  clear h hm hx ut h3 h4
  go_enter Tryd.func8, Tryd.ntmps8
  go_wp2_with fail
  go_still_tail 9, (by kernel_rfl)
  change wpList _ _ _ _ _ w.drew
  have M2 := hid HM.out.drew
  have S1 := hid (H.out.kept (w' := w.drew) rfl)
  have O1 := hid (only_drew (w := w) (b := b) (g := g) (Only.refl b g w.drew))
  clear c0 c1 c2 c3
  generalize w.drew = w2 at M2 S1 O1 ⊢
  go_wp2_with fail
  refine (HL.out w2 M2.out).mono ?_
  rintro e w3 ⟨rfl, hm3, ho3⟩
  have S3 := hid (S1.out.kept (ho3.block s S1.out.lt h1 h2))
  have d2 := S3.out.c2
  have df := S3.out.fz
  have FIN := hid (show SPost true s o b g nx sv 4 tk tm _ (c + 2) w (.returned (.bool true)) (w3.setCell ⟨s, o + 2, none⟩ (.int .i64 4)) from
    ⟨rfl, S3.out.stage 4, mem_set hm3 h1 h2, (On3.of_only (O1.out.trans ho3) H.out.lt h1 h2).trans (On3.set w3 _ _ (by omega))⟩)
  clear hm3 ho3
  go_wp2
  go_ret
  exact FIN.out
end Go.Proofs.YtkhkmjldncfbhaaDoor
