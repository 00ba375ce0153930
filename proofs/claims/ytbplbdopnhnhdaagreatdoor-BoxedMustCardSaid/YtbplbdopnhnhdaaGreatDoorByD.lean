/- hostlerlaw26.must: what has to be a step, or a panic that is recovered. -/
import Derived.Test.YtbplbdopnhnhdaaGreatDoorPreY
import Derived.Recover
import Derived.Stop.Asserts
namespace Go.Proofs.YtbplbdopnhnhdaaGreatDoor
open Go.RowKit
set_option linter.unusedVariables false
set_option linter.unusedSimpArgs false
set_option maxRecDepth 20000
theorem undRt : Tryz.prog.underlying 15 = some (.pointer 271) := by kernel_rfl
/-- An assertion to a step that fails: a new value of the runtime's, and a panic with it. -/
theorem ta_bad {t : TypeId} (h : (t = 28) = False) (v : Value) (w : World) : ∃ cs, (Instr.typeAssert (.iface t v) 20 28 false).run Tryz.prog w = .halt (.panic (.iface 15 (.pointer (some ⟨w.heap.size, 0, none⟩)))) (w.alloc (.cells cs 271)) := by
  have hr : Tryz.prog.rt.typeAssertionError = 15 := by kernel_rfl
  refine ⟨#[typeHandle Tryz.prog 20, typeHandle Tryz.prog t, typeHandle Tryz.prog 28, strVal ""], ?_⟩
  simp [Instr.typeAssert, run_underlying Tryz.underlying28, h, runtimePanic, elemOf, hr, run_underlying undRt, newVar, newRow, goPanic, Result.andThen, Value.cells]
theorem ta_badn (w : World) : ∃ cs, (Instr.typeAssert .nilIface 20 28 false).run Tryz.prog w = .halt (.panic (.iface 15 (.pointer (some ⟨w.heap.size, 0, none⟩)))) (w.alloc (.cells cs 271)) := by
  have hr : Tryz.prog.rt.typeAssertionError = 15 := by kernel_rfl
  refine ⟨#[typeHandle Tryz.prog 20, .pointer none, typeHandle Tryz.prog 28, strVal ""], ?_⟩
  simp [Instr.typeAssert, run_underlying Tryz.underlying28, runtimePanic, elemOf, hr, run_underlying undRt, newVar, newRow, goPanic, Result.andThen, Value.cells]
theorem ta_good (v : Value) (w : World) : (Instr.typeAssert (.iface 28 v) 20 28 false).run Tryz.prog w = .ok v w := by kernel_rfl
def BadP (w : World) (e : Ending) (w' : World) : Prop := (∃ pv, e = .panicked [{ v := .iface 15 pv, recovered := false }]) ∧ Below w.heap.size w w'
set_option maxHeartbeats 4000000 in
theorem mstep_good (x0 x1 x2 x3 x4 : Int) (w : World) : Calls Tryz.prog 23 #[.iface 28 (.agg #[.int .u8 x0, .int .u8 x1, .int .i64 x2, .int .i64 x3, .int .i64 x4])] w fun e w' => e = .returned (.agg #[.int .u8 x0, .int .u8 x1, .int .i64 x2, .int .i64 x3, .int .i64 x4]) ∧ Below w.heap.size w w' := by
  have q1 := fun y => ta_good (.agg #[.int .u8 x0, .int .u8 x1, .int .i64 x2, .int .i64 x3, .int .i64 x4]) y
  go_enter Tryz.func23, Tryz.ntmps23
  go_wp2
  refine bodyPost_ret (v := .agg #[.int .u8 x0, .int .u8 x1, .int .i64 x2, .int .i64 x3, .int .i64 x4]) (by simp [results, Tryz.results23, go_sem]) rfl ⟨rfl, (Below.refl _ _).alloc (Nat.le_refl _) _⟩
set_option maxHeartbeats 4000000 in
theorem mstep_bad (v : Value) (w : World) (h : ∀ y : World, ∃ cs, (Instr.typeAssert v 20 28 false).run Tryz.prog y = .halt (.panic (.iface 15 (.pointer (some ⟨y.heap.size, 0, none⟩)))) (y.alloc (.cells cs 271))) :
    Calls Tryz.prog 23 #[v] w (BadP w) := by
  obtain ⟨cs, q1⟩ := h (w.alloc (.cells #[.int .u8 0, .int .u8 0, .int .i64 0, .int .i64 0, .int .i64 0] 28))
  clear h
  go_enter Tryz.func23, Tryz.ntmps23
  go_wp2
  exact ⟨rfl, ⟨_, rfl⟩, ((Below.refl _ _).alloc (Nat.le_refl _) _).alloc (by simp) _⟩
set_option maxHeartbeats 4000000 in
/-- The closure, of a frame that panics with the runtime's error. -/
theorem must_catch (p q : Nat) (pv : Value) (older : List PanicEntry) (x y : Bool) (w : World) (hc : w.cell? ⟨p, 0, none⟩ = some (.bool x)) (hz : w.frozen? ⟨p, 0, none⟩ = false) (hc2 : w.cell? ⟨q, 0, none⟩ = some (.bool y)) (hz2 : w.frozen? ⟨q, 0, none⟩ = false) (hpq : p ≠ q) :
    CallsD Tryz.prog 22 #[.pointer (some ⟨p, 0, none⟩), .pointer (some ⟨q, 0, none⟩)] (.panicking ({ v := .iface 15 pv, recovered := false } :: older)) w fun e u' w' =>
      e = .returned (.tuple #[]) ∧ u' = .panicking ({ v := .iface 15 pv, recovered := true } :: older) ∧ ∃ n, w' = ((w.setCell ⟨p, 0, none⟩ (.bool true)).setCell ⟨q, 0, none⟩ (.bool true)).drewN n := by
  refine callsD_of_wpS Tryz.func22 rfl fun c₀ cs hu => ?_
  apply wpS_seq
  apply wpS_region
  simp [wpOpsS, go_sem, recoverD, hu, Tryz.ntmps22, Exit.thenS]
  have hne : ∀ y : World, (binOp .neq 20 (.iface 15 pv) .nilIface).run Tryz.prog y = .ok (.bool true) y := fun y => by rfl
  have hne2 : ∀ y : World, (binOp .neq 67 (.iface 15 pv) .nilIface).run Tryz.prog y = .ok (.bool true) y := fun y => by rfl
  have hta : ∀ y : World, (Instr.typeAssert (.iface 15 pv) 20 67 true).run Tryz.prog y = .ok (.tuple #[.iface 15 pv, .bool true]) y := fun y => run_typeAssert_hasB Tryz.underlying67 (by kernel_rfl) pv 20 y
  apply wpS_seq
  apply wpS_region
  simp [wpOpsS, go_sem, recoverD, hu, hne, Exit.thenS]
  refine wpS_cond (t := true) (by simp [Act.eval, Array.replicate]) ?_
  simp only [if_true]
  apply wpS_seq
  apply wpS_region
  simp [wpOpsS, go_sem, recoverD, hu, hta, Exit.thenS]
  refine wpS_of_wp ?_
  simp [Array.replicate, List.replicate]
  generalize hQ : bodyPostS _ _ _ _ _ = Q
  go_region
  subst hQ
  cases c₀
  simp_all [bodyPostS, results, Tryz.results22]
  exact ⟨1, rfl⟩
theorem must_idle (p q : Addr) (w : World) :
    CallsD Tryz.prog 22 #[.pointer (some p), .pointer (some q)] .returning w fun e u' w' => e = .returned (.tuple #[]) ∧ u' = .returning ∧ w' = w := by
  refine callsD_of_wpS Tryz.func22 rfl fun c₀ cs hu => ?_
  apply wpS_seq
  apply wpS_region
  simp [wpOpsS, go_sem, recoverD, hu, Tryz.ntmps22, Exit.thenS]
  have hne : ∀ y : World, (binOp .neq 20 .nilIface .nilIface).run Tryz.prog y = .ok (.bool false) y := fun y => by rfl
  apply wpS_seq
  apply wpS_region
  simp [wpOpsS, go_sem, recoverD, hu, hne, Exit.thenS]
  refine wpS_cond (t := false) (by simp [Act.eval, Array.replicate]) ?_
  simp only [Bool.false_eq_true, if_false]
  refine wpS_of_wp (wp_skip ?_)
  cases c₀
  simp_all [bodyPostS, results, Tryz.results22]
set_option maxHeartbeats 8000000 in
theorem must_step (x0 x1 x2 x3 x4 : Int) (w : World) : Calls Tryz.prog 11 #[.iface 28 (.agg #[.int .u8 x0, .int .u8 x1, .int .i64 x2, .int .i64 x3, .int .i64 x4])] w fun e w' => e = .returned (.tuple #[.agg #[.int .u8 x0, .int .u8 x1, .int .i64 x2, .int .i64 x3, .int .i64 x4], .bool false, .bool true]) ∧ Below w.heap.size w w' := by
  have hmf : ∀ (fn : Fn) (first cap : Array Value) (w : World), (Instr.makeFunc fn first cap).run Tryz.prog w = .ok (.func fn first cap) w := fun _ _ _ _ => rfl
  go_enter_defers Tryz.func11, Tryz.ntmps11
  go_wp2_with fail
  refine (mstep_good x0 x1 x2 x3 x4 _).mono ?_
  rintro e w2 ⟨rfl, hb⟩
  have c0 : w2.cell? ⟨w.heap.size, 0, none⟩ = some (.int .u8 0) := by rw [hb.cell (by simp; omega)]; simp [go_sem]
  have c1 : w2.cell? ⟨w.heap.size, 1, none⟩ = some (.int .u8 0) := by rw [hb.cell (by simp; omega)]; simp [go_sem]
  have c2 : w2.cell? ⟨w.heap.size, 2, none⟩ = some (.int .i64 0) := by rw [hb.cell (by simp; omega)]; simp [go_sem]
  have c3 : w2.cell? ⟨w.heap.size, 3, none⟩ = some (.int .i64 0) := by rw [hb.cell (by simp; omega)]; simp [go_sem]
  have c4 : w2.cell? ⟨w.heap.size, 4, none⟩ = some (.int .i64 0) := by rw [hb.cell (by simp; omega)]; simp [go_sem]
  have c5 : w2.cell? ⟨w.heap.size + 1, 0, none⟩ = some (.bool false) := by rw [hb.cell (by simp)]; simp [go_sem]
  have c6 : w2.cell? ⟨w.heap.size + 1 + 1, 0, none⟩ = some (.bool false) := by rw [hb.cell (by simp)]; simp [go_sem]
  have f0 : ∀ i, w2.frozen? ⟨w.heap.size, i, none⟩ = false := fun i => by rw [hb.frozen (by simp; omega)]; simp [go_sem]
  have f5 : w2.frozen? ⟨w.heap.size + 1, 0, none⟩ = false := by rw [hb.frozen (by simp)]; simp [go_sem]
  have f6 : w2.frozen? ⟨w.heap.size + 1 + 1, 0, none⟩ = false := by rw [hb.frozen (by simp)]; simp [go_sem]
  have B2 := hid ((((Below.refl w.heap.size w).alloc (Nat.le_refl _) _).alloc (by simp) _).alloc (by simp; omega) _ |>.trans (hb.mono (by simp; omega)))
  clear hb
  go_wp2
  refine leaves_cons (f := 22) (args := #[.pointer (some ⟨w.heap.size + 1, 0, none⟩), .pointer (some ⟨w.heap.size + 1 + 1, 0, none⟩)]) (by simp) (by simp [go_sem]) ?_
  refine (must_idle _ _ _).mono ?_
  rintro e u' w'' ⟨rfl, rfl, rfl⟩
  simp [Leaves, settle, results, Tryz.results11, go_sem, *]
  exact ((((((B2.out.setCell (Nat.le_refl _) _).setCell (Nat.le_refl _) _).setCell (Nat.le_refl _) _).setCell (Nat.le_refl _) _).setCell (Nat.le_refl _) _).setCell (Nat.le_succ _) _).setCell (Nat.le_add_right _ 2) _
set_option maxHeartbeats 8000000 in
theorem must_none (v : Value) (w : World) (h : ∀ y : World, ∃ cs, (Instr.typeAssert v 20 28 false).run Tryz.prog y = .halt (.panic (.iface 15 (.pointer (some ⟨y.heap.size, 0, none⟩)))) (y.alloc (.cells cs 271))) :
    Calls Tryz.prog 11 #[v] w fun e w' => e = .returned (.tuple #[.agg #[.int .u8 0, .int .u8 0, .int .i64 0, .int .i64 0, .int .i64 0], .bool true, .bool true]) ∧ Below w.heap.size w w' := by
  have hmf : ∀ (fn : Fn) (first cap : Array Value) (w : World), (Instr.makeFunc fn first cap).run Tryz.prog w = .ok (.func fn first cap) w := fun _ _ _ _ => rfl
  have M := fun y => hid (mstep_bad v y h)
  clear h
  go_enter_defers Tryz.func11, Tryz.ntmps11
  go_wp2_with fail
  refine (M _).out.mono ?_
  rintro e w2 ⟨⟨pv, rfl⟩, hb⟩
  clear M
  have c0 : w2.cell? ⟨w.heap.size, 0, none⟩ = some (.int .u8 0) := by rw [hb.cell (by simp; omega)]; simp [go_sem]
  have c1 : w2.cell? ⟨w.heap.size, 1, none⟩ = some (.int .u8 0) := by rw [hb.cell (by simp; omega)]; simp [go_sem]
  have c2 : w2.cell? ⟨w.heap.size, 2, none⟩ = some (.int .i64 0) := by rw [hb.cell (by simp; omega)]; simp [go_sem]
  have c3 : w2.cell? ⟨w.heap.size, 3, none⟩ = some (.int .i64 0) := by rw [hb.cell (by simp; omega)]; simp [go_sem]
  have c4 : w2.cell? ⟨w.heap.size, 4, none⟩ = some (.int .i64 0) := by rw [hb.cell (by simp; omega)]; simp [go_sem]
  have c5 : w2.cell? ⟨w.heap.size + 1, 0, none⟩ = some (.bool false) := by rw [hb.cell (by simp)]; simp [go_sem]
  have c6 : w2.cell? ⟨w.heap.size + 1 + 1, 0, none⟩ = some (.bool false) := by rw [hb.cell (by simp)]; simp [go_sem]
  have f0 : ∀ i, w2.frozen? ⟨w.heap.size, i, none⟩ = false := fun i => by rw [hb.frozen (by simp; omega)]; simp [go_sem]
  have f5 : w2.frozen? ⟨w.heap.size + 1, 0, none⟩ = false := by rw [hb.frozen (by simp)]; simp [go_sem]
  have f6 : w2.frozen? ⟨w.heap.size + 1 + 1, 0, none⟩ = false := by rw [hb.frozen (by simp)]; simp [go_sem]
  have B2 := hid ((((Below.refl w.heap.size w).alloc (Nat.le_refl _) _).alloc (by simp) _).alloc (by simp; omega) _ |>.trans (hb.mono (by simp; omega)))
  clear hb
  refine leaves_cons (f := 22) (args := #[.pointer (some ⟨w.heap.size + 1, 0, none⟩), .pointer (some ⟨w.heap.size + 1 + 1, 0, none⟩)]) (by simp) (by simp [go_sem]) ?_
  refine (must_catch _ _ pv _ false false w2 c5 f5 c6 f6 (by omega)).mono ?_
  rintro e u' w'' ⟨rfl, rfl, n, rfl⟩
  simp [Leaves, settle, results, Tryz.results11, go_sem, c0, c1, c2, c3, c4, c5, c6]
  exact ((B2.out.setCell (Nat.le_succ _) _).setCell (Nat.le_add_right _ 2) _).trans ⟨rfl, rfl, rfl, Nat.le_refl _, fun _ _ => rfl⟩
end Go.Proofs.YtbplbdopnhnhdaaGreatDoor
