/- Sections whose do tells what it is told (SectionTimes' closure). -/
import Derived.Test.YtkoolmdnkdaleaaDoorSect2
namespace Go.Proofs.YtkoolmdnkdaleaaDoor
set_option linter.unusedVariables false
set_option linter.unusedSimpArgs false
open Go.RowKit

/-- The closure's three variables: want, right, k. -/
structure Tv (w : World) (pw pr pk : Nat) (u k : Int) : Prop where
  a : w.heap[pw]? = some (.cells #[.int .i64 u] 3 (0, 0))
  b : w.heap[pr]? = some (.cells #[.bool true] 4 (0, 0))
  c : w.heap[pk]? = some (.cells #[.int .i64 k] 3 (0, 0))
theorem Tv.kept {w w' : World} {pw pr pk : Nat} {u k : Int} (h : Tv w pw pr pk u k) (e1 : w'.heap[pw]? = w.heap[pw]?) (e2 : w'.heap[pr]? = w.heap[pr]?) (e3 : w'.heap[pk]? = w.heap[pk]?) : Tv w' pw pr pk u k := ⟨e1.trans h.a, e2.trans h.b, e3.trans h.c⟩
theorem blk_lt {w : World} {p : Nat} {o : Obj} (h : w.heap[p]? = some o) : p < w.heap.size := by rw [Array.getElem?_eq_some_iff] at h; exact h.1
theorem set_blk {w : World} {p : Nat} {v v' : Value} {t : TypeId} (h : w.heap[p]? = some (.cells #[v] t (0, 0))) : (w.setCell ⟨p, 0, none⟩ v').heap[p]? = some (.cells #[v'] t (0, 0)) := by
  simp [World.setCell, Array.getElem?_modify, h]
set_option maxHeartbeats 1000000 in
theorem times1 (pw pr pk : Nat) (u k : Int) (w : World) (r : Bool) (hr : decide (u + 1 < k) = r) (h : Tv w pw pr pk u k) (n1 : pw ≠ pr) (n2 : pw ≠ pk) (n3 : pr ≠ pk) (hu : 0 ≤ u) (hu2 : u ≤ 1000000) :
    Calls Tryd.prog 12 #[.int .i64 u, .pointer (some ⟨pw, 0, none⟩), .pointer (some ⟨pr, 0, none⟩), .pointer (some ⟨pk, 0, none⟩)] w fun e w' => e = .returned (.bool r) ∧ w' = (w.setCell ⟨pr, 0, none⟩ (.bool true)).setCell ⟨pw, 0, none⟩ (.int .i64 (u + 1)) := by
  have c1 : w.cell? ⟨pw, 0, none⟩ = some (.int .i64 u) := cell_of_blk (i := 0) h.a rfl
  have c2 : w.cell? ⟨pr, 0, none⟩ = some (.bool true) := cell_of_blk (i := 0) h.b rfl
  have c3 : w.cell? ⟨pk, 0, none⟩ = some (.int .i64 k) := cell_of_blk (i := 0) h.c rfl
  have f1 : w.frozen? ⟨pw, 0, none⟩ = false := free_of_blk h.a
  have f2 : w.frozen? ⟨pr, 0, none⟩ = false := free_of_blk h.b
  have t : (u == u) = true := by simp
  clear h
  go_enter Tryd.func12, Tryd.ntmps12
  go_wp2
  go_ret
  exact ⟨by rw [← hr]; rfl, rfl⟩
/-- What such a do leaves. -/
def TvPost (pw pr pk : Nat) (u k : Int) (w w' : World) : Prop := Tv w' pw pr pk u k ∧ Only pw pr w w'
set_option maxHeartbeats 1000000 in
theorem goes_times (pw pr pk : Nat) (u k : Int) (w : World) (r : Bool) (hr : decide (u + 1 < k) = r) (h : Tv w pw pr pk u k) (n1 : pw ≠ pr) (n2 : pw ≠ pk) (n3 : pr ≠ pk) (hu : 0 ≤ u) (hu2 : u ≤ 1000000) :
    Calls Tryd.prog 21 #[.func (.func 12) #[] #[.pointer (some ⟨pw, 0, none⟩), .pointer (some ⟨pr, 0, none⟩), .pointer (some ⟨pk, 0, none⟩)], .int .i64 u] w fun e w' => e = .returned (.bool r) ∧ TvPost pw pr pk (u + 1) k w w' := by
  have hmf : ∀ (fn : Fn) (first cap : Array Value) (w : World), (Instr.makeFunc fn first cap).run Tryd.prog w = .ok (.func fn first cap) w := fun _ _ _ _ => rfl
  have hnn := fun fn first cap w => func_neq fn first cap w
  have l1 := blk_lt h.a
  have l2 := blk_lt h.b
  have l3 := blk_lt h.c
  have O1 := hid (fun w (h : Tv w pw pr pk u k) => times1 pw pr pk u k w r hr h n1 n2 n3 hu hu2)
  have ha := (Below.refl w.heap.size w).alloc (Nat.le_refl _) (.cells #[.bool false] 4)
  have H2 := hid (h.kept (ha.block _ l1) (ha.block _ l2) (ha.block _ l3))
  have FIN := hid (fun w2 (e : w2 = ((w.setCell ⟨pr, 0, none⟩ (.bool true)).setCell ⟨pw, 0, none⟩ (.int .i64 (u + 1))).alloc (.cells #[.bool r] 4)) => (show TvPost pw pr pk (u + 1) k w w2 from by
    have o1 : Only pw pr w ((w.setCell ⟨pr, 0, none⟩ (.bool true)).setCell ⟨pw, 0, none⟩ (.int .i64 (u + 1))) := ⟨rfl, rfl, rfl, by simp [World.setCell], fun k _ h1 h2 => (Below.heap_setCell _ _ _ _ h1).trans (Below.heap_setCell _ _ _ _ h2)⟩
    subst e
    refine ⟨⟨?_, ?_, ?_⟩, o1.trans (Only.alloc _ _)⟩
    · rw [Below.heap_alloc _ _ _ (Nat.lt_of_lt_of_le l1 o1.size)]
      exact set_blk ((Below.heap_setCell _ _ _ _ n1).trans h.a)
    · rw [Below.heap_alloc _ _ _ (Nat.lt_of_lt_of_le l2 o1.size), Below.heap_setCell _ _ _ _ (Ne.symm n1)]
      exact set_blk h.b
    · rw [Below.heap_alloc _ _ _ (Nat.lt_of_lt_of_le l3 o1.size)]
      exact (o1.block _ l3 (Ne.symm n2) (Ne.symm n3)).trans h.c))
  have g1 : (((w.alloc (.cells #[.bool false] 4)).setCell ⟨pr, 0, none⟩ (.bool true)).setCell ⟨pw, 0, none⟩ (.int .i64 (u + 1))).cell? ⟨w.heap.size, 0, none⟩ = some (.bool false) := by
    rw [World.cell?_setCell_other _ _ _ _ (by intro e; simp only [Addr.mk.injEq] at e; omega), World.cell?_setCell_other _ _ _ _ (by intro e; simp only [Addr.mk.injEq] at e; omega)]
    exact cell_of_blk (i := 0) (Deep.blk_alloc_new _ _) rfl
  have g2 : (((w.alloc (.cells #[.bool false] 4)).setCell ⟨pr, 0, none⟩ (.bool true)).setCell ⟨pw, 0, none⟩ (.int .i64 (u + 1))).frozen? ⟨w.heap.size, 0, none⟩ = false := by
    rw [World.frozen?_setCell, World.frozen?_setCell]; exact free_of_blk (Deep.blk_alloc_new _ _)
  clear h ha hr
  go_enter_defers Tryd.func21, Tryd.ntmps21
  go_wp2_with fail
  refine (O1.out _ H2.out).mono ?_
  rintro e w' ⟨rfl, rfl⟩
  go_wp2
  refine leaves_cons (f := 26) (args := #[.pointer (some ⟨w.heap.size, 0, none⟩)]) (by simp) (by simp [go_sem]) ?_
  refine (catch_idle ⟨w.heap.size, 0, none⟩ _).mono ?_
  rintro e u' w'' ⟨rfl, rfl, rfl⟩
  simp [Leaves, settle, results, Tryd.results21, go_sem]
  exact FIN.out _ rfl
end Go.Proofs.YtkoolmdnkdaleaaDoor
