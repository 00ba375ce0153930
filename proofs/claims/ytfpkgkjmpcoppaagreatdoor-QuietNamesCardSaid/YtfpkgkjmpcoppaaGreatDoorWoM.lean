/- A world of one: the closure of a section, told to do. -/
import Derived.Test.YtfpkgkjmpcoppaaGreatDoorWoG
namespace Go.Proofs.YtfpkgkjmpcoppaaGreatDoor
open Go.RowKit
set_option linter.unusedVariables false
set_option linter.unusedSimpArgs false
set_option maxRecDepth 20000
set_option maxHeartbeats 4000000 in
theorem clo_with {W pw pi : Nat} (u : Int) (w : World) (Φ : World → Prop) (ha : w.cell? ⟨pw, 0, none⟩ = some (.pointer (some ⟨W, 0, none⟩))) (hb : w.cell? ⟨pi, 0, none⟩ = some (.int .i64 0))
    (HW : Calls Tryz.prog 140 #[.pointer (some ⟨W, 0, none⟩), .int .i64 0, .int .i64 u] w fun e w' => e = .returned (.bool false) ∧ Φ w') :
    Calls Tryz.prog 139 #[.int .i64 u, .pointer (some ⟨pw, 0, none⟩), .pointer (some ⟨pi, 0, none⟩)] w fun e w' => e = .returned (.bool false) ∧ Φ w' := by
  have H := hid HW
  clear HW
  go_enter Tryz.func139, Tryz.ntmps139
  go_wp2_with fail
  refine H.out.mono ?_
  rintro e w2 ⟨rfl, h⟩
  have H2 := hid h
  clear h
  go_wp2
  go_ret
  exact ⟨rfl, H2.out⟩
set_option maxHeartbeats 4000000 in
/-- A machine's section does: what it does is told of the world with one box more; and the world behind it. -/
theorem goes_with {W pw pi : Nat} (u : Int) (w : World) (Φ : World → Prop) (ha : w.cell? ⟨pw, 0, none⟩ = some (.pointer (some ⟨W, 0, none⟩))) (hb : w.cell? ⟨pi, 0, none⟩ = some (.int .i64 0))
    (HW : Calls Tryz.prog 140 #[.pointer (some ⟨W, 0, none⟩), .int .i64 0, .int .i64 u] (w.alloc (.cells #[.bool false] 4)) fun e w' => e = .returned (.bool false) ∧ w'.heap[w.heap.size]? = some (.cells #[.bool false] 4 (0, 0)) ∧ ∀ w2, OnL [w.heap.size] w' w2 → Φ w2) :
    Calls Tryz.prog 173 #[cloV pw pi, .int .i64 u] w fun e w' => e = .returned (.bool false) ∧ Φ w' := by
  have hmf : ∀ (fn : Fn) (first cap : Array Value) (w : World), (Instr.makeFunc fn first cap).run Tryz.prog w = .ok (.func fn first cap) w := fun _ _ _ _ => rfl
  have hnn := fun fn first cap w => func_neq fn first cap w
  have h1 : (w.alloc (.cells #[.bool false] 4)).cell? ⟨pw, 0, none⟩ = some (.pointer (some ⟨W, 0, none⟩)) := by rw [← ha]; exact World.cell?_of_block (Below.heap_alloc _ _ _ (cell_lt ha))
  have h2 : (w.alloc (.cells #[.bool false] 4)).cell? ⟨pi, 0, none⟩ = some (.int .i64 0) := by rw [← hb]; exact World.cell?_of_block (Below.heap_alloc _ _ _ (cell_lt hb))
  have CL := hid (clo_with u (w.alloc (.cells #[.bool false] 4)) (fun w' => w'.heap[w.heap.size]? = some (.cells #[.bool false] 4 (0, 0)) ∧ ∀ w2, OnL [w.heap.size] w' w2 → Φ w2) h1 h2 HW)
  clear h1 h2 HW ha hb
  go_enter_defers Tryz.func173, Tryz.ntmps173
  go_wp2_with fail
  refine CL.out.mono ?_
  rintro x w1 ⟨rfl, hgk, hx⟩
  obtain ⟨G, hG⟩ : ∃ G, G = w.heap.size := ⟨_, rfl⟩
  rw [← hG] at hgk hx ⊢
  have g1 : w1.cell? ⟨G, 0, none⟩ = some (.bool false) := blk_cell hgk rfl
  have g2 : w1.frozen? ⟨G, 0, none⟩ = false := blk_free hgk
  have g3 : (w1.setCell ⟨G, 0, none⟩ (.bool false)).cell? ⟨G, 0, none⟩ = some (.bool false) := World.cell?_setCell_same _ _ _ g1
  have FIN := hid (hx (w1.setCell ⟨G, 0, none⟩ (.bool false)) (OnL.set _ _ _ _ (by simp)))
  clear hgk hx CL hG
  go_wp2
  refine leaves_cons (f := 214) (args := #[.pointer (some ⟨G, 0, none⟩)]) (by simp) (by simp [go_sem]) ?_
  refine (catch_idle ⟨G, 0, none⟩ _).mono ?_
  rintro e u' w'' ⟨rfl, rfl, rfl⟩
  simp [Leaves, settle, results, Tryz.results173, go_sem, g3]
  exact FIN.out
end Go.Proofs.YtfpkgkjmpcoppaaGreatDoor
