/- A map from int to int in which just some numbers have one: sets that count. -/
import Derived.Test.YtpmggkngakdkhaaMaps
namespace Go.Proofs.Ytpmggkngakdkhaa
set_option linter.unusedVariables false
set_option linter.unusedSimpArgs false
open Go.RowKit
theorem undTI2 : Try.prog.underlying 3 = some (.int .i64) := by kernel_rfl
theorem undM : Try.prog.underlying 56 = some (.map 3 3) := by kernel_rfl
theorem zeroM (w : World) : (zeroValue 3).run Try.prog w = .ok (.int .i64 0) w := by kernel_rfl
theorem mkM (w : World) : (Instr.makeMap 56 none).run Try.prog w = .ok (.map (some w.heap.size)) (w.alloc (.map #[] 0)) := rfl
/-- A map in which just these numbers have one. -/
def Cm (w : World) (b : Nat) (l : List Int) : Prop := ∃ g, MapI w b .i64 g l.length ∧ ∀ a, g a = if a ∈ l then some (.int .i64 1) else none
theorem Cm.new (w : World) : Cm (w.alloc (.map #[] 0)) w.heap.size [] := ⟨_, MapI.new w .i64, fun a => by simp⟩
theorem Cm.lt {w : World} {b : Nat} {l : List Int} (h : Cm w b l) : b < w.heap.size := by obtain ⟨g, h1, _⟩ := h; exact h1.lt
theorem Cm.kept {w w' : World} {b : Nat} {l : List Int} (h : Cm w b l) (e : w'.heap[b]? = w.heap[b]?) : Cm w' b l := by obtain ⟨g, h1, h2⟩ := h; exact ⟨g, h1.kept e, h2⟩
theorem Cm.miss {w : World} {b : Nat} {l : List Int} (h : Cm w b l) {a : Int} (ha : a ∉ l) : (Instr.lookup 56 (.map (some b)) (.int .i64 a) false).run Try.prog w = .ok (.int .i64 0) w := by
  obtain ⟨g, h1, h2⟩ := h
  exact h1.look_miss undM undTI2 zeroM (by rw [h2, if_neg ha]) false
theorem Cm.hit {w : World} {b : Nat} {l : List Int} (h : Cm w b l) {a : Int} (ha : a ∈ l) : (Instr.lookup 56 (.map (some b)) (.int .i64 a) false).run Try.prog w = .ok (.int .i64 1) w := by
  obtain ⟨g, h1, h2⟩ := h
  exact h1.look_hit undM undTI2 (by rw [h2, if_pos ha]) false
theorem Cm.len {w : World} {b : Nat} {l : List Int} (h : Cm w b l) (ty : TypeId) : (Builtin.len_ #[56] ty #[.map (some b)]).run Try.prog w = .ok (.int .i64 l.length) w := by
  obtain ⟨g, h1, h2⟩ := h
  exact h1.len undM ty
theorem Cm.put {w : World} {b : Nat} {l : List Int} (h : Cm w b l) {a : Int} (ha : a ∉ l) : ∃ w', (Instr.mapUpdate 56 (.map (some b)) (.int .i64 a) (.int .i64 1)).run Try.prog w = .ok () w' ∧ Cm w' b (l ++ [a]) ∧ Only b b w w' := by
  obtain ⟨g, h1, h2⟩ := h
  obtain ⟨w', r, m, o⟩ := h1.store undM undTI2 a (.int .i64 1)
  rw [if_pos (by rw [h2, if_neg ha])] at m
  refine ⟨w', r, ⟨_, by rw [List.length_append, List.length_singleton]; exact m, fun c => ?_⟩, o⟩
  simp only [updG]
  by_cases hc : c = a
  · subst hc; simp
  · rw [if_neg hc, h2]
    simp [hc]
theorem Cm.sz {w : World} {b : Nat} {l : List Int} (h : Cm w b l) : b < w.heap.size := h.lt
end Go.Proofs.Ytpmggkngakdkhaa
