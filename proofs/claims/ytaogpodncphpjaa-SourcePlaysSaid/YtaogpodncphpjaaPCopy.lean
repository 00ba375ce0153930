/- poll.Poll.Copy and Who as contracts. -/
import Derived.Test.YtaogpodncphpjaaClonM
import Derived.Test.YtaogpodncphpjaaPre2
import Derived.Deep.RegionWith
import Derived.Deep.RegionHeld3
namespace Go.Proofs.Ytaogpodncphpjaa
set_option linter.unusedVariables false
set_option linter.unusedSimpArgs false
open Go.RowKit
def upc (f : Nat → Option Nat) (i c : Nat) : Nat → Option Nat := fun j => if j = i then some c else f j
/-- Which of three maps have a clone, and where. -/
structure Cy (w : World) (p b1 b2 b3 : Nat) (m : Nat → Obj) (y : World) (f : Nat → Option Nat) : Prop where
  bl : Below w.heap.size w y
  g : ∀ i c, f i = some c → y.heap[c]? = some (m i) ∧ w.heap.size ≤ c
  inj : ∀ i j c, f i = some c → f j = some c → i = j
  bx : w.heap[p]? = some (.cells #[.map (some b1), .map (some b2), .map (some b3)] 105 (0, 0))
variable {w y : World} {p b1 b2 b3 : Nat} {m : Nat → Obj} {f : Nat → Option Nat}
theorem Cy.box (h : Cy w p b1 b2 b3 m y f) : y.heap[p]? = some (.cells #[.map (some b1), .map (some b2), .map (some b3)] 105 (0, 0)) := (h.bl.block p (blk_lt h.bx)).trans h.bx
theorem Cy.step (h : Cy w p b1 b2 b3 m y f) (i : Nat) (hi : f i = none) : Cy w p b1 b2 b3 m (y.alloc (m i)) (upc f i y.heap.size) := by
  refine ⟨h.bl.alloc h.bl.size _, fun j c hj => ?_, fun j k c hj hk => ?_, h.bx⟩
  · unfold upc at hj
    split at hj
    · rename_i e
      subst e
      simp only [Option.some.injEq] at hj
      subst hj
      exact ⟨heap_alloc_new _ _, h.bl.size⟩
    · have := h.g j c hj
      exact ⟨(Below.heap_alloc _ _ _ (blk_lt this.1)).trans this.1, this.2⟩
  · unfold upc at hj hk
    split at hj <;> split at hk
    · omega
    · simp only [Option.some.injEq] at hj
      have := blk_lt (h.g k c hk).1
      omega
    · simp only [Option.some.injEq] at hk
      have := blk_lt (h.g j c hj).1
      omega
    · exact h.inj j k c hj hk
theorem Cy.drew (h : Cy w p b1 b2 b3 m y f) : Cy w p b1 b2 b3 m y.drew f := ⟨h.bl.trans (bl_drw y _), h.g, h.inj, h.bx⟩
def Sx (p b1 b2 b3 : Nat) (y : World) : Prop := y.cell? ⟨p, 0, none⟩ = some (.map (some b1)) ∧ y.cell? ⟨p, 1, none⟩ = some (.map (some b2)) ∧ y.cell? ⟨p, 2, none⟩ = some (.map (some b3))
theorem Cy.sx (h : Cy w p b1 b2 b3 m y f) : y.cell? ⟨p, 0, none⟩ = some (.map (some b1)) ∧ y.cell? ⟨p, 1, none⟩ = some (.map (some b2)) ∧ y.cell? ⟨p, 2, none⟩ = some (.map (some b3)) := ⟨blk_cell h.box rfl, blk_cell h.box rfl, blk_cell h.box rfl⟩
theorem Cy.sxa (h : Cy w p b1 b2 b3 m y f) (o : Obj) : (y.alloc o).cell? ⟨p, 0, none⟩ = some (.map (some b1)) ∧ (y.alloc o).cell? ⟨p, 1, none⟩ = some (.map (some b2)) ∧ (y.alloc o).cell? ⟨p, 2, none⟩ = some (.map (some b3)) := by
  have hb := (Below.heap_alloc y o p (blk_lt h.box)).trans h.box
  exact ⟨blk_cell hb rfl, blk_cell hb rfl, blk_cell hb rfl⟩
/-- What a clone hands back here. -/
def PyPost (w : World) (p b1 b2 b3 : Nat) (m : Nat → Obj) (f : Nat → Option Nat) (i : Nat) (e : Ending) (y' : World) : Prop :=
  ∃ c, e = .returned (.map (some c)) ∧ Hid (Cy w p b1 b2 b3 m y' (upc f i c))
theorem Cy.post (h : Cy w p b1 b2 b3 m y f) (i : Nat) (hi : f i = none) {b : Nat} (hb : w.heap[b]? = some (m i)) {e : Ending} {y' : World} (hc : ClM y b e y') : PyPost w p b1 b2 b3 m f i e y' := by
  obtain ⟨rfl, es, cl, h1, rfl⟩ := hc
  have h2 := (h.bl.block b (blk_lt hb)).trans hb
  rw [h1] at h2
  rw [Option.some.inj h2]
  have h3 := h.step i hi
  exact ⟨_, rfl, hid h3⟩
section
variable {Z : Nat → Prop} {W : List (Int × Int)} {R : List Int}
set_option maxHeartbeats 4000000 in
theorem pcopy (h : Pq Z w p b1 b2 b3 W R) : Calls Try.prog 52 #[.pointer (some ⟨p, 0, none⟩)] w fun e w' => ∃ c c1 c2 c3, e = .returned (.pointer (some ⟨c, 0, none⟩)) ∧ Pq (fun q => q < w.heap.size) w' c c1 c2 c3 W R ∧ Below w.heap.size w w' := by
  obtain ⟨g1, q1, r1⟩ := h.m1
  obtain ⟨g2, q2, r2⟩ := h.m2
  obtain ⟨g3, q3, r3⟩ := h.m3
  obtain ⟨es1, k1, e1, x1⟩ := q1.h
  obtain ⟨es2, k2, e2, x2⟩ := q2.h
  obtain ⟨es3, k3, e3, x3⟩ := q3.h
  obtain ⟨m, hm⟩ : ∃ m : Nat → Obj, m = fun i => if i = 1 then .map es1 k1 else if i = 2 then .map es2 k2 else .map es3 k3 := ⟨_, rfl⟩
  have m1 : m 1 = .map es1 k1 := by rw [hm]; rfl
  have m2 : m 2 = .map es2 k2 := by rw [hm]; rfl
  have m3 : m 3 = .map es3 k3 := by rw [hm]; rfl
  have C0 : Hid (Cy w p b1 b2 b3 m w (fun _ => none)) := hid ⟨Below.refl _ _, fun i c h => by simp at h, fun i j c h => by simp at h, h.box⟩
  have A1 := hid (fun y (hc : Cy w p b1 b2 b3 m y (fun _ => none)) => (clone1 b1 es1 k1 y ((hc.bl.block b1 (blk_lt e1)).trans e1)).mono fun e y' hh => hc.post 1 rfl (by rw [m1]; exact e1) hh)
  have A2 := hid (fun y c (hc : Cy w p b1 b2 b3 m y (upc (fun _ => none) 1 c)) => (clone2 b2 es2 k2 y ((hc.bl.block b2 (blk_lt e2)).trans e2)).mono fun e y' hh => hc.post 2 rfl (by rw [m2]; exact e2) hh)
  have A3 := hid (fun y c d (hc : Cy w p b1 b2 b3 m y (upc (upc (fun _ => none) 1 c) 2 d)) => (clone3 b3 es3 k3 y ((hc.bl.block b3 (blk_lt e3)).trans e3)).mono fun e y' hh => hc.post 3 rfl (by rw [m3]; exact e3) hh)
  have FIN := hid (show ∀ y f c1 c2 c3, Cy w p b1 b2 b3 m y f → f 1 = some c1 → f 2 = some c2 → f 3 = some c3 → Pq (fun q => q < w.heap.size) (y.alloc (.cells #[.map (some c1), .map (some c2), .map (some c3)] 105)) y.heap.size c1 c2 c3 W R ∧ Below w.heap.size w (y.alloc (.cells #[.map (some c1), .map (some c2), .map (some c3)] 105)) from fun y f c1 c2 c3 hc f1 f2 f3 => by
    obtain ⟨a1, s1⟩ := hc.g 1 c1 f1
    obtain ⟨a2, s2⟩ := hc.g 2 c2 f2
    obtain ⟨a3, s3⟩ := hc.g 3 c3 f3
    have l1 := blk_lt a1
    have l2 := blk_lt a2
    have l3 := blk_lt a3
    rw [m1] at a1
    rw [m2] at a2
    rw [m3] at a3
    have n12 : c1 ≠ c2 := fun e => by subst e; have := hc.inj 1 2 _ f1 f2; omega
    have n13 : c1 ≠ c3 := fun e => by subst e; have := hc.inj 1 3 _ f1 f3; omega
    have n23 : c2 ≠ c3 := fun e => by subst e; have := hc.inj 2 3 _ f2 f3; omega
    have hb := hc.bl.size
    exact ⟨⟨heap_alloc_new _ _, ⟨g1, ⟨es1, k1, (Below.heap_alloc _ _ _ l1).trans a1, x1⟩, r1⟩, ⟨g2, ⟨es2, k2, (Below.heap_alloc _ _ _ l2).trans a2, x2⟩, r2⟩, ⟨g3, ⟨es3, k3, (Below.heap_alloc _ _ _ l3).trans a3, x3⟩, r3⟩, h.n1, h.n2, h.n3, ⟨by omega, by omega, by omega, n12, n13, n23⟩, ⟨by omega, by omega, by omega, by omega⟩⟩, hc.bl.alloc hb _⟩)
  have y0 : w.cell? ⟨p, 0, none⟩ = some (.map (some b1)) := blk_cell h.box rfl
  have y1 : w.cell? ⟨p, 1, none⟩ = some (.map (some b2)) := blk_cell h.box rfl
  have y2 : w.cell? ⟨p, 2, none⟩ = some (.map (some b3)) := blk_cell h.box rfl
  have CD := hid C0.out.drew
  have SD := hid C0.out.sx
  clear q1 r1 q2 r2 q3 r3 e1 x1 e2 x2 e3 x3 hm m1 m2 m3 h
  go_enter Try.func52, Try.ntmps52
  go_wp2_with fail
  go_region_held3 (fun y => y.cell? ⟨p, 0, none⟩ = some (.map (some b1)) ∧ y.cell? ⟨p, 1, none⟩ = some (.map (some b2)) ∧ y.cell? ⟨p, 2, none⟩ = some (.map (some b3)))
    (first
      | exact D3.out.sxa _
      | exact D3.out.sx
      | exact D2.out.sx
      | exact D1.out.sx
      | exact CD.out.sx
      | exact SD.out)
    (first
      | (go_at_call 65; (with_reducible refine (A1.out _ CD.out).mono ?_); rintro e z1 ⟨c1, rfl, D1⟩)
      | (go_at_call 66; (with_reducible refine (A2.out _ _ D1.out).mono ?_); rintro e z2 ⟨c2, rfl, D2⟩)
      | (go_at_call 67; (with_reducible refine (A3.out _ _ _ D2.out).mono ?_); rintro e z3 ⟨c3, rfl, D3⟩))
  all_goals
    have F := hid (FIN.out z3 _ c1 c2 c3 D3.out rfl rfl rfl)
    clear D1 D2 D3 CD C0 SD A1 A2 A3 FIN
    go_wp2
    go_ret
    exact ⟨_, _, _, _, rfl, F.out⟩
end
end Go.Proofs.Ytaogpodncphpjaa
