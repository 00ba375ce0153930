/- The walk of the statement EventRight: the law answers true and turns nothing that was there. -/
import Derived.Test.YtlahinefnhfifaaDoorEvent2
import Derived.Deep.RegionHeld3
import Derived.Laws.Rows
namespace Go.Proofs.YtlahinefnhfifaaDoor.eventRight
open Go.RowKit
set_option linter.unusedVariables false
set_option linter.unusedSimpArgs false

/-- A kind's name; of what is none: nothing. -/
def evNm (k : Int) : ByteArray := if 0 ≤ k ∧ k < 8 then evName0 k.toNat else { data := #[] }
theorem ename_any (k : Int) (w : World) (T2 : EvNames w) : Calls Tryd.prog 21 #[.int .i64 k] w fun e w' => e = .returned (.string (evNm k)) ∧ w = w' := by
  by_cases h : 0 ≤ k ∧ k < 8
  · obtain ⟨j, rfl⟩ : ∃ j : Nat, k = j := ⟨k.toNat, by omega⟩
    rw [show evNm j = evName0 j by unfold evNm; rw [if_pos h]; rfl]
    exact ename_in j w T2 (by omega)
  · rw [show evNm k = { data := #[] } by unfold evNm; rw [if_neg h]]
    exact ename_out k w (by omega)
theorem rename_any (k : Int) (w : World) : Calls Tryd.prog 22 #[.int .i64 k] w fun e w' => e = .returned (.string (evNm k)) ∧ w = w' := by
  by_cases h : 0 ≤ k ∧ k < 8
  · obtain ⟨j, rfl⟩ : ∃ j : Nat, k = j := ⟨k.toNat, by omega⟩
    rw [show evNm j = evName0 j by unfold evNm; rw [if_pos h]; rfl]
    exact rename_in j w (by omega)
  · rw [show evNm k = { data := #[] } by unfold evNm; rw [if_neg h]]
    exact rename_out k w (by omega)
/-- A kind's step. -/
def evFrom (k : Int) : Int := if 0 ≤ k ∧ k < 8 then evStep0 k.toNat else 0
def evTo (k : Int) : Int := if 0 ≤ k ∧ k < 8 then evStep1 k.toNat else 0
def evIs (k : Int) : Bool := decide (0 ≤ k ∧ k < 8)
theorem evStep_small (k : Nat) (hk : k < 8) : (0 ≤ evStep0 k ∧ evStep0 k ≤ 6) ∧ (0 ≤ evStep1 k ∧ evStep1 k ≤ 6) :=
  match k, hk with
  | 0, _ | 1, _ | 2, _ | 3, _ | 4, _ | 5, _ | 6, _ | 7, _ => by decide
theorem evStep_b (k : Int) : (0 ≤ evFrom k ∧ evFrom k ≤ 6) ∧ (0 ≤ evTo k ∧ evTo k ≤ 6) := by
  unfold evFrom evTo
  by_cases h : 0 ≤ k ∧ k < 8
  · rw [if_pos h, if_pos h]; exact evStep_small _ (by omega)
  · rw [if_neg h, if_neg h]; omega
theorem esteps_any (k g m p v : Int) (w : World) (T2 : EvNames w) (T3 : EvSteps w) : Calls Tryd.prog 16 #[.agg #[.int .i64 k, .int .i64 g, .int .i64 m, .int .i64 p, .int .i64 v]] w fun e w' => e = .returned (.tuple #[.int .u64 (evFrom k), .int .u64 (evTo k), .bool (evIs k)]) ∧ Below w.heap.size w w' := by
  by_cases h : 0 ≤ k ∧ k < 8
  · obtain ⟨j, rfl⟩ : ∃ j : Nat, k = j := ⟨k.toNat, by omega⟩
    rw [show evFrom j = evStep0 j by unfold evFrom; rw [if_pos h]; rfl, show evTo j = evStep1 j by unfold evTo; rw [if_pos h]; rfl, show evIs j = true from decide_eq_true h]
    exact esteps_in j g m p v w T2 T3 (by omega)
  · rw [show evFrom k = 0 by unfold evFrom; rw [if_neg h], show evTo k = 0 by unfold evTo; rw [if_neg h], show evIs k = false from decide_eq_false h]
    exact esteps_out k g m p v w (by omega)
theorem rsteps_any (k : Int) (w : World) : Calls Tryd.prog 17 #[.int .i64 k] w fun e w' => e = .returned (.tuple #[.int .i64 (evFrom k), .int .i64 (evTo k), .bool (evIs k)]) ∧ w = w' := by
  by_cases h : 0 ≤ k ∧ k < 8
  · obtain ⟨j, rfl⟩ : ∃ j : Nat, k = j := ⟨k.toNat, by omega⟩
    rw [show evFrom j = evStep0 j by unfold evFrom; rw [if_pos h]; rfl, show evTo j = evStep1 j by unfold evTo; rw [if_pos h]; rfl, show evIs j = true from decide_eq_true h]
    exact rsteps_in j w (by omega)
  · rw [show evFrom k = 0 by unfold evFrom; rw [if_neg h], show evTo k = 0 by unfold evTo; rw [if_neg h], show evIs k = false from decide_eq_false h]
    exact rsteps_out k w (by omega)

theorem lives15 (w : World) (T2 : EvNames w) (T3 : EvSteps w) : Calls Tryd.prog 15 #[] w fun e w' => e = .returned (.bool true) ∧ Below w.heap.size w w' := by
  have H2 := hid T2
  have H3 := hid T3
  clear T2 T3
  go_enter Tryd.func15, Tryd.ntmps15
  go_wp2_with fail
  refine (esteps_in 7 0 0 0 0 _ H2.out H3.out (by omega)).mono ?_
  rintro e w2 ⟨rfl, hb⟩
  simp only [evStep0, evStep1]
  go_wp2
  go_ret
  exact ⟨rfl, hb⟩

/-- What the last test asks of the world: the event's cells, the names, and that all older is as it was. -/
def Held (w0 : World) (b : Nat) (k g m p v : Int) (w : World) : Prop :=
  w.heap[b]? = some (.cells #[.int .i64 k, .int .i64 g, .int .i64 m, .int .i64 p, .int .i64 v] 36 (0, 0)) ∧ EvNames w ∧ Below w0.heap.size w0 w
theorem Held.step {w0 w w' : World} {b : Nat} {k g m p v : Int} (h : Held w0 b k g m p v w) (hb : Below w.heap.size w w') : Held w0 b k g m p v w' := by
  obtain ⟨h1, h2, h3⟩ := h
  have hlt : b < w.heap.size := by rw [Array.getElem?_eq_some_iff] at h1; exact h1.1
  exact ⟨by rw [hb.block b hlt]; exact h1, h2.at hb, h3.trans (hb.mono h3.size)⟩
theorem Held.cell {w0 w : World} {b : Nat} {k g m p v : Int} (h : Held w0 b k g m p v w) :
    w.cell? ⟨b, 0, none⟩ = some (.int .i64 k) ∧ w.cell? ⟨b, 1, none⟩ = some (.int .i64 g) ∧ w.cell? ⟨b, 2, none⟩ = some (.int .i64 m) ∧ w.cell? ⟨b, 3, none⟩ = some (.int .i64 p) ∧ w.cell? ⟨b, 4, none⟩ = some (.int .i64 v) := by
  simp [World.cell?, h.1]

def HeldS (w0 : World) (b : Nat) (k g m p v : Int) (w : World) : Prop :=
  w.cell? ⟨b, 0, none⟩ = some (.int .i64 k) ∧ w.cell? ⟨b, 1, none⟩ = some (.int .i64 g) ∧ w.cell? ⟨b, 2, none⟩ = some (.int .i64 m) ∧ w.cell? ⟨b, 3, none⟩ = some (.int .i64 p) ∧ w.cell? ⟨b, 4, none⟩ = some (.int .i64 v) ∧ Hid (Held w0 b k g m p v w)
theorem Held.all {w0 w : World} {b : Nat} {k g m p v : Int} (h : Held w0 b k g m p v w) : HeldS w0 b k g m p v w := by
  obtain ⟨c0, c1, c2, c3, c4⟩ := h.cell
  exact ⟨c0, c1, c2, c3, c4, h⟩
theorem Held.next {w0 w w' : World} {b : Nat} {k g m p v : Int} (hb : Below w.heap.size w w') (h : HeldS w0 b k g m p v w) : HeldS w0 b k g m p v w' := (h.2.2.2.2.2.out.step hb).all
theorem Held.drew {w0 w : World} {b : Nat} {k g m p v : Int} (h : Hid (Held w0 b k g m p v w)) : HeldS w0 b k g m p v w.drew := (h.out.step (Quiet.below ⟨1, rfl⟩ _)).all
theorem Held.names {w0 w : World} {b : Nat} {k g m p v : Int} (h : HeldS w0 b k g m p v w) : EvNames w := h.2.2.2.2.2.out.2.1

set_option maxHeartbeats 8000000 in
theorem walk (k g m p v : Int) (w : World) (w0 : (Lit.int .i64 k).wf = true) (w1 : (Lit.int .i64 g).wf = true) (w2 : (Lit.int .i64 m).wf = true) (w3 : (Lit.int .i64 p).wf = true) (w4 : (Lit.int .i64 v).wf = true) (T2 : EvNames w) (T3 : EvSteps w) :
    Calls Tryd.prog 5 #[.agg #[.int .i64 k, .int .i64 g, .int .i64 m, .int .i64 p, .int .i64 v]] w fun e w' => e = .returned (.bool true) ∧ Below w.heap.size w w' := by
  have HH := hid (show Held w w.heap.size k g m p v (w.alloc (.cells #[.int .i64 k, .int .i64 g, .int .i64 m, .int .i64 p, .int .i64 v] 36)) from
    ⟨heap_alloc_new _ _, T2.at ((Below.refl w.heap.size w).alloc (Nat.le_refl _) _), (Below.refl _ _).alloc (Nat.le_refl _) _⟩)
  have H3 := hid (T3.at ((Below.refl w.heap.size w).alloc (Nat.le_refl _) (.cells #[.int .i64 k, .int .i64 g, .int .i64 m, .int .i64 p, .int .i64 v] 36)))
  have SB := hid (evStep_b k)
  clear T2 T3 w0 w1 w2 w3 w4
  go_enter Tryd.func5, Tryd.ntmps5
  go_wp2_with fail
  obtain ⟨b, hb⟩ : ∃ b, b = w.heap.size := ⟨_, rfl⟩
  refine (lives15 _ HH.out.2.1 H3.out).mono ?_
  rintro e x1 ⟨rfl, hx1⟩
  have HH1 := hid (HH.out.step hx1)
  have HT1 := hid (H3.out.at hx1)
  clear hx1 HH H3
  rw [← hb] at HH1 ⊢
  obtain ⟨c0, c1, c2, c3, c4⟩ := HH1.out.cell
  clear hb
  go_wp2_with fail
  refine (esteps_any k g m p v _ HH1.out.2.1 HT1.out).mono ?_
  rintro e x2 ⟨rfl, hx2⟩
  have HH2 := hid (HH1.out.step hx2)
  clear hx2 HH1 HT1 c0 c1 c2 c3 c4
  obtain ⟨c0, c1, c2, c3, c4⟩ := HH2.out.cell
  go_wp2_with fail
  refine (rsteps_any k _).mono ?_
  rintro e x3 ⟨rfl, rfl⟩
  have e1 : IntKind.i64.wrap (evFrom k) = evFrom k := IntWalk.i64_in _ (by have := SB.out; omega)
  have e2 : IntKind.i64.wrap (evTo k) = evTo k := IntWalk.i64_in _ (by have := SB.out; omega)
  generalize evFrom k = ef at e1 ⊢
  generalize evTo k = et at e2 ⊢
  generalize evIs k = ei at ⊢
  have R1 := hid (fun w => right_any k g m p v w)
  have R2 := hid (fun w => rright_any k g m p v w)
  have R3 := hid (fun w => ref_any k g m p v w)
  have R4 := hid (fun w T => ename_any k w T)
  have R5 := hid (fun w => rename_any k w)
  generalize evRight k g m p v = rb at R1 R2
  generalize evNm k = nm at R4 R5
  have hnm := txt_eq nm
  go_wp2_with fail
  clear c0 c1 c2 c3 c4
  go_region_held3 (fun w' => w'.cell? ⟨b, 0, none⟩ = some (.int .i64 k) ∧ w'.cell? ⟨b, 1, none⟩ = some (.int .i64 g) ∧ w'.cell? ⟨b, 2, none⟩ = some (.int .i64 m) ∧ w'.cell? ⟨b, 3, none⟩ = some (.int .i64 p) ∧ w'.cell? ⟨b, 4, none⟩ = some (.int .i64 v) ∧ Hid (Held w b k g m p v w'))
    (first
      | assumption
      | (exact Held.drew HH2)
      | (exact Held.next (by assumption) (by assumption)))
    (first
      | (go_at_call 18; refine (R1.out _).mono ?_; rintro e y ⟨rfl, hy⟩)
      | (go_at_call 19; refine (R2.out _).mono ?_; rintro e y ⟨rfl, hy⟩)
      | (go_at_call 20; refine (R3.out _).mono ?_; rintro e y ⟨rfl, hy⟩)
      | (go_at_call 21; refine (R4.out _ (Held.names (by assumption))).mono ?_; rintro e y ⟨rfl, rfl⟩)
      | (go_at_call 22; refine (R5.out _).mono ?_; rintro e y ⟨rfl, rfl⟩))
  all_goals
    have FIN := hid (show HeldS w b k g m p v _ by assumption)
    have FB := hid (FIN.out.2.2.2.2.2.out.2.2)
    go_wp2
    go_ret
    exact ⟨rfl, FB.out⟩
end Go.Proofs.YtlahinefnhfifaaDoor.eventRight
