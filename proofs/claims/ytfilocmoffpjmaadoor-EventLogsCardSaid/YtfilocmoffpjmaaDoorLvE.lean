/- EventLogs: the log beside the document's row; what stands between two events. -/
import Derived.Test.YtfilocmoffpjmaaDoorSameE
import Derived.Test.YtfilocmoffpjmaaDoorLives15
namespace Go.Proofs.YtfilocmoffpjmaaDoor
open Go.RowKit
set_option linter.unusedVariables false
set_option linter.unusedSimpArgs false
/-- Those that may be. -/
def rgE (es : List Ev) : List Ev := es.filter fun e => evRight e.1 e.2.1 e.2.2.1 e.2.2.2.1 e.2.2.2.2
theorem rgE_snoc (es : List Ev) (e : Ev) : rgE (es ++ [e]) = rgE es ++ (if evRight e.1 e.2.1 e.2.2.1 e.2.2.2.1 e.2.2.2.2 = true then [e] else []) := by
  unfold rgE
  rw [List.filter_append]
  by_cases h : evRight e.1 e.2.1 e.2.2.1 e.2.2.2.1 e.2.2.2.2 = true
  · simp [List.filter, h]
  · rw [Bool.not_eq_true] at h
    simp [List.filter, h]
theorem rgE_le (es : List Ev) : (rgE es).length ≤ es.length := List.length_filter_le ..
theorem own_blkE {w : World} {base size n : Nat} {t : TypeId} {v : Value} {xs : List Value} (h : w.ownsRow base t size v n xs) : ∀ q, v.ownBlock = some q → ∃ cur, w.heap[q]? = some (.cells cur t (0, 0)) := fun q hq => by
  obtain ⟨_, ⟨rfl, _⟩ | ⟨g, cap, cur, rfl, _, hg, _⟩⟩ := h
  · simp [Value.ownBlock] at hq
  · simp [Value.ownBlock] at hq
    subst hq
    exact ⟨cur, hg⟩
theorem own_keptE {w w' : World} {base size n : Nat} {t : TypeId} {v : Value} {xs : List Value} (h : w.ownsRow base t size v n xs) (hk : ∀ q, v.ownBlock = some q → w'.heap[q]? = w.heap[q]?) : w'.ownsRow base t size v n xs := by
  obtain ⟨h0, h1 | ⟨q, cap, cur, h1, h2, h3, h4⟩⟩ := h
  · exact ⟨h0, .inl h1⟩
  · exact ⟨h0, .inr ⟨q, cap, cur, h1, h2, (hk q (by rw [h1]; rfl)).trans h3, h4⟩⟩
structure LvE (w : World) (X : Nat) (eL eD : List Ev) (nL nD : Nat) (vL vD : Value) (y : World) : Prop where
  box : y.heap[X]? = some (.cells #[vL] 25 (0, 0))
  lg : Lg y w.heap.size vL nL (fe eL)
  dc : y.ownsRow w.heap.size 32 5 vD nD (fe eD)
  lL : eL.length = nL
  lD : eD.length = nD
  bl : Below w.heap.size w y
  ge : w.heap.size ≤ X
section
variable {w y y' : World} {X nL nD : Nat} {eL eD : List Ev} {vL vD : Value}
theorem LvE.lt (h : LvE w X eL eD nL nD vL vD y) : X < y.heap.size := blk_lt h.box
theorem LvE.below (h : LvE w X eL eD nL nD vL vD y) (hb : Below y.heap.size y y') : LvE w X eL eD nL nD vL vD y' :=
  ⟨(hb.block X h.lt).trans h.box, h.lg.kept (fun q hq => hb.block q (h.lg.lt q hq).2), own_keptE h.dc (fun q hq => hb.block q (World.ownsRow.lt h.dc q hq).2), h.lL, h.lD, h.bl.trans (hb.mono h.bl.size), h.ge⟩
theorem LvE.neX (h : LvE w X eL eD nL nD vL vD y) : vL.ownBlock ≠ some X ∧ vD.ownBlock ≠ some X ∧ ∀ q, vD.ownBlock = some q → vL.ownBlock ≠ some q := by
  refine ⟨fun e => ?_, fun e => ?_, fun q hq e => ?_⟩
  · obtain ⟨cur, hc⟩ := own_blkE h.lg.own X e
    have := h.box.symm.trans hc
    simp at this
  · obtain ⟨cur, hc⟩ := own_blkE h.dc X e
    have := h.box.symm.trans hc
    simp at this
  · obtain ⟨cur, hc⟩ := own_blkE h.dc q hq
    obtain ⟨cur', hc'⟩ := own_blkE h.lg.own q e
    have := hc.symm.trans hc'
    simp at this
theorem LvE.rdL (h : LvE w X eL eD nL nD vL vD y) : RdE y vL eL := own_rdE (by rw [h.lL]; exact h.lg.own)
theorem LvE.rdD (h : LvE w X eL eD nL nD vL vD y) : RdE y vD eD := own_rdE (by rw [h.lD]; exact h.dc)
theorem LvE.cell (h : LvE w X eL eD nL nD vL vD y) : y.cell? ⟨X, 0, none⟩ = some vL := blk_cell h.box rfl
theorem fe_one (e : Ev) : fe [e] = [.int .i64 e.1, .int .i64 e.2.1, .int .i64 e.2.2.1, .int .i64 e.2.2.2.1, .int .i64 e.2.2.2.2] := by simp [fe, evc]
/-- The program's Add. -/
theorem LvE.add (h : LvE w X eL eD nL nD vL vD y) (e : Ev) (hp : LogP X 0 w.heap.size vL nL (fe eL) e.1 e.2.1 e.2.2.1 e.2.2.2.1 e.2.2.2.2 y y') :
    (∃ v', LvE w X (eL ++ [e]) eD (nL + 1) nD v' vD y') ∧ y.heap.size ≤ y'.heap.size ∧ ∀ b, b < y.heap.size → b ≠ X → vL.ownBlock ≠ some b → y'.heap[b]? = y.heap[b]? := by
  obtain ⟨v', w4, rfl, hl, h1, h2, o1, o2, o3, hs, hk⟩ := hp
  obtain ⟨n1, n2, n3⟩ := h.neX
  have oth : ∀ b, b ≠ X → (w4.setCell ⟨X, 0, none⟩ v').heap[b]? = w4.heap[b]? := fun b hb => heap_setCell_other _ _ _ _ (by simpa using hb)
  have keep : ∀ b, b < y.heap.size → b ≠ X → vL.ownBlock ≠ some b → (w4.setCell ⟨X, 0, none⟩ v').heap[b]? = y.heap[b]? := fun b h1 h2 h3 => (oth b h2).trans (hk b h1 h3)
  refine ⟨⟨v', ?_, by rw [fe_app, fe_one]; exact hl, own_keptE h.dc (fun q hq => keep q (World.ownsRow.lt h.dc q hq).2 (fun e => n2 (e ▸ hq)) (n3 q hq)), by simp [h.lL], h.lD, ⟨?_, ?_, ?_, ?_, fun k hk2 => ?_⟩, h.ge⟩, by simpa using hs, keep⟩
  · exact blk_set v' ((hk X h.lt n1).trans h.box) rfl
  · exact o1.trans h.bl.os
  · exact o2.trans h.bl.tape
  · exact o3.trans h.bl.output
  · have := h.bl.size; simp; omega
  · have g1 := h.ge
    have g2 := h.bl.size
    exact (keep k (by omega) (by omega) (fun e => by have := (h.lg.lt k e).1; omega)).trans (h.bl.block k hk2)
/-- The document's append. -/
theorem LvE.app {v' : Value} (h : LvE w X eL eD nL nD vL vD y) (e : Ev) (ho : y'.ownsRow w.heap.size 32 5 v' (nD + 1) (fe eD ++ fe [e])) (hg : y.grownBy y' vD.ownBlock) : LvE w X eL (eD ++ [e]) nL (nD + 1) vL v' y' := by
  obtain ⟨n1, n2, n3⟩ := h.neX
  refine ⟨(hg.block X h.lt (fun e => n2 e.symm)).trans h.box, h.lg.kept (fun q hq => hg.block q (h.lg.lt q hq).2 (fun e => n3 q e.symm hq)), by rw [fe_app]; exact ho, h.lL, by simp [h.lD], h.bl.grown hg h.bl.size (fun q hq => (World.ownsRow.lt h.dc q hq).1), h.ge⟩
end
set_option maxHeartbeats 4000000 in
/-- What may not be isn't added. -/
theorem log_no (w : World) (p o : Nat) (k g m q x : Int) (hr : evRight k g m q x = false) :
    Calls Tryd.prog 7 #[.pointer (some ⟨p, o, none⟩), .agg #[.int .i64 k, .int .i64 g, .int .i64 m, .int .i64 q, .int .i64 x]] w fun e w' => e = .returned (.bool false) ∧ Below w.heap.size w w' := by
  have RA := hid (right_any k g m q x (w.alloc (.cells #[.int .i64 k, .int .i64 g, .int .i64 m, .int .i64 q, .int .i64 x] 29)))
  rw [hr] at RA
  have BX := hid (show Below w.heap.size w (w.alloc (.cells #[.int .i64 k, .int .i64 g, .int .i64 m, .int .i64 q, .int .i64 x] 29)) from (Below.refl _ _).alloc (Nat.le_refl _) _)
  clear hr
  go_enter Tryd.func7, Tryd.ntmps7
  go_wp2_with fail
  refine RA.out.mono ?_
  rintro e w2 ⟨rfl, hb2⟩
  have B2 := hid (BX.out.trans (hb2.mono BX.out.size))
  clear hb2 RA
  go_wp2
  go_ret
  exact ⟨rfl, B2.out⟩
end Go.Proofs.YtfilocmoffpjmaaDoor
