/- The document's source by value: Tick; what a deed that hands a source back leaves. -/
import Derived.Test.YtaogpodncphpjaaRef12B
namespace Go.Proofs.Ytaogpodncphpjaa
set_option linter.unusedVariables false
set_option linter.unusedSimpArgs false
open Go.RowKit
/-- The box and the result's cells. -/
structure K12 (w y : World) (cs : Array Value) : Prop where
  below : Below w.heap.size w y
  box : y.heap[w.heap.size]? = some (.cells cs 35 (0, 0))
  res : y.heap[w.heap.size + 1]? = some (.cells sz 35 (0, 0))
  size : w.heap.size + 2 ≤ y.heap.size
theorem K12.start (w : World) (cs : Array Value) : K12 w ((w.alloc (.cells cs 35)).alloc (.cells sz 35)) cs :=
  ⟨((Below.refl w.heap.size w).alloc (Nat.le_refl _) _).alloc (by simp) _, heap_alloc2_old w _ _, heap_alloc2_new w _ _, by simp⟩
theorem K12.mono {w y y' : World} {cs : Array Value} (h : K12 w y cs) (hb : Below y.heap.size y y') : K12 w y' cs :=
  ⟨h.below.trans (hb.mono h.below.size), (hb.block _ (by have := h.size; omega)).trans h.box, (hb.block _ (by have := h.size; omega)).trans h.res, by have := h.size; have := hb.size; omega⟩
theorem K12.set {w y : World} {cs cs' : Array Value} (h : K12 w y cs) (i : Nat) (v : Value) (hc : cs.setIfInBounds i v = cs') : K12 w (y.setCell ⟨w.heap.size, i, none⟩ v) cs' :=
  ⟨h.below.setCell (p := ⟨w.heap.size, i, none⟩) (Nat.le_refl _) v, blk_set v h.box hc, (heap_setCell_other _ _ _ _ (by simp)).trans h.res, by simpa using h.size⟩
def P12 (w : World) (vL vW vS : Value) (now : Int) (n o : Nat) (D : List Tr) (V : List (Int × Int)) (S : List Int) (rs : List Value) (e : Ending) (w' : World) : Prop :=
  ∃ vL' vW' vS', e = .returned (.tuple (.agg (sx now n vL' o vW' vS') :: rs).toArray) ∧ D12 w' vL' vW' vS' D V S ∧ Below w.heap.size w w' ∧ (∀ q, vL'.ownBlock = some q → vL.ownBlock = some q ∨ (w.heap.size ≤ q ∧ q < w'.heap.size)) ∧ (∀ q, vW'.ownBlock = some q → vW.ownBlock = some q ∨ (w.heap.size ≤ q ∧ q < w'.heap.size)) ∧ (∀ q, vS'.ownBlock = some q → vS.ownBlock = some q ∨ (w.heap.size ≤ q ∧ q < w'.heap.size))
theorem Dp.keepL {w w' : World} {vW vS : Value} {V : List (Int × Int)} {S : List Int} (h : Dp w vW vS V S) (hs : w.heap.size ≤ w'.heap.size) (h1 : ∀ q, vW.ownBlock = some q → w'.heap[q]? = w.heap[q]?) (h2 : ∀ q, vS.ownBlock = some q → w'.heap[q]? = w.heap[q]?) : Dp w' vW vS V S := h.keep hs h1 h2
theorem D12.row {w : World} {vL vW vS : Value} {D : List Tr} {V : List (Int × Int)} {S : List Int} (h : D12 w vL vW vS D V S) (g : Nat) (cs : Array Value) (k1 : ∀ q, vL.ownBlock = some q → q ≠ g) (k2 : ∀ q, vW.ownBlock = some q → q ≠ g) (k3 : ∀ q, vS.ownBlock = some q → q ≠ g) : D12 (w.setRow g cs) vL vW vS D V S := by
  have hs : (w.setRow g cs).heap.size = w.heap.size := row_size _ _ _
  exact ⟨h.dt.keep (by omega) (fun q _ hq _ => row_other _ _ _ _ (k1 q hq)), h.dp.keep (by omega) (fun q hq => row_other _ _ _ _ (k2 q hq)) (fun q hq => row_other _ _ _ _ (k3 q hq)), fun q hq => by rw [hs]; exact h.oL q hq, fun q hq => by rw [hs]; exact h.oW q hq, fun q hq => by rw [hs]; exact h.oS q hq, h.gv, h.nd⟩
theorem D12.cell {w : World} {vL vW vS : Value} {D : List Tr} {V : List (Int × Int)} {S : List Int} (h : D12 w vL vW vS D V S) (g i : Nat) (v : Value) (k1 : ∀ q, vL.ownBlock = some q → q ≠ g) (k2 : ∀ q, vW.ownBlock = some q → q ≠ g) (k3 : ∀ q, vS.ownBlock = some q → q ≠ g) : D12 (w.setCell ⟨g, i, none⟩ v) vL vW vS D V S := by
  have hs : (w.setCell ⟨g, i, none⟩ v).heap.size = w.heap.size := by simp
  have ho : ∀ q, q ≠ g → (w.setCell ⟨g, i, none⟩ v).heap[q]? = w.heap[q]? := fun q hq => heap_setCell_other _ _ _ _ (by simpa using hq)
  exact ⟨h.dt.keep (by omega) (fun q _ hq _ => ho _ (k1 q hq)), h.dp.keep (by omega) (fun q hq => ho _ (k2 q hq)) (fun q hq => ho _ (k3 q hq)), fun q hq => by rw [hs]; exact h.oL q hq, fun q hq => by rw [hs]; exact h.oW q hq, fun q hq => by rw [hs]; exact h.oS q hq, h.gv, h.nd⟩
section
variable {w y : World} {now : Int} {n o : Nat} {vL vW vS vL0 vW0 vS0 : Value} {D : List Tr} {V : List (Int × Int)} {S : List Int}
/-- Where the three lie: in the old blocks, or behind the box and the result. -/
def Aft (w y : World) (v v0 : Value) : Prop := ∀ q, v.ownBlock = some q → v0.ownBlock = some q ∨ (w.heap.size + 2 ≤ q ∧ q < y.heap.size)
theorem Aft.refl (w y : World) (v : Value) : Aft w y v v := fun q hq => .inl hq
theorem Aft.mono {w y y' : World} {v v0 : Value} (h : Aft w y v v0) (hs : y.heap.size ≤ y'.heap.size) : Aft w y' v v0 := fun q hq => (h q hq).imp id fun h => ⟨h.1, by omega⟩
theorem Aft.ne {w y : World} {v v0 : Value} (h : Aft w y v v0) (h0 : ∀ q, v0.ownBlock = some q → q < w.heap.size) {g : Nat} (h1 : w.heap.size ≤ g) (h2 : g < w.heap.size + 2) : ∀ q, v.ownBlock = some q → q ≠ g := fun q hq => by
  rcases h q hq with e | e
  · have := h0 q e; omega
  · omega
/-- What the last store leaves. -/
theorem K12.fin (h : K12 w y (sx now n vL o vW vS)) (hd : D12 y vL vW vS D V S) (rs : List Value) (h0 : (∀ q, vL0.ownBlock = some q → q < w.heap.size) ∧ (∀ q, vW0.ownBlock = some q → q < w.heap.size) ∧ (∀ q, vS0.ownBlock = some q → q < w.heap.size))
    (k1 : Aft w y vL vL0) (k2 : Aft w y vW vW0) (k3 : Aft w y vS vS0) :
    P12 w vL0 vW0 vS0 now n o D V S rs (.returned (.tuple (.agg (sx now n vL o vW vS) :: rs).toArray)) (y.setRow (w.heap.size + 1) (sx now n vL o vW vS)) := by
  have hs : (y.setRow (w.heap.size + 1) (sx now n vL o vW vS)).heap.size = y.heap.size := row_size _ _ _
  refine ⟨_, _, _, rfl, hd.row _ _ (k1.ne h0.1 (by omega) (by omega)) (k2.ne h0.2.1 (by omega) (by omega)) (k3.ne h0.2.2 (by omega) (by omega)), row_below h.below (by omega) _, ?_, ?_, ?_⟩
  · rw [hs]; exact fun q hq => (k1 q hq).imp id fun h => by omega
  · rw [hs]; exact fun q hq => (k2 q hq).imp id fun h => by omega
  · rw [hs]; exact fun q hq => (k3 q hq).imp id fun h => by omega
theorem K12.keep (h : K12 w y (sx now n vL o vW vS)) (hd : D12 w vL vW vS D V S) (rs : List Value) :
    P12 w vL vW vS now n o D V S rs (.returned (.tuple (.agg (sx now n vL o vW vS) :: rs).toArray)) (y.setRow (w.heap.size + 1) (sx now n vL o vW vS)) :=
  h.fin (hd.below h.below) rs ⟨hd.oL, hd.oW, hd.oS⟩ (.refl _ _ _) (.refl _ _ _) (.refl _ _ _)
/-- The sum, of the document's clock. -/
theorem rsum12 (t d : Int) (w : World) (ht : inI t) (hd : inI d) :
    Calls Try.prog 48 #[.int .i64 t, .int .i64 d] w fun e w' => e = .returned (.int .i64 (sat t d)) ∧ w' = w := by
  obtain ⟨t0, t1⟩ := ht
  obtain ⟨d0, d1⟩ := hd
  by_cases h1 : 0 < d
  · by_cases h2 : 9223372036854775807 - d < t
    all_goals
      go_enter Try.func48, Try.ntmps48
      go_wp2
      go_ret
      exact ⟨retI (by unfold sat; omega), rfl⟩
  · by_cases h3 : d < 0
    · by_cases h2 : t < -9223372036854775808 - d
      all_goals
        go_enter Try.func48, Try.ntmps48
        go_wp2
        go_ret
        exact ⟨retI (by unfold sat; omega), rfl⟩
    · go_enter Try.func48, Try.ntmps48
      go_wp2
      go_ret
      exact ⟨retI (by unfold sat; omega), rfl⟩
/-- What Tick hands back is no tuple. -/
def T12 (w : World) (vL vW vS : Value) (now : Int) (n o : Nat) (D : List Tr) (V : List (Int × Int)) (S : List Int) (e : Ending) (w' : World) : Prop :=
  e = .returned (.agg (sx now n vL o vW vS)) ∧ D12 w' vL vW vS D V S ∧ Below w.heap.size w w'
set_option maxHeartbeats 4000000 in
theorem rtick12 (h : D12 w vL vW vS D V S) (d : Int) (ht : inI now) (hd : inI d) :
    Calls Try.prog 24 #[.agg (sx now n vL o vW vS), .int .i64 d] w (T12 w vL vW vS (sat now (max d 0)) n o D V S) := by
  obtain ⟨aL, nL, cL, aW, nW, cW, aS, nS, cS, rfl, rfl, rfl, _, _, _, _, _, _⟩ := h.sl
  obtain ⟨w0, hw0⟩ : ∃ w0, w0 = (w.alloc (.cells (sx now n (.slice aL nL cL) o (.slice aW nW cW) (.slice aS nS cS)) 35)).alloc (.cells sz 35) := ⟨_, rfl⟩
  have K := hid (show K12 w w0 (sx now n (.slice aL nL cL) o (.slice aW nW cW) (.slice aS nS cS)) by rw [hw0]; exact K12.start w _)
  have H := hid h
  have A := hid (show ∀ x, x = max d 0 → Calls Try.prog 48 #[.int .i64 now, .int .i64 x] w0 fun e w' => e = .returned (.int .i64 (sat now (max d 0))) ∧ w' = w0 from fun x hx => by rw [hx]; exact rsum12 now (max d 0) w0 ht (by unfold inI at *; omega))
  generalize sat now (max d 0) = m at *
  have b0 := blk_cell K.out.box (i := 0) rfl
  have f0 := blk_free K.out.box (i := 0)
  have K2 := hid (K.out.set (cs' := sx m n (.slice aL nL cL) o (.slice aW nW cW) (.slice aS nS cS)) 0 (.int .i64 m) rfl)
  have FIN := hid (show T12 w (.slice aL nL cL) (.slice aW nW cW) (.slice aS nS cS) m n o D V S (.returned (.agg (sx m n (.slice aL nL cL) o (.slice aW nW cW) (.slice aS nS cS)))) ((w0.setCell ⟨w.heap.size, 0, none⟩ (.int .i64 m)).setRow (w.heap.size + 1) (sx m n (.slice aL nL cL) o (.slice aW nW cW) (.slice aS nS cS))) from by
    obtain ⟨_, _, _, he, hd', hb, _⟩ := K2.out.keep h []
    refine ⟨rfl, ?_, hb⟩
    injection he with he; injection he with he; simp at he
    obtain ⟨rfl, rfl, rfl⟩ := he
    exact hd')
  clear h ht hd
  go_enter Try.func24, Try.ntmps24
  go_wp2_with fail
  all_goals
    rw [← hw0]
    refine (A.out _ (by omega)).mono ?_
    rintro e w2 ⟨rfl, rfl⟩
    clear hw0
    go_wp2_with (first
      | (refine wpList_load_known (by rfl) 35 (.tmp 2) rfl w.heap.size rfl 35 (sx m n (.slice aL nL cL) o (.slice aW nW cW) (.slice aS nS cS)) (0, 0) _ K2.out.box Try.underlying35 rfl (by kernel_rfl) ?_)
      | (refine wpList_store_row rfl 35 (.tmp 4) (.tmp 11) rfl (w.heap.size + 1) (sx m n (.slice aL nL cL) o (.slice aW nW cW) (.slice aS nS cS)) rfl rfl 35 _ K2.out.res (by kernel_rfl) (by rfl) (by simp [Value.oneCell']) ?_))
    exact bodyPost_ret (results_cell_row rfl _ _ (w.heap.size + 1) 35 (sx m n (.slice aL nL cL) o (.slice aW nW cW) (.slice aS nS cS)) (0, 0) _ (by rfl) (setRow_heap _ _ _ _ _ _ K2.out.res) Try.underlying35 rfl (by kernel_rfl)) rfl FIN.out
end
end Go.Proofs.Ytaogpodncphpjaa
