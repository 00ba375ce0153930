/- The document's source by value: Due, New. -/
import Derived.Test.YtaogpodncphpjaaRef12A
namespace Go.Proofs.Ytaogpodncphpjaa
set_option linter.unusedVariables false
set_option linter.unusedSimpArgs false
open Go.RowKit
/-- Is something due, as the document has it? -/
def due12 (now : Int) (D : List Tr) (V : List (Int × Int)) (S : List Int) : Bool := dueT D now || dueB V S
section
variable {w : World} {now : Int} {n o : Nat} {vL vW vS : Value} {D : List Tr} {V : List (Int × Int)} {S : List Int}
set_option maxHeartbeats 4000000 in
theorem rnew12 (m : Int) (k : Nat) (hk : clampT m = k) (w : World) : Calls Try.prog 6 #[.int .i64 m] w fun e w' => e = .returned (.agg (sx 0 k (.slice none 0 0) 0 (.slice none 0 0) (.slice none 0 0))) ∧ Below w.heap.size w w' := by
  obtain ⟨w0, hw0⟩ : ∃ w0, w0 = w.alloc (.cells sz 35) := ⟨_, rfl⟩
  have hb0 : Below w.heap.size w w0 := by rw [hw0]; exact (Below.refl w.heap.size w).alloc (Nat.le_refl _) _
  have K := hid (show w0.heap[w.heap.size]? = some (.cells sz 35 (0, 0)) by rw [hw0]; exact heap_alloc_new _ _)
  have hs0 : w0.heap.size = w.heap.size + 1 := by rw [hw0]; simp
  have B := hid hb0
  have A := hid (rtnew m w0)
  rw [show RnPost m w0 = fun e w' => e = .returned (.agg #[.int .i64 k, .slice none 0 0, .int .u64 0]) ∧ Below w0.heap.size w0 w' from by unfold RnPost; rw [hk]] at A
  clear hb0
  go_enter Try.func6, Try.ntmps6
  go_wp2_with fail
  rw [← hw0]
  refine A.out.mono ?_
  rintro e w2 ⟨rfl, hb2⟩
  have K2 := hid ((hb2.block w.heap.size (by omega)).trans K.out)
  have B2 := hid (B.out.trans (hb2.mono B.out.size))
  have FIN := hid (show Below w.heap.size w (w2.setRow w.heap.size (sx 0 k (.slice none 0 0) 0 (.slice none 0 0) (.slice none 0 0))) from row_below B2.out (Nat.le_refl _) _)
  clear hb2 hw0 hs0 A
  go_wp2_with (refine wpList_store_row rfl 35 (.tmp 2) (.tmp 5) rfl w.heap.size (sx 0 k (.slice none 0 0) 0 (.slice none 0 0) (.slice none 0 0)) rfl rfl 35 _ K2.out (by kernel_rfl) (by rfl) (by simp [Value.oneCell']) ?_)
  exact bodyPost_ret (results_cell_row rfl _ _ w.heap.size 35 (sx 0 k (.slice none 0 0) 0 (.slice none 0 0) (.slice none 0 0)) (0, 0) _ (by rfl) (setRow_heap _ _ _ _ _ _ K2.out) Try.underlying35 rfl (by kernel_rfl)) rfl ⟨rfl, FIN.out⟩
set_option maxHeartbeats 4000000 in
theorem rdue12 (h : D12 w vL vW vS D V S) (r : Bool) (hr : due12 now D V S = r) :
    Calls Try.prog 10 #[.agg (sx now n vL o vW vS)] w fun e w' => e = .returned (.bool r) ∧ Below w.heap.size w w' := by
  unfold due12 at hr
  obtain ⟨aL, nL, cL, aW, nW, cW, aS, nS, cS, rfl, rfl, rfl, _, _, _, _, _, _⟩ := h.sl
  obtain ⟨P, hP⟩ : ∃ P, P = w.heap.size := ⟨_, rfl⟩
  obtain ⟨w0, hw0⟩ : ∃ w0, w0 = w.alloc (.cells (sx now n (.slice aL nL cL) o (.slice aW nW cW) (.slice aS nS cS)) 35) := ⟨_, rfl⟩
  have hb0 : Below w.heap.size w w0 := by rw [hw0]; exact (Below.refl w.heap.size w).alloc (Nat.le_refl _) _
  have B := hid hb0
  have H := hid (h.below hb0)
  have hs0 : w0.heap.size = P + 1 := by rw [hw0, hP]; simp
  have K := hid (show w0.heap[P]? = some (.cells (sx now n (.slice aL nL cL) o (.slice aW nW cW) (.slice aS nS cS)) 35 (0, 0)) by rw [hw0, hP]; exact heap_alloc_new _ _)
  have HP := hid hP
  have G := hid (And.intro h.gv h.nd)
  clear h hb0
  go_enter Try.func10, Try.ntmps10
  go_wp2_with (refine wpList_load_mid rfl 29 (.tmp 11) rfl w.heap.size 1 rfl [.int .i64 n, .slice aL nL cL, .int .u64 o] _ (by rw [← hw0, ← hP]; exact range3 K.out rfl rfl rfl) Try.underlying29 rfl (by kernel_rfl) ?_)
  rw [← hw0]
  refine (rttake_all _ n o _ D H.out.dt now).mono ?_
  rintro e w2 ⟨v1, rfl, hd1, hb2, _⟩
  obtain ⟨y1, y2, y3⟩ := tkE D now
  have hs2 := hb2.size
  have K2 := hid ((hb2.block _ (by omega)).trans K.out)
  have B2 := hid (B.out.trans (hb2.mono B.out.size))
  have H2 := hid (H.out.dp.below hb2)
  obtain ⟨b1, hb1⟩ : ∃ b, b = dueT D now := ⟨_, rfl⟩
  rw [← hb1] at hr ⊢
  have HR := hid hr
  clear hb2 hw0 hP K H hr hb1
  obtain ⟨a1, n1, c1, rfl, _, _⟩ := hd1.sl
  have hb4 : Below w2.heap.size w2 ((((w2.alloc (.cells #[.int .i64 0, .slice none 0 0, .int .u64 0] 29)).alloc (.cells #[.int .i64 0, .int .u64 0, .int .i64 0] 51)).setRow w2.heap.size #[.int .i64 n, .slice a1 n1 c1, .int .u64 o]).setRow (w2.heap.size + 1) #[.int .i64 y1, .int .u64 y2, .int .i64 y3]) :=
    row_below (row_below (((Below.refl w2.heap.size w2).alloc (Nat.le_refl _) _).alloc (by simp) _) (Nat.le_refl _) _) (by omega) _
  have K4 := hid ((hb4.block P (by omega)).trans K2.out)
  have B4 := hid (B2.out.trans (hb4.mono B2.out.size))
  have H4 := hid (H2.out.below hb4)
  clear hb4
  go_wp2_with (first
    | (refine wpList_store_row rfl 29 (.tmp 3) (.tmp 16) rfl w2.heap.size #[.int .i64 n, .slice a1 n1 c1, .int .u64 o] rfl rfl 29 _ (heap_alloc2_old w2 _ _) (by kernel_rfl) (by rfl) (by simp [Value.oneCell']) ?_)
    | (refine wpList_store_row rfl 51 (.tmp 4) (.tmp 17) rfl (w2.heap.size + 1) #[.int .i64 y1, .int .u64 y2, .int .i64 y3] rfl rfl 51 _ ((row_other _ _ _ _ (by omega)).trans (heap_alloc2_new w2 _ _)) (by kernel_rfl) (by rfl) (by simp [Value.oneCell']) ?_)
    | (refine wpList_load_midw (by rfl) 33 (.tmp 20) rfl w.heap.size 4 rfl [.slice aW nW cW, .slice aS nS cS] _ (by rw [← HP.out]; exact range2 K4.out rfl rfl) Try.underlying33 rfl (by kernel_rfl) ?_))
  refine (rtake_all _ _ _ V S H4.out (fun e he => (G.out.1 e he).1) G.out.2).mono ?_
  rintro e w5 ⟨v2, v3, rfl, hd5, hb5, _, _⟩
  obtain ⟨z1, z2⟩ := tkP V S
  obtain ⟨a2, n2, c2, a3, n3, c3, rfl, rfl, _, _, _, _⟩ := hd5.sl
  have B5 := hid (B4.out.trans (hb5.mono B4.out.size))
  obtain ⟨b2, hb2⟩ : ∃ b, b = dueB V S := ⟨_, rfl⟩
  have HR := hid (show (b1 || b2) = r by rw [hb2]; exact HR.out)
  rw [← hb2]
  clear hb2 hb5 hd5 hd1 H4 H2 K4 K2 B4 B2 HP hs2
  have B6 := hid (show Below w.heap.size w ((w5.alloc (.cells #[.slice none 0 0, .slice none 0 0] 33)).setRow w5.heap.size #[.slice a2 n2 c2, .slice a3 n3 c3]) from row_below (B5.out.alloc B5.out.size _) B5.out.size _)
  rcases b1 with _ | _
  all_goals
    go_wp2_with (refine wpList_store_row rfl 33 (.tmp 6) (.tmp 23) rfl w5.heap.size #[.slice a2 n2 c2, .slice a3 n3 c3] rfl rfl 33 _ (heap_alloc_new w5 _) (by kernel_rfl) (by rfl) (by simp [Value.oneCell']) ?_)
    go_ret
    exact ⟨by rw [← HR.out]; rfl, B6.out⟩
end
end Go.Proofs.Ytaogpodncphpjaa
