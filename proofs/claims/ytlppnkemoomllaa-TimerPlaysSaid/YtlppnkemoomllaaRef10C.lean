/- The document's timers by value: Add that adds nothing. -/
import Derived.Test.YtlppnkemoomllaaRef10A
import Derived.Test.YtlppnkemoomllaaBig
namespace Go.Proofs.Ytlppnkemoomllaa
set_option linter.unusedVariables false
set_option linter.unusedSimpArgs false
open Go.RowKit
theorem results_row_tmp10 {P : Program} {fn : Func} {p u : Tmp} {ty : TypeId} (h : fn.results = #[.cell p ty, .tmp u]) (tmps : Array Value) (w : World) (g : Nat) (t : TypeId) (cs : Array Value) (fr : Nat × Nat) (d : TypeDesc)
    (hp : tmps.getD p undef = .pointer (some ⟨g, 0, none⟩)) (hg : w.heap[g]? = some (.cells cs t fr))
    (hu : P.underlying ty = some d) (hd : (match d with | .struct _ | .array _ _ => true | _ => false) = true) (hi : (P.info? ty).map (·.size) = some cs.size) (b : Value) (hb : tmps.getD u undef = b) :
    (results fn tmps).run P w = .ok (.tuple #[.agg cs, b]) w := by
  rw [results_cell_tmp h, hp, hb]
  simp [asAddr, run_loadVar_row w g t ty cs fr d hg hu hd hi, Result.andThen]
/-- What a deed of the document's hands back. -/
def DtPost (w : World) (v0 : Value) (D : List Tr) (N o er : Int) (e : Ending) (w' : World) : Prop :=
  ∃ v', e = .returned (.tuple #[.agg #[.int .i64 N, v', .int .u64 o], .int .i64 er]) ∧ Dt w' v' D ∧ Below w.heap.size w w' ∧ ∀ q, v'.ownBlock = some q → v0.ownBlock = some q ∨ (w.heap.size ≤ q ∧ q < w'.heap.size)
set_option maxHeartbeats 4000000 in
theorem rtadd_arg (w : World) (N o : Int) (v : Value) (D : List Tr) (h : Dt w v D) (p g x : Int) (hbad : p < 0 ∨ N ≤ p ∨ g < 0 ∨ 4095 < g) :
    Calls Try.prog 11 #[.agg #[.int .i64 N, v, .int .u64 o], .int .i64 p, .int .i64 g, .int .i64 x] w (DtPost w v D N o 1) := by
  obtain ⟨a, n, c, rfl, HN, lw⟩ := h.sl
  have hb0 := ((Below.refl w.heap.size w).alloc (Nat.le_refl _) (.cells #[.int .i64 N, .slice a n c, .int .u64 o] 29)).alloc (by simp) (.cells #[.int .i64 0, .slice none 0 0, .int .u64 0] 29)
  have B := hid hb0
  have K := hid (heap_alloc2_old w (.cells #[.int .i64 N, .slice a n c, .int .u64 o] 29) (.cells #[.int .i64 0, .slice none 0 0, .int .u64 0] 29))
  have R := hid (heap_alloc2_new w (.cells #[.int .i64 N, .slice a n c, .int .u64 o] 29) (.cells #[.int .i64 0, .slice none 0 0, .int .u64 0] 29))
  have HD := hid h
  clear h hb0
  obtain ⟨w1, hw1⟩ : ∃ w1, w1 = (w.alloc (.cells #[.int .i64 N, .slice a n c, .int .u64 o] 29)).alloc (.cells #[.int .i64 0, .slice none 0 0, .int .u64 0] 29) := ⟨_, rfl⟩
  rw [← hw1] at K R B
  have FIN := hid (show DtPost w (.slice a n c) D N o 1 (.returned (.tuple #[.agg #[.int .i64 N, .slice a n c, .int .u64 o], .int .i64 1])) (w1.setRow (w.heap.size + 1) #[.int .i64 N, .slice a n c, .int .u64 o]) from
    have BF := row_below B.out (show w.heap.size ≤ w.heap.size + 1 by omega) #[.int .i64 N, .slice a n c, .int .u64 o]
    ⟨_, rfl, HD.out.below BF, BF, fun q hq => .inl hq⟩)
  rw [hw1] at FIN K R
  have y0 := blk_cell K.out (i := 0) rfl
  clear HD B hw1
  by_cases h1 : p < 0
  · have d1 : decide (p < 0) = true := decide_eq_true h1
    go_enter Try.func11, Try.ntmps11
    go_wp2_with (first
      | (refine wpList_load_known (by rfl) 29 (.tmp 4) rfl w.heap.size rfl 29 #[.int .i64 N, .slice a n c, .int .u64 o] (0, 0) _ K.out Try.underlying29 rfl (by kernel_rfl) ?_)
      | (refine wpList_store_row rfl 29 (.tmp 8) (.tmp 26) rfl (w.heap.size + 1) #[.int .i64 N, .slice a n c, .int .u64 o] rfl rfl 29 _ R.out (by kernel_rfl) (by rfl) (by simp [Value.oneCell']) ?_))
    refine bodyPost_ret (v := .tuple #[.agg #[.int .i64 N, .slice a n c, .int .u64 o], .int .i64 1]) (results_row_tmp10 rfl _ _ (w.heap.size + 1) 29 #[.int .i64 N, .slice a n c, .int .u64 o] (0, 0) _ (by rfl) (setRow_heap _ _ _ _ _ _ R.out) Try.underlying29 rfl (by kernel_rfl) _ (by rfl)) rfl FIN.out
  have d1 : decide (p < 0) = false := decide_eq_false h1
  by_cases h2 : N ≤ p
  · have d2 : decide (N ≤ p) = true := decide_eq_true h2
    go_enter Try.func11, Try.ntmps11
    go_wp2_with (first
      | (refine wpList_load_known (by rfl) 29 (.tmp 4) rfl w.heap.size rfl 29 #[.int .i64 N, .slice a n c, .int .u64 o] (0, 0) _ K.out Try.underlying29 rfl (by kernel_rfl) ?_)
      | (refine wpList_store_row rfl 29 (.tmp 8) (.tmp 26) rfl (w.heap.size + 1) #[.int .i64 N, .slice a n c, .int .u64 o] rfl rfl 29 _ R.out (by kernel_rfl) (by rfl) (by simp [Value.oneCell']) ?_))
    refine bodyPost_ret (v := .tuple #[.agg #[.int .i64 N, .slice a n c, .int .u64 o], .int .i64 1]) (results_row_tmp10 rfl _ _ (w.heap.size + 1) 29 #[.int .i64 N, .slice a n c, .int .u64 o] (0, 0) _ (by rfl) (setRow_heap _ _ _ _ _ _ R.out) Try.underlying29 rfl (by kernel_rfl) _ (by rfl)) rfl FIN.out
  have d2 : decide (N ≤ p) = false := decide_eq_false h2
  by_cases h3 : g < 0
  · have d3 : decide (g < 0) = true := decide_eq_true h3
    go_enter Try.func11, Try.ntmps11
    go_wp2_with (first
      | (refine wpList_load_known (by rfl) 29 (.tmp 4) rfl w.heap.size rfl 29 #[.int .i64 N, .slice a n c, .int .u64 o] (0, 0) _ K.out Try.underlying29 rfl (by kernel_rfl) ?_)
      | (refine wpList_store_row rfl 29 (.tmp 8) (.tmp 26) rfl (w.heap.size + 1) #[.int .i64 N, .slice a n c, .int .u64 o] rfl rfl 29 _ R.out (by kernel_rfl) (by rfl) (by simp [Value.oneCell']) ?_))
    refine bodyPost_ret (v := .tuple #[.agg #[.int .i64 N, .slice a n c, .int .u64 o], .int .i64 1]) (results_row_tmp10 rfl _ _ (w.heap.size + 1) 29 #[.int .i64 N, .slice a n c, .int .u64 o] (0, 0) _ (by rfl) (setRow_heap _ _ _ _ _ _ R.out) Try.underlying29 rfl (by kernel_rfl) _ (by rfl)) rfl FIN.out
  have d3 : decide (g < 0) = false := decide_eq_false h3
  have d4 : decide ((4095 : Int) < g) = true := decide_eq_true (by omega)
  go_enter Try.func11, Try.ntmps11
  go_wp2_with (first
    | (refine wpList_load_known (by rfl) 29 (.tmp 4) rfl w.heap.size rfl 29 #[.int .i64 N, .slice a n c, .int .u64 o] (0, 0) _ K.out Try.underlying29 rfl (by kernel_rfl) ?_)
    | (refine wpList_store_row rfl 29 (.tmp 8) (.tmp 26) rfl (w.heap.size + 1) #[.int .i64 N, .slice a n c, .int .u64 o] rfl rfl 29 _ R.out (by kernel_rfl) (by rfl) (by simp [Value.oneCell']) ?_))
  refine bodyPost_ret (v := .tuple #[.agg #[.int .i64 N, .slice a n c, .int .u64 o], .int .i64 1]) (results_row_tmp10 rfl _ _ (w.heap.size + 1) 29 #[.int .i64 N, .slice a n c, .int .u64 o] (0, 0) _ (by rfl) (setRow_heap _ _ _ _ _ _ R.out) Try.underlying29 rfl (by kernel_rfl) _ (by rfl)) rfl FIN.out
set_option maxHeartbeats 4000000 in
theorem rtadd_same (w : World) (N o : Int) (v : Value) (D : List Tr) (h : Dt w v D) (p g x : Int) (h1 : 0 ≤ p) (h2 : p < N) (h3 : 0 ≤ g) (h4 : g ≤ 4095) (hs : thasb D g = true) :
    Calls Try.prog 11 #[.agg #[.int .i64 N, v, .int .u64 o], .int .i64 p, .int .i64 g, .int .i64 x] w (DtPost w v D N o 8) := by
  obtain ⟨a, n, c, rfl, HN, lw⟩ := h.sl
  have hb0 := ((Below.refl w.heap.size w).alloc (Nat.le_refl _) (.cells #[.int .i64 N, .slice a n c, .int .u64 o] 29)).alloc (by simp) (.cells #[.int .i64 0, .slice none 0 0, .int .u64 0] 29)
  have H := hid (h.below hb0)
  have B := hid hb0
  have K := hid (heap_alloc2_old w (.cells #[.int .i64 N, .slice a n c, .int .u64 o] 29) (.cells #[.int .i64 0, .slice none 0 0, .int .u64 0] 29))
  have R := hid (heap_alloc2_new w (.cells #[.int .i64 N, .slice a n c, .int .u64 o] 29) (.cells #[.int .i64 0, .slice none 0 0, .int .u64 0] 29))
  have HD := hid h
  have HS := hid hs
  clear h hb0 hs
  have hsz : ((w.alloc (.cells #[.int .i64 N, .slice a n c, .int .u64 o] 29)).alloc (.cells #[.int .i64 0, .slice none 0 0, .int .u64 0] 29)).heap.size = w.heap.size + 2 := by simp
  have y0 := blk_cell K.out (i := 0) rfl
  have d1 : decide (p < 0) = false := decide_eq_false (by omega)
  have d2 : decide (N ≤ p) = false := decide_eq_false (by omega)
  have d3 : decide (g < 0) = false := decide_eq_false (by omega)
  have d4 : decide ((4095 : Int) < g) = false := decide_eq_false (by omega)
  go_enter Try.func11, Try.ntmps11
  go_wp2_with (refine wpList_load_known (by rfl) 29 (.tmp 4) rfl w.heap.size rfl 29 #[.int .i64 N, .slice a n c, .int .u64 o] (0, 0) _ K.out Try.underlying29 rfl (by kernel_rfl) ?_)
  refine (rthas_any _ N o _ D H.out g true HS.out).mono ?_
  rintro e w2 ⟨rfl, hb2⟩
  have K2 := hid ((hb2.block _ (by rw [hsz]; omega)).trans K.out)
  have R2 := hid ((hb2.block _ (by rw [hsz]; omega)).trans R.out)
  have B2 := hid (B.out.trans (hb2.mono B.out.size))
  clear hb2 H K R B y0 hsz
  have FIN := hid (show DtPost w (.slice a n c) D N o 8 (.returned (.tuple #[.agg #[.int .i64 N, .slice a n c, .int .u64 o], .int .i64 8])) (w2.setRow (w.heap.size + 1) #[.int .i64 N, .slice a n c, .int .u64 o]) from
    have BF := row_below B2.out (show w.heap.size ≤ w.heap.size + 1 by omega) #[.int .i64 N, .slice a n c, .int .u64 o]
    ⟨_, rfl, HD.out.below BF, BF, fun q hq => .inl hq⟩)
  clear HD B2
  go_wp2_with (first
    | (refine wpList_load_known (by rfl) 29 (.tmp 4) rfl w.heap.size rfl 29 #[.int .i64 N, .slice a n c, .int .u64 o] (0, 0) _ K2.out Try.underlying29 rfl (by kernel_rfl) ?_)
    | (refine wpList_store_row rfl 29 (.tmp 8) (.tmp 30) rfl (w.heap.size + 1) #[.int .i64 N, .slice a n c, .int .u64 o] rfl rfl 29 _ R2.out (by kernel_rfl) (by rfl) (by simp [Value.oneCell']) ?_))
  refine bodyPost_ret (v := .tuple #[.agg #[.int .i64 N, .slice a n c, .int .u64 o], .int .i64 8]) (results_row_tmp10 rfl _ _ (w.heap.size + 1) 29 #[.int .i64 N, .slice a n c, .int .u64 o] (0, 0) _ (by rfl) (setRow_heap _ _ _ _ _ _ R2.out) Try.underlying29 rfl (by kernel_rfl) _ (by rfl)) rfl FIN.out
end Go.Proofs.Ytlppnkemoomllaa
