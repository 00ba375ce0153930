/- The document's timers by value: New; Take. -/
import Derived.Test.YtlppnkemoomllaaRef10B
import Derived.Test.YtlppnkemoomllaaRef10C
import Derived.Test.YtlppnkemoomllaaHandT
namespace Go.Proofs.Ytlppnkemoomllaa
set_option linter.unusedVariables false
set_option linter.unusedSimpArgs false
open Go.RowKit Tk
/-- How many processors there are. -/
def clampT (n : Int) : Int := if n < 1 then 1 else if 64 < n then 64 else n
theorem clampT_range (n : Int) : 1 ≤ clampT n ∧ clampT n ≤ 64 := by unfold clampT; split <;> (try split) <;> omega
def RnPost (n : Int) (w : World) (e : Ending) (w' : World) : Prop := e = .returned (.agg #[.int .i64 (clampT n), .slice none 0 0, .int .u64 0]) ∧ Below w.heap.size w w'
theorem RnPost.fin {n : Int} {w : World} (m : Int) (hm : clampT n = m) : RnPost n w (.returned (.agg #[.int .i64 m, .slice none 0 0, .int .u64 0])) (w.alloc (.cells #[.int .i64 m, .slice none 0 0, .int .u64 0] 29)) :=
  ⟨by rw [hm], (Below.refl w.heap.size w).alloc (Nat.le_refl _) _⟩
set_option maxHeartbeats 4000000 in
theorem rtnew (n : Int) (w : World) : Calls Try.prog 6 #[.int .i64 n] w (RnPost n w) := by
  by_cases h1 : n < 1
  · have F := hid (RnPost.fin (n := n) (w := w) 1 (by unfold clampT; rw [if_pos h1]))
    go_enter Try.func6, Try.ntmps6
    go_wp2
    exact bodyPost_ret (results_cell_row rfl _ _ w.heap.size 29 #[.int .i64 1, .slice none 0 0, .int .u64 0] (0, 0) _ (by rfl) (heap_alloc_new _ _) Try.underlying29 rfl (by kernel_rfl)) rfl F.out
  · by_cases h2 : 64 < n
    · have F := hid (RnPost.fin (n := n) (w := w) 64 (by unfold clampT; rw [if_neg h1, if_pos h2]))
      go_enter Try.func6, Try.ntmps6
      go_wp2
      exact bodyPost_ret (results_cell_row rfl _ _ w.heap.size 29 #[.int .i64 64, .slice none 0 0, .int .u64 0] (0, 0) _ (by rfl) (heap_alloc_new _ _) Try.underlying29 rfl (by kernel_rfl)) rfl F.out
    · have F := hid (RnPost.fin (n := n) (w := w) n (by unfold clampT; rw [if_neg h1, if_neg h2]))
      go_enter Try.func6, Try.ntmps6
      go_wp2
      exact bodyPost_ret (results_cell_row rfl _ _ w.heap.size 29 #[.int .i64 n, .slice none 0 0, .int .u64 0] (0, 0) _ (by rfl) (heap_alloc_new _ _) Try.underlying29 rfl (by kernel_rfl)) rfl F.out
theorem results_row2 {P : Program} {fn : Func} {p q u : Tmp} {ty ty' : TypeId} (h : fn.results = #[.cell p ty, .cell q ty', .tmp u]) (tmps : Array Value) (w : World) (g : Nat) (t : TypeId) (cs : Array Value) (fr : Nat × Nat) (d : TypeDesc)
    (hp : tmps.getD p undef = .pointer (some ⟨g, 0, none⟩)) (hg : w.heap[g]? = some (.cells cs t fr))
    (hu : P.underlying ty = some d) (hd : (match d with | .struct _ | .array _ _ => true | _ => false) = true) (hi : (P.info? ty).map (·.size) = some cs.size)
    (g' : Nat) (t' : TypeId) (cs' : Array Value) (fr' : Nat × Nat) (d' : TypeDesc)
    (hp' : tmps.getD q undef = .pointer (some ⟨g', 0, none⟩)) (hg' : w.heap[g']? = some (.cells cs' t' fr'))
    (hu' : P.underlying ty' = some d') (hd' : (match d' with | .struct _ | .array _ _ => true | _ => false) = true) (hi' : (P.info? ty').map (·.size) = some cs'.size) (b : Value) (hb : tmps.getD u undef = b) :
    (results fn tmps).run P w = .ok (.tuple #[.agg cs, .agg cs', b]) w := by
  have e1 : tmps[p]?.getD undef = .pointer (some ⟨g, 0, none⟩) := by simpa using hp
  have e2 : tmps[q]?.getD undef = .pointer (some ⟨g', 0, none⟩) := by simpa using hp'
  have e3 : tmps[u]?.getD undef = b := by simpa using hb
  simp [results, h, e1, e2, e3, asAddr, run_loadVar_row w g t ty cs fr d hg hu hd hi, run_loadVar_row w g' t' ty' cs' fr' d' hg' hu' hd' hi', Result.andThen, Sem.run_bind]
/-- What Take hands back. -/
def TtPost (w : World) (v0 : Value) (D : List Tr) (N o : Int) (y : En) (is : Bool) (e : Ending) (w' : World) : Prop :=
  ∃ v', e = .returned (.tuple #[.agg #[.int .i64 N, v', .int .u64 o], .agg #[.int .i64 y.1, .int .u64 y.2.1, .int .i64 y.2.2], .bool is]) ∧ Dt w' v' D ∧ Below w.heap.size w w' ∧ ∀ q, v'.ownBlock = some q → v0.ownBlock = some q ∨ (w.heap.size ≤ q ∧ q < w'.heap.size)
set_option maxHeartbeats 4000000 in
theorem rttake_none (w : World) (N o : Int) (v : Value) (D : List Tr) (h : Dt w v D) (now : Int) (hs : ∀ y l, sortE (ofL (-1) D) = y :: l → now < y.1) :
    Calls Try.prog 7 #[.agg #[.int .i64 N, v, .int .u64 o], .int .i64 now] w (TtPost w v D N o (0, 0, 0) false) := by
  obtain ⟨a, n, c, rfl, HN, lw⟩ := h.sl
  obtain ⟨P, hP⟩ : ∃ P, P = w.heap.size := ⟨_, rfl⟩
  obtain ⟨w0, hw0⟩ : ∃ w0, w0 = ((w.alloc (.cells #[.int .i64 N, .slice a n c, .int .u64 o] 29)).alloc (.cells #[.int .i64 0, .slice none 0 0, .int .u64 0] 29)).alloc (.cells #[.int .i64 0, .int .u64 0, .int .i64 0] 34) := ⟨_, rfl⟩
  have hb0 : Below P w w0 := by rw [hw0, hP]; exact (((Below.refl w.heap.size w).alloc (Nat.le_refl _) _).alloc (by simp) _).alloc (by simp; omega) _
  have H := hid (h.below (by rw [← hP]; exact hb0))
  have hs0 : w0.heap.size = P + 3 := by rw [hw0, hP]; simp
  have K := hid (show w0.heap[P]? = some (.cells #[.int .i64 N, .slice a n c, .int .u64 o] 29 (0, 0)) by
    rw [hw0, hP]; exact (Below.heap_alloc _ _ _ (by simp; omega)).trans (heap_alloc2_old w _ _))
  have R := hid (show w0.heap[P + 1]? = some (.cells #[.int .i64 0, .slice none 0 0, .int .u64 0] 29 (0, 0)) by
    rw [hw0, hP]; exact (Below.heap_alloc _ _ _ (by simp)).trans (heap_alloc2_new w _ _))
  have E := hid (show w0.heap[P + 2]? = some (.cells #[.int .i64 0, .int .u64 0, .int .i64 0] 34 (0, 0)) by
    have := heap_alloc_new ((w.alloc (.cells #[.int .i64 N, .slice a n c, .int .u64 o] 29)).alloc (.cells #[.int .i64 0, .slice none 0 0, .int .u64 0] 29)) (.cells #[.int .i64 0, .int .u64 0, .int .i64 0] 34)
    rw [hw0, hP]; simpa using this)
  have B := hid hb0
  have HD := hid h
  have HP := hid hP
  clear h hb0
  go_enter Try.func7, Try.ntmps7
  go_wp2_with (refine wpList_load_known (by rfl) 29 (.tmp 2) rfl w.heap.size rfl 29 #[.int .i64 N, .slice a n c, .int .u64 o] (0, 0) _ (by rw [← hw0, ← hP]; exact K.out) Try.underlying29 rfl (by kernel_rfl) ?_)
  rw [← hw0, ← hP]
  clear hw0
  refine (rtof_any _ N o _ D H.out (-1)).mono ?_
  rintro e w2 ⟨va, rfl, hr, hb⟩
  have hs2 : P + 3 ≤ w2.heap.size := by have := hb.size; omega
  have K2 := hid ((hb.block _ (by omega)).trans K.out)
  have R2 := hid ((hb.block _ (by omega)).trans R.out)
  have E2 := hid ((hb.block _ (by omega)).trans E.out)
  have B2 := hid (B.out.trans (hb.mono (by omega)))
  clear hb K R E B H hP hs0
  have R3 := hid (show ((w2.setRow (P + 1) #[.int .i64 N, .slice a n c, .int .u64 o]).setRow (P + 2) #[.int .i64 0, .int .u64 0, .int .i64 0]).heap[P + 1]? = some (.cells #[.int .i64 N, .slice a n c, .int .u64 o] 29 (0, 0)) from (row_other _ _ _ _ (by omega)).trans (setRow_heap _ _ _ _ _ _ R2.out))
  have E3 := hid (show ((w2.setRow (P + 1) #[.int .i64 N, .slice a n c, .int .u64 o]).setRow (P + 2) #[.int .i64 0, .int .u64 0, .int .i64 0]).heap[P + 2]? = some (.cells #[.int .i64 0, .int .u64 0, .int .i64 0] 34 (0, 0)) from setRow_heap _ _ _ _ _ _ ((row_other _ _ _ _ (by omega)).trans E2.out))
  have E2 := hid (show (w2.setRow (P + 1) #[.int .i64 N, .slice a n c, .int .u64 o]).heap[P + 2]? = some (.cells #[.int .i64 0, .int .u64 0, .int .i64 0] 34 (0, 0)) from (row_other _ _ _ _ (by omega)).trans E2.out)
  have FIN := hid (show TtPost w (.slice a n c) D N o (0, 0, 0) false (.returned (.tuple #[.agg #[.int .i64 N, .slice a n c, .int .u64 o], .agg #[.int .i64 0, .int .u64 0, .int .i64 0], .bool false])) ((w2.setRow (P + 1) #[.int .i64 N, .slice a n c, .int .u64 o]).setRow (P + 2) #[.int .i64 0, .int .u64 0, .int .i64 0]) from by
    have BF := row_below (row_below (show Below w.heap.size w w2 by rw [← HP.out]; exact B2.out) (show w.heap.size ≤ P + 1 by have := HP.out; omega) #[.int .i64 N, .slice a n c, .int .u64 o]) (show w.heap.size ≤ P + 2 by have := HP.out; omega) #[.int .i64 0, .int .u64 0, .int .i64 0]
    exact ⟨_, rfl, HD.out.below BF, BF, fun q hq => .inl hq⟩)
  clear B2 HD
  obtain ⟨a1, c1, rfl, hc1, hm1, hr1⟩ := hr
  unfold maxLen at hm1
  rcases hL : sortE (ofL (-1) D) with _ | ⟨⟨y1, y2, y3⟩, l⟩
  · rw [hL] at hc1 hr1
    simp only [List.length_nil]
    clear hL hr1 hs
    go_wp2_with (first
      | (refine wpList_load_known (by rfl) 29 (.tmp 2) rfl P rfl 29 #[.int .i64 N, .slice a n c, .int .u64 o] (0, 0) _ K2.out Try.underlying29 rfl (by kernel_rfl) ?_)
      | (refine wpList_store_row rfl 29 (.tmp 4) (.tmp 24) rfl (P + 1) #[.int .i64 N, .slice a n c, .int .u64 o] rfl rfl 29 _ R2.out (by kernel_rfl) (by rfl) (by simp [Value.oneCell']) ?_)
      | (refine wpList_store_row rfl 34 (.tmp 5) (.tmp 25) rfl (P + 2) #[.int .i64 0, .int .u64 0, .int .i64 0] rfl rfl 34 _ E2.out (by kernel_rfl) (by rfl) (by simp [Value.oneCell']) ?_))
    exact bodyPost_ret (v := .tuple #[.agg #[.int .i64 N, .slice a n c, .int .u64 o], .agg #[.int .i64 0, .int .u64 0, .int .i64 0], .bool false]) (results_row2 (p := 4) (q := 5) (u := 6) rfl _ _ (P + 1) 29 #[.int .i64 N, .slice a n c, .int .u64 o] (0, 0) _ (by rfl) R3.out Try.underlying29 rfl (by kernel_rfl) (P + 2) 34 #[.int .i64 0, .int .u64 0, .int .i64 0] (0, 0) _ (by rfl) E3.out Try.underlying34 rfl (by kernel_rfl) _ (by rfl)) rfl FIN.out
  · have hy := hs _ _ hL
    rw [hL] at hc1 hr1
    obtain ⟨g, off, rfl, _, hcl⟩ := hr1 (by simp)
    obtain ⟨q0, q1, q2⟩ := hcl 0 (by simp)
    simp only [enAt, List.getD_cons_zero, Nat.zero_mul, Nat.add_zero] at q0 q1 q2
    obtain ⟨m, hm⟩ : ∃ m, m = l.length := ⟨_, rfl⟩
    simp only [List.length_cons, ← hm] at hc1 ⊢
    have d1 : decide (now < y1) = true := decide_eq_true hy
    clear hL hs hcl hy q1 q2 hm
    go_wp2_with (first
      | (refine wpList_load_known (by rfl) 29 (.tmp 2) rfl P rfl 29 #[.int .i64 N, .slice a n c, .int .u64 o] (0, 0) _ K2.out Try.underlying29 rfl (by kernel_rfl) ?_)
      | (refine wpList_store_row rfl 29 (.tmp 4) (.tmp 24) rfl (P + 1) #[.int .i64 N, .slice a n c, .int .u64 o] rfl rfl 29 _ R2.out (by kernel_rfl) (by rfl) (by simp [Value.oneCell']) ?_)
      | (refine wpList_store_row rfl 34 (.tmp 5) (.tmp 25) rfl (P + 2) #[.int .i64 0, .int .u64 0, .int .i64 0] rfl rfl 34 _ E2.out (by kernel_rfl) (by rfl) (by simp [Value.oneCell']) ?_))
    exact bodyPost_ret (v := .tuple #[.agg #[.int .i64 N, .slice a n c, .int .u64 o], .agg #[.int .i64 0, .int .u64 0, .int .i64 0], .bool false]) (results_row2 (p := 4) (q := 5) (u := 6) rfl _ _ (P + 1) 29 #[.int .i64 N, .slice a n c, .int .u64 o] (0, 0) _ (by rfl) R3.out Try.underlying29 rfl (by kernel_rfl) (P + 2) 34 #[.int .i64 0, .int .u64 0, .int .i64 0] (0, 0) _ (by rfl) E3.out Try.underlying34 rfl (by kernel_rfl) _ (by rfl)) rfl FIN.out
end Go.Proofs.Ytlppnkemoomllaa
