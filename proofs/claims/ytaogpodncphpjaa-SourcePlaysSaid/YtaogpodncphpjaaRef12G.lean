/- The document's source by value: Sleep. Written by wip/tools/gen12.py. -/
import Derived.Test.YtaogpodncphpjaaRef12F
import Derived.Deep.RegionWith
namespace Go.Proofs.Ytaogpodncphpjaa
set_option linter.unusedVariables false
set_option linter.unusedSimpArgs false
open Go.RowKit
/-- What Sleep comes to. -/
def slE (n : Nat) (D : List Tr) (V : List (Int × Int)) (p g : Int) : Int := if p < 0 ∨ (n : Int) ≤ p ∨ g < 0 ∨ 4095 < g then 1 else if (thasb D g || rhasb V g) = true then 8 else 0
def slD (n : Nat) (D : List Tr) (V : List (Int × Int)) (p g x : Int) (o : Nat) : List Tr := if slE n D V p g = 0 then D ++ [(p, x, (o : Int), g)] else D
def slO (n : Nat) (D : List Tr) (V : List (Int × Int)) (p g : Int) (o : Nat) : Nat := if slE n D V p g = 0 then o + 1 else o
def slB (n : Nat) (now : Int) (D : List Tr) (V : List (Int × Int)) (S : List Int) (p g x : Int) (o : Nat) : Bool := if slE n D V p g = 0 then due12 now (slD n D V p g x o) V S else false
theorem ch3_of {w : World} {q : Nat} (h : w.heap[q]? = some (.cells #[.int .i64 0, .slice none 0 0, .int .u64 0] 29 (0, 0))) (a b c : Value) : (((w.setCell ⟨q, 0, none⟩ a).setCell ⟨q, 1, none⟩ b).setCell ⟨q, 2, none⟩ c).heap[q]? = some (.cells #[a, b, c] 29 (0, 0)) := by
  have h0 := blk_set (i := 0) a h (show (#[.int .i64 0, .slice none 0 0, .int .u64 0] : Array Value).setIfInBounds 0 a = #[a, .slice none 0 0, .int .u64 0] from rfl)
  have h1 := blk_set (i := 1) b h0 (show (#[a, .slice none 0 0, .int .u64 0] : Array Value).setIfInBounds 1 b = #[a, b, .int .u64 0] from rfl)
  exact blk_set (i := 2) c h1 (show (#[a, b, .int .u64 0] : Array Value).setIfInBounds 2 c = #[a, b, c] from rfl)
theorem K12.oth {w y : World} {cs : Array Value} (h : K12 w y cs) {q i : Nat} {v : Value} (hq : w.heap.size + 2 ≤ q) : K12 w (y.setCell ⟨q, i, none⟩ v) cs :=
  ⟨h.below.setCell (p := ⟨q, i, none⟩) (by simp; omega) v, (heap_setCell_other _ _ _ _ (by simp; omega)).trans h.box, (heap_setCell_other _ _ _ _ (by simp; omega)).trans h.res, by simpa using h.size⟩
theorem NEL {w2 w4 : World} {v1 vL : Value} (h : ∀ q, vL.ownBlock = some q → q < w2.heap.size) {o : Obj} (k1 : ∀ q, v1.ownBlock = some q → vL.ownBlock = some q ∨ ((w2.alloc o).drew.heap.size ≤ q ∧ q < w4.heap.size)) : ∀ q, v1.ownBlock = some q → q ≠ w2.heap.size := fun q hq => by
  rcases k1 q hq with e | e
  · have := h q e; omega
  · have : (w2.alloc o).drew.heap.size = w2.heap.size + 1 := by show (w2.alloc _).heap.size = _; simp
    omega
theorem Q12.oth {w y : World} {cs : Array Value} {vL vW vS vL0 vW0 vS0 : Value} {D : List Tr} {V : List (Int × Int)} {S : List Int} (h : Q12 w y cs vL vW vS vL0 vW0 vS0 D V S) {q i : Nat} {v : Value} (hq : w.heap.size + 2 ≤ q) (k1 : ∀ x, vL.ownBlock = some x → x ≠ q) (k2 : ∀ x, vW.ownBlock = some x → x ≠ q) (k3 : ∀ x, vS.ownBlock = some x → x ≠ q) : Q12 w (y.setCell ⟨q, i, none⟩ v) cs vL vW vS vL0 vW0 vS0 D V S :=
  ⟨h.k.oth hq, h.d.cell _ _ _ k1 k2 k3, h.a1.mono (by simp), h.a2.mono (by simp), h.a3.mono (by simp), h.h0⟩
set_option maxRecDepth 100000 in
set_option maxHeartbeats 8000000 in
theorem rsleep12_a1 {w : World} {now : Int} {n o : Nat} {vL vW vS : Value} {D : List Tr} {V : List (Int × Int)} {S : List Int} (h : D12 w vL vW vS D V S) (p g d : Int) (h1 : p < 0) :
    Calls Try.prog 29 #[.agg (sx now n vL o vW vS), .int .i64 p, .int .i64 g, .int .i64 d] w (P12 w vL vW vS now n o D V S [.bool false, .int .i64 1]) := by
  obtain ⟨aL, nL, cL, aW, nW, cW, aS, nS, cS, rfl, rfl, rfl, HL, HW, HS, _, _, _⟩ := h.sl
  obtain ⟨w0, hw0⟩ : ∃ w0, w0 = (w.alloc (.cells (sx now n (.slice aL nL cL) o (.slice aW nW cW) (.slice aS nS cS)) 35)).alloc (.cells sz 35) := ⟨_, rfl⟩
  have K := hid (show K12 w w0 (sx now n (.slice aL nL cL) o (.slice aW nW cW) (.slice aS nS cS)) by rw [hw0]; exact K12.start w _)
  have hs0 : w0.heap.size = w.heap.size + 2 := by rw [hw0]; simp
  have H := hid h
  have Q0 := hid (Q12.start h K.out)
  have d1 : decide (p < 0) = true := decide_eq_true (by omega)
  have FIN := hid (Q0.out.fin [.bool false, .int .i64 1])
  clear h
  go_enter Try.func29, Try.ntmps29
  go_wp2_with (first
    | (refine wpList_load_known (by rfl) 35 (.tmp 4) rfl w.heap.size rfl 35 (sx now n (.slice aL nL cL) o (.slice aW nW cW) (.slice aS nS cS)) (0, 0) _ (by rw [← hw0]; exact K.out.box) Try.underlying35 rfl (by kernel_rfl) ?_)
    | (refine wpList_store_row rfl 35 (.tmp 8) (.tmp 30) rfl (w.heap.size + 1) (sx now n (.slice aL nL cL) o (.slice aW nW cW) (.slice aS nS cS)) rfl rfl 35 _ (by rw [← hw0]; exact K.out.res) (by kernel_rfl) (by rfl) (by simp [Value.oneCell']) ?_))
  rw [← hw0]
  exact bodyPost_ret (v := .tuple #[.agg (sx now n (.slice aL nL cL) o (.slice aW nW cW) (.slice aS nS cS)), .bool false, .int .i64 1]) (results_c2 rfl _ _ (w.heap.size + 1) 35 (sx now n (.slice aL nL cL) o (.slice aW nW cW) (.slice aS nS cS)) (0, 0) _ (by rfl) (setRow_heap _ _ _ _ _ _ K.out.res) Try.underlying35 rfl (by kernel_rfl) _ _ (by rfl) (by rfl)) rfl FIN.out
set_option maxRecDepth 100000 in
set_option maxHeartbeats 8000000 in
theorem rsleep12_a2 {w : World} {now : Int} {n o : Nat} {vL vW vS : Value} {D : List Tr} {V : List (Int × Int)} {S : List Int} (h : D12 w vL vW vS D V S) (p g d : Int) (h0 : 0 ≤ p) (h1 : (n : Int) ≤ p) :
    Calls Try.prog 29 #[.agg (sx now n vL o vW vS), .int .i64 p, .int .i64 g, .int .i64 d] w (P12 w vL vW vS now n o D V S [.bool false, .int .i64 1]) := by
  obtain ⟨aL, nL, cL, aW, nW, cW, aS, nS, cS, rfl, rfl, rfl, HL, HW, HS, _, _, _⟩ := h.sl
  obtain ⟨w0, hw0⟩ : ∃ w0, w0 = (w.alloc (.cells (sx now n (.slice aL nL cL) o (.slice aW nW cW) (.slice aS nS cS)) 35)).alloc (.cells sz 35) := ⟨_, rfl⟩
  have K := hid (show K12 w w0 (sx now n (.slice aL nL cL) o (.slice aW nW cW) (.slice aS nS cS)) by rw [hw0]; exact K12.start w _)
  have hs0 : w0.heap.size = w.heap.size + 2 := by rw [hw0]; simp
  have H := hid h
  have Q0 := hid (Q12.start h K.out)
  have d1 : decide (p < 0) = false := decide_eq_false (by omega)
  have d2 : decide ((n : Int) ≤ p) = true := decide_eq_true (by omega)
  have FIN := hid (Q0.out.fin [.bool false, .int .i64 1])
  clear h
  go_enter Try.func29, Try.ntmps29
  go_wp2_with (first
    | (refine wpList_load_known (by rfl) 35 (.tmp 4) rfl w.heap.size rfl 35 (sx now n (.slice aL nL cL) o (.slice aW nW cW) (.slice aS nS cS)) (0, 0) _ (by rw [← hw0]; exact K.out.box) Try.underlying35 rfl (by kernel_rfl) ?_)
    | (refine wpList_store_row rfl 35 (.tmp 8) (.tmp 30) rfl (w.heap.size + 1) (sx now n (.slice aL nL cL) o (.slice aW nW cW) (.slice aS nS cS)) rfl rfl 35 _ (by rw [← hw0]; exact K.out.res) (by kernel_rfl) (by rfl) (by simp [Value.oneCell']) ?_))
  rw [← hw0]
  exact bodyPost_ret (v := .tuple #[.agg (sx now n (.slice aL nL cL) o (.slice aW nW cW) (.slice aS nS cS)), .bool false, .int .i64 1]) (results_c2 rfl _ _ (w.heap.size + 1) 35 (sx now n (.slice aL nL cL) o (.slice aW nW cW) (.slice aS nS cS)) (0, 0) _ (by rfl) (setRow_heap _ _ _ _ _ _ K.out.res) Try.underlying35 rfl (by kernel_rfl) _ _ (by rfl) (by rfl)) rfl FIN.out
set_option maxRecDepth 100000 in
set_option maxHeartbeats 8000000 in
theorem rsleep12_a3 {w : World} {now : Int} {n o : Nat} {vL vW vS : Value} {D : List Tr} {V : List (Int × Int)} {S : List Int} (h : D12 w vL vW vS D V S) (p g d : Int) (h0 : 0 ≤ p) (h1 : p < (n : Int)) (h2 : g < 0) :
    Calls Try.prog 29 #[.agg (sx now n vL o vW vS), .int .i64 p, .int .i64 g, .int .i64 d] w (P12 w vL vW vS now n o D V S [.bool false, .int .i64 1]) := by
  obtain ⟨aL, nL, cL, aW, nW, cW, aS, nS, cS, rfl, rfl, rfl, HL, HW, HS, _, _, _⟩ := h.sl
  obtain ⟨w0, hw0⟩ : ∃ w0, w0 = (w.alloc (.cells (sx now n (.slice aL nL cL) o (.slice aW nW cW) (.slice aS nS cS)) 35)).alloc (.cells sz 35) := ⟨_, rfl⟩
  have K := hid (show K12 w w0 (sx now n (.slice aL nL cL) o (.slice aW nW cW) (.slice aS nS cS)) by rw [hw0]; exact K12.start w _)
  have hs0 : w0.heap.size = w.heap.size + 2 := by rw [hw0]; simp
  have H := hid h
  have Q0 := hid (Q12.start h K.out)
  have d1 : decide (p < 0) = false := decide_eq_false (by omega)
  have d2 : decide ((n : Int) ≤ p) = false := decide_eq_false (by omega)
  have d3 : decide (g < 0) = true := decide_eq_true (by omega)
  have FIN := hid (Q0.out.fin [.bool false, .int .i64 1])
  clear h
  go_enter Try.func29, Try.ntmps29
  go_wp2_with (first
    | (refine wpList_load_known (by rfl) 35 (.tmp 4) rfl w.heap.size rfl 35 (sx now n (.slice aL nL cL) o (.slice aW nW cW) (.slice aS nS cS)) (0, 0) _ (by rw [← hw0]; exact K.out.box) Try.underlying35 rfl (by kernel_rfl) ?_)
    | (refine wpList_store_row rfl 35 (.tmp 8) (.tmp 30) rfl (w.heap.size + 1) (sx now n (.slice aL nL cL) o (.slice aW nW cW) (.slice aS nS cS)) rfl rfl 35 _ (by rw [← hw0]; exact K.out.res) (by kernel_rfl) (by rfl) (by simp [Value.oneCell']) ?_))
  rw [← hw0]
  exact bodyPost_ret (v := .tuple #[.agg (sx now n (.slice aL nL cL) o (.slice aW nW cW) (.slice aS nS cS)), .bool false, .int .i64 1]) (results_c2 rfl _ _ (w.heap.size + 1) 35 (sx now n (.slice aL nL cL) o (.slice aW nW cW) (.slice aS nS cS)) (0, 0) _ (by rfl) (setRow_heap _ _ _ _ _ _ K.out.res) Try.underlying35 rfl (by kernel_rfl) _ _ (by rfl) (by rfl)) rfl FIN.out
set_option maxRecDepth 100000 in
set_option maxHeartbeats 8000000 in
theorem rsleep12_a4 {w : World} {now : Int} {n o : Nat} {vL vW vS : Value} {D : List Tr} {V : List (Int × Int)} {S : List Int} (h : D12 w vL vW vS D V S) (p g d : Int) (h0 : 0 ≤ p) (h1 : p < (n : Int)) (h2 : 4095 < g) :
    Calls Try.prog 29 #[.agg (sx now n vL o vW vS), .int .i64 p, .int .i64 g, .int .i64 d] w (P12 w vL vW vS now n o D V S [.bool false, .int .i64 1]) := by
  obtain ⟨aL, nL, cL, aW, nW, cW, aS, nS, cS, rfl, rfl, rfl, HL, HW, HS, _, _, _⟩ := h.sl
  obtain ⟨w0, hw0⟩ : ∃ w0, w0 = (w.alloc (.cells (sx now n (.slice aL nL cL) o (.slice aW nW cW) (.slice aS nS cS)) 35)).alloc (.cells sz 35) := ⟨_, rfl⟩
  have K := hid (show K12 w w0 (sx now n (.slice aL nL cL) o (.slice aW nW cW) (.slice aS nS cS)) by rw [hw0]; exact K12.start w _)
  have hs0 : w0.heap.size = w.heap.size + 2 := by rw [hw0]; simp
  have H := hid h
  have Q0 := hid (Q12.start h K.out)
  have d1 : decide (p < 0) = false := decide_eq_false (by omega)
  have d2 : decide ((n : Int) ≤ p) = false := decide_eq_false (by omega)
  have d3 : decide (g < 0) = false := decide_eq_false (by omega)
  have d4 : decide ((4095 : Int) < g) = true := decide_eq_true (by omega)
  have FIN := hid (Q0.out.fin [.bool false, .int .i64 1])
  clear h
  go_enter Try.func29, Try.ntmps29
  go_wp2_with (first
    | (refine wpList_load_known (by rfl) 35 (.tmp 4) rfl w.heap.size rfl 35 (sx now n (.slice aL nL cL) o (.slice aW nW cW) (.slice aS nS cS)) (0, 0) _ (by rw [← hw0]; exact K.out.box) Try.underlying35 rfl (by kernel_rfl) ?_)
    | (refine wpList_store_row rfl 35 (.tmp 8) (.tmp 30) rfl (w.heap.size + 1) (sx now n (.slice aL nL cL) o (.slice aW nW cW) (.slice aS nS cS)) rfl rfl 35 _ (by rw [← hw0]; exact K.out.res) (by kernel_rfl) (by rfl) (by simp [Value.oneCell']) ?_))
  rw [← hw0]
  exact bodyPost_ret (v := .tuple #[.agg (sx now n (.slice aL nL cL) o (.slice aW nW cW) (.slice aS nS cS)), .bool false, .int .i64 1]) (results_c2 rfl _ _ (w.heap.size + 1) 35 (sx now n (.slice aL nL cL) o (.slice aW nW cW) (.slice aS nS cS)) (0, 0) _ (by rfl) (setRow_heap _ _ _ _ _ _ K.out.res) Try.underlying35 rfl (by kernel_rfl) _ _ (by rfl) (by rfl)) rfl FIN.out
set_option maxRecDepth 100000 in
set_option maxHeartbeats 8000000 in
theorem rsleep12_out {w : World} {now : Int} {n o : Nat} {vL vW vS : Value} {D : List Tr} {V : List (Int × Int)} {S : List Int} (h : D12 w vL vW vS D V S) (p g d : Int) (hp0 : 0 ≤ p) (hp1 : p < (n : Int)) (hg0 : 0 ≤ g) (hg1 : g ≤ 4095) (ho : (thasb D g || rhasb V g) = true) :
    Calls Try.prog 29 #[.agg (sx now n vL o vW vS), .int .i64 p, .int .i64 g, .int .i64 d] w (P12 w vL vW vS now n o D V S [.bool false, .int .i64 8]) := by
  obtain ⟨aL, nL, cL, aW, nW, cW, aS, nS, cS, rfl, rfl, rfl, HL, HW, HS, _, _, _⟩ := h.sl
  obtain ⟨w0, hw0⟩ : ∃ w0, w0 = (w.alloc (.cells (sx now n (.slice aL nL cL) o (.slice aW nW cW) (.slice aS nS cS)) 35)).alloc (.cells sz 35) := ⟨_, rfl⟩
  have K := hid (show K12 w w0 (sx now n (.slice aL nL cL) o (.slice aW nW cW) (.slice aS nS cS)) by rw [hw0]; exact K12.start w _)
  have hs0 : w0.heap.size = w.heap.size + 2 := by rw [hw0]; simp
  have H := hid h
  have Q0 := hid (Q12.start h K.out)
  have d1 : decide (p < 0) = false := decide_eq_false (by omega)
  have d2 : decide ((n : Int) ≤ p) = false := decide_eq_false (by omega)
  have d3 : decide (g < 0) = false := decide_eq_false (by omega)
  have d4 : decide ((4095 : Int) < g) = false := decide_eq_false (by omega)
  have RO := hid (rout12 (now := now) (n := n) (o := o) Q0.out.d g true ho)
  clear h
  go_enter Try.func29, Try.ntmps29
  go_wp2_with (refine wpList_load_known (by rfl) 35 (.tmp 4) rfl w.heap.size rfl 35 (sx now n (.slice aL nL cL) o (.slice aW nW cW) (.slice aS nS cS)) (0, 0) _ (by rw [← hw0]; exact K.out.box) Try.underlying35 rfl (by kernel_rfl) ?_)
  rw [← hw0]
  refine RO.out.mono ?_
  rintro e w2 ⟨rfl, hb2⟩
  have Q2 := hid (Q0.out.mono hb2)
  have FIN := hid (Q2.out.fin [.bool false, .int .i64 8])
  clear hb2 Q0 K hw0 RO H hs0
  go_wp2_with (first
    | (refine wpList_load_known (by rfl) 35 (.tmp 4) rfl w.heap.size rfl 35 (sx now n (.slice aL nL cL) o (.slice aW nW cW) (.slice aS nS cS)) (0, 0) _ Q2.out.k.box Try.underlying35 rfl (by kernel_rfl) ?_)
    | (refine wpList_store_row rfl 35 (.tmp 8) (.tmp 34) rfl (w.heap.size + 1) (sx now n (.slice aL nL cL) o (.slice aW nW cW) (.slice aS nS cS)) rfl rfl 35 _ Q2.out.k.res (by kernel_rfl) (by rfl) (by simp [Value.oneCell']) ?_))
  exact bodyPost_ret (v := .tuple #[.agg (sx now n (.slice aL nL cL) o (.slice aW nW cW) (.slice aS nS cS)), .bool false, .int .i64 8]) (results_c2 rfl _ _ (w.heap.size + 1) 35 (sx now n (.slice aL nL cL) o (.slice aW nW cW) (.slice aS nS cS)) (0, 0) _ (by rfl) (setRow_heap _ _ _ _ _ _ Q2.out.k.res) Try.underlying35 rfl (by kernel_rfl) _ _ (by rfl) (by rfl)) rfl FIN.out
end Go.Proofs.Ytaogpodncphpjaa
