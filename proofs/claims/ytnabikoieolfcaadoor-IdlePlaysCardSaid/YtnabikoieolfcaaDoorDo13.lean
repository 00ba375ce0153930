/- hostlerlaw13.do: an act of both. Written by wip/tools/gendo13.py. -/
import Derived.Test.YtnabikoieolfcaaDoorIW
import Derived.Deep.RegionWith
import Derived.Deep.CutRange
namespace Go.Proofs.YtnabikoieolfcaaDoor
set_option linter.unusedVariables false
set_option linter.unusedSimpArgs false
open Go.RowKit
/-- Both, ahead of an act. -/
structure St (Z : Nat → Prop) (x np : Nat) (f : Nat → Bool) (N : Int) (Pl Q M : List Int) (pl : Int) (vP vQ vM : Value) (k : Nat) (w : World) : Prop where
  ids : Ids Z x np f Q N M pl w
  im : IM np f Pl Q M pl
  di : Di w vP vQ vM Pl Q M
  o1 : ∀ q, vP.ownBlock = some q → Z q
  o2 : ∀ q, vQ.ownBlock = some q → Z q
  o3 : ∀ q, vM.ownBlock = some q → Z q
  ln : Pl.length ≤ k ∧ Q.length ≤ k ∧ M.length ≤ k
def DoPost (Z : Nat → Prop) (x np : Nat) (N : Int) (k : Nat) (vP vQ vM : Value) (w : World) (e : Ending) (w' : World) : Prop :=
  ∃ f' Pl' Q' M' pl' vP' vQ' vM', e = .returned (.tuple #[.agg (ix np N vP' vQ' vM' pl'), .bool true]) ∧ St (fun q => Z q ∨ (w.heap.size ≤ q ∧ q < w'.heap.size ∧ (vP'.ownBlock = some q ∨ vQ'.ownBlock = some q ∨ vM'.ownBlock = some q))) x np f' N Pl' Q' M' pl' vP' vQ' vM' (k + 1) w' ∧ Fr Z w w' ∧ (∀ q, vP'.ownBlock = some q → vP.ownBlock = some q ∨ w.heap.size ≤ q) ∧ (∀ q, vQ'.ownBlock = some q → vQ.ownBlock = some q ∨ w.heap.size ≤ q) ∧ (∀ q, vM'.ownBlock = some q → vM.ownBlock = some q ∨ w.heap.size ≤ q)
theorem Reads.only {w w' : World} {v : Value} {S : List Int} (h : Reads w v S) (hs : w.heap.size ≤ w'.heap.size) (hk : 0 < S.length → ∀ q, v.ownBlock = some q → q < w.heap.size → w'.heap[q]? = w.heap[q]?) : Reads w' v S := by
  obtain ⟨a, c, rfl, x1, x2⟩ := h
  refine ⟨a, c, rfl, x1, fun h0 => ?_⟩
  obtain ⟨q, off, rfl, hg, hc⟩ := x2 h0
  exact ⟨q, off, rfl, by omega, fun i hi => (World.cell?_of_block (hk h0 q rfl hg)).trans (hc i hi)⟩
theorem Ids.weakO {Z Z' : Nat → Prop} {w : World} {x np : Nat} {f : Nat → Bool} {pd : List Int} {N : Int} {ss : List Int} {pl : Int} (h : Ids Z' x np f pd N ss pl w) (hz : ∀ q, Z q → Z' q) (hg : Z 0) : Ids Z x np f pd N ss pl w := h.weak hz hg
theorem do_fin {Z : Nat → Prop} {x np k : Nat} {f f' : Nat → Bool} {N pl pl5 : Int} {Pl Q M Pl5 Q5 M5 : List Int} {vP vQ vM v1 v2 v3 : Value} {w w0 w5 w6 w7 W : World} (h : St Z x np f N Pl Q M pl vP vQ vM k w) (hb0 : Below w.heap.size w w0) (s0 : w.heap.size + 3 ≤ w0.heap.size)
    (d5 : Di w5 v1 v2 v3 Pl5 Q5 M5) (hb5 : Below w0.heap.size w0 w5) (k1 : ∀ q, v1.ownBlock = some q → vP.ownBlock = some q ∨ (w0.heap.size ≤ q ∧ q < w5.heap.size)) (k2 : ∀ q, v2.ownBlock = some q → vQ.ownBlock = some q ∨ (w0.heap.size ≤ q ∧ q < w5.heap.size)) (k3 : ∀ q, v3.ownBlock = some q → vM.ownBlock = some q ∨ (w0.heap.size ≤ q ∧ q < w5.heap.size))
    (hb6 : Below w5.heap.size w5 w6) (p7 : Ids (fun q => Z q ∨ (w.heap.size ≤ q ∧ q < w6.heap.size)) x np f' Q5 N M5 pl5 w7) (fr7 : Fr (fun q => Z q ∨ (w.heap.size ≤ q ∧ q < w6.heap.size)) w6 w7) (hW : Only (w.heap.size + 1 + 1) (w.heap.size + 1 + 1) w7 W)
    (im : IM np f' Pl5 Q5 M5 pl5) (ln : Pl5.length ≤ k + 1 ∧ Q5.length ≤ k + 1 ∧ M5.length ≤ k + 1) (hg : 0 < w.heap.size) : DoPost Z x np N k vP vQ vM w (.returned (.tuple #[.agg (ix np N v1 v2 v3 pl5), .bool true])) W := by
  have s5 := hb5.size
  have s6 := hb6.size
  have s7 := fr7.size
  have sW := hW.size
  have sz := h.ids.zl
  have q7 := p7.other hW (.inr ⟨by omega, by omega⟩) (by omega)
  have own : ∀ (v v0 : Value), (∀ q, v.ownBlock = some q → v0.ownBlock = some q ∨ (w0.heap.size ≤ q ∧ q < w5.heap.size)) → (∀ q, v0.ownBlock = some q → Z q) → ∀ q, v.ownBlock = some q → (Z q ∨ (w.heap.size ≤ q ∧ q < W.heap.size)) ∧ q ≠ w.heap.size + 1 + 1 ∧ (Z q ∨ (w.heap.size ≤ q ∧ q < w6.heap.size)) := fun v v0 a b q hq => by
    rcases a q hq with e | e
    · have hz := b q e
      have := sz q hz
      exact ⟨.inl hz, by omega, .inl hz⟩
    · exact ⟨.inr ⟨by omega, by omega⟩, by omega, .inr ⟨by omega, by omega⟩⟩
  have blk : ∀ q, (Z q ∨ (w.heap.size ≤ q ∧ q < w6.heap.size)) → q ≠ w.heap.size + 1 + 1 → q < w6.heap.size → W.heap[q]? = w6.heap[q]? := fun q hz hne hl => (hW.block q (by omega) hne hne).trans (fr7.block q hz)
  have d6 := d5.below hb6
  have rd : ∀ (v v0 : Value) (S : List Int), Reads w6 v S → (∀ q, v.ownBlock = some q → v0.ownBlock = some q ∨ (w0.heap.size ≤ q ∧ q < w5.heap.size)) → (∀ q, v0.ownBlock = some q → Z q) → Reads W v S := fun v v0 S hr a b => hr.only (by omega) (fun _ q hq hl => blk q (own v v0 a b q hq).2.2 (own v v0 a b q hq).2.1 hl)
  refine ⟨f', Pl5, Q5, M5, pl5, v1, v2, v3, rfl, ⟨q7.weak (fun q hq => ?_) (.inl h.ids.hz), im, ⟨rd v1 vP Pl5 d6.hp k1 h.o1, rd v2 vQ Q5 d6.hq k2 h.o2, rd v3 vM M5 d6.hm k3 h.o3, d6.lp, d6.lq, d6.lm⟩, fun q hq => ?_, fun q hq => ?_, fun q hq => ?_, ln⟩, ?_, fun q hq => (k1 q hq).imp id (fun e => by omega), fun q hq => (k2 q hq).imp id (fun e => by omega), fun q hq => (k3 q hq).imp id (fun e => by omega)⟩
  · rcases hq with hq | ⟨h1, h2, h3⟩
    · exact .inl hq
    · rcases h3 with h3 | h3 | h3
      · exact (own v1 vP k1 h.o1 q h3).2.2
      · exact (own v2 vQ k2 h.o2 q h3).2.2
      · exact (own v3 vM k3 h.o3 q h3).2.2
  · rcases (own v1 vP k1 h.o1 q hq).1 with e | e
    · exact .inl e
    · exact .inr ⟨e.1, e.2, .inl hq⟩
  · rcases (own v2 vQ k2 h.o2 q hq).1 with e | e
    · exact .inl e
    · exact .inr ⟨e.1, e.2, .inr (.inl hq)⟩
  · rcases (own v3 vM k3 h.o3 q hq).1 with e | e
    · exact .inl e
    · exact .inr ⟨e.1, e.2, .inr (.inr hq)⟩
  · have b06 : Below w.heap.size w w6 := hb0.trans ((hb5.mono hb0.size).trans (hb6.mono (by omega)))
    refine ⟨hW.os.trans (fr7.os.trans b06.os), hW.tape.trans (fr7.tape.trans b06.tape), hW.output.trans (fr7.output.trans b06.output), by omega, fun q hq => ?_⟩
    have := sz q hq
    exact (blk q (.inl hq) (by omega) (by omega)).trans (b06.block q this)
theorem only_row13 (w : World) (g : Nat) (cs : Array Value) : Only g g w (w.setRow g cs) := ⟨rfl, rfl, rfl, by rw [row_size]; exact Nat.le_refl _, fun k _ hk _ => row_other _ _ _ _ hk⟩
theorem set6 {w : World} {g : Nat} (h : w.heap[g]? = some (.cells iz 28 (0, 0))) (u0 u1 u2 u3 u4 u5 : Value) : ((((((w.setCell ⟨g, 0, none⟩ u0).setCell ⟨g, 1, none⟩ u1).setCell ⟨g, 2, none⟩ u2).setCell ⟨g, 3, none⟩ u3).setCell ⟨g, 4, none⟩ u4).setCell ⟨g, 5, none⟩ u5).heap[g]? = some (.cells #[u0, u1, u2, u3, u4, u5] 28 (0, 0)) := by
  have h0 := blk_set (i := 0) u0 h (show (iz : Array Value).setIfInBounds 0 u0 = #[u0, .int .i64 0, .slice none 0 0, .slice none 0 0, .slice none 0 0, .int .i64 0] from rfl)
  have h1 := blk_set (i := 1) u1 h0 (show (#[u0, .int .i64 0, .slice none 0 0, .slice none 0 0, .slice none 0 0, .int .i64 0] : Array Value).setIfInBounds 1 u1 = #[u0, u1, .slice none 0 0, .slice none 0 0, .slice none 0 0, .int .i64 0] from rfl)
  have h2 := blk_set (i := 2) u2 h1 (show (#[u0, u1, .slice none 0 0, .slice none 0 0, .slice none 0 0, .int .i64 0] : Array Value).setIfInBounds 2 u2 = #[u0, u1, u2, .slice none 0 0, .slice none 0 0, .int .i64 0] from rfl)
  have h3 := blk_set (i := 3) u3 h2 (show (#[u0, u1, u2, .slice none 0 0, .slice none 0 0, .int .i64 0] : Array Value).setIfInBounds 3 u3 = #[u0, u1, u2, u3, .slice none 0 0, .int .i64 0] from rfl)
  have h4 := blk_set (i := 4) u4 h3 (show (#[u0, u1, u2, u3, .slice none 0 0, .int .i64 0] : Array Value).setIfInBounds 4 u4 = #[u0, u1, u2, u3, u4, .int .i64 0] from rfl)
  exact blk_set (i := 5) u5 h4 (show (#[u0, u1, u2, u3, u4, .int .i64 0] : Array Value).setIfInBounds 5 u5 = #[u0, u1, u2, u3, u4, u5] from rfl)
theorem only_set (w w' : World) (g i : Nat) (u : Value) (h : Only g g w w') : Only g g w (w'.setCell ⟨g, i, none⟩ u) :=
  ⟨h.os, h.tape, h.output, by simpa using h.size, fun k h1 hk h2 => (heap_setCell_other _ _ _ _ (by simpa using hk)).trans (h.block k h1 hk h2)⟩
theorem only6 (w : World) (g : Nat) (u0 u1 u2 u3 u4 u5 : Value) : Only g g w ((((((w.setCell ⟨g, 0, none⟩ u0).setCell ⟨g, 1, none⟩ u1).setCell ⟨g, 2, none⟩ u2).setCell ⟨g, 3, none⟩ u3).setCell ⟨g, 4, none⟩ u4).setCell ⟨g, 5, none⟩ u5) :=
  only_set _ _ _ _ _ (only_set _ _ _ _ _ (only_set _ _ _ _ _ (only_set _ _ _ _ _ (only_set _ _ _ _ _ (only_set _ _ _ _ _ ⟨rfl, rfl, rfl, Nat.le_refl _, fun _ _ _ _ => rfl⟩)))))
set_option maxRecDepth 100000 in
set_option maxHeartbeats 8000000 in
theorem do_putp {Z : Nat → Prop} {x np k : Nat} {f : Nat → Bool} {N pl : Int} {Pl Q M : List Int} {vP vQ vM : Value} {w : World} (h : St Z x np f N Pl Q M pl vP vQ vM k w) (hk : k < 900) (K n : Int) (hK0 : 0 ≤ K) (hK1 : K ≤ 255) (hK : K % 9 = 0) :
    Calls Tryd.prog 7 #[.pointer (some ⟨x, 0, none⟩), .agg (ix np N vP vQ vM pl), .agg #[.int .u8 K, .int .i64 n]] w (DoPost Z x np N k vP vQ vM w) := by
  have hg := h.ids.T.lt
  have hln := h.ln
  obtain ⟨aP, nP, cP, aQ, nQ, cQ, aM, nM, cM, rfl, rfl, rfl, _, _, _, _, _, _⟩ := h.di.sl
  obtain ⟨w0, hw0⟩ : ∃ w0, w0 = ((w.alloc (.cells (ix np N (.slice aP nP cP) (.slice aQ nQ cQ) (.slice aM nM cM) pl) 28)).alloc (.cells #[.int .u8 K, .int .i64 n] 31)).alloc (.cells iz 28) := ⟨_, rfl⟩
  have hb0 : Below w.heap.size w w0 := by rw [hw0]; exact (((bl_al13 w _).alloc (by simp) _).alloc (by simp; omega) _)
  have hs0 : w0.heap.size = w.heap.size + 3 := by rw [hw0]; simp
  have K4 := hid (show w0.heap[w.heap.size]? = some (.cells (ix np N (.slice aP nP cP) (.slice aQ nQ cQ) (.slice aM nM cM) pl) 28 (0, 0)) by rw [hw0]; exact (Below.heap_alloc _ _ _ (by simp; omega)).trans (heap_alloc2_old w _ _))
  have K5 := hid (show w0.heap[w.heap.size + 1]? = some (.cells #[.int .u8 K, .int .i64 n] 31 (0, 0)) by rw [hw0]; exact (Below.heap_alloc _ _ _ (by simp)).trans (heap_alloc2_new w _ _))
  have K6 := hid (show w0.heap[w.heap.size + 1 + 1]? = some (.cells iz 28 (0, 0)) by
    have := heap_alloc_new ((w.alloc (.cells (ix np N (.slice aP nP cP) (.slice aQ nQ cQ) (.slice aM nM cM) pl) 28)).alloc (.cells #[.int .u8 K, .int .i64 n] 31)) (.cells iz 28)
    rw [hw0]; simpa using this)
  have D0 := h.di.below hb0
  have H := hid h
  have HB0 := hid hb0
  have t0 : (K % 9 == 0) = true := by simp [hK]
  have t1 : (K % 9 == 1) = false := by simp [hK]
  have t2 : (K % 9 == 2) = false := by simp [hK]
  have t3 : (K % 9 == 3) = false := by simp [hK]
  have t6 : (K % 9 == 6) = false := by simp [hK]
  have t7 : (K % 9 == 7) = false := by simp [hK]
  have t8 : (K % 9 == 8) = false := by simp [hK]
  obtain ⟨b0, f5, Pl5, A1, A2, im5, l1, l2, l3⟩ := act_put (N := N) (x := x) H.out.im (by omega) (by omega) n
  have DC := hid (show Calls Tryd.prog 18 #[.agg (ix np N (.slice aP nP cP) (.slice aQ nQ cQ) (.slice aM nM cM) pl), .int .i64 n] w0 (DiPost w0 (.slice aP nP cP) (.slice aQ nQ cQ) (.slice aM nM cM) np N Pl5 Q M pl [.bool b0]) from A1 w0 _ _ _ D0)
  have PC := hid (show ∀ (Z' : Nat → Prop) (y : World), Ids Z' x np f Q N M pl y → Calls Tryd.prog 19 #[.pointer (some ⟨x, 0, none⟩), .int .i64 n] y (DPost (.bool b0) Z' x np f5 Q N M pl y) from A2)
  have IM5 := hid im5
  have LN5 := hid (show Pl5.length ≤ k + 1 ∧ Q.length ≤ k + 1 ∧ M.length ≤ k + 1 by omega)
  have bb0 : (b0 == b0) = true := by simp
  clear A1 A2 im5 l1 l2 l3 hK D0 hb0 h hln
  go_enter Tryd.func7, Tryd.ntmps7
  go_wp2_with (refine wpList_load_known (by rfl) 28 (.tmp 4) rfl w.heap.size rfl 28 (ix np N (.slice aP nP cP) (.slice aQ nQ cQ) (.slice aM nM cM) pl) (0, 0) _ (by rw [← hw0]; exact K4.out) Tryd.underlying28 rfl (by kernel_rfl) ?_)
  rw [← hw0]
  clear hw0
  refine DC.out.mono ?_
  rintro e w5 ⟨v1, v2, v3, rfl, d5, hb5, k1, k2, k3⟩
  obtain ⟨bP, mP, dP, bQ, mQ, dQ, bM, mM, dM, rfl, rfl, rfl, _, _, _, _, _, _⟩ := d5.sl
  have s5 := hb5.size
  have e5 := (hb5.block (w.heap.size + 1) (by omega)).trans K5.out
  have e6 := (Below.heap_alloc w5 (.cells (ix np N (.slice bP mP dP) (.slice bQ mQ dQ) (.slice bM mM dM) pl) 28) _ (by omega)).trans e5
  have y1 : (w5.alloc (.cells (ix np N (.slice bP mP dP) (.slice bQ mQ dQ) (.slice bM mM dM) pl) 28)).cell? ⟨w.heap.size + 1, 1, none⟩ = some (.int .i64 n) := blk_cell e6 rfl
  have R6 := hid ((Below.heap_alloc w5 (.cells (ix np N (.slice bP mP dP) (.slice bQ mQ dQ) (.slice bM mM dM) pl) 28) (w.heap.size + 1 + 1) (by omega)).trans ((hb5.block (w.heap.size + 1 + 1) (by omega)).trans K6.out))
  have N6 := hid (heap_alloc_new w5 (.cells (ix np N (.slice bP mP dP) (.slice bQ mQ dQ) (.slice bM mM dM) pl) 28))
  have B6 := hid (HB0.out.trans ((hb5.mono HB0.out.size).trans ((bl_al13 w5 (.cells (ix np N (.slice bP mP dP) (.slice bQ mQ dQ) (.slice bM mM dM) pl) 28)).mono (by omega))))
  have I6 := H.out.ids.more B6.out
  have s6 : (w5.alloc (.cells (ix np N (.slice bP mP dP) (.slice bQ mQ dQ) (.slice bM mM dM) pl) 28)).heap.size = w5.heap.size + 1 := by simp
  have D5 := hid (And.intro d5 (And.intro hb5 (And.intro k1 (And.intro k2 k3))))
  have HS := hid hs0
  clear DC d5 hb5 k1 k2 k3 K4 K5 K6 e5 e6
  have I7 := I6.below (bl_drw13 (w5.alloc (.cells (ix np N (.slice bP mP dP) (.slice bQ mQ dQ) (.slice bM mM dM) pl) 28)) _)
  have PC6 := hid (PC.out _ _ I7)
  have FX := hid (fun (w7 : World) (p7 : Ids _ x np f5 Q N M pl w7) (fr7 : Fr _ (w5.alloc (.cells (ix np N (.slice bP mP dP) (.slice bQ mQ dQ) (.slice bM mM dM) pl) 28)).drew w7) => do_fin H.out HB0.out (by have := HS.out; omega) D5.out.1 D5.out.2.1 D5.out.2.2.1 D5.out.2.2.2.1 D5.out.2.2.2.2 ((bl_al13 w5 _).trans ((bl_drw13 _ _).mono (Nat.le_refl _))) p7 fr7 (only6 w7 (w.heap.size + 1 + 1) (.int .i64 np) (.int .i64 N) (.slice bP mP dP) (.slice bQ mQ dQ) (.slice bM mM dM) (.int .i64 pl)) IM5.out LN5.out hg)
  clear PC I6 I7
  go_wp2_with fail
  go_region_with (go_at_call 19; (with_reducible refine PC6.out.mono ?_); rintro e w7 ⟨rfl, p7, fr7⟩; have N7 := (fr7.block w5.heap.size (.inr ⟨by omega, by show _ < (w5.alloc _).heap.size; omega⟩)).trans N6.out; have R7 := hid ((fr7.block (w.heap.size + 1 + 1) (.inr ⟨by omega, by show _ < (w5.alloc _).heap.size; omega⟩)).trans R6.out); have c0 := blk_cell N7 (i := 0) rfl; have c1 := blk_cell N7 (i := 1) rfl; have c2 := blk_cell N7 (i := 2) rfl; have c3 := blk_cell N7 (i := 3) rfl; have c4 := blk_cell N7 (i := 4) rfl; have c5 := blk_cell N7 (i := 5) rfl; have r0 := blk_cell R7.out (i := 0) rfl; have r1 := blk_cell R7.out (i := 1) rfl; have r2 := blk_cell R7.out (i := 2) rfl; have r3 := blk_cell R7.out (i := 3) rfl; have r4 := blk_cell R7.out (i := 4) rfl; have r5 := blk_cell R7.out (i := 5) rfl; have f0 := blk_free R7.out (i := 0); have f1 := blk_free R7.out (i := 1); have f2 := blk_free R7.out (i := 2); have f3 := blk_free R7.out (i := 3); have f4 := blk_free R7.out (i := 4); have f5 := blk_free R7.out (i := 5); have P7 := hid (And.intro p7 fr7); clear p7 fr7 N7)
  all_goals
    have FIN := hid (FX.out w7 P7.out.1 P7.out.2)
    have S6 := hid (set6 R7.out (.int .i64 np) (.int .i64 N) (.slice bP mP dP) (.slice bQ mQ dQ) (.slice bM mM dM) (.int .i64 pl))
    clear PC6 N6 R6 B6 H HB0 D5 IM5 LN5 HS y1 FX P7
    go_wp2
    exact bodyPost_ret (v := .tuple #[.agg (ix np N (.slice bP mP dP) (.slice bQ mQ dQ) (.slice bM mM dM) pl), .bool true]) (results_row_t13 rfl _ _ (w.heap.size + 1 + 1) 28 (ix np N (.slice bP mP dP) (.slice bQ mQ dQ) (.slice bM mM dM) pl) (0, 0) _ (by rfl) S6.out Tryd.underlying28 rfl (by kernel_rfl) _ (by rfl)) rfl FIN.out
set_option maxRecDepth 100000 in
set_option maxHeartbeats 8000000 in
theorem do_takep {Z : Nat → Prop} {x np k : Nat} {f : Nat → Bool} {N pl : Int} {Pl Q M : List Int} {vP vQ vM : Value} {w : World} (h : St Z x np f N Pl Q M pl vP vQ vM k w) (hk : k < 900) (K n : Int) (hK0 : 0 ≤ K) (hK1 : K ≤ 255) (hK : K % 9 = 1) :
    Calls Tryd.prog 7 #[.pointer (some ⟨x, 0, none⟩), .agg (ix np N vP vQ vM pl), .agg #[.int .u8 K, .int .i64 n]] w (DoPost Z x np N k vP vQ vM w) := by
  have hg := h.ids.T.lt
  have hln := h.ln
  obtain ⟨aP, nP, cP, aQ, nQ, cQ, aM, nM, cM, rfl, rfl, rfl, _, _, _, _, _, _⟩ := h.di.sl
  obtain ⟨w0, hw0⟩ : ∃ w0, w0 = ((w.alloc (.cells (ix np N (.slice aP nP cP) (.slice aQ nQ cQ) (.slice aM nM cM) pl) 28)).alloc (.cells #[.int .u8 K, .int .i64 n] 31)).alloc (.cells iz 28) := ⟨_, rfl⟩
  have hb0 : Below w.heap.size w w0 := by rw [hw0]; exact (((bl_al13 w _).alloc (by simp) _).alloc (by simp; omega) _)
  have hs0 : w0.heap.size = w.heap.size + 3 := by rw [hw0]; simp
  have K4 := hid (show w0.heap[w.heap.size]? = some (.cells (ix np N (.slice aP nP cP) (.slice aQ nQ cQ) (.slice aM nM cM) pl) 28 (0, 0)) by rw [hw0]; exact (Below.heap_alloc _ _ _ (by simp; omega)).trans (heap_alloc2_old w _ _))
  have K5 := hid (show w0.heap[w.heap.size + 1]? = some (.cells #[.int .u8 K, .int .i64 n] 31 (0, 0)) by rw [hw0]; exact (Below.heap_alloc _ _ _ (by simp)).trans (heap_alloc2_new w _ _))
  have K6 := hid (show w0.heap[w.heap.size + 1 + 1]? = some (.cells iz 28 (0, 0)) by
    have := heap_alloc_new ((w.alloc (.cells (ix np N (.slice aP nP cP) (.slice aQ nQ cQ) (.slice aM nM cM) pl) 28)).alloc (.cells #[.int .u8 K, .int .i64 n] 31)) (.cells iz 28)
    rw [hw0]; simpa using this)
  have D0 := h.di.below hb0
  have H := hid h
  have HB0 := hid hb0
  have t0 : (K % 9 == 0) = false := by simp [hK]
  have t1 : (K % 9 == 1) = true := by simp [hK]
  have t2 : (K % 9 == 2) = false := by simp [hK]
  have t3 : (K % 9 == 3) = false := by simp [hK]
  have t6 : (K % 9 == 6) = false := by simp [hK]
  have t7 : (K % 9 == 7) = false := by simp [hK]
  have t8 : (K % 9 == 8) = false := by simp [hK]
  obtain ⟨n0, b0, f5, Pl5, A1, A2, im5, l1, l2, l3⟩ := act_takep (N := N) (x := x) H.out.im
  have DC := hid (show Calls Tryd.prog 20 #[.agg (ix np N (.slice aP nP cP) (.slice aQ nQ cQ) (.slice aM nM cM) pl)] w0 (DiPost w0 (.slice aP nP cP) (.slice aQ nQ cQ) (.slice aM nM cM) np N Pl5 Q M pl [.int .i64 n0, .bool b0]) from A1 w0 _ _ _ D0)
  have PC := hid (show ∀ (Z' : Nat → Prop) (y : World), Ids Z' x np f Q N M pl y → Calls Tryd.prog 21 #[.pointer (some ⟨x, 0, none⟩)] y (DPost (.tuple #[.int .i64 n0, .bool b0]) Z' x np f5 Q N M pl y) from A2)
  have IM5 := hid im5
  have LN5 := hid (show Pl5.length ≤ k + 1 ∧ Q.length ≤ k + 1 ∧ M.length ≤ k + 1 by omega)
  have bb0 : (b0 == b0) = true := by simp
  have nn0 : (n0 == n0) = true := by simp
  clear A1 A2 im5 l1 l2 l3 hK D0 hb0 h hln
  go_enter Tryd.func7, Tryd.ntmps7
  go_wp2_with (refine wpList_load_known (by rfl) 28 (.tmp 4) rfl w.heap.size rfl 28 (ix np N (.slice aP nP cP) (.slice aQ nQ cQ) (.slice aM nM cM) pl) (0, 0) _ (by rw [← hw0]; exact K4.out) Tryd.underlying28 rfl (by kernel_rfl) ?_)
  rw [← hw0]
  clear hw0
  refine DC.out.mono ?_
  rintro e w5 ⟨v1, v2, v3, rfl, d5, hb5, k1, k2, k3⟩
  obtain ⟨bP, mP, dP, bQ, mQ, dQ, bM, mM, dM, rfl, rfl, rfl, _, _, _, _, _, _⟩ := d5.sl
  have s5 := hb5.size
  have e5 := (hb5.block (w.heap.size + 1) (by omega)).trans K5.out
  have e6 := (Below.heap_alloc w5 (.cells (ix np N (.slice bP mP dP) (.slice bQ mQ dQ) (.slice bM mM dM) pl) 28) _ (by omega)).trans e5
  have y1 : (w5.alloc (.cells (ix np N (.slice bP mP dP) (.slice bQ mQ dQ) (.slice bM mM dM) pl) 28)).cell? ⟨w.heap.size + 1, 1, none⟩ = some (.int .i64 n) := blk_cell e6 rfl
  have R6 := hid ((Below.heap_alloc w5 (.cells (ix np N (.slice bP mP dP) (.slice bQ mQ dQ) (.slice bM mM dM) pl) 28) (w.heap.size + 1 + 1) (by omega)).trans ((hb5.block (w.heap.size + 1 + 1) (by omega)).trans K6.out))
  have N6 := hid (heap_alloc_new w5 (.cells (ix np N (.slice bP mP dP) (.slice bQ mQ dQ) (.slice bM mM dM) pl) 28))
  have B6 := hid (HB0.out.trans ((hb5.mono HB0.out.size).trans ((bl_al13 w5 (.cells (ix np N (.slice bP mP dP) (.slice bQ mQ dQ) (.slice bM mM dM) pl) 28)).mono (by omega))))
  have I6 := H.out.ids.more B6.out
  have s6 : (w5.alloc (.cells (ix np N (.slice bP mP dP) (.slice bQ mQ dQ) (.slice bM mM dM) pl) 28)).heap.size = w5.heap.size + 1 := by simp
  have D5 := hid (And.intro d5 (And.intro hb5 (And.intro k1 (And.intro k2 k3))))
  have HS := hid hs0
  clear DC d5 hb5 k1 k2 k3 K4 K5 K6 e5 e6
  have PC6 := hid (PC.out _ _ I6)
  clear PC I6
  go_wp2_with fail
  refine PC6.out.mono ?_
  rintro e w7 ⟨rfl, p7, fr7⟩
  have N7 := hid ((fr7.block w5.heap.size (.inr ⟨by omega, by omega⟩)).trans N6.out)
  have R7 := hid ((fr7.block (w.heap.size + 1 + 1) (.inr ⟨by omega, by omega⟩)).trans R6.out)
  have FIN := hid (do_fin H.out HB0.out (by have := HS.out; omega) D5.out.1 D5.out.2.1 D5.out.2.2.1 D5.out.2.2.2.1 D5.out.2.2.2.2 (bl_al13 w5 _) p7 fr7 (only_row13 w7 (w.heap.size + 1 + 1) (ix np N (.slice bP mP dP) (.slice bQ mQ dQ) (.slice bM mM dM) pl)) IM5.out LN5.out hg)
  clear p7 fr7 PC6 N6 R6 B6 H HB0 D5 IM5 LN5 HS y1
  go_wp2_with (first
    | (refine wpList_load_known (by rfl) 28 (.tmp 10) rfl w5.heap.size rfl 28 (ix np N (.slice bP mP dP) (.slice bQ mQ dQ) (.slice bM mM dM) pl) (0, 0) _ N7.out Tryd.underlying28 rfl (by kernel_rfl) ?_)
    | (refine wpList_store_row rfl 28 (.tmp 6) (.tmp 66) rfl (w.heap.size + 1 + 1) (ix np N (.slice bP mP dP) (.slice bQ mQ dQ) (.slice bM mM dM) pl) rfl rfl 28 _ R7.out (by kernel_rfl) (by rfl) (by simp [ix, Value.oneCell']) ?_))
  exact bodyPost_ret (v := .tuple #[.agg (ix np N (.slice bP mP dP) (.slice bQ mQ dQ) (.slice bM mM dM) pl), .bool true]) (results_row_t13 rfl _ _ (w.heap.size + 1 + 1) 28 (ix np N (.slice bP mP dP) (.slice bQ mQ dQ) (.slice bM mM dM) pl) (0, 0) _ (by rfl) (setRow_heap _ _ _ _ _ _ R7.out) Tryd.underlying28 rfl (by kernel_rfl) _ (by rfl)) rfl FIN.out
set_option maxRecDepth 100000 in
set_option maxHeartbeats 8000000 in
theorem do_pend {Z : Nat → Prop} {x np k : Nat} {f : Nat → Bool} {N pl : Int} {Pl Q M : List Int} {vP vQ vM : Value} {w : World} (h : St Z x np f N Pl Q M pl vP vQ vM k w) (hk : k < 900) (K n : Int) (hK0 : 0 ≤ K) (hK1 : K ≤ 255) (hK : K % 9 = 2) :
    Calls Tryd.prog 7 #[.pointer (some ⟨x, 0, none⟩), .agg (ix np N vP vQ vM pl), .agg #[.int .u8 K, .int .i64 n]] w (DoPost Z x np N k vP vQ vM w) := by
  have hg := h.ids.T.lt
  have hln := h.ln
  obtain ⟨aP, nP, cP, aQ, nQ, cQ, aM, nM, cM, rfl, rfl, rfl, _, _, _, _, _, _⟩ := h.di.sl
  obtain ⟨w0, hw0⟩ : ∃ w0, w0 = ((w.alloc (.cells (ix np N (.slice aP nP cP) (.slice aQ nQ cQ) (.slice aM nM cM) pl) 28)).alloc (.cells #[.int .u8 K, .int .i64 n] 31)).alloc (.cells iz 28) := ⟨_, rfl⟩
  have hb0 : Below w.heap.size w w0 := by rw [hw0]; exact (((bl_al13 w _).alloc (by simp) _).alloc (by simp; omega) _)
  have hs0 : w0.heap.size = w.heap.size + 3 := by rw [hw0]; simp
  have K4 := hid (show w0.heap[w.heap.size]? = some (.cells (ix np N (.slice aP nP cP) (.slice aQ nQ cQ) (.slice aM nM cM) pl) 28 (0, 0)) by rw [hw0]; exact (Below.heap_alloc _ _ _ (by simp; omega)).trans (heap_alloc2_old w _ _))
  have K5 := hid (show w0.heap[w.heap.size + 1]? = some (.cells #[.int .u8 K, .int .i64 n] 31 (0, 0)) by rw [hw0]; exact (Below.heap_alloc _ _ _ (by simp)).trans (heap_alloc2_new w _ _))
  have K6 := hid (show w0.heap[w.heap.size + 1 + 1]? = some (.cells iz 28 (0, 0)) by
    have := heap_alloc_new ((w.alloc (.cells (ix np N (.slice aP nP cP) (.slice aQ nQ cQ) (.slice aM nM cM) pl) 28)).alloc (.cells #[.int .u8 K, .int .i64 n] 31)) (.cells iz 28)
    rw [hw0]; simpa using this)
  have D0 := h.di.below hb0
  have H := hid h
  have HB0 := hid hb0
  have t0 : (K % 9 == 0) = false := by simp [hK]
  have t1 : (K % 9 == 1) = false := by simp [hK]
  have t2 : (K % 9 == 2) = true := by simp [hK]
  have t3 : (K % 9 == 3) = false := by simp [hK]
  have t6 : (K % 9 == 6) = false := by simp [hK]
  have t7 : (K % 9 == 7) = false := by simp [hK]
  have t8 : (K % 9 == 8) = false := by simp [hK]
  obtain ⟨b0, Q5, A1, A2, im5, l1, l2, l3⟩ := act_pend (N := N) (x := x) H.out.im (by omega) n
  have DC := hid (show Calls Tryd.prog 22 #[.agg (ix np N (.slice aP nP cP) (.slice aQ nQ cQ) (.slice aM nM cM) pl), .int .i64 n] w0 (DiPost w0 (.slice aP nP cP) (.slice aQ nQ cQ) (.slice aM nM cM) np N Pl Q5 M pl [.bool b0]) from A1 w0 _ _ _ D0)
  have PC := hid (show ∀ (Z' : Nat → Prop) (y : World), Ids Z' x np f Q N M pl y → Calls Tryd.prog 23 #[.pointer (some ⟨x, 0, none⟩), .int .i64 n] y (DPost (.bool b0) Z' x np f Q5 N M pl y) from A2)
  have IM5 := hid im5
  have LN5 := hid (show Pl.length ≤ k + 1 ∧ Q5.length ≤ k + 1 ∧ M.length ≤ k + 1 by omega)
  have bb0 : (b0 == b0) = true := by simp
  clear A1 A2 im5 l1 l2 l3 hK D0 hb0 h hln
  go_enter Tryd.func7, Tryd.ntmps7
  go_wp2_with (refine wpList_load_known (by rfl) 28 (.tmp 4) rfl w.heap.size rfl 28 (ix np N (.slice aP nP cP) (.slice aQ nQ cQ) (.slice aM nM cM) pl) (0, 0) _ (by rw [← hw0]; exact K4.out) Tryd.underlying28 rfl (by kernel_rfl) ?_)
  rw [← hw0]
  clear hw0
  refine DC.out.mono ?_
  rintro e w5 ⟨v1, v2, v3, rfl, d5, hb5, k1, k2, k3⟩
  obtain ⟨bP, mP, dP, bQ, mQ, dQ, bM, mM, dM, rfl, rfl, rfl, _, _, _, _, _, _⟩ := d5.sl
  have s5 := hb5.size
  have e5 := (hb5.block (w.heap.size + 1) (by omega)).trans K5.out
  have e6 := (Below.heap_alloc w5 (.cells (ix np N (.slice bP mP dP) (.slice bQ mQ dQ) (.slice bM mM dM) pl) 28) _ (by omega)).trans e5
  have y1 : (w5.alloc (.cells (ix np N (.slice bP mP dP) (.slice bQ mQ dQ) (.slice bM mM dM) pl) 28)).cell? ⟨w.heap.size + 1, 1, none⟩ = some (.int .i64 n) := blk_cell e6 rfl
  have R6 := hid ((Below.heap_alloc w5 (.cells (ix np N (.slice bP mP dP) (.slice bQ mQ dQ) (.slice bM mM dM) pl) 28) (w.heap.size + 1 + 1) (by omega)).trans ((hb5.block (w.heap.size + 1 + 1) (by omega)).trans K6.out))
  have N6 := hid (heap_alloc_new w5 (.cells (ix np N (.slice bP mP dP) (.slice bQ mQ dQ) (.slice bM mM dM) pl) 28))
  have B6 := hid (HB0.out.trans ((hb5.mono HB0.out.size).trans ((bl_al13 w5 (.cells (ix np N (.slice bP mP dP) (.slice bQ mQ dQ) (.slice bM mM dM) pl) 28)).mono (by omega))))
  have I6 := H.out.ids.more B6.out
  have s6 : (w5.alloc (.cells (ix np N (.slice bP mP dP) (.slice bQ mQ dQ) (.slice bM mM dM) pl) 28)).heap.size = w5.heap.size + 1 := by simp
  have D5 := hid (And.intro d5 (And.intro hb5 (And.intro k1 (And.intro k2 k3))))
  have HS := hid hs0
  clear DC d5 hb5 k1 k2 k3 K4 K5 K6 e5 e6
  have I7 := I6.below (bl_drw13 (w5.alloc (.cells (ix np N (.slice bP mP dP) (.slice bQ mQ dQ) (.slice bM mM dM) pl) 28)) _)
  have PC6 := hid (PC.out _ _ I7)
  have FX := hid (fun (w7 : World) (p7 : Ids _ x np f Q5 N M pl w7) (fr7 : Fr _ (w5.alloc (.cells (ix np N (.slice bP mP dP) (.slice bQ mQ dQ) (.slice bM mM dM) pl) 28)).drew w7) => do_fin H.out HB0.out (by have := HS.out; omega) D5.out.1 D5.out.2.1 D5.out.2.2.1 D5.out.2.2.2.1 D5.out.2.2.2.2 ((bl_al13 w5 _).trans ((bl_drw13 _ _).mono (Nat.le_refl _))) p7 fr7 (only6 w7 (w.heap.size + 1 + 1) (.int .i64 np) (.int .i64 N) (.slice bP mP dP) (.slice bQ mQ dQ) (.slice bM mM dM) (.int .i64 pl)) IM5.out LN5.out hg)
  clear PC I6 I7
  go_wp2_with fail
  go_region_with (go_at_call 23; (with_reducible refine PC6.out.mono ?_); rintro e w7 ⟨rfl, p7, fr7⟩; have N7 := (fr7.block w5.heap.size (.inr ⟨by omega, by show _ < (w5.alloc _).heap.size; omega⟩)).trans N6.out; have R7 := hid ((fr7.block (w.heap.size + 1 + 1) (.inr ⟨by omega, by show _ < (w5.alloc _).heap.size; omega⟩)).trans R6.out); have c0 := blk_cell N7 (i := 0) rfl; have c1 := blk_cell N7 (i := 1) rfl; have c2 := blk_cell N7 (i := 2) rfl; have c3 := blk_cell N7 (i := 3) rfl; have c4 := blk_cell N7 (i := 4) rfl; have c5 := blk_cell N7 (i := 5) rfl; have r0 := blk_cell R7.out (i := 0) rfl; have r1 := blk_cell R7.out (i := 1) rfl; have r2 := blk_cell R7.out (i := 2) rfl; have r3 := blk_cell R7.out (i := 3) rfl; have r4 := blk_cell R7.out (i := 4) rfl; have r5 := blk_cell R7.out (i := 5) rfl; have f0 := blk_free R7.out (i := 0); have f1 := blk_free R7.out (i := 1); have f2 := blk_free R7.out (i := 2); have f3 := blk_free R7.out (i := 3); have f4 := blk_free R7.out (i := 4); have f5 := blk_free R7.out (i := 5); have P7 := hid (And.intro p7 fr7); clear p7 fr7 N7)
  all_goals
    have FIN := hid (FX.out w7 P7.out.1 P7.out.2)
    have S6 := hid (set6 R7.out (.int .i64 np) (.int .i64 N) (.slice bP mP dP) (.slice bQ mQ dQ) (.slice bM mM dM) (.int .i64 pl))
    clear PC6 N6 R6 B6 H HB0 D5 IM5 LN5 HS y1 FX P7
    go_wp2
    exact bodyPost_ret (v := .tuple #[.agg (ix np N (.slice bP mP dP) (.slice bQ mQ dQ) (.slice bM mM dM) pl), .bool true]) (results_row_t13 rfl _ _ (w.heap.size + 1 + 1) 28 (ix np N (.slice bP mP dP) (.slice bQ mQ dQ) (.slice bM mM dM) pl) (0, 0) _ (by rfl) S6.out Tryd.underlying28 rfl (by kernel_rfl) _ (by rfl)) rfl FIN.out
set_option maxRecDepth 100000 in
set_option maxHeartbeats 8000000 in
theorem do_takepend {Z : Nat → Prop} {x np k : Nat} {f : Nat → Bool} {N pl : Int} {Pl Q M : List Int} {vP vQ vM : Value} {w : World} (h : St Z x np f N Pl Q M pl vP vQ vM k w) (hk : k < 900) (K n : Int) (hK0 : 0 ≤ K) (hK1 : K ≤ 255) (hK : K % 9 = 3) :
    Calls Tryd.prog 7 #[.pointer (some ⟨x, 0, none⟩), .agg (ix np N vP vQ vM pl), .agg #[.int .u8 K, .int .i64 n]] w (DoPost Z x np N k vP vQ vM w) := by
  have hg := h.ids.T.lt
  have hln := h.ln
  obtain ⟨aP, nP, cP, aQ, nQ, cQ, aM, nM, cM, rfl, rfl, rfl, _, _, _, _, _, _⟩ := h.di.sl
  obtain ⟨w0, hw0⟩ : ∃ w0, w0 = ((w.alloc (.cells (ix np N (.slice aP nP cP) (.slice aQ nQ cQ) (.slice aM nM cM) pl) 28)).alloc (.cells #[.int .u8 K, .int .i64 n] 31)).alloc (.cells iz 28) := ⟨_, rfl⟩
  have hb0 : Below w.heap.size w w0 := by rw [hw0]; exact (((bl_al13 w _).alloc (by simp) _).alloc (by simp; omega) _)
  have hs0 : w0.heap.size = w.heap.size + 3 := by rw [hw0]; simp
  have K4 := hid (show w0.heap[w.heap.size]? = some (.cells (ix np N (.slice aP nP cP) (.slice aQ nQ cQ) (.slice aM nM cM) pl) 28 (0, 0)) by rw [hw0]; exact (Below.heap_alloc _ _ _ (by simp; omega)).trans (heap_alloc2_old w _ _))
  have K5 := hid (show w0.heap[w.heap.size + 1]? = some (.cells #[.int .u8 K, .int .i64 n] 31 (0, 0)) by rw [hw0]; exact (Below.heap_alloc _ _ _ (by simp)).trans (heap_alloc2_new w _ _))
  have K6 := hid (show w0.heap[w.heap.size + 1 + 1]? = some (.cells iz 28 (0, 0)) by
    have := heap_alloc_new ((w.alloc (.cells (ix np N (.slice aP nP cP) (.slice aQ nQ cQ) (.slice aM nM cM) pl) 28)).alloc (.cells #[.int .u8 K, .int .i64 n] 31)) (.cells iz 28)
    rw [hw0]; simpa using this)
  have D0 := h.di.below hb0
  have H := hid h
  have HB0 := hid hb0
  have t0 : (K % 9 == 0) = false := by simp [hK]
  have t1 : (K % 9 == 1) = false := by simp [hK]
  have t2 : (K % 9 == 2) = false := by simp [hK]
  have t3 : (K % 9 == 3) = true := by simp [hK]
  have t6 : (K % 9 == 6) = false := by simp [hK]
  have t7 : (K % 9 == 7) = false := by simp [hK]
  have t8 : (K % 9 == 8) = false := by simp [hK]
  obtain ⟨n0, b0, Q5, A1, A2, im5, l1, l2, l3⟩ := act_takepend (N := N) (x := x) H.out.im
  have DC := hid (show Calls Tryd.prog 24 #[.agg (ix np N (.slice aP nP cP) (.slice aQ nQ cQ) (.slice aM nM cM) pl)] w0 (DiPost w0 (.slice aP nP cP) (.slice aQ nQ cQ) (.slice aM nM cM) np N Pl Q5 M pl [.int .i64 n0, .bool b0]) from A1 w0 _ _ _ D0)
  have PC := hid (show ∀ (Z' : Nat → Prop) (y : World), Ids Z' x np f Q N M pl y → Calls Tryd.prog 25 #[.pointer (some ⟨x, 0, none⟩)] y (DPost (.tuple #[.int .i64 n0, .bool b0]) Z' x np f Q5 N M pl y) from A2)
  have IM5 := hid im5
  have LN5 := hid (show Pl.length ≤ k + 1 ∧ Q5.length ≤ k + 1 ∧ M.length ≤ k + 1 by omega)
  have bb0 : (b0 == b0) = true := by simp
  have nn0 : (n0 == n0) = true := by simp
  clear A1 A2 im5 l1 l2 l3 hK D0 hb0 h hln
  go_enter Tryd.func7, Tryd.ntmps7
  go_wp2_with (refine wpList_load_known (by rfl) 28 (.tmp 4) rfl w.heap.size rfl 28 (ix np N (.slice aP nP cP) (.slice aQ nQ cQ) (.slice aM nM cM) pl) (0, 0) _ (by rw [← hw0]; exact K4.out) Tryd.underlying28 rfl (by kernel_rfl) ?_)
  rw [← hw0]
  clear hw0
  refine DC.out.mono ?_
  rintro e w5 ⟨v1, v2, v3, rfl, d5, hb5, k1, k2, k3⟩
  obtain ⟨bP, mP, dP, bQ, mQ, dQ, bM, mM, dM, rfl, rfl, rfl, _, _, _, _, _, _⟩ := d5.sl
  have s5 := hb5.size
  have e5 := (hb5.block (w.heap.size + 1) (by omega)).trans K5.out
  have e6 := (Below.heap_alloc w5 (.cells (ix np N (.slice bP mP dP) (.slice bQ mQ dQ) (.slice bM mM dM) pl) 28) _ (by omega)).trans e5
  have y1 : (w5.alloc (.cells (ix np N (.slice bP mP dP) (.slice bQ mQ dQ) (.slice bM mM dM) pl) 28)).cell? ⟨w.heap.size + 1, 1, none⟩ = some (.int .i64 n) := blk_cell e6 rfl
  have R6 := hid ((Below.heap_alloc w5 (.cells (ix np N (.slice bP mP dP) (.slice bQ mQ dQ) (.slice bM mM dM) pl) 28) (w.heap.size + 1 + 1) (by omega)).trans ((hb5.block (w.heap.size + 1 + 1) (by omega)).trans K6.out))
  have N6 := hid (heap_alloc_new w5 (.cells (ix np N (.slice bP mP dP) (.slice bQ mQ dQ) (.slice bM mM dM) pl) 28))
  have B6 := hid (HB0.out.trans ((hb5.mono HB0.out.size).trans ((bl_al13 w5 (.cells (ix np N (.slice bP mP dP) (.slice bQ mQ dQ) (.slice bM mM dM) pl) 28)).mono (by omega))))
  have I6 := H.out.ids.more B6.out
  have s6 : (w5.alloc (.cells (ix np N (.slice bP mP dP) (.slice bQ mQ dQ) (.slice bM mM dM) pl) 28)).heap.size = w5.heap.size + 1 := by simp
  have D5 := hid (And.intro d5 (And.intro hb5 (And.intro k1 (And.intro k2 k3))))
  have HS := hid hs0
  clear DC d5 hb5 k1 k2 k3 K4 K5 K6 e5 e6
  have PC6 := hid (PC.out _ _ I6)
  clear PC I6
  go_wp2_with fail
  refine PC6.out.mono ?_
  rintro e w7 ⟨rfl, p7, fr7⟩
  have N7 := hid ((fr7.block w5.heap.size (.inr ⟨by omega, by omega⟩)).trans N6.out)
  have R7 := hid ((fr7.block (w.heap.size + 1 + 1) (.inr ⟨by omega, by omega⟩)).trans R6.out)
  have FIN := hid (do_fin H.out HB0.out (by have := HS.out; omega) D5.out.1 D5.out.2.1 D5.out.2.2.1 D5.out.2.2.2.1 D5.out.2.2.2.2 (bl_al13 w5 _) p7 fr7 (only_row13 w7 (w.heap.size + 1 + 1) (ix np N (.slice bP mP dP) (.slice bQ mQ dQ) (.slice bM mM dM) pl)) IM5.out LN5.out hg)
  clear p7 fr7 PC6 N6 R6 B6 H HB0 D5 IM5 LN5 HS y1
  go_wp2_with (first
    | (refine wpList_load_known (by rfl) 28 (.tmp 17) rfl w5.heap.size rfl 28 (ix np N (.slice bP mP dP) (.slice bQ mQ dQ) (.slice bM mM dM) pl) (0, 0) _ N7.out Tryd.underlying28 rfl (by kernel_rfl) ?_)
    | (refine wpList_store_row rfl 28 (.tmp 6) (.tmp 104) rfl (w.heap.size + 1 + 1) (ix np N (.slice bP mP dP) (.slice bQ mQ dQ) (.slice bM mM dM) pl) rfl rfl 28 _ R7.out (by kernel_rfl) (by rfl) (by simp [ix, Value.oneCell']) ?_))
  exact bodyPost_ret (v := .tuple #[.agg (ix np N (.slice bP mP dP) (.slice bQ mQ dQ) (.slice bM mM dM) pl), .bool true]) (results_row_t13 rfl _ _ (w.heap.size + 1 + 1) 28 (ix np N (.slice bP mP dP) (.slice bQ mQ dQ) (.slice bM mM dM) pl) (0, 0) _ (by rfl) (setRow_heap _ _ _ _ _ _ R7.out) Tryd.underlying28 rfl (by kernel_rfl) _ (by rfl)) rfl FIN.out
set_option maxRecDepth 100000 in
set_option maxHeartbeats 8000000 in
theorem do_takem {Z : Nat → Prop} {x np k : Nat} {f : Nat → Bool} {N pl : Int} {Pl Q M : List Int} {vP vQ vM : Value} {w : World} (h : St Z x np f N Pl Q M pl vP vQ vM k w) (hk : k < 900) (K n : Int) (hK0 : 0 ≤ K) (hK1 : K ≤ 255) (hK : K % 9 = 6) :
    Calls Tryd.prog 7 #[.pointer (some ⟨x, 0, none⟩), .agg (ix np N vP vQ vM pl), .agg #[.int .u8 K, .int .i64 n]] w (DoPost Z x np N k vP vQ vM w) := by
  have hg := h.ids.T.lt
  have hln := h.ln
  obtain ⟨aP, nP, cP, aQ, nQ, cQ, aM, nM, cM, rfl, rfl, rfl, _, _, _, _, _, _⟩ := h.di.sl
  obtain ⟨w0, hw0⟩ : ∃ w0, w0 = ((w.alloc (.cells (ix np N (.slice aP nP cP) (.slice aQ nQ cQ) (.slice aM nM cM) pl) 28)).alloc (.cells #[.int .u8 K, .int .i64 n] 31)).alloc (.cells iz 28) := ⟨_, rfl⟩
  have hb0 : Below w.heap.size w w0 := by rw [hw0]; exact (((bl_al13 w _).alloc (by simp) _).alloc (by simp; omega) _)
  have hs0 : w0.heap.size = w.heap.size + 3 := by rw [hw0]; simp
  have K4 := hid (show w0.heap[w.heap.size]? = some (.cells (ix np N (.slice aP nP cP) (.slice aQ nQ cQ) (.slice aM nM cM) pl) 28 (0, 0)) by rw [hw0]; exact (Below.heap_alloc _ _ _ (by simp; omega)).trans (heap_alloc2_old w _ _))
  have K5 := hid (show w0.heap[w.heap.size + 1]? = some (.cells #[.int .u8 K, .int .i64 n] 31 (0, 0)) by rw [hw0]; exact (Below.heap_alloc _ _ _ (by simp)).trans (heap_alloc2_new w _ _))
  have K6 := hid (show w0.heap[w.heap.size + 1 + 1]? = some (.cells iz 28 (0, 0)) by
    have := heap_alloc_new ((w.alloc (.cells (ix np N (.slice aP nP cP) (.slice aQ nQ cQ) (.slice aM nM cM) pl) 28)).alloc (.cells #[.int .u8 K, .int .i64 n] 31)) (.cells iz 28)
    rw [hw0]; simpa using this)
  have D0 := h.di.below hb0
  have H := hid h
  have HB0 := hid hb0
  have t0 : (K % 9 == 0) = false := by simp [hK]
  have t1 : (K % 9 == 1) = false := by simp [hK]
  have t2 : (K % 9 == 2) = false := by simp [hK]
  have t3 : (K % 9 == 3) = false := by simp [hK]
  have t6 : (K % 9 == 6) = true := by simp [hK]
  have t7 : (K % 9 == 7) = false := by simp [hK]
  have t8 : (K % 9 == 8) = false := by simp [hK]
  obtain ⟨n0, b0, M5, pl5, A1, A2, im5, l1, l2, l3⟩ := act_takem (N := N) (x := x) H.out.im (by omega)
  have DC := hid (show Calls Tryd.prog 26 #[.agg (ix np N (.slice aP nP cP) (.slice aQ nQ cQ) (.slice aM nM cM) pl)] w0 (DiPost w0 (.slice aP nP cP) (.slice aQ nQ cQ) (.slice aM nM cM) np N Pl Q M5 pl5 [.int .i64 n0, .bool b0]) from A1 w0 _ _ _ D0)
  have PC := hid (show ∀ (Z' : Nat → Prop) (y : World), Ids Z' x np f Q N M pl y → Calls Tryd.prog 15 #[.pointer (some ⟨x, 0, none⟩)] y (DPost (.tuple #[.int .i64 n0, .bool b0]) Z' x np f Q N M5 pl5 y) from A2)
  have IM5 := hid im5
  have LN5 := hid (show Pl.length ≤ k + 1 ∧ Q.length ≤ k + 1 ∧ M5.length ≤ k + 1 by omega)
  have bb0 : (b0 == b0) = true := by simp
  have nn0 : (n0 == n0) = true := by simp
  clear A1 A2 im5 l1 l2 l3 hK D0 hb0 h hln
  go_enter Tryd.func7, Tryd.ntmps7
  go_wp2_with (refine wpList_load_known (by rfl) 28 (.tmp 4) rfl w.heap.size rfl 28 (ix np N (.slice aP nP cP) (.slice aQ nQ cQ) (.slice aM nM cM) pl) (0, 0) _ (by rw [← hw0]; exact K4.out) Tryd.underlying28 rfl (by kernel_rfl) ?_)
  rw [← hw0]
  clear hw0
  refine DC.out.mono ?_
  rintro e w5 ⟨v1, v2, v3, rfl, d5, hb5, k1, k2, k3⟩
  obtain ⟨bP, mP, dP, bQ, mQ, dQ, bM, mM, dM, rfl, rfl, rfl, _, _, _, _, _, _⟩ := d5.sl
  have s5 := hb5.size
  have e5 := (hb5.block (w.heap.size + 1) (by omega)).trans K5.out
  have e6 := (Below.heap_alloc w5 (.cells (ix np N (.slice bP mP dP) (.slice bQ mQ dQ) (.slice bM mM dM) pl5) 28) _ (by omega)).trans e5
  have y1 : (w5.alloc (.cells (ix np N (.slice bP mP dP) (.slice bQ mQ dQ) (.slice bM mM dM) pl5) 28)).cell? ⟨w.heap.size + 1, 1, none⟩ = some (.int .i64 n) := blk_cell e6 rfl
  have R6 := hid ((Below.heap_alloc w5 (.cells (ix np N (.slice bP mP dP) (.slice bQ mQ dQ) (.slice bM mM dM) pl5) 28) (w.heap.size + 1 + 1) (by omega)).trans ((hb5.block (w.heap.size + 1 + 1) (by omega)).trans K6.out))
  have N6 := hid (heap_alloc_new w5 (.cells (ix np N (.slice bP mP dP) (.slice bQ mQ dQ) (.slice bM mM dM) pl5) 28))
  have B6 := hid (HB0.out.trans ((hb5.mono HB0.out.size).trans ((bl_al13 w5 (.cells (ix np N (.slice bP mP dP) (.slice bQ mQ dQ) (.slice bM mM dM) pl5) 28)).mono (by omega))))
  have I6 := H.out.ids.more B6.out
  have s6 : (w5.alloc (.cells (ix np N (.slice bP mP dP) (.slice bQ mQ dQ) (.slice bM mM dM) pl5) 28)).heap.size = w5.heap.size + 1 := by simp
  have D5 := hid (And.intro d5 (And.intro hb5 (And.intro k1 (And.intro k2 k3))))
  have HS := hid hs0
  clear DC d5 hb5 k1 k2 k3 K4 K5 K6 e5 e6
  have PC6 := hid (PC.out _ _ I6)
  clear PC I6
  go_wp2_with fail
  refine PC6.out.mono ?_
  rintro e w7 ⟨rfl, p7, fr7⟩
  have N7 := hid ((fr7.block w5.heap.size (.inr ⟨by omega, by omega⟩)).trans N6.out)
  have R7 := hid ((fr7.block (w.heap.size + 1 + 1) (.inr ⟨by omega, by omega⟩)).trans R6.out)
  have FIN := hid (do_fin H.out HB0.out (by have := HS.out; omega) D5.out.1 D5.out.2.1 D5.out.2.2.1 D5.out.2.2.2.1 D5.out.2.2.2.2 (bl_al13 w5 _) p7 fr7 (only_row13 w7 (w.heap.size + 1 + 1) (ix np N (.slice bP mP dP) (.slice bQ mQ dQ) (.slice bM mM dM) pl5)) IM5.out LN5.out hg)
  clear p7 fr7 PC6 N6 R6 B6 H HB0 D5 IM5 LN5 HS y1
  go_wp2_with (first
    | (refine wpList_load_known (by rfl) 28 (.tmp 22) rfl w5.heap.size rfl 28 (ix np N (.slice bP mP dP) (.slice bQ mQ dQ) (.slice bM mM dM) pl5) (0, 0) _ N7.out Tryd.underlying28 rfl (by kernel_rfl) ?_)
    | (refine wpList_store_row rfl 28 (.tmp 6) (.tmp 126) rfl (w.heap.size + 1 + 1) (ix np N (.slice bP mP dP) (.slice bQ mQ dQ) (.slice bM mM dM) pl5) rfl rfl 28 _ R7.out (by kernel_rfl) (by rfl) (by simp [ix, Value.oneCell']) ?_))
  exact bodyPost_ret (v := .tuple #[.agg (ix np N (.slice bP mP dP) (.slice bQ mQ dQ) (.slice bM mM dM) pl5), .bool true]) (results_row_t13 rfl _ _ (w.heap.size + 1 + 1) 28 (ix np N (.slice bP mP dP) (.slice bQ mQ dQ) (.slice bM mM dM) pl5) (0, 0) _ (by rfl) (setRow_heap _ _ _ _ _ _ R7.out) Tryd.underlying28 rfl (by kernel_rfl) _ (by rfl)) rfl FIN.out
set_option maxRecDepth 100000 in
set_option maxHeartbeats 8000000 in
theorem do_stop {Z : Nat → Prop} {x np k : Nat} {f : Nat → Bool} {N pl : Int} {Pl Q M : List Int} {vP vQ vM : Value} {w : World} (h : St Z x np f N Pl Q M pl vP vQ vM k w) (hk : k < 900) (K n : Int) (hK0 : 0 ≤ K) (hK1 : K ≤ 255) (hK : K % 9 = 4 ∨ K % 9 = 5) :
    Calls Tryd.prog 7 #[.pointer (some ⟨x, 0, none⟩), .agg (ix np N vP vQ vM pl), .agg #[.int .u8 K, .int .i64 n]] w (DoPost Z x np N k vP vQ vM w) := by
  have hg := h.ids.T.lt
  have hln := h.ln
  obtain ⟨aP, nP, cP, aQ, nQ, cQ, aM, nM, cM, rfl, rfl, rfl, _, _, _, _, _, _⟩ := h.di.sl
  obtain ⟨w0, hw0⟩ : ∃ w0, w0 = ((w.alloc (.cells (ix np N (.slice aP nP cP) (.slice aQ nQ cQ) (.slice aM nM cM) pl) 28)).alloc (.cells #[.int .u8 K, .int .i64 n] 31)).alloc (.cells iz 28) := ⟨_, rfl⟩
  have hb0 : Below w.heap.size w w0 := by rw [hw0]; exact (((bl_al13 w _).alloc (by simp) _).alloc (by simp; omega) _)
  have hs0 : w0.heap.size = w.heap.size + 3 := by rw [hw0]; simp
  have K4 := hid (show w0.heap[w.heap.size]? = some (.cells (ix np N (.slice aP nP cP) (.slice aQ nQ cQ) (.slice aM nM cM) pl) 28 (0, 0)) by rw [hw0]; exact (Below.heap_alloc _ _ _ (by simp; omega)).trans (heap_alloc2_old w _ _))
  have K5 := hid (show w0.heap[w.heap.size + 1]? = some (.cells #[.int .u8 K, .int .i64 n] 31 (0, 0)) by rw [hw0]; exact (Below.heap_alloc _ _ _ (by simp)).trans (heap_alloc2_new w _ _))
  have K6 := hid (show w0.heap[w.heap.size + 1 + 1]? = some (.cells iz 28 (0, 0)) by
    have := heap_alloc_new ((w.alloc (.cells (ix np N (.slice aP nP cP) (.slice aQ nQ cQ) (.slice aM nM cM) pl) 28)).alloc (.cells #[.int .u8 K, .int .i64 n] 31)) (.cells iz 28)
    rw [hw0]; simpa using this)
  have D0 := h.di.below hb0
  have H := hid h
  have HB0 := hid hb0
  have t0 : (K % 9 == 0) = false := by simp; omega
  have t1 : (K % 9 == 1) = false := by simp; omega
  have t2 : (K % 9 == 2) = false := by simp; omega
  have t3 : (K % 9 == 3) = false := by simp; omega
  have t6 : (K % 9 == 6) = false := by simp; omega
  have t7 : (K % 9 == 7) = false := by simp; omega
  have t8 : (K % 9 == 8) = false := by simp; omega
  obtain ⟨a0, b0, M5, pl5, A1, A2, im5, l1, l2, l3⟩ := act_stop (N := N) (x := x) H.out.im (by omega) n
  have DC := hid (show Calls Tryd.prog 29 #[.agg (ix np N (.slice aP nP cP) (.slice aQ nQ cQ) (.slice aM nM cM) pl), .int .i64 n] w0 (DiPost w0 (.slice aP nP cP) (.slice aQ nQ cQ) (.slice aM nM cM) np N Pl Q M5 pl5 [.bool a0, .bool b0]) from A1 w0 _ _ _ D0)
  have PC := hid (show ∀ (Z' : Nat → Prop) (y : World), Ids Z' x np f Q N M pl y → Calls Tryd.prog 14 #[.pointer (some ⟨x, 0, none⟩), .int .i64 n] y (DPost (.tuple #[.bool a0, .bool b0]) Z' x np f Q N M5 pl5 y) from A2)
  have IM5 := hid im5
  have LN5 := hid (show Pl.length ≤ k + 1 ∧ Q.length ≤ k + 1 ∧ M5.length ≤ k + 1 by omega)
  have bb0 : (b0 == b0) = true := by simp
  have nn0 : (a0 == a0) = true := by simp
  clear A1 A2 im5 l1 l2 l3 hK D0 hb0 h hln
  go_enter Tryd.func7, Tryd.ntmps7
  go_wp2_with (refine wpList_load_known (by rfl) 28 (.tmp 4) rfl w.heap.size rfl 28 (ix np N (.slice aP nP cP) (.slice aQ nQ cQ) (.slice aM nM cM) pl) (0, 0) _ (by rw [← hw0]; exact K4.out) Tryd.underlying28 rfl (by kernel_rfl) ?_)
  rw [← hw0]
  clear hw0
  refine DC.out.mono ?_
  rintro e w5 ⟨v1, v2, v3, rfl, d5, hb5, k1, k2, k3⟩
  obtain ⟨bP, mP, dP, bQ, mQ, dQ, bM, mM, dM, rfl, rfl, rfl, _, _, _, _, _, _⟩ := d5.sl
  have s5 := hb5.size
  have e5 := (hb5.block (w.heap.size + 1) (by omega)).trans K5.out
  have e6 := (Below.heap_alloc w5 (.cells (ix np N (.slice bP mP dP) (.slice bQ mQ dQ) (.slice bM mM dM) pl5) 28) _ (by omega)).trans e5
  have y1 : (w5.alloc (.cells (ix np N (.slice bP mP dP) (.slice bQ mQ dQ) (.slice bM mM dM) pl5) 28)).cell? ⟨w.heap.size + 1, 1, none⟩ = some (.int .i64 n) := blk_cell e6 rfl
  have R6 := hid ((Below.heap_alloc w5 (.cells (ix np N (.slice bP mP dP) (.slice bQ mQ dQ) (.slice bM mM dM) pl5) 28) (w.heap.size + 1 + 1) (by omega)).trans ((hb5.block (w.heap.size + 1 + 1) (by omega)).trans K6.out))
  have N6 := hid (heap_alloc_new w5 (.cells (ix np N (.slice bP mP dP) (.slice bQ mQ dQ) (.slice bM mM dM) pl5) 28))
  have B6 := hid (HB0.out.trans ((hb5.mono HB0.out.size).trans ((bl_al13 w5 (.cells (ix np N (.slice bP mP dP) (.slice bQ mQ dQ) (.slice bM mM dM) pl5) 28)).mono (by omega))))
  have I6 := H.out.ids.more B6.out
  have s6 : (w5.alloc (.cells (ix np N (.slice bP mP dP) (.slice bQ mQ dQ) (.slice bM mM dM) pl5) 28)).heap.size = w5.heap.size + 1 := by simp
  have D5 := hid (And.intro d5 (And.intro hb5 (And.intro k1 (And.intro k2 k3))))
  have HS := hid hs0
  clear DC d5 hb5 k1 k2 k3 K4 K5 K6 e5 e6
  have PC6 := hid (PC.out _ _ I6)
  clear PC I6
  go_wp2_with fail
  refine PC6.out.mono ?_
  rintro e w7 ⟨rfl, p7, fr7⟩
  have N7 := hid ((fr7.block w5.heap.size (.inr ⟨by omega, by omega⟩)).trans N6.out)
  have R7 := hid ((fr7.block (w.heap.size + 1 + 1) (.inr ⟨by omega, by omega⟩)).trans R6.out)
  have FIN := hid (do_fin H.out HB0.out (by have := HS.out; omega) D5.out.1 D5.out.2.1 D5.out.2.2.1 D5.out.2.2.2.1 D5.out.2.2.2.2 (bl_al13 w5 _) p7 fr7 (only_row13 w7 (w.heap.size + 1 + 1) (ix np N (.slice bP mP dP) (.slice bQ mQ dQ) (.slice bM mM dM) pl5)) IM5.out LN5.out hg)
  clear p7 fr7 PC6 N6 R6 B6 H HB0 D5 IM5 LN5 HS y1
  go_wp2_with (first
    | (refine wpList_load_known (by rfl) 28 (.tmp 29) rfl w5.heap.size rfl 28 (ix np N (.slice bP mP dP) (.slice bQ mQ dQ) (.slice bM mM dM) pl5) (0, 0) _ N7.out Tryd.underlying28 rfl (by kernel_rfl) ?_)
    | (refine wpList_store_row rfl 28 (.tmp 6) (.tmp 184) rfl (w.heap.size + 1 + 1) (ix np N (.slice bP mP dP) (.slice bQ mQ dQ) (.slice bM mM dM) pl5) rfl rfl 28 _ R7.out (by kernel_rfl) (by rfl) (by simp [ix, Value.oneCell']) ?_))
  exact bodyPost_ret (v := .tuple #[.agg (ix np N (.slice bP mP dP) (.slice bQ mQ dQ) (.slice bM mM dM) pl5), .bool true]) (results_row_t13 rfl _ _ (w.heap.size + 1 + 1) 28 (ix np N (.slice bP mP dP) (.slice bQ mQ dQ) (.slice bM mM dM) pl5) (0, 0) _ (by rfl) (setRow_heap _ _ _ _ _ _ R7.out) Tryd.underlying28 rfl (by kernel_rfl) _ (by rfl)) rfl FIN.out
set_option maxRecDepth 100000 in
set_option maxHeartbeats 8000000 in
theorem do_leave_yes {Z : Nat → Prop} {x np k : Nat} {f : Nat → Bool} {N pl : Int} {Pl Q M : List Int} {vP vQ vM : Value} {w : World} (h : St Z x np f N Pl Q M pl vP vQ vM k w) (hk : k < 900) (K : Int) (hK0 : 0 ≤ K) (hK1 : K ≤ 255) (hK : K % 9 = 7) (h0 : 0 ≤ pl) :
    Calls Tryd.prog 7 #[.pointer (some ⟨x, 0, none⟩), .agg (ix np N vP vQ vM pl), .agg #[.int .u8 K, .int .i64 pl]] w (DoPost Z x np N k vP vQ vM w) := by
  have hg := h.ids.T.lt
  have hln := h.ln
  obtain ⟨aP, nP, cP, aQ, nQ, cQ, aM, nM, cM, rfl, rfl, rfl, _, _, _, _, _, _⟩ := h.di.sl
  obtain ⟨w0, hw0⟩ : ∃ w0, w0 = ((w.alloc (.cells (ix np N (.slice aP nP cP) (.slice aQ nQ cQ) (.slice aM nM cM) pl) 28)).alloc (.cells #[.int .u8 K, .int .i64 pl] 31)).alloc (.cells iz 28) := ⟨_, rfl⟩
  have hb0 : Below w.heap.size w w0 := by rw [hw0]; exact (((bl_al13 w _).alloc (by simp) _).alloc (by simp; omega) _)
  have hs0 : w0.heap.size = w.heap.size + 3 := by rw [hw0]; simp
  have K4 := hid (show w0.heap[w.heap.size]? = some (.cells (ix np N (.slice aP nP cP) (.slice aQ nQ cQ) (.slice aM nM cM) pl) 28 (0, 0)) by rw [hw0]; exact (Below.heap_alloc _ _ _ (by simp; omega)).trans (heap_alloc2_old w _ _))
  have K5 := hid (show w0.heap[w.heap.size + 1]? = some (.cells #[.int .u8 K, .int .i64 pl] 31 (0, 0)) by rw [hw0]; exact (Below.heap_alloc _ _ _ (by simp)).trans (heap_alloc2_new w _ _))
  have K6 := hid (show w0.heap[w.heap.size + 1 + 1]? = some (.cells iz 28 (0, 0)) by
    have := heap_alloc_new ((w.alloc (.cells (ix np N (.slice aP nP cP) (.slice aQ nQ cQ) (.slice aM nM cM) pl) 28)).alloc (.cells #[.int .u8 K, .int .i64 pl] 31)) (.cells iz 28)
    rw [hw0]; simpa using this)
  have D0 := h.di.below hb0
  have H := hid h
  have HB0 := hid hb0
  have t0 : (K % 9 == 0) = false := by simp [hK]
  have t1 : (K % 9 == 1) = false := by simp [hK]
  have t2 : (K % 9 == 2) = false := by simp [hK]
  have t3 : (K % 9 == 3) = false := by simp [hK]
  have t6 : (K % 9 == 6) = false := by simp [hK]
  have t7 : (K % 9 == 7) = true := by simp [hK]
  have t8 : (K % 9 == 8) = false := by simp [hK]
  clear hb0 D0
  have d0 : decide (0 ≤ pl) = true := decide_eq_true h0
  have d1 : (pl == pl) = true := by simp
  have HBW := hid (show Below w.heap.size w (w0.setCell ⟨w.heap.size, 5, none⟩ (.int .i64 (-1))) from HB0.out.setCell (p := ⟨w.heap.size, 5, none⟩) (Nat.le_refl _) _)
  have N6 := hid (show (w0.setCell ⟨w.heap.size, 5, none⟩ (.int .i64 (-1))).heap[w.heap.size]? = some (.cells (ix np N (.slice aP nP cP) (.slice aQ nQ cQ) (.slice aM nM cM) (-1)) 28 (0, 0)) from blk_set (i := 5) (.int .i64 (-1)) K4.out (show (ix np N (.slice aP nP cP) (.slice aQ nQ cQ) (.slice aM nM cM) pl).setIfInBounds 5 (.int .i64 (-1)) = (ix np N (.slice aP nP cP) (.slice aQ nQ cQ) (.slice aM nM cM) (-1)) from rfl))
  have R6 := hid (show (w0.setCell ⟨w.heap.size, 5, none⟩ (.int .i64 (-1))).heap[w.heap.size + 1 + 1]? = some (.cells iz 28 (0, 0)) from (heap_setCell_other _ _ _ _ (by simp; omega)).trans K6.out)
  have E6 := hid (show (w0.setCell ⟨w.heap.size, 5, none⟩ (.int .i64 (-1))).heap[w.heap.size + 1]? = some (.cells #[.int .u8 K, .int .i64 pl] 31 (0, 0)) from (heap_setCell_other _ _ _ _ (by simp)).trans K5.out)
  have hsW : (w0.setCell ⟨w.heap.size, 5, none⟩ (.int .i64 (-1))).heap.size = w.heap.size + 3 := by simpa using hs0
  have IM5 := hid (show IM np f Pl Q M (-1) from ⟨H.out.im.rg, H.out.im.ff, H.out.im.nd, H.out.im.qd, H.out.im.md, .inl rfl, H.out.im.c⟩)
  have f5 := blk_free K4.out (i := 5)
  have I6 := H.out.ids.more (HBW.out.trans (bl_drw13 (w0.setCell ⟨w.heap.size, 5, none⟩ (.int .i64 (-1))) _))
  have PC6 := hid (iLeave_yes I6 h0)
  have D6 := H.out.di.below HBW.out
  have FX := hid (fun (w7 : World) (p7 : Ids _ x np f Q N M (-1) w7) (fr7 : Fr _ (w0.setCell ⟨w.heap.size, 5, none⟩ (.int .i64 (-1))).drew w7) => do_fin H.out HBW.out (by rw [hsW]; omega) D6 (Below.refl _ _) (fun q hq => .inl hq) (fun q hq => .inl hq) (fun q hq => .inl hq) (bl_drw13 (w0.setCell ⟨w.heap.size, 5, none⟩ (.int .i64 (-1))) _) p7 fr7 (only6 w7 (w.heap.size + 1 + 1) (.int .i64 np) (.int .i64 N) (.slice aP nP cP) (.slice aQ nQ cQ) (.slice aM nM cM) (.int .i64 (-1))) IM5.out (show Pl.length ≤ k + 1 ∧ Q.length ≤ k + 1 ∧ M.length ≤ k + 1 by omega) hg)
  have c0 := blk_cell N6.out (i := 0) rfl
  have c1 := blk_cell N6.out (i := 1) rfl
  have c2 := blk_cell N6.out (i := 2) rfl
  have c3 := blk_cell N6.out (i := 3) rfl
  have c4 := blk_cell N6.out (i := 4) rfl
  have c5 := blk_cell N6.out (i := 5) rfl
  have e1 := blk_cell E6.out (i := 1) rfl
  have tt : (true == true) = true := rfl
  have tf : (false == false) = true := rfl
  clear I6 D6 hK h hln
  have y5 := blk_cell K4.out (i := 5) rfl
  have g1 := blk_cell K5.out (i := 1) rfl
  clear K4 K5 K6
  go_enter Tryd.func7, Tryd.ntmps7
  go_upto_region 21 with (fail)
  rw [← hw0]
  clear hw0
  go_upto_region 24 with (fail)
  go_region_with (go_at_call 27; (with_reducible refine PC6.out.mono ?_); rintro e w7 ⟨rfl, p7, fr7⟩; have N7 := (fr7.block w.heap.size (.inr ⟨by omega, by show _ < (w0.setCell ⟨w.heap.size, 5, none⟩ (.int .i64 (-1))).heap.size; omega⟩)).trans N6.out; have R7 := hid ((fr7.block (w.heap.size + 1 + 1) (.inr ⟨by omega, by show _ < (w0.setCell ⟨w.heap.size, 5, none⟩ (.int .i64 (-1))).heap.size; omega⟩)).trans R6.out); have c0 := blk_cell N7 (i := 0) rfl; have c1 := blk_cell N7 (i := 1) rfl; have c2 := blk_cell N7 (i := 2) rfl; have c3 := blk_cell N7 (i := 3) rfl; have c4 := blk_cell N7 (i := 4) rfl; have c5 := blk_cell N7 (i := 5) rfl; have r0 := blk_cell R7.out (i := 0) rfl; have r1 := blk_cell R7.out (i := 1) rfl; have r2 := blk_cell R7.out (i := 2) rfl; have r3 := blk_cell R7.out (i := 3) rfl; have r4 := blk_cell R7.out (i := 4) rfl; have r5 := blk_cell R7.out (i := 5) rfl; have f0 := blk_free R7.out (i := 0); have f1 := blk_free R7.out (i := 1); have f2 := blk_free R7.out (i := 2); have f3 := blk_free R7.out (i := 3); have f4 := blk_free R7.out (i := 4); have f5 := blk_free R7.out (i := 5); have P7 := hid (And.intro p7 fr7); clear p7 fr7 N7)
  all_goals
    have FIN := hid (FX.out w7 P7.out.1 P7.out.2)
    have S6 := hid (set6 R7.out (.int .i64 np) (.int .i64 N) (.slice aP nP cP) (.slice aQ nQ cQ) (.slice aM nM cM) (.int .i64 (-1)))
    clear PC6 N6 R6 E6 H HB0 HBW IM5 FX P7
    go_wp2
    exact bodyPost_ret (v := .tuple #[.agg (ix np N (.slice aP nP cP) (.slice aQ nQ cQ) (.slice aM nM cM) (-1)), .bool true]) (results_row_t13 rfl _ _ (w.heap.size + 1 + 1) 28 (ix np N (.slice aP nP cP) (.slice aQ nQ cQ) (.slice aM nM cM) (-1)) (0, 0) _ (by rfl) S6.out Tryd.underlying28 rfl (by kernel_rfl) _ (by rfl)) rfl FIN.out
set_option maxRecDepth 100000 in
set_option maxHeartbeats 8000000 in
theorem do_leave_no {Z : Nat → Prop} {x np k : Nat} {f : Nat → Bool} {N pl : Int} {Pl Q M : List Int} {vP vQ vM : Value} {w : World} (h : St Z x np f N Pl Q M pl vP vQ vM k w) (hk : k < 900) (K n : Int) (hK0 : 0 ≤ K) (hK1 : K ≤ 255) (hK : K % 9 = 7) (hp : ¬ (0 ≤ pl ∧ pl = n)) :
    Calls Tryd.prog 7 #[.pointer (some ⟨x, 0, none⟩), .agg (ix np N vP vQ vM pl), .agg #[.int .u8 K, .int .i64 n]] w (DoPost Z x np N k vP vQ vM w) := by
  have hg := h.ids.T.lt
  have hln := h.ln
  obtain ⟨aP, nP, cP, aQ, nQ, cQ, aM, nM, cM, rfl, rfl, rfl, _, _, _, _, _, _⟩ := h.di.sl
  obtain ⟨w0, hw0⟩ : ∃ w0, w0 = ((w.alloc (.cells (ix np N (.slice aP nP cP) (.slice aQ nQ cQ) (.slice aM nM cM) pl) 28)).alloc (.cells #[.int .u8 K, .int .i64 n] 31)).alloc (.cells iz 28) := ⟨_, rfl⟩
  have hb0 : Below w.heap.size w w0 := by rw [hw0]; exact (((bl_al13 w _).alloc (by simp) _).alloc (by simp; omega) _)
  have hs0 : w0.heap.size = w.heap.size + 3 := by rw [hw0]; simp
  have K4 := hid (show w0.heap[w.heap.size]? = some (.cells (ix np N (.slice aP nP cP) (.slice aQ nQ cQ) (.slice aM nM cM) pl) 28 (0, 0)) by rw [hw0]; exact (Below.heap_alloc _ _ _ (by simp; omega)).trans (heap_alloc2_old w _ _))
  have K5 := hid (show w0.heap[w.heap.size + 1]? = some (.cells #[.int .u8 K, .int .i64 n] 31 (0, 0)) by rw [hw0]; exact (Below.heap_alloc _ _ _ (by simp)).trans (heap_alloc2_new w _ _))
  have K6 := hid (show w0.heap[w.heap.size + 1 + 1]? = some (.cells iz 28 (0, 0)) by
    have := heap_alloc_new ((w.alloc (.cells (ix np N (.slice aP nP cP) (.slice aQ nQ cQ) (.slice aM nM cM) pl) 28)).alloc (.cells #[.int .u8 K, .int .i64 n] 31)) (.cells iz 28)
    rw [hw0]; simpa using this)
  have D0 := h.di.below hb0
  have H := hid h
  have HB0 := hid hb0
  have t0 : (K % 9 == 0) = false := by simp [hK]
  have t1 : (K % 9 == 1) = false := by simp [hK]
  have t2 : (K % 9 == 2) = false := by simp [hK]
  have t3 : (K % 9 == 3) = false := by simp [hK]
  have t6 : (K % 9 == 6) = false := by simp [hK]
  have t7 : (K % 9 == 7) = true := by simp [hK]
  have t8 : (K % 9 == 8) = false := by simp [hK]
  clear hb0 D0
  have HBW := HB0
  have N6 := K4
  have R6 := K6
  have E6 := K5
  have hsW := hs0
  have IM5 := hid H.out.im
  have I6 := H.out.ids.more (HBW.out.trans (bl_drw13 w0 _))
  have PC6 := hid (iLeave_no I6 n (by rcases H.out.im.pl with e | e <;> omega))
  have D6 := H.out.di.below HBW.out
  have FX := hid (fun (w7 : World) (p7 : Ids _ x np f Q N M pl w7) (fr7 : Fr _ w0.drew w7) => do_fin H.out HBW.out (by rw [hsW]; omega) D6 (Below.refl _ _) (fun q hq => .inl hq) (fun q hq => .inl hq) (fun q hq => .inl hq) (bl_drw13 w0 _) p7 fr7 (only6 w7 (w.heap.size + 1 + 1) (.int .i64 np) (.int .i64 N) (.slice aP nP cP) (.slice aQ nQ cQ) (.slice aM nM cM) (.int .i64 pl)) IM5.out (show Pl.length ≤ k + 1 ∧ Q.length ≤ k + 1 ∧ M.length ≤ k + 1 by omega) hg)
  have c0 := blk_cell N6.out (i := 0) rfl
  have c1 := blk_cell N6.out (i := 1) rfl
  have c2 := blk_cell N6.out (i := 2) rfl
  have c3 := blk_cell N6.out (i := 3) rfl
  have c4 := blk_cell N6.out (i := 4) rfl
  have c5 := blk_cell N6.out (i := 5) rfl
  have e1 := blk_cell E6.out (i := 1) rfl
  have tt : (true == true) = true := rfl
  have tf : (false == false) = true := rfl
  clear I6 D6 hK h hln
  clear K4 K5 K6
  by_cases q0 : 0 ≤ pl
  · have d0 : decide (0 ≤ pl) = true := decide_eq_true q0
    have d1 : (pl == n) = false := by simp; omega
    clear hp q0
    go_enter Tryd.func7, Tryd.ntmps7
    go_upto_region 21 with (fail)
    rw [← hw0]
    clear hw0
    go_upto_region 24 with (fail)
    go_region_with (go_at_call 27; (with_reducible refine PC6.out.mono ?_); rintro e w7 ⟨rfl, p7, fr7⟩; have N7 := (fr7.block w.heap.size (.inr ⟨by omega, by show _ < w0.heap.size; omega⟩)).trans N6.out; have R7 := hid ((fr7.block (w.heap.size + 1 + 1) (.inr ⟨by omega, by show _ < w0.heap.size; omega⟩)).trans R6.out); have c0 := blk_cell N7 (i := 0) rfl; have c1 := blk_cell N7 (i := 1) rfl; have c2 := blk_cell N7 (i := 2) rfl; have c3 := blk_cell N7 (i := 3) rfl; have c4 := blk_cell N7 (i := 4) rfl; have c5 := blk_cell N7 (i := 5) rfl; have r0 := blk_cell R7.out (i := 0) rfl; have r1 := blk_cell R7.out (i := 1) rfl; have r2 := blk_cell R7.out (i := 2) rfl; have r3 := blk_cell R7.out (i := 3) rfl; have r4 := blk_cell R7.out (i := 4) rfl; have r5 := blk_cell R7.out (i := 5) rfl; have f0 := blk_free R7.out (i := 0); have f1 := blk_free R7.out (i := 1); have f2 := blk_free R7.out (i := 2); have f3 := blk_free R7.out (i := 3); have f4 := blk_free R7.out (i := 4); have f5 := blk_free R7.out (i := 5); have P7 := hid (And.intro p7 fr7); clear p7 fr7 N7)
    all_goals
      have FIN := hid (FX.out w7 P7.out.1 P7.out.2)
      have S6 := hid (set6 R7.out (.int .i64 np) (.int .i64 N) (.slice aP nP cP) (.slice aQ nQ cQ) (.slice aM nM cM) (.int .i64 pl))
      clear PC6 N6 R6 E6 H HB0 HBW IM5 FX P7
      go_wp2
      exact bodyPost_ret (v := .tuple #[.agg (ix np N (.slice aP nP cP) (.slice aQ nQ cQ) (.slice aM nM cM) pl), .bool true]) (results_row_t13 rfl _ _ (w.heap.size + 1 + 1) 28 (ix np N (.slice aP nP cP) (.slice aQ nQ cQ) (.slice aM nM cM) pl) (0, 0) _ (by rfl) S6.out Tryd.underlying28 rfl (by kernel_rfl) _ (by rfl)) rfl FIN.out
  · have d0 : decide (0 ≤ pl) = false := decide_eq_false q0
    clear hp q0
    go_enter Tryd.func7, Tryd.ntmps7
    go_upto_region 21 with (fail)
    rw [← hw0]
    clear hw0
    go_upto_region 24 with (fail)
    go_region_with (go_at_call 27; (with_reducible refine PC6.out.mono ?_); rintro e w7 ⟨rfl, p7, fr7⟩; have N7 := (fr7.block w.heap.size (.inr ⟨by omega, by show _ < w0.heap.size; omega⟩)).trans N6.out; have R7 := hid ((fr7.block (w.heap.size + 1 + 1) (.inr ⟨by omega, by show _ < w0.heap.size; omega⟩)).trans R6.out); have c0 := blk_cell N7 (i := 0) rfl; have c1 := blk_cell N7 (i := 1) rfl; have c2 := blk_cell N7 (i := 2) rfl; have c3 := blk_cell N7 (i := 3) rfl; have c4 := blk_cell N7 (i := 4) rfl; have c5 := blk_cell N7 (i := 5) rfl; have r0 := blk_cell R7.out (i := 0) rfl; have r1 := blk_cell R7.out (i := 1) rfl; have r2 := blk_cell R7.out (i := 2) rfl; have r3 := blk_cell R7.out (i := 3) rfl; have r4 := blk_cell R7.out (i := 4) rfl; have r5 := blk_cell R7.out (i := 5) rfl; have f0 := blk_free R7.out (i := 0); have f1 := blk_free R7.out (i := 1); have f2 := blk_free R7.out (i := 2); have f3 := blk_free R7.out (i := 3); have f4 := blk_free R7.out (i := 4); have f5 := blk_free R7.out (i := 5); have P7 := hid (And.intro p7 fr7); clear p7 fr7 N7)
    all_goals
      have FIN := hid (FX.out w7 P7.out.1 P7.out.2)
      have S6 := hid (set6 R7.out (.int .i64 np) (.int .i64 N) (.slice aP nP cP) (.slice aQ nQ cQ) (.slice aM nM cM) (.int .i64 pl))
      clear PC6 N6 R6 E6 H HB0 HBW IM5 FX P7
      go_wp2
      exact bodyPost_ret (v := .tuple #[.agg (ix np N (.slice aP nP cP) (.slice aQ nQ cQ) (.slice aM nM cM) pl), .bool true]) (results_row_t13 rfl _ _ (w.heap.size + 1 + 1) 28 (ix np N (.slice aP nP cP) (.slice aQ nQ cQ) (.slice aM nM cM) pl) (0, 0) _ (by rfl) S6.out Tryd.underlying28 rfl (by kernel_rfl) _ (by rfl)) rfl FIN.out
set_option maxRecDepth 100000 in
set_option maxHeartbeats 8000000 in
theorem do_copy {Z : Nat → Prop} {x np k : Nat} {f : Nat → Bool} {N pl : Int} {Pl Q M : List Int} {vP vQ vM : Value} {w : World} (h : St Z x np f N Pl Q M pl vP vQ vM k w) (hk : k < 900) (hnp : 0 < np) (K n : Int) (hK0 : 0 ≤ K) (hK1 : K ≤ 255) (hK : K % 9 = 8) :
    Calls Tryd.prog 7 #[.pointer (some ⟨x, 0, none⟩), .agg (ix np N vP vQ vM pl), .agg #[.int .u8 K, .int .i64 n]] w (DoPost Z x np N k vP vQ vM w) := by
  have hg := h.ids.T.lt
  have hln := h.ln
  obtain ⟨aP, nP, cP, aQ, nQ, cQ, aM, nM, cM, rfl, rfl, rfl, _, _, _, _, _, _⟩ := h.di.sl
  obtain ⟨w0, hw0⟩ : ∃ w0, w0 = ((w.alloc (.cells (ix np N (.slice aP nP cP) (.slice aQ nQ cQ) (.slice aM nM cM) pl) 28)).alloc (.cells #[.int .u8 K, .int .i64 n] 31)).alloc (.cells iz 28) := ⟨_, rfl⟩
  have hb0 : Below w.heap.size w w0 := by rw [hw0]; exact (((bl_al13 w _).alloc (by simp) _).alloc (by simp; omega) _)
  have hs0 : w0.heap.size = w.heap.size + 3 := by rw [hw0]; simp
  have K4 := hid (show w0.heap[w.heap.size]? = some (.cells (ix np N (.slice aP nP cP) (.slice aQ nQ cQ) (.slice aM nM cM) pl) 28 (0, 0)) by rw [hw0]; exact (Below.heap_alloc _ _ _ (by simp; omega)).trans (heap_alloc2_old w _ _))
  have K5 := hid (show w0.heap[w.heap.size + 1]? = some (.cells #[.int .u8 K, .int .i64 n] 31 (0, 0)) by rw [hw0]; exact (Below.heap_alloc _ _ _ (by simp)).trans (heap_alloc2_new w _ _))
  have K6 := hid (show w0.heap[w.heap.size + 1 + 1]? = some (.cells iz 28 (0, 0)) by
    have := heap_alloc_new ((w.alloc (.cells (ix np N (.slice aP nP cP) (.slice aQ nQ cQ) (.slice aM nM cM) pl) 28)).alloc (.cells #[.int .u8 K, .int .i64 n] 31)) (.cells iz 28)
    rw [hw0]; simpa using this)
  have D0 := h.di.below hb0
  have H := hid h
  have HB0 := hid hb0
  have t0 : (K % 9 == 0) = false := by simp [hK]
  have t1 : (K % 9 == 1) = false := by simp [hK]
  have t2 : (K % 9 == 2) = false := by simp [hK]
  have t3 : (K % 9 == 3) = false := by simp [hK]
  have t6 : (K % 9 == 6) = false := by simp [hK]
  have t7 : (K % 9 == 7) = false := by simp [hK]
  have t8 : (K % 9 == 8) = true := by simp [hK]
  have CC := hid (icopy (h.ids.below hb0) hnp (by omega) (by omega))
  have D0 := hid D0
  clear hb0 K5 hK h
  go_enter Tryd.func7, Tryd.ntmps7
  go_wp2_with fail
  rw [← hw0]
  clear hw0
  refine CC.out.mono ?_
  rintro e w1 ⟨rfl, i1, b1⟩
  obtain ⟨c, hc⟩ : ∃ c, c = w0.heap.size := ⟨_, rfl⟩
  rw [← hc] at i1 ⊢
  have HC := hid hc
  clear hc CC
  obtain ⟨n1, q1, f1, P1, _, A2, im1, p1, p2, p3⟩ := act_takep (N := N) (x := c) H.out.im
  have PC := hid (show Calls Tryd.prog 21 #[.pointer (some ⟨c, 0, none⟩)] w1 (DPost (.tuple #[.int .i64 n1, .bool q1]) _ c np f1 Q N M pl w1) from A2 _ w1 i1)
  have B1 := hid b1
  have IM1 := hid im1
  clear A2 i1 b1 im1
  go_wp2_with fail
  refine PC.out.mono ?_
  rintro e w2 ⟨rfl, i2, fr2⟩
  have B2 := hid (B1.out.trans (fr2.below (fun _ h => by rw [HC.out]; exact h)))
  obtain ⟨n2, q2, M2, pl2, _, A2, im2, p4, p5, p6⟩ := act_takem (N := N) (x := c) IM1.out (by omega)
  have PC := hid (show Calls Tryd.prog 15 #[.pointer (some ⟨c, 0, none⟩)] w2 (DPost (.tuple #[.int .i64 n2, .bool q2]) _ c np f1 Q N M2 pl2 w2) from A2 _ w2 i2)
  have IM2 := hid im2
  clear A2 i2 im2 fr2 IM1 B1
  go_wp2_with fail
  refine PC.out.mono ?_
  rintro e w3 ⟨rfl, i3, fr3⟩
  have B3 := hid (B2.out.trans (fr3.below (fun _ h => by rw [HC.out]; exact h)))
  obtain ⟨q3, Q3, _, A2, im3, p7, p8, p9⟩ := act_pend (N := N) (x := c) IM2.out (by omega) 0
  have PC := hid (show Calls Tryd.prog 23 #[.pointer (some ⟨c, 0, none⟩), .int .i64 0] w3 (DPost (.bool q3) _ c np f1 Q3 N M2 pl2 w3) from A2 _ w3 i3)
  have IM3 := hid im3
  clear A2 i3 im3 fr3 IM2 B2
  go_wp2_with fail
  refine PC.out.mono ?_
  rintro e w4 ⟨rfl, i4, fr4⟩
  have B4 := hid (B3.out.trans (fr4.below (fun _ h => by rw [HC.out]; exact h)))
  obtain ⟨q4, q5, M4, pl4, _, A2, im4, p10, p11, p12⟩ := act_stop (N := N) (x := c) IM3.out (by omega) 0
  have PC := hid (show Calls Tryd.prog 14 #[.pointer (some ⟨c, 0, none⟩), .int .i64 0] w4 (DPost (.tuple #[.bool q4, .bool q5]) _ c np f1 Q3 N M4 pl4 w4) from A2 _ w4 i4)
  clear A2 i4 im4 fr4 IM3 B3
  go_wp2_with fail
  refine PC.out.mono ?_
  rintro e w7 ⟨rfl, i5, fr5⟩
  have B7 := hid (B4.out.trans (fr5.below (fun _ h => by rw [HC.out]; exact h)))
  have N7 := hid ((B7.out.block w.heap.size (by omega)).trans K4.out)
  have R7 := hid ((B7.out.block (w.heap.size + 1 + 1) (by omega)).trans K6.out)
  have BW := HB0.out.trans (B7.out.mono HB0.out.size)
  have hs7 := B7.out.size
  have p7 := H.out.ids.more BW
  have FIN := hid (do_fin H.out HB0.out (by omega) (H.out.di.below HB0.out) (Below.refl _ _) (fun q hq => .inl hq) (fun q hq => .inl hq) (fun q hq => .inl hq) B7.out p7 (Fr.refl _ w7) (only_row13 w7 (w.heap.size + 1 + 1) (ix np N (.slice aP nP cP) (.slice aQ nQ cQ) (.slice aM nM cM) pl)) H.out.im (show Pl.length ≤ k + 1 ∧ Q.length ≤ k + 1 ∧ M.length ≤ k + 1 by omega) hg)
  clear PC B4 i5 fr5 B7 BW p7 K4 K6 D0 H HB0
  go_wp2_with (first
    | (refine wpList_load_known (by rfl) 28 (.tmp 4) rfl w.heap.size rfl 28 (ix np N (.slice aP nP cP) (.slice aQ nQ cQ) (.slice aM nM cM) pl) (0, 0) _ N7.out Tryd.underlying28 rfl (by kernel_rfl) ?_)
    | (refine wpList_store_row rfl 28 (.tmp 6) (.tmp 168) rfl (w.heap.size + 1 + 1) (ix np N (.slice aP nP cP) (.slice aQ nQ cQ) (.slice aM nM cM) pl) rfl rfl 28 _ R7.out (by kernel_rfl) (by rfl) (by simp [ix, Value.oneCell']) ?_))
  exact bodyPost_ret (v := .tuple #[.agg (ix np N (.slice aP nP cP) (.slice aQ nQ cQ) (.slice aM nM cM) pl), .bool true]) (results_row_t13 rfl _ _ (w.heap.size + 1 + 1) 28 (ix np N (.slice aP nP cP) (.slice aQ nQ cQ) (.slice aM nM cM) pl) (0, 0) _ (by rfl) (setRow_heap _ _ _ _ _ _ R7.out) Tryd.underlying28 rfl (by kernel_rfl) _ (by rfl)) rfl FIN.out
end Go.Proofs.YtnabikoieolfcaaDoor
