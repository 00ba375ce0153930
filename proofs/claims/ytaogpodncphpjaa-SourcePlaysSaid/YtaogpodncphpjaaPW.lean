/- The poll beside the document's: what stands between two acts. -/
import Derived.Test.YtaogpodncphpjaaRef11E
import Derived.Test.YtaogpodncphpjaaPCopy
import Derived.Test.YtaogpodncphpjaaPollIs
namespace Go.Proofs.Ytaogpodncphpjaa
set_option linter.unusedVariables false
set_option linter.unusedSimpArgs false
open Go.RowKit
/-- All blocks but the poll's four. -/
def Zn (p b1 b2 b3 : Nat) (q : Nat) : Prop := q ≠ p ∧ q ≠ b1 ∧ q ≠ b2 ∧ q ≠ b3
theorem Dp.keep {w w' : World} {vW vS : Value} {V : List (Int × Int)} {S : List Int} (h : Dp w vW vS V S) (hs : w.heap.size ≤ w'.heap.size) (h1 : ∀ q, vW.ownBlock = some q → w'.heap[q]? = w.heap[q]?) (h2 : ∀ q, vS.ownBlock = some q → w'.heap[q]? = w.heap[q]?) : Dp w' vW vS V S := by
  obtain ⟨a, c, rfl, x1, x2⟩ := h.hw
  obtain ⟨a', c', rfl, y1, y2⟩ := h.hs
  refine ⟨⟨a, c, rfl, x1, fun h0 => ?_⟩, ⟨a', c', rfl, y1, fun h0 => ?_⟩, h.lw, h.ls⟩
  · obtain ⟨g, off, rfl, hg, hc⟩ := x2 h0
    have hk := h1 g rfl
    refine ⟨g, off, rfl, by omega, fun i hi => ?_⟩
    obtain ⟨q0, q1⟩ := hc i hi
    exact ⟨(World.cell?_of_block hk).trans q0, (World.cell?_of_block hk).trans q1⟩
  · obtain ⟨g, off, rfl, hg, hc⟩ := y2 h0
    have hk := h2 g rfl
    refine ⟨g, off, rfl, by omega, fun i hi => ?_⟩
    exact (World.cell?_of_block hk).trans (hc i hi)
theorem Dp.own_lt {w : World} {vW vS : Value} {V : List (Int × Int)} {S : List Int} (h : Dp w vW vS V S) (hV : 0 < V.length ∨ vW.ownBlock = none) : True := trivial
structure PW (w : World) (p b1 b2 b3 D k : Nat) (V : List (Int × Int)) (S : List Int) (Vp : List (Int × Int)) (Sp : List Int) (vW vS : Value) (wr : World) : Prop where
  pq : Pq (Zn p b1 b2 b3) wr p b1 b2 b3 Vp.reverse Sp.reverse
  bx : wr.heap[D]? = some (.cells #[vW, vS] 33 (0, 0))
  dp : Dp wr vW vS V S
  fw : ∀ q, vW.ownBlock = some q → Zn p b1 b2 b3 q ∧ q ≠ D
  fs : ∀ q, vS.ownBlock = some q → Zn p b1 b2 b3 q ∧ q ≠ D
  zd : Zn p b1 b2 b3 D
  gv : ∀ e ∈ V, (0 ≤ e.1 ∧ e.1 ≤ 65535) ∧ 0 ≤ e.2 ∧ e.2 < 4096
  ln : V.length ≤ k ∧ S.length ≤ k
  bl : Below w.heap.size w wr
  ge : w.heap.size ≤ p ∧ w.heap.size ≤ b1 ∧ w.heap.size ≤ b2 ∧ w.heap.size ≤ b3 ∧ w.heap.size ≤ D
section
variable {w wr w4 w5 : World} {p b1 b2 b3 D k : Nat} {V V' Vp Vp' : List (Int × Int)} {S S' Sp Sp' : List Int} {vW vS vW' vS' : Value}
theorem PW.below (h : PW w p b1 b2 b3 D k V S Vp Sp vW vS wr) (hb : Below wr.heap.size wr w5) : PW w p b1 b2 b3 D k V S Vp Sp vW vS w5 :=
  ⟨h.pq.below hb, (hb.block D (blk_lt h.bx)).trans h.bx, h.dp.below hb, h.fw, h.fs, h.zd, h.gv, h.ln, h.bl.trans (hb.mono h.bl.size), h.ge⟩
theorem PW.more (h : PW w p b1 b2 b3 D k V S Vp Sp vW vS wr) : PW w p b1 b2 b3 D (k + 1) V S Vp Sp vW vS wr :=
  ⟨h.pq, h.bx, h.dp, h.fw, h.fs, h.zd, h.gv, by have := h.ln; omega, h.bl, h.ge⟩
theorem own_in {w : World} {v : Value} {xs : List Int} (h : Reads w v xs) : ∀ q, v.ownBlock = some q → q < w.heap.size ∨ xs = [] := fun q hq => by
  obtain ⟨a, c, rfl, _, h2⟩ := h
  rcases Nat.eq_zero_or_pos xs.length with h0 | h0
  · exact .inr (List.length_eq_zero_iff.1 h0)
  · obtain ⟨g, off, rfl, hg, _⟩ := h2 h0
    simp [Value.ownBlock] at hq
    subst hq
    exact .inl hg
/-- A deed of the program's. -/
theorem PW.prog (h : PW w p b1 b2 b3 D k V S Vp Sp vW vS wr) (hf : FrZ (Zn p b1 b2 b3) wr w5) (hq : Pq (Zn p b1 b2 b3) w5 p b1 b2 b3 Vp'.reverse Sp'.reverse) : PW w p b1 b2 b3 D k V S Vp' Sp' vW vS w5 := by
  have hD := blk_lt h.bx
  refine ⟨hq, (hf.block D hD h.zd).trans h.bx, ?_, h.fw, h.fs, h.zd, h.gv, h.ln, h.bl.trans (hf.below (fun q hq => ?_) h.bl.size), h.ge⟩
  · obtain ⟨a, c, e1, x1, x2⟩ := h.dp.hw
    obtain ⟨a', c', e2, y1, y2⟩ := h.dp.hs
    refine ⟨⟨a, c, e1, x1, fun h0 => ?_⟩, ⟨a', c', e2, y1, fun h0 => ?_⟩, h.dp.lw, h.dp.ls⟩
    · obtain ⟨g, off, rfl, hg, hc⟩ := x2 h0
      have hk := hf.block g hg (h.fw g (by rw [e1]; rfl)).1
      refine ⟨g, off, rfl, Nat.lt_of_lt_of_le hg hf.size, fun i hi => ?_⟩
      obtain ⟨q0, q1⟩ := hc i hi
      exact ⟨(World.cell?_of_block hk).trans q0, (World.cell?_of_block hk).trans q1⟩
    · obtain ⟨g, off, rfl, hg, hc⟩ := y2 h0
      have hk := hf.block g hg (h.fs g (by rw [e2]; rfl)).1
      refine ⟨g, off, rfl, Nat.lt_of_lt_of_le hg hf.size, fun i hi => ?_⟩
      exact (World.cell?_of_block hk).trans (hc i hi)
  · have := h.ge
    exact ⟨by omega, by omega, by omega, by omega⟩
/-- A deed of the document's, put into its box. -/
theorem PW.doc (h : PW w p b1 b2 b3 D k V S Vp Sp vW vS wr) (hd : Dp w4 vW' vS' V' S') (hb : Below wr.heap.size wr w4) (h1 : ∀ q, vW'.ownBlock = some q → vW.ownBlock = some q ∨ (wr.heap.size ≤ q ∧ q < w4.heap.size)) (h2 : ∀ q, vS'.ownBlock = some q → vS.ownBlock = some q ∨ (wr.heap.size ≤ q ∧ q < w4.heap.size))
    (hg : ∀ e ∈ V', (0 ≤ e.1 ∧ e.1 ≤ 65535) ∧ 0 ≤ e.2 ∧ e.2 < 4096) {k' : Nat} (hl : V'.length ≤ k' ∧ S'.length ≤ k') (o : Obj) : PW w p b1 b2 b3 D k' V' S' Vp Sp vW' vS' ((w4.alloc o).setRow D #[vW', vS']) := by
  have hD := blk_lt h.bx
  obtain ⟨l1, l2, l3, l4⟩ := h.pq.lt
  have hbb := hb.trans (((bl_al w4 o).mono hb.size))
  have h3 := h.below hbb
  have f1 : ∀ q, vW'.ownBlock = some q → Zn p b1 b2 b3 q ∧ q ≠ D := fun q hq => by
    rcases h1 q hq with e | e
    · exact h.fw q e
    · exact ⟨⟨by omega, by omega, by omega, by omega⟩, by omega⟩
  have f2 : ∀ q, vS'.ownBlock = some q → Zn p b1 b2 b3 q ∧ q ≠ D := fun q hq => by
    rcases h2 q hq with e | e
    · exact h.fs q e
    · exact ⟨⟨by omega, by omega, by omega, by omega⟩, by omega⟩
  have hz := h.zd
  refine ⟨h3.pq.kept (row_other _ _ _ _ (Ne.symm hz.1)) (row_other _ _ _ _ (Ne.symm hz.2.1)) (row_other _ _ _ _ (Ne.symm hz.2.2.1)) (row_other _ _ _ _ (Ne.symm hz.2.2.2)), setRow_heap _ _ _ _ _ _ h3.bx,
    (hd.below (bl_al w4 o)).keep (by rw [row_size]; exact Nat.le_refl _) (fun q hq => row_other _ _ _ _ (f1 q hq).2) (fun q hq => row_other _ _ _ _ (f2 q hq).2), f1, f2, hz, hg, hl, row_below h3.bl h.ge.2.2.2.2 _, h.ge⟩
theorem nodup_rev {α : Type} {l : List α} (h : l.reverse.Nodup) : l.Nodup := (List.pairwise_reverse.1 h).imp fun h => Ne.symm h
theorem PW.nd (h : PW w p b1 b2 b3 D k V S V S vW vS wr) : (V.map Prod.fst).Nodup ∧ (V.map Prod.snd).Nodup ∧ S.Nodup := by
  have h1 := h.pq.n1
  have h2 := h.pq.n2
  have h3 := h.pq.n3
  rw [List.map_reverse] at h1 h2
  exact ⟨nodup_rev h1, nodup_rev h2, nodup_rev h3⟩
/-- What the two answer. -/
theorem PW.who (h : PW w p b1 b2 b3 D k V S V S vW vS wr) (fd : Int) : waitsF V.reverse fd = decide (0 ≤ rwho V fd) := by
  by_cases hm : fd ∈ V.map Prod.fst
  · obtain ⟨⟨x, y⟩, he, rfl⟩ := List.mem_map.1 hm
    rw [rwho_mem h.nd.1 he, decide_eq_true (h.gv _ he).2.1]
    simp only [waitsF, List.map_reverse, List.mem_reverse]
    exact decide_eq_true hm
  · rw [rwho_no hm, decide_eq_false (by omega)]
    simp only [waitsF, List.map_reverse, List.mem_reverse]
    exact decide_eq_false hm
theorem PW.len (h : PW w p b1 b2 b3 D k V S V S vW vS wr) : rlen V S = plen V.reverse S.reverse := rlen_plen h.nd.1 h.nd.2.2
theorem has_rev (V : List (Int × Int)) (g : Int) : waitsG V.reverse g = rhasb V g := by simp [waitsG, rhasb]
theorem PW.full (h : PW w p b1 b2 b3 D k V S V S vW vS wr) (fd : Int) : rfull V S fd = (!waitsF V.reverse fd && !decide (fd ∈ S.reverse) && decide (1024 ≤ plen V.reverse S.reverse)) := by
  rw [h.who fd, ← h.len]
  unfold rfull
  simp only [List.mem_reverse]
  have e1 : decide (rwho V fd < 0) = !decide (0 ≤ rwho V fd) := by
    by_cases h : 0 ≤ rwho V fd
    · rw [decide_eq_true h, decide_eq_false (by omega)]; rfl
    · rw [decide_eq_false h, decide_eq_true (by omega)]; rfl
  have e2 : decide ((1024 : Int) ≤ rlen V S) = decide (1024 ≤ rlen V S) := by
    by_cases h : 1024 ≤ rlen V S
    · rw [decide_eq_true h, decide_eq_true (by omega)]
    · rw [decide_eq_false h, decide_eq_false (by omega)]
  rw [e1, e2]
  cases decide (fd ∈ S) <;> cases decide (0 ≤ rwho V fd) <;> rfl
/-- There is a least one that is due, if one is. -/
theorem least_due {S : List Int} : ∀ {V : List (Int × Int)}, (∃ e ∈ V, e.1 ∈ S) → ∃ m y, (m, y) ∈ V ∧ m ∈ S ∧ ∀ e ∈ V, e.1 ∈ S → m ≤ e.1
  | [], h => by obtain ⟨e, he, _⟩ := h; cases he
  | e :: V, h => by
    by_cases hv : ∃ e ∈ V, e.1 ∈ S
    · obtain ⟨m, y, h1, h2, h3⟩ := least_due hv
      by_cases he : e.1 ∈ S ∧ e.1 < m
      · refine ⟨e.1, e.2, .head _, he.1, fun x hx hs => ?_⟩
        rcases List.mem_cons.1 hx with rfl | hx
        · exact Int.le_refl _
        · have := h3 x hx hs; omega
      · refine ⟨m, y, .tail _ h1, h2, fun x hx hs => ?_⟩
        rcases List.mem_cons.1 hx with rfl | hx
        · by_cases hl : x.1 < m
          · exact absurd ⟨hs, hl⟩ he
          · omega
        · exact h3 x hx hs
    · obtain ⟨x, hx, hs⟩ := h
      have hxe : x = e := by
        rcases List.mem_cons.1 hx with rfl | hx
        · rfl
        · exact absurd ⟨x, hx, hs⟩ hv
      subst hxe
      refine ⟨x.1, x.2, .head _, hs, fun z hz hzs => ?_⟩
      rcases List.mem_cons.1 hz with rfl | hz
      · exact Int.le_refl _
      · exact absurd ⟨z, hz, hzs⟩ hv
theorem due_rev (V : List (Int × Int)) (S : List Int) : anyDue V.reverse S.reverse = V.any fun e => decide (e.1 ∈ S) := by
  simp [anyDue]
end
end Go.Proofs.Ytaogpodncphpjaa
