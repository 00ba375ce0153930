/- SourcePlays: the least time in the document's row; what stands between two acts. -/
import Derived.Test.YtaogpodncphpjaaDo12b
import Derived.Test.YtaogpodncphpjaaLives12
namespace Go.Proofs.Ytaogpodncphpjaa
set_option linter.unusedVariables false
set_option linter.unusedSimpArgs false
open Go.RowKit
/-- The least time of the first ones, as the law counts it. -/
def lstT : List Tr → Int → Bool → Int
  | [], b, _ => b
  | x :: D, b, has => lstT D (if has = false ∨ x.2.1 < b then x.2.1 else b) true
def lst (D : List Tr) : Int := lstT D 0 false
theorem lstT_snoc : ∀ (D : List Tr) (x : Tr) (b : Int) (has : Bool), lstT (D ++ [x]) b has = (if (has || decide (0 < D.length)) = false ∨ x.2.1 < lstT D b has then x.2.1 else lstT D b has)
  | [], x, b, has => by simp [lstT]
  | y :: D, x, b, has => by
    rw [List.cons_append, lstT, lstT_snoc D x, lstT]
    simp
theorem lst_snoc (D : List Tr) (x : Tr) : lst (D ++ [x]) = (if D = [] ∨ x.2.1 < lst D then x.2.1 else lst D) := by
  unfold lst
  rw [lstT_snoc]
  rcases D with _ | ⟨y, D⟩ <;> simp
theorem lstT_true : ∀ (D : List Tr) (b : Int), lstT D b true ≤ b ∧ (∀ x ∈ D, lstT D b true ≤ x.2.1) ∧ (lstT D b true = b ∨ ∃ x ∈ D, x.2.1 = lstT D b true)
  | [], b => by simp [lstT]
  | y :: D, b => by
    have h := lstT_true D (if true = false ∨ y.2.1 < b then y.2.1 else b)
    rw [lstT]
    obtain ⟨h1, h2, h3⟩ := h
    by_cases hy : y.2.1 < b
    · rw [if_pos (.inr hy)] at h1 h2 h3 ⊢
      refine ⟨by omega, fun x hx => ?_, .inr ?_⟩
      · rcases List.mem_cons.1 hx with rfl | hx
        · exact h1
        · exact h2 x hx
      · rcases h3 with e | ⟨x, hx, e⟩
        · exact ⟨y, .head _, e.symm⟩
        · exact ⟨x, .tail _ hx, e⟩
    · rw [if_neg (by simp; omega)] at h1 h2 h3 ⊢
      refine ⟨h1, fun x hx => ?_, ?_⟩
      · rcases List.mem_cons.1 hx with rfl | hx
        · omega
        · exact h2 x hx
      · rcases h3 with e | ⟨x, hx, e⟩
        · exact .inl e
        · exact .inr ⟨x, .tail _ hx, e⟩
theorem lst_least {D : List Tr} (h : D ≠ []) : (∀ x ∈ D, lst D ≤ x.2.1) ∧ ∃ x ∈ D, x.2.1 = lst D := by
  rcases D with _ | ⟨y, D⟩
  · exact absurd rfl h
  · have e : lst (y :: D) = lstT D y.2.1 true := by unfold lst; rw [lstT, if_pos (.inl rfl)]
    rw [e]
    obtain ⟨h1, h2, h3⟩ := lstT_true D y.2.1
    refine ⟨fun x hx => ?_, ?_⟩
    · rcases List.mem_cons.1 hx with rfl | hx
      · exact h1
      · exact h2 x hx
    · rcases h3 with e | ⟨x, hx, e⟩
      · exact ⟨y, .head _, e.symm⟩
      · exact ⟨x, .tail _ hx, e⟩
theorem le_when {a b : En} (h : leE a b) : a.1 ≤ b.1 := by
  unfold leE aheadE at h
  rcases Int.lt_or_le b.1 a.1 with hl | hl
  · exfalso
    have e : cmpE b a < 0 := by
      unfold cmpE
      simp [c3_lt hl, or3]
    rw [decide_eq_true e] at h
    cases h
  · exact hl
theorem next_lst (D : List Tr) : nextT D = lst D := by
  unfold nextT
  rcases hf : firstE D with _ | ⟨y, l⟩
  · have hl := fe_len D
    rw [hf] at hl
    obtain rfl : D = [] := List.length_eq_zero_iff.1 (by simp at hl; omega)
    rfl
  · have hne : D ≠ [] := by
      rintro rfl
      have hl := fe_len []
      rw [hf] at hl; simp at hl
    obtain ⟨h1, x, hx, h2⟩ := lst_least hne
    have hs : (y :: l).Pairwise leE := by rw [← hf]; exact sortE_ord _
    have hm : y ∈ D.map Prod.snd := (fe_perm D).mem_iff.1 (by rw [hf]; exact .head _)
    obtain ⟨z, hz, rfl⟩ := List.mem_map.1 hm
    have a1 := h1 z hz
    have hx2 : x.2 ∈ z.2 :: l := by rw [← hf]; exact (fe_perm D).mem_iff.2 (List.mem_map.2 ⟨x, hx, rfl⟩)
    have a2 : z.2.1 ≤ x.2.1 := by
      rcases List.mem_cons.1 hx2 with e | e
      · rw [e]; exact Int.le_refl _
      · exact le_when ((List.pairwise_cons.1 hs).1 _ e)
    show z.2.1 = lst D
    omega
theorem St12.below {Z : Nat → Prop} {s t p b1 b2 b3 n k : Nat} {now : Int} {o : Nat} {D : List Tr} {V : List (Int × Int)} {S : List Int} {vL vW vS : Value} {w w' : World} (h : St12 Z s t p b1 b2 b3 n now o D V S vL vW vS k w) (hb : Below w.heap.size w w') : St12 Z s t p b1 b2 b3 n now o D V S vL vW vS k w' := ⟨h.ps.below hb, h.di.below hb, h.o1, h.o2, h.o3, h.ln⟩
theorem St12.more {Z : Nat → Prop} {s t p b1 b2 b3 n k : Nat} {now : Int} {o : Nat} {D : List Tr} {V : List (Int × Int)} {S : List Int} {vL vW vS : Value} {w w' : World} (h : St12 Z s t p b1 b2 b3 n now o D V S vL vW vS k w) (hb : Below w.heap.size w w') : St12 (fun q => Z q ∨ (w.heap.size ≤ q ∧ q < w'.heap.size)) s t p b1 b2 b3 n now o D V S vL vW vS k w' := ⟨h.ps.grow hb, h.di.below hb, fun q hq => .inl (h.o1 q hq), fun q hq => .inl (h.o2 q hq), fun q hq => .inl (h.o3 q hq), h.ln⟩
/-- Between two acts. -/
structure LW12 (w : World) (s t p b1 b2 b3 n B k : Nat) (Z : Nat → Prop) (now : Int) (o : Nat) (D : List Tr) (V : List (Int × Int)) (S : List Int) (vL vW vS : Value) (y : World) : Prop where
  st : St12 Z s t p b1 b2 b3 n now o D V S vL vW vS k y
  bx : y.heap[B]? = some (.cells (sx now n vL o vW vS) 35 (0, 0))
  zb : Z B
  zw : ∀ q, q < w.heap.size → Z q
  n1 : ∀ q, vL.ownBlock = some q → q ≠ B
  n2 : ∀ q, vW.ownBlock = some q → q ≠ B
  n3 : ∀ q, vS.ownBlock = some q → q ≠ B
  bl : Below w.heap.size w y
  ge : w.heap.size ≤ B
section
variable {w : World} {s t p b1 b2 b3 n B k : Nat} {Z : Nat → Prop} {now : Int} {o : Nat} {D : List Tr} {V : List (Int × Int)} {S : List Int} {vL vW vS : Value} {y y' : World}
theorem LW12.below (h : LW12 w s t p b1 b2 b3 n B k Z now o D V S vL vW vS y) (hb : Below y.heap.size y y') : LW12 w s t p b1 b2 b3 n B k Z now o D V S vL vW vS y' :=
  ⟨h.st.below hb, (hb.block B (blk_lt h.bx)).trans h.bx, h.zb, h.zw, h.n1, h.n2, h.n3, h.bl.trans (hb.mono h.bl.size), h.ge⟩
/-- Behind an act of both, put into the document's box. -/
theorem LW12.next (h : LW12 w s t p b1 b2 b3 n B k Z now o D V S vL vW vS y) {ob : Obj} {now' : Int} {o' : Nat} {D' : List Tr} {V' : List (Int × Int)} {S' : List Int} {vL' vW' vS' : Value} {w5 : World} {Z2 : Nat → Prop} (hz2 : ∀ q, (Z q ∨ (y.heap.size ≤ q ∧ q < (y.alloc ob).heap.size)) → Z2 q)
    (st5 : St12 Z2 s t p b1 b2 b3 n now' o' D' V' S' vL' vW' vS' (k + 1) w5) (fr : FrZ (fun q => Z q ∨ (y.heap.size ≤ q ∧ q < (y.alloc ob).heap.size)) (y.alloc ob) w5)
    (k1 : ∀ q, vL'.ownBlock = some q → vL.ownBlock = some q ∨ (y.alloc ob).heap.size ≤ q) (k2 : ∀ q, vW'.ownBlock = some q → vW.ownBlock = some q ∨ (y.alloc ob).heap.size ≤ q) (k3 : ∀ q, vS'.ownBlock = some q → vS.ownBlock = some q ∨ (y.alloc ob).heap.size ≤ q) :
    w5.heap[B]? = some (.cells (sx now n vL o vW vS) 35 (0, 0)) ∧ LW12 w s t p b1 b2 b3 n B (k + 1) Z2 now' o' D' V' S' vL' vW' vS' (w5.setRow B (sx now' n vL' o' vW' vS')) ∧ (w5.setRow B (sx now' n vL' o' vW' vS')).heap[y.heap.size]? = some ob := by
  have hB := blk_lt h.bx
  have hsz : (y.alloc ob).heap.size = y.heap.size + 1 := by simp
  have e1 : w5.heap[B]? = some (.cells (sx now n vL o vW vS) 35 (0, 0)) := (fr.block B (by omega) (.inl h.zb)).trans ((Below.heap_alloc _ _ _ hB).trans h.bx)
  have e2 : w5.heap[y.heap.size]? = some ob := (fr.block _ (by omega) (.inr ⟨Nat.le_refl _, by omega⟩)).trans (heap_alloc_new _ _)
  have n1 : ∀ q, vL'.ownBlock = some q → q ≠ B := fun q hq => by rcases k1 q hq with e | e; exact h.n1 q e; omega
  have n2 : ∀ q, vW'.ownBlock = some q → q ≠ B := fun q hq => by rcases k2 q hq with e | e; exact h.n2 q e; omega
  have n3 : ∀ q, vS'.ownBlock = some q → q ≠ B := fun q hq => by rcases k3 q hq with e | e; exact h.n3 q e; omega
  have hbl : Below w.heap.size w w5 := (h.bl.trans ((bl_al y ob).mono h.bl.size)).trans (fr.below (fun q hq => .inl (h.zw q hq)) (by have := h.bl.size; omega))
  exact ⟨e1, ⟨⟨st5.ps.only (only_row12 _ _ _) (hz2 _ (.inl h.zb)), st5.di.row _ _ n1 n2 n3, st5.o1, st5.o2, st5.o3, st5.ln⟩, setRow_heap _ _ _ _ _ _ e1, hz2 _ (.inl h.zb), fun q hq => hz2 _ (.inl (h.zw q hq)), n1, n2, n3, row_below hbl h.ge _, h.ge⟩, (row_other _ _ _ _ (by omega)).trans e2⟩
end
end Go.Proofs.Ytaogpodncphpjaa
