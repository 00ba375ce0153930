/- world.begin of a new world of one: the world behind no step. -/
import Derived.Test.YtfpkgkjmpcoppaaGreatDoorWoV
namespace Go.Proofs.YtfpkgkjmpcoppaaGreatDoor
open Go.RowKit
set_option linter.unusedVariables false
set_option linter.unusedSimpArgs false
set_option maxRecDepth 20000
section
variable {w0 y : World} {bx : Nat} {f : Nat → Option Nat} {W b1 g1 b2 g2 tb q p sb ib mb : Nat}
theorem Acc.ne (h : Acc w0 y bx f) {i j a b : Nat} (ha : f i = some a) (hb : f j = some b) (hij : i ≠ j) : a ≠ b := fun e => hij (h.inj i j a ha (by rw [hb, e]))
/-- Behind Put. -/
def PsiP (w0 y : World) (f : Nat → Option Nat) (W b1 b2 tb q p sb ib mb : Nat) (w4 : World) : Prop :=
  ∃ rb rg rc r', Wn w4 W b1 b2 tb q sb ib mb (.slice (some ⟨rb, 0, none⟩) 1 rc) (.slice none 0 0) ∧ w4.cell? ⟨rb, 0, none⟩ = some (.pointer (some ⟨rg, 0, none⟩)) ∧ Rg w4 rg [] 0 false 0 ∧ y.heap.size ≤ rb ∧ y.heap.size ≤ rg ∧ rb < w4.heap.size ∧ rb ≠ rg ∧ w4.heap[mb]? = some (.cells (mf 1 0) 101 (0, 0)) ∧ Qu w4 q p 1 r' [0] ∧ (∀ k, r' = some k → f 9 = some k ∨ (y.heap.size ≤ k ∧ k ≠ rb ∧ k ≠ rg)) ∧ OnL (W :: mb :: p :: (f 9).toList) y w4
theorem psi_1 (hA : Acc w0 y bx f) (h0 : f 0 = some W) (h6 : f 6 = some q) (h7 : f 7 = some p) (h8 : f 8 = some mb) {rb rg rc : Nat} {w3 : World} (M : MidP W b1 b2 tb q sb ib mb rb rg rc y w3) :
    Calls Tryz.prog 75 #[.pointer (some ⟨q, 0, none⟩), .slice (some ⟨w3.heap.size, 0, none⟩) 1 1] (w3.alloc (.cells #[.int .i64 0] 3)) fun e w4 => e = .returned (.tuple #[]) ∧ PsiP w0 y f W b1 b2 tb q p sb ib mb w4 := by
  obtain ⟨hW, hc, hr, l1, l2, l3, l4, hm, ho⟩ := M
  have hQ := hA.qu q p h6 h7
  have lr := hr.lt
  have hs := ho.size
  have nS : ∀ i k, f i = some k → i ≠ 0 → i ≠ 8 → k ∉ [W, mb] := fun i k hi h1 h2 => by
    simp only [List.mem_cons, List.not_mem_nil, or_false, not_or]
    exact ⟨hA.ne hi h0 h1, hA.ne hi h8 h2⟩
  have hQ3 : Qu w3 q p 1 (f 9) [] := ⟨(ho.block _ hQ.lt (nS 6 _ h6 (by decide) (by decide))).trans hQ.hq, hQ.hb.kept (ho.block _ hQ.hb.lt (nS 7 _ h7 (by decide) (by decide))) (fun k hk => ho.block k (hQ.hb.rlt k hk) (nS 9 _ hk (by decide) (by decide))), hQ.ne, hQ.nr, hQ.lo, hQ.hi⟩
  have hba : Below w3.heap.size w3 (w3.alloc (.cells #[.int .i64 0] 3)) := bla w3 _
  have hQa := hQ3.below hba
  have hnew := heap_alloc_new w3 (.cells #[.int .i64 0] 3)
  have hRd : Reads (w3.alloc (.cells #[.int .i64 0] 3)) (.slice (some ⟨w3.heap.size, 0, none⟩) 1 1) [0] :=
    ⟨_, 1, rfl, ⟨by simp, by unfold maxLen; omega, .inr ⟨_, rfl⟩⟩, fun _ => ⟨_, 0, rfl, by simp, fun j hj => by
      have : j = 0 := by simp at hj; exact hj
      subst this
      exact blk_cell hnew rfl⟩⟩
  refine (qput q p 1 (f 9) [] [0] _ _ hQa hRd (by simp)).mono ?_
  rintro e w4 ⟨rfl, r', hb, hoo, hr'⟩
  have hQ4 := hQa.after hoo hb hr'
  have s3 : (w3.alloc (.cells #[.int .i64 0] 3)).heap.size = w3.heap.size + 1 := by simp
  have s4 := hoo.size
  have k4 : ∀ k, k < w3.heap.size → k ≠ p → f 9 ≠ some k → w4.heap[k]? = w3.heap[k]? := fun k h1 h2 h3 => (hoo.block k (by omega) h2 (Ne.symm h3)).trans (hba.block k h1)
  have lp := (hA.lt 7 p h7).2
  have rp : rb ≠ p := by omega
  have gp : rg ≠ p := by omega
  have r9 : ∀ k, f 9 = some k → k < y.heap.size := fun k hk => (hA.lt 9 k hk).2
  refine ⟨rfl, rb, rg, rc, r', hW.kept (k4 W hW.lt (hA.ne h0 h7 (by decide)) (fun e => hA.ne h0 e (by decide) rfl)), (World.cell?_of_block (k4 rb l3 rp (fun e => by have := r9 _ e; omega))).trans hc, hr.kept (k4 rg lr gp (fun e => by have := r9 _ e; omega)), l1, l2, by omega, l4, (k4 mb (blk_lt hm) (hA.ne h8 h7 (by decide)) (fun e => hA.ne h8 e (by decide) rfl)).trans hm, hQ4, fun k hk => ?_, ?_⟩
  · rcases hr' with h | h
    · exact .inl (h ▸ hk)
    · have := h k hk; exact .inr ⟨by omega, by omega, by omega⟩
  · refine ⟨hoo.os.trans ho.os, hoo.tape.trans ho.tape, hoo.output.trans ho.output, by omega, fun k h1 h2 => ?_⟩
    simp only [List.mem_cons, not_or, Option.mem_toList] at h2
    exact (k4 k (by omega) h2.2.2.1 h2.2.2.2).trans (ho.block k h1 (by simp only [List.mem_cons, List.not_mem_nil, or_false, not_or]; exact ⟨h2.1, h2.2.1⟩))
/-- What a struct of this kind is: its eleven blocks apart. -/
theorem nd_of_nodup {l : List Nat} (h : l.Nodup) (n : Nat) (hn : l.length = n) : ∀ i j : Nat, i < j → j < n → l.getD i 0 ≠ l.getD j 0 := by
  intro i j hij hj
  have := List.pairwise_iff_getElem.1 h i j (by omega) (by omega) hij
  rw [List.getD_eq_getElem?_getD, List.getD_eq_getElem?_getD, List.getElem?_eq_getElem (by omega), List.getElem?_eq_getElem (by omega)]
  exact this
/-- The tables stay where no block of theirs is written. -/
theorem tabs_on {S : List Nat} {w w' : World} {base : Nat} (hl : OnL S w w') (hS : ∀ k ∈ S, base ≤ k) (hb : base ≤ w.heap.size) (T1 : MaPlaces w) (T2 : EvNames w) (T3 : EvSteps w) (U1 : 0 < base) (U2 : 3 < base) (U3 : 1 < base) : MaPlaces w' ∧ EvNames w' ∧ EvSteps w' :=
  tabs T1 T2 T3 (hl.block _ (by omega) (fun e => by have := hS _ e; omega)) (hl.block _ (by omega) (fun e => by have := hS _ e; omega)) (hl.block _ (by omega) (fun e => by have := hS _ e; omega))
set_option maxHeartbeats 4000000 in
theorem begin_all (hA : Acc w0 y bx f) (h0 : f 0 = some W) (h1 : f 1 = some b1) (h2 : f 2 = some g1) (h3 : f 3 = some b2) (h4 : f 4 = some g2) (h5 : f 5 = some tb) (h6 : f 6 = some q) (h7 : f 7 = some p) (h8 : f 8 = some mb)
    (hW : y.heap[W]? = some (.cells (wcN b1 b2 tb q sb ib mb) 95 (0, 0))) (T1 : MaPlaces y) (T2 : EvNames y) (T3 : EvSteps y) (U1 : 0 < w0.heap.size) (U2 : 3 < w0.heap.size) (U3 : 1 < w0.heap.size) :
    Calls Tryz.prog 42 #[.pointer (some ⟨W, 0, none⟩)] y fun e w' => e = .returned (.tuple #[]) ∧ ∃ B : Bs, B.W = W ∧ At w0 B 0 w' := by
  have hbs := hA.bl.size
  have hWn : Wn y W b1 b2 tb q sb ib mb (.slice none 0 0) (.slice none 0 0) := ⟨hW⟩
  have ge : ∀ i k, f i = some k → w0.heap.size ≤ k := fun i k e => (hA.lt i k e).1
  have lt : ∀ i k, f i = some k → k < y.heap.size := fun i k e => (hA.lt i k e).2
  refine begin_1 (PsiP w0 y f W b1 b2 tb q p sb ib mb) _ hWn (hA.ma _ h8) (hA.ne h0 h8 (by decide)) (fun w3 rb rg rc M => psi_1 hA h0 h6 h7 h8 M) (fun w4 h => ?_)
  obtain ⟨rb, rg, rc, r', hW4, hc4, hr4, l1, l2, l3, l4, hm4, hQ4, hr', ho4⟩ := h
  have hs4 := ho4.size
  have n4 : ∀ i k, f i = some k → i ≠ 0 → i ≠ 8 → i ≠ 7 → i ≠ 9 → k ∉ W :: mb :: p :: (f 9).toList := fun i k hi a0 a8 a7 a9 => by
    simp only [List.mem_cons, not_or, Option.mem_toList]
    exact ⟨hA.ne hi h0 a0, hA.ne hi h8 a8, hA.ne hi h7 a7, fun e => hA.ne hi e a9 rfl⟩
  have g4 : ∀ k ∈ W :: mb :: p :: (f 9).toList, w0.heap.size ≤ k := fun k hk => by
    simp only [List.mem_cons, Option.mem_toList] at hk
    rcases hk with rfl | rfl | rfl | hk
    · exact ge _ _ h0
    · exact ge _ _ h8
    · exact ge _ _ h7
    · exact ge _ _ hk
  obtain ⟨T14, T24, T34⟩ := tabs_on ho4 g4 hbs T1 T2 T3 U1 U2 U3
  have M1 := (hA.m1 _ _ h1 h2).blocks (ho4.block _ (lt _ _ h1) (n4 1 _ h1 (by decide) (by decide) (by decide) (by decide))) (ho4.block _ (lt _ _ h2) (n4 2 _ h2 (by decide) (by decide) (by decide) (by decide)))
  have M2 := (hA.m2 _ _ h3 h4).blocks (ho4.block _ (lt _ _ h3) (n4 3 _ h3 (by decide) (by decide) (by decide) (by decide))) (ho4.block _ (lt _ _ h4) (n4 4 _ h4 (by decide) (by decide) (by decide) (by decide)))
  have hWb : Wb w4 W b1 b2 rb tb q sb ib mb rc (.slice none 0 0) := ⟨hW4.h⟩
  have Lg0 : Lg w4 w0.heap.size (.slice none 0 0) 0 [] := ⟨World.ownsRow_nil _ _ _ _⟩
  refine (see_any (m := -1) (p := -1) (x := 0) 0 (by decide) hWb (by decide) Lg0 (by decide) (by omega) M1 M2 (by decide) (by decide) rfl rfl T24 T34
    ⟨hA.ne h1 h3 (by decide), hA.ne h1 h4 (by decide), hA.ne h2 h3 (by decide), hA.ne h2 h4 (by decide), hA.ne h0 h1 (by decide), hA.ne h0 h2 (by decide), hA.ne h0 h3 (by decide), hA.ne h0 h4 (by decide)⟩ (fun k hk => by cases hk)).mono ?_
  rintro e w5 ⟨rfl, lg, hWb5, hLg, hM1, hM2, hnW, hown, ho5⟩
  have ho5 : OnL [W, b1, g1, b2, g2] w4 w5 := ho5.mono (by intro k hk; simpa [Value.ownBlock] using hk)
  have hs5 := ho5.size
  have n5 : ∀ i k, f i = some k → i ≠ 0 → i ≠ 1 → i ≠ 2 → i ≠ 3 → i ≠ 4 → k ∉ [W, b1, g1, b2, g2] := fun i k hi a0 a1 a2 a3 a4 => by
    simp only [List.mem_cons, List.not_mem_nil, or_false, not_or]
    exact ⟨hA.ne hi h0 a0, hA.ne hi h1 a1, hA.ne hi h2 a2, hA.ne hi h3 a3, hA.ne hi h4 a4⟩
  have g5 : ∀ k ∈ [W, b1, g1, b2, g2], w0.heap.size ≤ k ∧ k < y.heap.size := fun k hk => by
    simp only [List.mem_cons, List.not_mem_nil, or_false] at hk
    rcases hk with rfl | rfl | rfl | rfl | rfl
    · exact hA.lt _ _ h0
    · exact hA.lt _ _ h1
    · exact hA.lt _ _ h2
    · exact hA.lt _ _ h3
    · exact hA.lt _ _ h4
  obtain ⟨T15, T25, T35⟩ := tabs_on ho5 (fun k hk => (g5 k hk).1) (by omega) T14 T24 T34 U1 U2 U3
  have n5y : ∀ k, y.heap.size ≤ k → k ∉ [W, b1, g1, b2, g2] := fun k hk e => by have := (g5 k e).2; omega
  have e5 : ∀ i k, f i = some k → i ≠ 0 → i ≠ 1 → i ≠ 2 → i ≠ 3 → i ≠ 4 → w5.heap[k]? = w4.heap[k]? := fun i k hi a0 a1 a2 a3 a4 => ho5.block k (by have := lt i k hi; omega) (n5 i k hi a0 a1 a2 a3 a4)
  have rl4 := hr4.lt
  have hmb5 := (e5 8 mb h8 (by decide) (by decide) (by decide) (by decide) (by decide)).trans hm4
  have htb5 : w5.heap[tb]? = some (.cells #[.int .i64 0] 3 (0, 0)) := (e5 5 tb h5 (by decide) (by decide) (by decide) (by decide) (by decide)).trans ((ho4.block _ (lt _ _ h5) (n4 5 _ h5 (by decide) (by decide) (by decide) (by decide))).trans (hA.tu _ h5))
  have nr5 : ∀ k, r' = some k → k ∉ [W, b1, g1, b2, g2] := fun k hk => by
    rcases hr' k hk with h | h
    · exact n5 9 k h (by decide) (by decide) (by decide) (by decide) (by decide)
    · exact n5y k h.1
  have hQ5 : Qu w5 q p 1 r' [0] := ⟨(e5 6 q h6 (by decide) (by decide) (by decide) (by decide) (by decide)).trans hQ4.hq, hQ4.hb.kept (e5 7 p h7 (by decide) (by decide) (by decide) (by decide) (by decide)) (fun k hk => ho5.block k (hQ4.hb.rlt k hk) (nr5 k hk)), hQ4.ne, hQ4.nr, hQ4.lo, hQ4.hi⟩
  have nd : ([W, b1, g1, b2, g2, rb, tb, rg, q, p, mb] : List Nat).Nodup := by
    have n9 : ([W, b1, g1, b2, g2, tb, q, p, mb] : List Nat).Nodup := by
      simp only [List.nodup_cons, List.mem_cons, List.not_mem_nil, or_false, not_or, not_false_eq_true, List.nodup_nil, and_true]
      exact ⟨⟨hA.ne h0 h1 (by decide), hA.ne h0 h2 (by decide), hA.ne h0 h3 (by decide), hA.ne h0 h4 (by decide), hA.ne h0 h5 (by decide), hA.ne h0 h6 (by decide), hA.ne h0 h7 (by decide), hA.ne h0 h8 (by decide)⟩,
        ⟨hA.ne h1 h2 (by decide), hA.ne h1 h3 (by decide), hA.ne h1 h4 (by decide), hA.ne h1 h5 (by decide), hA.ne h1 h6 (by decide), hA.ne h1 h7 (by decide), hA.ne h1 h8 (by decide)⟩,
        ⟨hA.ne h2 h3 (by decide), hA.ne h2 h4 (by decide), hA.ne h2 h5 (by decide), hA.ne h2 h6 (by decide), hA.ne h2 h7 (by decide), hA.ne h2 h8 (by decide)⟩,
        ⟨hA.ne h3 h4 (by decide), hA.ne h3 h5 (by decide), hA.ne h3 h6 (by decide), hA.ne h3 h7 (by decide), hA.ne h3 h8 (by decide)⟩,
        ⟨hA.ne h4 h5 (by decide), hA.ne h4 h6 (by decide), hA.ne h4 h7 (by decide), hA.ne h4 h8 (by decide)⟩,
        ⟨hA.ne h5 h6 (by decide), hA.ne h5 h7 (by decide), hA.ne h5 h8 (by decide)⟩, ⟨hA.ne h6 h7 (by decide), hA.ne h6 h8 (by decide)⟩, hA.ne h7 h8 (by decide)⟩
    have p1 : ([W, b1, g1, b2, g2, rb, tb, rg, q, p, mb] : List Nat).Perm (rb :: rg :: [W, b1, g1, b2, g2, tb, q, p, mb]) :=
      (List.perm_middle (l₁ := [W, b1, g1, b2, g2]) (a := rb) (l₂ := [tb, rg, q, p, mb])).trans ((List.perm_middle (l₁ := [W, b1, g1, b2, g2, tb]) (a := rg) (l₂ := [q, p, mb])).cons rb)
    refine p1.nodup_iff.2 (List.nodup_cons.2 ⟨?_, List.nodup_cons.2 ⟨?_, n9⟩⟩)
    · intro e
      have := lt _ _ h0; have := lt _ _ h1; have := lt _ _ h2; have := lt _ _ h3; have := lt _ _ h4; have := lt _ _ h5; have := lt _ _ h6; have := lt _ _ h7; have := lt _ _ h8
      simp only [List.mem_cons, List.not_mem_nil, or_false] at e
      omega
    · intro e
      have := lt _ _ h0; have := lt _ _ h1; have := lt _ _ h2; have := lt _ _ h3; have := lt _ _ h4; have := lt _ _ h5; have := lt _ _ h6; have := lt _ _ h7; have := lt _ _ h8
      simp only [List.mem_cons, List.not_mem_nil, or_false] at e
      omega
  have inL : ∀ k ∈ ([W, b1, g1, b2, g2, rb, tb, rg, q, p, mb] : List Nat), k = rb ∨ k = rg ∨ ∃ i, f i = some k ∧ i ≠ 9 := fun k hk => by
    simp only [List.mem_cons, List.not_mem_nil, or_false] at hk
    rcases hk with rfl | rfl | rfl | rfl | rfl | rfl | rfl | rfl | rfl | rfl | rfl
    · exact .inr (.inr ⟨0, h0, by decide⟩)
    · exact .inr (.inr ⟨1, h1, by decide⟩)
    · exact .inr (.inr ⟨2, h2, by decide⟩)
    · exact .inr (.inr ⟨3, h3, by decide⟩)
    · exact .inr (.inr ⟨4, h4, by decide⟩)
    · exact .inl rfl
    · exact .inr (.inr ⟨5, h5, by decide⟩)
    · exact .inr (.inl rfl)
    · exact .inr (.inr ⟨6, h6, by decide⟩)
    · exact .inr (.inr ⟨7, h7, by decide⟩)
    · exact .inr (.inr ⟨8, h8, by decide⟩)
  have l5 : ∀ k ∈ ([W, b1, g1, b2, g2, rb, tb, rg, q, p, mb] : List Nat), w0.heap.size ≤ k ∧ k < w4.heap.size := fun k hk => by
    rcases inL k hk with rfl | rfl | ⟨i, hi, _⟩
    · exact ⟨by omega, l3⟩
    · exact ⟨by omega, rl4⟩
    · have := hA.lt i k hi; exact ⟨by omega, by omega⟩
  have rL : ∀ k, r' = some k → k ∉ ([W, b1, g1, b2, g2, rb, tb, rg, q, p, mb] : List Nat) := fun k hk hm => by
    rcases hr' k hk with h | h
    · rcases inL k hm with rfl | rfl | ⟨i, hi, h9⟩
      · have := lt _ _ h; omega
      · have := lt _ _ h; omega
      · exact hA.ne hi h h9 rfl
    · rcases inL k hm with rfl | rfl | ⟨i, hi, h9⟩
      · exact h.2.1 rfl
      · exact h.2.2 rfl
      · have := lt _ _ hi; omega
  have lo5 : ∀ k, lg.ownBlock = some k → w4.heap.size ≤ k := fun k hk => (hown k hk).resolve_left (by simp [Value.ownBlock])
  refine ⟨rfl, ⟨W, b1, g1, b2, g2, rb, tb, rg, q, p, sb, ib, mb, rc⟩, rfl, r', lg, none, 0, 0, 0, 0, 0, 0, 0, 0, false, ?_, blk_cell htb5 rfl, blk_free htb5, (World.cell?_of_block (ho5.block rb l3 (n5y rb l1))).trans hc4, hr4.kept (ho5.block rg rl4 (n5y rg l2))⟩
  exact {
    wb := hWb5
    mc := ⟨blk_cell hmb5 rfl, blk_cell hmb5 rfl, blk_cell hmb5 rfl, blk_cell hmb5 rfl, blk_cell hmb5 rfl, blk_cell hmb5 rfl, blk_cell hmb5 rfl, blk_cell hmb5 rfl, blk_cell hmb5 rfl, blk_cell hmb5 rfl, blk_cell hmb5 rfl, blk_cell hmb5 rfl, blk_cell hmb5 rfl, blk_cell hmb5 rfl, blk_cell hmb5 rfl, blk_cell hmb5 rfl, blk_cell hmb5 rfl, blk_cell hmb5 rfl, blk_cell hmb5 rfl, blk_cell hmb5 rfl, fun i => blk_free hmb5⟩
    m1 := hM1
    m2 := hM2
    l1 := rfl
    l2 := rfl
    c1 := by decide
    c2 := by decide
    tl := blk_lt htb5
    qu := hQ5
    lgr := hLg
    n1 := by decide
    T1 := T15
    T2 := T25
    T3 := T35
    U1 := U1
    U2 := U2
    U3 := U3
    bl := hA.bl.trans (((ho4.below g4 hbs)).trans (ho5.below (fun k hk => (g5 k hk).1) (by omega)))
    nd := nd_of_nodup nd 11 rfl
    ge := fun k hk => (l5 k hk).1
    al := fun k hk => Nat.lt_of_lt_of_le (l5 k hk).2 hs5
    ro := fun k hk => ⟨rL k hk, by
      rcases hr' k hk with h | h
      · exact ge _ _ h
      · omega⟩
    lo := fun k hk => ⟨fun e => by have := lo5 k hk; have := (l5 k e).2; omega, fun e => by have := lo5 k hk; have := hQ4.hb.rlt k e; omega⟩ }
end
end Go.Proofs.YtfpkgkjmpcoppaaGreatDoor
