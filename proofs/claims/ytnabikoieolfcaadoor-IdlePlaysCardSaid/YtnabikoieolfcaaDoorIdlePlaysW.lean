/- The walk of the statement IdlePlays: the law answers true and turns nothing that was there. Written by wip/tools/genip.py. -/
import Derived.Test.YtnabikoieolfcaaDoorDo13
import Derived.Test.YtnabikoieolfcaaDoorIdsN
import Derived.Test.YtnabikoieolfcaaDoorStructs
import Derived.OpenShut
import Derived.Deep.CutRange
import Derived.Deep.CutBlock
import Derived.Deep.RegionHeld3
namespace Go.Proofs.YtnabikoieolfcaaDoor.idlePlays
open Go.RowKit
set_option linter.unusedVariables false
set_option linter.unusedSimpArgs false
theorem do_any {Z : Nat → Prop} {x np k : Nat} {f : Nat → Bool} {N pl : Int} {Pl Q M : List Int} {vP vQ vM : Value} {w : World} (h : St Z x np f N Pl Q M pl vP vQ vM k w) (hk : k < 900) (hnp : 0 < np) (K n : Int) (hK0 : 0 ≤ K) (hK1 : K ≤ 255) :
    Calls Tryd.prog 7 #[.pointer (some ⟨x, 0, none⟩), .agg (ix np N vP vQ vM pl), .agg #[.int .u8 K, .int .i64 n]] w (DoPost Z x np N k vP vQ vM w) := by
  rcases (show K % 9 = 0 ∨ K % 9 = 1 ∨ K % 9 = 2 ∨ K % 9 = 3 ∨ (K % 9 = 4 ∨ K % 9 = 5) ∨ K % 9 = 6 ∨ K % 9 = 7 ∨ K % 9 = 8 by omega) with e | e | e | e | e | e | e | e
  · exact do_putp h hk K n hK0 hK1 e
  · exact do_takep h hk K n hK0 hK1 e
  · exact do_pend h hk K n hK0 hK1 e
  · exact do_takepend h hk K n hK0 hK1 e
  · exact do_stop h hk K n hK0 hK1 e
  · exact do_takem h hk K n hK0 hK1 e
  · by_cases hp : 0 ≤ pl ∧ pl = n
    · obtain ⟨h0, rfl⟩ := hp
      exact do_leave_yes h hk K hK0 hK1 e h0
    · exact do_leave_no h hk K n hK0 hK1 e hp
  · exact do_copy h hk hnp K n hK0 hK1 e
theorem St.below {Z : Nat → Prop} {x np k : Nat} {f : Nat → Bool} {N pl : Int} {Pl Q M : List Int} {vP vQ vM : Value} {w w' : World} (h : St Z x np f N Pl Q M pl vP vQ vM k w) (hb : Below w.heap.size w w') : St Z x np f N Pl Q M pl vP vQ vM k w' := ⟨h.ids.below hb, h.im, h.di.below hb, h.o1, h.o2, h.o3, h.ln⟩
theorem St.more {Z : Nat → Prop} {x np k : Nat} {f : Nat → Bool} {N pl : Int} {Pl Q M : List Int} {vP vQ vM : Value} {w w' : World} (h : St Z x np f N Pl Q M pl vP vQ vM k w) (hb : Below w.heap.size w w') : St (fun q => Z q ∨ (w.heap.size ≤ q ∧ q < w'.heap.size)) x np f N Pl Q M pl vP vQ vM k w' := ⟨h.ids.more hb, h.im, h.di.below hb, fun q hq => .inl (h.o1 q hq), fun q hq => .inl (h.o2 q hq), fun q hq => .inl (h.o3 q hq), h.ln⟩
/-- Between two acts. -/
structure LW (w : World) (x np B k : Nat) (N : Int) (Z : Nat → Prop) (f : Nat → Bool) (Pl Q M : List Int) (pl : Int) (vP vQ vM : Value) (y : World) : Prop where
  st : St Z x np f N Pl Q M pl vP vQ vM k y
  bx : y.heap[B]? = some (.cells (ix np N vP vQ vM pl) 28 (0, 0))
  zb : Z B
  zw : ∀ q, q < w.heap.size → Z q
  n1 : ∀ q, vP.ownBlock = some q → q ≠ B
  n2 : ∀ q, vQ.ownBlock = some q → q ≠ B
  n3 : ∀ q, vM.ownBlock = some q → q ≠ B
  bl : Below w.heap.size w y
  ge : w.heap.size ≤ B
  gb : B ≠ 0
section
variable {w : World} {x np B k : Nat} {N : Int} {Z : Nat → Prop} {f : Nat → Bool} {Pl Q M : List Int} {pl : Int} {vP vQ vM : Value} {y y' : World}
theorem LW.below (h : LW w x np B k N Z f Pl Q M pl vP vQ vM y) (hb : Below y.heap.size y y') : LW w x np B k N Z f Pl Q M pl vP vQ vM y' :=
  ⟨St.below h.st hb, (hb.block B (blk_lt h.bx)).trans h.bx, h.zb, h.zw, h.n1, h.n2, h.n3, h.bl.trans (hb.mono h.bl.size), h.ge, h.gb⟩
/-- Behind an act of both, put into the document's box. -/
theorem LW.next (h : LW w x np B k N Z f Pl Q M pl vP vQ vM y) {o : Obj} {f' : Nat → Bool} {Pl' Q' M' : List Int} {pl' : Int} {vP' vQ' vM' : Value} {w5 : World} {Z2 : Nat → Prop} (hz2 : ∀ q, (Z q ∨ (y.heap.size ≤ q ∧ q < (y.alloc o).heap.size)) → Z2 q)
    (st5 : St Z2 x np f' N Pl' Q' M' pl' vP' vQ' vM' (k + 1) w5) (fr : Fr (fun q => Z q ∨ (y.heap.size ≤ q ∧ q < (y.alloc o).heap.size)) (y.alloc o) w5)
    (k1 : ∀ q, vP'.ownBlock = some q → vP.ownBlock = some q ∨ (y.alloc o).heap.size ≤ q) (k2 : ∀ q, vQ'.ownBlock = some q → vQ.ownBlock = some q ∨ (y.alloc o).heap.size ≤ q) (k3 : ∀ q, vM'.ownBlock = some q → vM.ownBlock = some q ∨ (y.alloc o).heap.size ≤ q) :
    w5.heap[B]? = some (.cells (ix np N vP vQ vM pl) 28 (0, 0)) ∧ LW w x np B (k + 1) N Z2 f' Pl' Q' M' pl' vP' vQ' vM' (w5.setRow B (ix np N vP' vQ' vM' pl')) ∧ (w5.setRow B (ix np N vP' vQ' vM' pl')).heap[y.heap.size]? = some o := by
  have hB := blk_lt h.bx
  have hsz : (y.alloc o).heap.size = y.heap.size + 1 := by simp
  have e1 : w5.heap[B]? = some (.cells (ix np N vP vQ vM pl) 28 (0, 0)) := (fr.block B (.inl h.zb)).trans ((Below.heap_alloc _ _ _ hB).trans h.bx)
  have e2 : w5.heap[y.heap.size]? = some o := (fr.block _ (.inr ⟨Nat.le_refl _, by omega⟩)).trans (heap_alloc_new _ _)
  have n1 : ∀ q, vP'.ownBlock = some q → q ≠ B := fun q hq => by rcases k1 q hq with e | e; exact h.n1 q e; omega
  have n2 : ∀ q, vQ'.ownBlock = some q → q ≠ B := fun q hq => by rcases k2 q hq with e | e; exact h.n2 q e; omega
  have n3 : ∀ q, vM'.ownBlock = some q → q ≠ B := fun q hq => by rcases k3 q hq with e | e; exact h.n3 q e; omega
  have hs : (w5.setRow B (ix np N vP' vQ' vM' pl')).heap.size = w5.heap.size := row_size _ _ _
  have hbl : Below w.heap.size w w5 := (h.bl.trans ((bl_al13 y o).mono h.bl.size)).trans (fr.below (fun q hq => .inl (h.zw q hq)))
  exact ⟨e1, ⟨⟨st5.ids.other (only_row13 _ _ _) (hz2 _ (.inl h.zb)) h.gb, st5.im, ⟨st5.di.hp.row hs (fun _ => n1), st5.di.hq.row hs (fun _ => n2), st5.di.hm.row hs (fun _ => n3), st5.di.lp, st5.di.lq, st5.di.lm⟩, st5.o1, st5.o2, st5.o3, st5.ln⟩, setRow_heap _ _ _ _ _ _ e1, hz2 _ (.inl h.zb), fun q hq => hz2 _ (.inl (h.zw q hq)), n1, n2, n3, row_below hbl h.ge _, h.ge, h.gb⟩, (row_other _ _ _ _ (by omega)).trans e2⟩
end
theorem wthn_min (a m : Int) (h : 1 ≤ m) : wthn a m = min (max a 1) m := by unfold wthn; split <;> (try split) <;> omega

set_option maxRecDepth 100000 in
set_option maxHeartbeats 8000000 in
theorem walk (a0 a1 : Int) (a2 : Option Addr) (len2 cap2 : Nat) (z2 : Nat → Nat → Int) (w : World) (w0 : (Lit.int .i64 a0).wf = true) (w1 : (Lit.int .i64 a1).wf = true) (w2 : IsStructs [.u8, .i64] w a2 len2 cap2 z2) (T1 : DbTab w) :
    Calls Tryd.prog 3 #[.int .i64 a0, .int .i64 a1, .slice a2 len2 cap2] w fun e w' => e = .returned (.bool true) ∧ Below w.heap.size w w' := by
  clear w0 w1
  have HT := hid T1
  clear T1
  by_cases hlen : (60 : Int) < len2
  · go_enter Tryd.func3, Tryd.ntmps3
    go_wp2_with fail
    refine (lives13d _ HT.out).mono ?_
    rintro e w2 ⟨rfl, hb1⟩
    have HT2 := hid (HT.out.at hb1)
    go_wp2_with fail
    refine (lives13d _ HT2.out).mono ?_
    rintro e w3 ⟨rfl, hb2⟩
    go_wp2
    go_ret
    exact ⟨rfl, hb1.trans (hb2.mono hb1.size)⟩
  · have hlen' : len2 ≤ 60 := by omega
    have W0 := hid w2
    clear w2 hlen
    obtain ⟨np, hnp⟩ : ∃ np : Nat, wthn a0 64 = (np : Int) := ⟨(wthn a0 64).toNat, by have := wthn_min a0 64 (by omega); omega⟩
    obtain ⟨N, hN⟩ : ∃ N : Int, wthn a1 128 = N := ⟨_, rfl⟩
    have np1 : 0 < np := by have := wthn_min a0 64 (by omega); omega
    have HNP := hid hnp
    have HN := hid hN
    clear hnp hN
    go_enter Tryd.func3, Tryd.ntmps3
    go_wp2_with fail
    refine (lives13d _ HT.out).mono ?_
    rintro e w2 ⟨rfl, hb1⟩
    have HB1 := hid hb1
    have HT2 := hid (HT.out.at hb1)
    clear hb1
    go_wp2_with fail
    refine (inew_any a0 a1 np N (by rw [← HNP.out, wthn_min a0 64 (by omega)]) (by rw [← HN.out, wthn_min a1 128 (by omega)]) w2 HT2.out).mono ?_
    rintro e w3 ⟨x, rfl, i3, hb3⟩
    have HI3 := hid i3
    have HB3 := hid hb3
    clear i3 hb3
    go_wp2_with fail
    refine (rnew13 a0 a1 _).mono ?_
    rintro e w4 ⟨rfl, hb4⟩
    rw [HNP.out, HN.out]
    have S0 : Hid (LW w x np w4.heap.size 0 N (fun q => q < w2.heap.size ∨ (w3.heap.size ≤ q ∧ q < (w4.alloc (.cells (ix np N (.slice none 0 0) (.slice none 0 0) (.slice none 0 0) (-1)) 28)).heap.size)) (fun _ => false) [] [] [] (-1) (.slice none 0 0) (.slice none 0 0) (.slice none 0 0) (w4.alloc (.cells (ix np N (.slice none 0 0) (.slice none 0 0) (.slice none 0 0) (-1)) 28))) := by
      have hb5 := hb4.trans ((bl_al13 w4 (.cells (ix np N (.slice none 0 0) (.slice none 0 0) (.slice none 0 0) (-1)) 28)).mono hb4.size)
      have s1 := HB1.out.size
      have s3 := HB3.out.size
      have s4 := hb4.size
      have hg := HT.out.lt
      have nilR : ∀ y : World, Reads y (.slice none 0 0) [] := fun y => ⟨none, 0, rfl, ⟨by simp, by unfold maxLen; omega, .inl ⟨rfl, rfl⟩⟩, fun h => absurd h (by simp)⟩
      exact hid ⟨⟨HI3.out.more hb5, ⟨by simp, fun i hi => by simp [hasB], by simp, by simp, by simp, .inl rfl, by rw [card_none (fun _ _ => rfl)]; rfl⟩, ⟨nilR _, nilR _, nilR _, by simp, by simp, by simp⟩, fun q hq => by simp [Value.ownBlock] at hq, fun q hq => by simp [Value.ownBlock] at hq, fun q hq => by simp [Value.ownBlock] at hq, by simp⟩, heap_alloc_new _ _, .inr ⟨s4, by simp⟩, fun q hq => .inl (by omega), fun q hq => by simp [Value.ownBlock] at hq, fun q hq => by simp [Value.ownBlock] at hq, fun q hq => by simp [Value.ownBlock] at hq, (HB1.out.trans (HB3.out.mono s1)).trans (hb5.mono (by omega)), by omega, by omega⟩
    obtain ⟨B, hB⟩ : ∃ B, B = w4.heap.size := ⟨_, rfl⟩
    rw [← hB] at S0
    clear hb4 HB1 HI3 HB3
    go_wp2_with fail
    rw [← hB]
    clear hB
    generalize w4.alloc (.cells (ix np N (.slice none 0 0) (.slice none 0 0) (.slice none 0 0) (-1)) 28) = w5 at *
    go_loopw [30] (fun i wr => ∃ (k : Nat) (Z : Nat → Prop) (f : Nat → Bool) (Pl Q M : List Int) (pl : Int) (vP vQ vM : Value), k ≤ len2 ∧ i = .int .i64 k ∧ Hid (LW w x np B k N Z f Pl Q M pl vP vQ vM wr) ∧ Below w.heap.size w wr) (fun i _ => len2 - (intOf i).toNat)
    case atStart => exact ⟨0, _, _, [], [], [], -1, _, _, _, by omega, rfl, S0, S0.out.bl⟩
    case round =>
      clear S0
      obtain ⟨k, Z, f, Pl, Q, M, pl, vP, vQ, vM, hk, rfl, F, hbr⟩ := hrel
      by_cases hlt : k < len2
      · obtain ⟨bx, off, rfl, hcell⟩ := W0.out.open (by omega) (by simp)
        obtain ⟨hq0, hw0⟩ := hcell _ hbr k hlt 0 .u8 rfl
        obtain ⟨hq1, hw1⟩ := hcell _ hbr k hlt 1 .i64 rfl
        obtain ⟨K, hK⟩ : ∃ x, x = z2 k 0 := ⟨_, rfl⟩
        obtain ⟨G, hG⟩ : ∃ x, x = z2 k 1 := ⟨_, rfl⟩
        rw [← hK] at hq0 hw0
        rw [← hG] at hq1
        obtain ⟨K0, K1⟩ := bounds_u8 hw0
        simp only [List.length_cons, List.length_nil, Nat.reduceAdd, Nat.add_zero] at hq0 hq1
        rw [← Nat.add_assoc] at hq1
        clear hcell hw0 hw1 hK hG hbr
        obtain ⟨aP, nP, cP, aQ, nQ, cQ, aM, nM, cM, rfl, rfl, rfl, _, _, _, _, _, _⟩ := F.out.st.di.sl
        have DC := hid (do_any (St.more F.out.st (bl_al13 wr (.cells #[.int .u8 K, .int .i64 G] 31))) (by omega) np1 K G K0 K1)
        have BX := hid ((Below.heap_alloc wr (.cells #[.int .u8 K, .int .i64 G] 31) B (blk_lt F.out.bx)).trans F.out.bx)
        have y0 := blk_cell BX.out (i := 0) rfl
        have y1 := blk_cell BX.out (i := 1) rfl
        have y2 := blk_cell BX.out (i := 2) rfl
        have y3 := blk_cell BX.out (i := 3) rfl
        have y4 := blk_cell BX.out (i := 4) rfl
        have y5 := blk_cell BX.out (i := 5) rfl
        go_wp2_with fail
        refine DC.out.mono ?_
        rintro e w5 ⟨f5, P5, Q5, M5, l5, v1, v2, v3, rfl, st5, fr5, k1, k2, k3⟩
        obtain ⟨bP, mP, dP, bQ, mQ, dQ, bM, mM, dM, rfl, rfl, rfl, HP, HQ', HM, lp, lq, lm⟩ := st5.di.sl
        obtain ⟨e1, L5, E5⟩ := F.out.next (Z2 := fun q => (Z q ∨ (wr.heap.size ≤ q ∧ q < (wr.alloc (.cells #[.int .u8 K, .int .i64 G] 31)).heap.size)) ∨ ((wr.alloc (.cells #[.int .u8 K, .int .i64 G] 31)).heap.size ≤ q ∧ q < w5.heap.size ∧ ((Value.slice bP mP dP).ownBlock = some q ∨ (Value.slice bQ mQ dQ).ownBlock = some q ∨ (Value.slice bM mM dM).ownBlock = some q))) (fun q hq => .inl hq) st5 fr5 k1 k2 k3
        have XB := hid e1
        have L5 := hid L5
        have E5 := hid E5
        obtain ⟨E, hE⟩ : ∃ E, E = wr.heap.size := ⟨_, rfl⟩
        have HP5 := hid (show P5.length = mP from HP.out)
        have HQ5 := hid (show Q5.length = mQ from HQ'.out)
        have HM5 := hid (show M5.length = mM from HM.out)
        clear DC BX y0 y1 y2 y3 y4 y5 st5 fr5 k1 k2 k3 e1 F HP HQ' HM
        go_wp2_with (first
          | (refine wpList_store_row rfl 28 (.tmp 8) (.tmp 39) rfl B (ix np N (.slice bP mP dP) (.slice bQ mQ dQ) (.slice bM mM dM) l5) rfl rfl 28 _ XB.out (by kernel_rfl) (by rfl) (by simp [ix, Value.oneCell']) ?_))
        rw [← hE] at E5
        clear XB
        obtain ⟨ZA, hZA⟩ : ∃ ZA : Nat → Prop, ZA = (fun q => (Z q ∨ (wr.heap.size ≤ q ∧ q < (wr.alloc (.cells #[.int .u8 K, .int .i64 G] 31)).heap.size)) ∨ ((wr.alloc (.cells #[.int .u8 K, .int .i64 G] 31)).heap.size ≤ q ∧ q < w5.heap.size ∧ ((Value.slice bP mP dP).ownBlock = some q ∨ (Value.slice bQ mQ dQ).ownBlock = some q ∨ (Value.slice bM mM dM).ownBlock = some q))) := ⟨_, rfl⟩
        rw [← hZA] at L5
        clear hZA
        rw [← hE]
        clear hE
        obtain ⟨ba, hba⟩ : ∃ ba, ba = hasB G P5 := ⟨_, rfl⟩
        have nb : (ba != ba) = false := by simp
        rcases L5.out.st.im.pl with hpl | hpl
        · subst hpl
          obtain ⟨HQ, hHQ⟩ : ∃ HQ : World → Prop, HQ = fun y => LW w x np B (k + 1) N ZA f5 P5 Q5 M5 (-1) (.slice bP mP dP) (.slice bQ mQ dQ) (.slice bM mM dM) y ∧ y.heap[E]? = some (.cells #[.int .u8 K, .int .i64 G] 31) := ⟨_, rfl⟩
          have UQ := hid (show ∀ y, HQ y → LW w x np B (k + 1) N ZA f5 P5 Q5 M5 (-1) (.slice bP mP dP) (.slice bQ mQ dQ) (.slice bM mM dM) y ∧ y.heap[E]? = some (.cells #[.int .u8 K, .int .i64 G] 31) from fun y hy => by rw [hHQ] at hy; exact hy)
          have HB : Hid (∀ y y', HQ y → Below y.heap.size y y' → HQ y') := hid (fun y y' hy hb => by rw [hHQ] at hy ⊢; exact ⟨hy.1.below hb, (hb.block _ (by have := (Array.getElem?_eq_some_iff.1 hy.2).1; exact this)).trans hy.2⟩)
          have HS : Hid (∀ w', HQ w' → w'.cell? ⟨B, 2, none⟩ = some (.slice bP mP dP) ∧ w'.cell? ⟨B, 3, none⟩ = some (.slice bQ mQ dQ) ∧ w'.cell? ⟨B, 4, none⟩ = some (.slice bM mM dM) ∧ w'.cell? ⟨B, 5, none⟩ = some (.int .i64 (-1)) ∧ w'.cell? ⟨E, 1, none⟩ = some (.int .i64 G)) := hid (fun y hy => by
            rw [hHQ] at hy
            exact ⟨blk_cell hy.1.bx rfl, blk_cell hy.1.bx rfl, blk_cell hy.1.bx rfl, blk_cell hy.1.bx rfl, blk_cell hy.2 rfl⟩)
          have H1 : HQ (w5.setRow B (ix np N (.slice bP mP dP) (.slice bQ mQ dQ) (.slice bM mM dM) (-1))) := by rw [hHQ]; exact ⟨L5.out, E5.out⟩
          have CP := hid (fun (y : World) (hy : HQ y) => (countP_any (UQ.out y hy).1.st.ids).mono (R' := fun e y' => e = .returned (.int .i64 mP) ∧ HQ y') (fun e y' h => ⟨by rw [h.1, (UQ.out y hy).1.st.im.c, HP5.out], by rw [← h.2]; exact hy⟩))
          have CQ := hid (fun (y : World) (hy : HQ y) => (pending_any (UQ.out y hy).1.st.ids).mono (R' := fun e y' => e = .returned (.int .i64 mQ) ∧ HQ y') (fun e y' h => ⟨by rw [h.1, HQ5.out], by rw [← h.2]; exact hy⟩))
          have CM := hid (fun (y : World) (hy : HQ y) => (iCountM (UQ.out y hy).1.st.ids mM HM5.out).mono (R' := fun e y' => e = .returned (.int .i64 mM) ∧ HQ y') (fun e y' h => ⟨h.1, by rw [← h.2]; exact hy⟩))
          have CH := hid (fun (y : World) (hy : HQ y) => (hasP_any (UQ.out y hy).1.st.ids G).mono (R' := fun e y' => e = .returned (.bool ba) ∧ HQ y') (fun e y' h => ⟨by rw [h.1, (UQ.out y hy).1.st.im.inF, hba], HB.out y y' hy (h.2.below _)⟩))
          have CI := hid (fun (y : World) (hy : HQ y) => (rin y _ P5 (UQ.out y hy).1.st.di.hp (UQ.out y hy).1.st.di.lp G ba hba.symm).mono (R' := fun e y' => e = .returned (.bool ba) ∧ HQ y') (fun e y' h => ⟨h.1, by rw [h.2]; exact hy⟩))
          have PO := hid (fun (y : World) (hy : HQ y) => (iPoller_no (UQ.out y hy).1.st.ids).mono (R' := fun e y' => e = .returned (.tuple #[.int .i64 0, .bool false]) ∧ HQ y') (fun e y' h => ⟨h.1, by rw [← h.2]; exact hy⟩))
          clear hHQ hba L5 E5
          generalize w5.setRow B (ix np N (.slice bP mP dP) (.slice bQ mQ dQ) (.slice bM mM dM) (-1)) = w6 at *
          refine (PO.out _ H1).mono ?_
          rintro e w7 ⟨rfl, H2⟩
          clear PO H1
          have HD := HB.out _ _ H2 (bl_drw13 w7 _)
          go_upto_region 10 with (fail)
          go_cut [30, 107] from 31 to 108 (fun s30 s107 wx => s30 = .int .i64 k ∧ s107 = .bool false ∧ HQ wx)
          case first => as_aux_lemma =>
            refine wp_region_held_drew (S := fun w' => w'.cell? ⟨B, 2, none⟩ = some (.slice bP mP dP) ∧ w'.cell? ⟨B, 3, none⟩ = some (.slice bQ mQ dQ) ∧ w'.cell? ⟨B, 4, none⟩ = some (.slice bM mM dM) ∧ w'.cell? ⟨B, 5, none⟩ = some (.int .i64 (-1)) ∧ w'.cell? ⟨E, 1, none⟩ = some (.int .i64 G)) (by kernel_rfl) (HS.out _ HD) (fun hHeld => ?_)
            refine wpAnyH_take (i := 0) (oi := _) (v := ?_) rfl (by kernel_rfl) (by kernel_rfl) (by kernel_rfl) (fun _ _ _ h => h) (Or.inl ⟨by rfl, ?_⟩) (by assumption) ?_
            rotate_left
            · intro w hSw
              try dsimp only at hSw
              go_simp
              with_reducible rfl
            try simp only [Act.put, List.getElem_toArray, List.getElem_cons_zero, List.getElem_cons_succ, List.setIfInBounds_toArray, List.set_cons_zero, List.set_cons_succ]
            refine wpAnyH_take (i := 1) (oi := _) (v := ?_) rfl (by kernel_rfl) (by kernel_rfl) (by kernel_rfl) (fun _ _ _ h => h) (Or.inl ⟨by rfl, ?_⟩) (by assumption) ?_
            rotate_left
            · intro w hSw
              try dsimp only at hSw
              go_simp
              with_reducible rfl
            try simp only [Act.put, List.getElem_toArray, List.getElem_cons_zero, List.getElem_cons_succ, List.setIfInBounds_toArray, List.set_cons_zero, List.set_cons_succ]
            refine wpAnyH_take (i := 2) (oi := _) (v := ?_) rfl (by kernel_rfl) (by kernel_rfl) (by kernel_rfl) (fun _ _ _ h => h) (Or.inl ⟨by rfl, ?_⟩) (by assumption) ?_
            rotate_left
            · intro w hSw
              try dsimp only at hSw
              go_simp
              with_reducible rfl
            try simp only [Act.put, List.getElem_toArray, List.getElem_cons_zero, List.getElem_cons_succ, List.setIfInBounds_toArray, List.set_cons_zero, List.set_cons_succ]
            refine wpAnyH_take (i := 3) (oi := _) (v := ?_) rfl (by kernel_rfl) (by kernel_rfl) (by kernel_rfl) (fun _ _ _ h => h) (Or.inl ⟨by rfl, ?_⟩) (by assumption) ?_
            rotate_left
            · intro w hSw
              try dsimp only at hSw
              go_simp
              with_reducible rfl
            try simp only [Act.put, List.getElem_toArray, List.getElem_cons_zero, List.getElem_cons_succ, List.setIfInBounds_toArray, List.set_cons_zero, List.set_cons_succ]
            refine wpAnyH_take (i := 5) (oi := _) (v := ?_) rfl (by kernel_rfl) (by kernel_rfl) (by kernel_rfl) (fun _ _ _ h => h) (Or.inl ⟨by rfl, ?_⟩) (by assumption) ?_
            rotate_left
            · intro w hSw
              try dsimp only at hSw
              go_simp
              with_reducible rfl
            try simp only [Act.put, List.getElem_toArray, List.getElem_cons_zero, List.getElem_cons_succ, List.setIfInBounds_toArray, List.set_cons_zero, List.set_cons_succ]
            refine wpAnyH_take (i := 6) (oi := _) (v := ?_) rfl (by kernel_rfl) (by kernel_rfl) (by kernel_rfl) (fun _ _ _ h => h) (Or.inl ⟨by rfl, ?_⟩) (by assumption) ?_
            rotate_left
            · intro w hSw
              try dsimp only at hSw
              go_simp
              with_reducible rfl
            try simp only [Act.put, List.getElem_toArray, List.getElem_cons_zero, List.getElem_cons_succ, List.setIfInBounds_toArray, List.set_cons_zero, List.set_cons_succ]
            refine wpAnyH_take (i := 7) (oi := _) (v := ?_) rfl (by kernel_rfl) (by kernel_rfl) (by kernel_rfl) (fun _ _ _ h => h) (Or.inl ⟨by rfl, ?_⟩) (by assumption) ?_
            rotate_left
            · intro w hSw
              try dsimp only at hSw
              go_simp
              with_reducible rfl
            try simp only [Act.put, List.getElem_toArray, List.getElem_cons_zero, List.getElem_cons_succ, List.setIfInBounds_toArray, List.set_cons_zero, List.set_cons_succ]
            refine wpAnyH_ready (rs := [4]) (by kernel_rfl) (by simp) ?_
            refine AllReadyH.cons (o := _) rfl (fun K hK => ?_) AllReadyH.nil
            go_simp
            go_at_call 9
            (with_reducible refine (CP.out _ HD).mono ?_)
            rintro e u1 ⟨rfl, H5⟩
            go_wp2_with fail
            refine hK.out _ _ (HS.out _ H5) (fun hHeld => ?_)
            clear hK K
            try simp only [Act.put, List.getElem_toArray, List.getElem_cons_zero, List.getElem_cons_succ, List.setIfInBounds_toArray, List.set_cons_zero, List.set_cons_succ]
            refine wpAnyH_take (i := 8) (oi := _) (v := .bool false) rfl (by kernel_rfl) (by kernel_rfl) (by kernel_rfl) (fun _ _ _ h => h) (Or.inl ⟨by rfl, ?_⟩) (by assumption) ?_
            · intro w hSw
              try dsimp only at hSw
              go_simp
              all_goals (first | with_reducible rfl | simp [nb] | (simp; omega))
            try simp only [Act.put, List.getElem_toArray, List.getElem_cons_zero, List.getElem_cons_succ, List.setIfInBounds_toArray, List.set_cons_zero, List.set_cons_succ]
            refine wpAnyH_take (i := 9) (oi := _) (v := ?_) rfl (by kernel_rfl) (by kernel_rfl) (by kernel_rfl) (fun _ _ _ h => h) (Or.inl ⟨by rfl, ?_⟩) (by assumption) ?_
            rotate_left
            · intro w hSw
              try dsimp only at hSw
              go_simp
              with_reducible rfl
            try simp only [Act.put, List.getElem_toArray, List.getElem_cons_zero, List.getElem_cons_succ, List.setIfInBounds_toArray, List.set_cons_zero, List.set_cons_succ]
            refine wpAnyH_take (i := 10) (oi := _) (v := ?_) rfl (by kernel_rfl) (by kernel_rfl) (by kernel_rfl) (fun _ _ _ h => h) (Or.inl ⟨by rfl, ?_⟩) (by assumption) ?_
            rotate_left
            · intro w hSw
              try dsimp only at hSw
              go_simp
              with_reducible rfl
            try simp only [Act.put, List.getElem_toArray, List.getElem_cons_zero, List.getElem_cons_succ, List.setIfInBounds_toArray, List.set_cons_zero, List.set_cons_succ]
            refine wpAnyH_take (i := 11) (oi := _) (v := ?_) rfl (by kernel_rfl) (by kernel_rfl) (by kernel_rfl) (fun _ _ _ h => h) (Or.inl ⟨by rfl, ?_⟩) (by assumption) ?_
            rotate_left
            · intro w hSw
              try dsimp only at hSw
              go_simp
              with_reducible rfl
            try simp only [Act.put, List.getElem_toArray, List.getElem_cons_zero, List.getElem_cons_succ, List.setIfInBounds_toArray, List.set_cons_zero, List.set_cons_succ]
            refine wpAnyH_take (i := 13) (oi := _) (v := ?_) rfl (by kernel_rfl) (by kernel_rfl) (by kernel_rfl) (fun _ _ _ h => h) (Or.inl ⟨by rfl, ?_⟩) (by assumption) ?_
            rotate_left
            · intro w hSw
              try dsimp only at hSw
              go_simp
              with_reducible rfl
            try simp only [Act.put, List.getElem_toArray, List.getElem_cons_zero, List.getElem_cons_succ, List.setIfInBounds_toArray, List.set_cons_zero, List.set_cons_succ]
            refine wpAnyH_take (i := 14) (oi := _) (v := ?_) rfl (by kernel_rfl) (by kernel_rfl) (by kernel_rfl) (fun _ _ _ h => h) (Or.inl ⟨by rfl, ?_⟩) (by assumption) ?_
            rotate_left
            · intro w hSw
              try dsimp only at hSw
              go_simp
              with_reducible rfl
            try simp only [Act.put, List.getElem_toArray, List.getElem_cons_zero, List.getElem_cons_succ, List.setIfInBounds_toArray, List.set_cons_zero, List.set_cons_succ]
            refine wpAnyH_take (i := 15) (oi := _) (v := ?_) rfl (by kernel_rfl) (by kernel_rfl) (by kernel_rfl) (fun _ _ _ h => h) (Or.inl ⟨by rfl, ?_⟩) (by assumption) ?_
            rotate_left
            · intro w hSw
              try dsimp only at hSw
              go_simp
              with_reducible rfl
            try simp only [Act.put, List.getElem_toArray, List.getElem_cons_zero, List.getElem_cons_succ, List.setIfInBounds_toArray, List.set_cons_zero, List.set_cons_succ]
            refine wpAnyH_ready (rs := [12]) (by kernel_rfl) (by simp) ?_
            refine AllReadyH.cons (o := _) rfl (fun K hK => ?_) AllReadyH.nil
            go_simp
            go_at_call 10
            (with_reducible refine (CQ.out _ H5).mono ?_)
            rintro e u2 ⟨rfl, H6⟩
            go_wp2_with fail
            refine hK.out _ _ (HS.out _ H6) (fun hHeld => ?_)
            clear hK K
            try simp only [Act.put, List.getElem_toArray, List.getElem_cons_zero, List.getElem_cons_succ, List.setIfInBounds_toArray, List.set_cons_zero, List.set_cons_succ]
            refine wpAnyH_take (i := 16) (oi := _) (v := .bool false) rfl (by kernel_rfl) (by kernel_rfl) (by kernel_rfl) (fun _ _ _ h => h) (Or.inl ⟨by rfl, ?_⟩) (by assumption) ?_
            · intro w hSw
              try dsimp only at hSw
              go_simp
              all_goals (first | with_reducible rfl | simp [nb] | (simp; omega))
            try simp only [Act.put, List.getElem_toArray, List.getElem_cons_zero, List.getElem_cons_succ, List.setIfInBounds_toArray, List.set_cons_zero, List.set_cons_succ]
            refine wpAnyH_take (i := 17) (oi := _) (v := ?_) rfl (by kernel_rfl) (by kernel_rfl) (by kernel_rfl) (fun _ _ _ h => h) (Or.inl ⟨by rfl, ?_⟩) (by assumption) ?_
            rotate_left
            · intro w hSw
              try dsimp only at hSw
              go_simp
              with_reducible rfl
            try simp only [Act.put, List.getElem_toArray, List.getElem_cons_zero, List.getElem_cons_succ, List.setIfInBounds_toArray, List.set_cons_zero, List.set_cons_succ]
            refine wpAnyH_take (i := 18) (oi := _) (v := ?_) rfl (by kernel_rfl) (by kernel_rfl) (by kernel_rfl) (fun _ _ _ h => h) (Or.inl ⟨by rfl, ?_⟩) (by assumption) ?_
            rotate_left
            · intro w hSw
              try dsimp only at hSw
              go_simp
              with_reducible rfl
            try simp only [Act.put, List.getElem_toArray, List.getElem_cons_zero, List.getElem_cons_succ, List.setIfInBounds_toArray, List.set_cons_zero, List.set_cons_succ]
            refine wpAnyH_take (i := 19) (oi := _) (v := ?_) rfl (by kernel_rfl) (by kernel_rfl) (by kernel_rfl) (fun _ _ _ h => h) (Or.inl ⟨by rfl, ?_⟩) (by assumption) ?_
            rotate_left
            · intro w hSw
              try dsimp only at hSw
              go_simp
              with_reducible rfl
            try simp only [Act.put, List.getElem_toArray, List.getElem_cons_zero, List.getElem_cons_succ, List.setIfInBounds_toArray, List.set_cons_zero, List.set_cons_succ]
            refine wpAnyH_take (i := 21) (oi := _) (v := ?_) rfl (by kernel_rfl) (by kernel_rfl) (by kernel_rfl) (fun _ _ _ h => h) (Or.inl ⟨by rfl, ?_⟩) (by assumption) ?_
            rotate_left
            · intro w hSw
              try dsimp only at hSw
              go_simp
              with_reducible rfl
            try simp only [Act.put, List.getElem_toArray, List.getElem_cons_zero, List.getElem_cons_succ, List.setIfInBounds_toArray, List.set_cons_zero, List.set_cons_succ]
            refine wpAnyH_take (i := 22) (oi := _) (v := ?_) rfl (by kernel_rfl) (by kernel_rfl) (by kernel_rfl) (fun _ _ _ h => h) (Or.inl ⟨by rfl, ?_⟩) (by assumption) ?_
            rotate_left
            · intro w hSw
              try dsimp only at hSw
              go_simp
              with_reducible rfl
            try simp only [Act.put, List.getElem_toArray, List.getElem_cons_zero, List.getElem_cons_succ, List.setIfInBounds_toArray, List.set_cons_zero, List.set_cons_succ]
            refine wpAnyH_take (i := 23) (oi := _) (v := ?_) rfl (by kernel_rfl) (by kernel_rfl) (by kernel_rfl) (fun _ _ _ h => h) (Or.inl ⟨by rfl, ?_⟩) (by assumption) ?_
            rotate_left
            · intro w hSw
              try dsimp only at hSw
              go_simp
              with_reducible rfl
            try simp only [Act.put, List.getElem_toArray, List.getElem_cons_zero, List.getElem_cons_succ, List.setIfInBounds_toArray, List.set_cons_zero, List.set_cons_succ]
            refine wpAnyH_ready (rs := [20]) (by kernel_rfl) (by simp) ?_
            refine AllReadyH.cons (o := _) rfl (fun K hK => ?_) AllReadyH.nil
            go_simp
            go_at_call 11
            (with_reducible refine (CM.out _ H6).mono ?_)
            rintro e u3 ⟨rfl, H7⟩
            go_wp2_with fail
            refine hK.out _ _ (HS.out _ H7) (fun hHeld => ?_)
            clear hK K
            try simp only [Act.put, List.getElem_toArray, List.getElem_cons_zero, List.getElem_cons_succ, List.setIfInBounds_toArray, List.set_cons_zero, List.set_cons_succ]
            refine wpAnyH_take (i := 24) (oi := _) (v := .bool false) rfl (by kernel_rfl) (by kernel_rfl) (by kernel_rfl) (fun _ _ _ h => h) (Or.inl ⟨by rfl, ?_⟩) (by assumption) ?_
            · intro w hSw
              try dsimp only at hSw
              go_simp
              all_goals (first | with_reducible rfl | simp [nb] | (simp; omega))
            try simp only [Act.put, List.getElem_toArray, List.getElem_cons_zero, List.getElem_cons_succ, List.setIfInBounds_toArray, List.set_cons_zero, List.set_cons_succ]
            refine wpAnyH_take (i := 25) (oi := _) (v := ?_) rfl (by kernel_rfl) (by kernel_rfl) (by kernel_rfl) (fun _ _ _ h => h) (Or.inl ⟨by rfl, ?_⟩) (by assumption) ?_
            rotate_left
            · intro w hSw
              try dsimp only at hSw
              go_simp
              with_reducible rfl
            try simp only [Act.put, List.getElem_toArray, List.getElem_cons_zero, List.getElem_cons_succ, List.setIfInBounds_toArray, List.set_cons_zero, List.set_cons_succ]
            refine wpAnyH_take (i := 26) (oi := _) (v := ?_) rfl (by kernel_rfl) (by kernel_rfl) (by kernel_rfl) (fun _ _ _ h => h) (Or.inl ⟨by rfl, ?_⟩) (by assumption) ?_
            rotate_left
            · intro w hSw
              try dsimp only at hSw
              go_simp
              with_reducible rfl
            try simp only [Act.put, List.getElem_toArray, List.getElem_cons_zero, List.getElem_cons_succ, List.setIfInBounds_toArray, List.set_cons_zero, List.set_cons_succ]
            refine wpAnyH_take (i := 27) (oi := _) (v := ?_) rfl (by kernel_rfl) (by kernel_rfl) (by kernel_rfl) (fun _ _ _ h => h) (Or.inl ⟨by rfl, ?_⟩) (by assumption) ?_
            rotate_left
            · intro w hSw
              try dsimp only at hSw
              go_simp
              with_reducible rfl
            try simp only [Act.put, List.getElem_toArray, List.getElem_cons_zero, List.getElem_cons_succ, List.setIfInBounds_toArray, List.set_cons_zero, List.set_cons_succ]
            refine wpAnyH_take (i := 28) (oi := _) (v := ?_) rfl (by kernel_rfl) (by kernel_rfl) (by kernel_rfl) (fun _ _ _ h => h) (Or.inl ⟨by rfl, ?_⟩) (by assumption) ?_
            rotate_left
            · intro w hSw
              try dsimp only at hSw
              go_simp
              with_reducible rfl
            try simp only [Act.put, List.getElem_toArray, List.getElem_cons_zero, List.getElem_cons_succ, List.setIfInBounds_toArray, List.set_cons_zero, List.set_cons_succ]
            refine wpAnyH_take (i := 29) (oi := _) (v := ?_) rfl (by kernel_rfl) (by kernel_rfl) (by kernel_rfl) (fun _ _ _ h => h) (Or.inl ⟨by rfl, ?_⟩) (by assumption) ?_
            rotate_left
            · intro w hSw
              try dsimp only at hSw
              go_simp
              with_reducible rfl
            try simp only [Act.put, List.getElem_toArray, List.getElem_cons_zero, List.getElem_cons_succ, List.setIfInBounds_toArray, List.set_cons_zero, List.set_cons_succ]
            refine wpAnyH_take (i := 30) (oi := _) (v := .bool false) rfl (by kernel_rfl) (by kernel_rfl) (by kernel_rfl) (fun _ _ _ h => h) (Or.inl ⟨by rfl, ?_⟩) (by assumption) ?_
            · intro w hSw
              try dsimp only at hSw
              go_simp
              all_goals (first | with_reducible rfl | (simp; omega) | simp)
            try simp only [Act.put, List.getElem_toArray, List.getElem_cons_zero, List.getElem_cons_succ, List.setIfInBounds_toArray, List.set_cons_zero, List.set_cons_succ]
            refine wpAnyH_take (i := 31) (oi := _) (v := .bool false) rfl (by kernel_rfl) (by kernel_rfl) (by kernel_rfl) (fun _ _ _ h => h) (Or.inl ⟨by rfl, ?_⟩) (by assumption) ?_
            · intro w hSw
              try dsimp only at hSw
              go_simp
              all_goals (first | with_reducible rfl | simp [nb] | (simp; omega))
            try simp only [Act.put, List.getElem_toArray, List.getElem_cons_zero, List.getElem_cons_succ, List.setIfInBounds_toArray, List.set_cons_zero, List.set_cons_succ]
            refine wpAnyH_take (i := 32) (oi := _) (v := ?_) rfl (by kernel_rfl) (by kernel_rfl) (by kernel_rfl) (fun _ _ _ h => h) (Or.inl ⟨by rfl, ?_⟩) (by assumption) ?_
            rotate_left
            · intro w hSw
              try dsimp only at hSw
              go_simp
              with_reducible rfl
            try simp only [Act.put, List.getElem_toArray, List.getElem_cons_zero, List.getElem_cons_succ, List.setIfInBounds_toArray, List.set_cons_zero, List.set_cons_succ]
            refine wpAnyH_take (i := 33) (oi := _) (v := ?_) rfl (by kernel_rfl) (by kernel_rfl) (by kernel_rfl) (fun _ _ _ h => h) (Or.inl ⟨by rfl, ?_⟩) (by assumption) ?_
            rotate_left
            · intro w hSw
              try dsimp only at hSw
              go_simp
              with_reducible rfl
            try simp only [Act.put, List.getElem_toArray, List.getElem_cons_zero, List.getElem_cons_succ, List.setIfInBounds_toArray, List.set_cons_zero, List.set_cons_succ]
            refine wpAnyH_take (i := 34) (oi := _) (v := ?_) rfl (by kernel_rfl) (by kernel_rfl) (by kernel_rfl) (fun _ _ _ h => h) (Or.inl ⟨by rfl, ?_⟩) (by assumption) ?_
            rotate_left
            · intro w hSw
              try dsimp only at hSw
              go_simp
              with_reducible rfl
            try simp only [Act.put, List.getElem_toArray, List.getElem_cons_zero, List.getElem_cons_succ, List.setIfInBounds_toArray, List.set_cons_zero, List.set_cons_succ]
            refine wpAnyH_take (i := 35) (oi := _) (v := ?_) rfl (by kernel_rfl) (by kernel_rfl) (by kernel_rfl) (fun _ _ _ h => h) (Or.inl ⟨by rfl, ?_⟩) (by assumption) ?_
            rotate_left
            · intro w hSw
              try dsimp only at hSw
              go_simp
              with_reducible rfl
            try simp only [Act.put, List.getElem_toArray, List.getElem_cons_zero, List.getElem_cons_succ, List.setIfInBounds_toArray, List.set_cons_zero, List.set_cons_succ]
            refine wpAnyH_take (i := 36) (oi := _) (v := undef) rfl (by kernel_rfl) (by kernel_rfl) (by kernel_rfl) (fun _ _ _ h => h) (Or.inr ⟨by rfl, rfl⟩) (by assumption) ?_
            try simp only [Act.put, List.getElem_toArray, List.getElem_cons_zero, List.getElem_cons_succ, List.setIfInBounds_toArray, List.set_cons_zero, List.set_cons_succ]
            refine wpAnyH_take (i := 37) (oi := _) (v := undef) rfl (by kernel_rfl) (by kernel_rfl) (by kernel_rfl) (fun _ _ _ h => h) (Or.inr ⟨by rfl, rfl⟩) (by assumption) ?_
            try simp only [Act.put, List.getElem_toArray, List.getElem_cons_zero, List.getElem_cons_succ, List.setIfInBounds_toArray, List.set_cons_zero, List.set_cons_succ]
            refine wpAnyH_take (i := 38) (oi := _) (v := undef) rfl (by kernel_rfl) (by kernel_rfl) (by kernel_rfl) (fun _ _ _ h => h) (Or.inr ⟨by rfl, rfl⟩) (by assumption) ?_
            try simp only [Act.put, List.getElem_toArray, List.getElem_cons_zero, List.getElem_cons_succ, List.setIfInBounds_toArray, List.set_cons_zero, List.set_cons_succ]
            refine wpAnyH_take (i := 39) (oi := _) (v := undef) rfl (by kernel_rfl) (by kernel_rfl) (by kernel_rfl) (fun _ _ _ h => h) (Or.inr ⟨by rfl, rfl⟩) (by assumption) ?_
            try simp only [Act.put, List.getElem_toArray, List.getElem_cons_zero, List.getElem_cons_succ, List.setIfInBounds_toArray, List.set_cons_zero, List.set_cons_succ]
            refine wpAnyH_take (i := 40) (oi := _) (v := ?_) rfl (by kernel_rfl) (by kernel_rfl) (by kernel_rfl) (fun _ _ _ h => h) (Or.inl ⟨by rfl, ?_⟩) (by assumption) ?_
            rotate_left
            · intro w hSw
              try dsimp only at hSw
              go_simp
              with_reducible rfl
            try simp only [Act.put, List.getElem_toArray, List.getElem_cons_zero, List.getElem_cons_succ, List.setIfInBounds_toArray, List.set_cons_zero, List.set_cons_succ]
            refine wpAnyH_take (i := 41) (oi := _) (v := ?_) rfl (by kernel_rfl) (by kernel_rfl) (by kernel_rfl) (fun _ _ _ h => h) (Or.inl ⟨by rfl, ?_⟩) (by assumption) ?_
            rotate_left
            · intro w hSw
              try dsimp only at hSw
              go_simp
              with_reducible rfl
            try simp only [Act.put, List.getElem_toArray, List.getElem_cons_zero, List.getElem_cons_succ, List.setIfInBounds_toArray, List.set_cons_zero, List.set_cons_succ]
            refine wpAnyH_take (i := 42) (oi := _) (v := ?_) rfl (by kernel_rfl) (by kernel_rfl) (by kernel_rfl) (fun _ _ _ h => h) (Or.inl ⟨by rfl, ?_⟩) (by assumption) ?_
            rotate_left
            · intro w hSw
              try dsimp only at hSw
              go_simp
              with_reducible rfl
            try simp only [Act.put, List.getElem_toArray, List.getElem_cons_zero, List.getElem_cons_succ, List.setIfInBounds_toArray, List.set_cons_zero, List.set_cons_succ]
            refine wpAnyH_take (i := 43) (oi := _) (v := ?_) rfl (by kernel_rfl) (by kernel_rfl) (by kernel_rfl) (fun _ _ _ h => h) (Or.inl ⟨by rfl, ?_⟩) (by assumption) ?_
            rotate_left
            · intro w hSw
              try dsimp only at hSw
              go_simp
              with_reducible rfl
            try simp only [Act.put, List.getElem_toArray, List.getElem_cons_zero, List.getElem_cons_succ, List.setIfInBounds_toArray, List.set_cons_zero, List.set_cons_succ]
            refine wpAnyH_take (i := 44) (oi := _) (v := ?_) rfl (by kernel_rfl) (by kernel_rfl) (by kernel_rfl) (fun _ _ _ h => h) (Or.inl ⟨by rfl, ?_⟩) (by assumption) ?_
            rotate_left
            · intro w hSw
              try dsimp only at hSw
              go_simp
              with_reducible rfl
            try simp only [Act.put, List.getElem_toArray, List.getElem_cons_zero, List.getElem_cons_succ, List.setIfInBounds_toArray, List.set_cons_zero, List.set_cons_succ]
            refine wpAnyH_take (i := 45) (oi := _) (v := ?_) rfl (by kernel_rfl) (by kernel_rfl) (by kernel_rfl) (fun _ _ _ h => h) (Or.inl ⟨by rfl, ?_⟩) (by assumption) ?_
            rotate_left
            · intro w hSw
              try dsimp only at hSw
              go_simp
              with_reducible rfl
            try simp only [Act.put, List.getElem_toArray, List.getElem_cons_zero, List.getElem_cons_succ, List.setIfInBounds_toArray, List.set_cons_zero, List.set_cons_succ]
            refine wpAnyH_take (i := 46) (oi := _) (v := ?_) rfl (by kernel_rfl) (by kernel_rfl) (by kernel_rfl) (fun _ _ _ h => h) (Or.inl ⟨by rfl, ?_⟩) (by assumption) ?_
            rotate_left
            · intro w hSw
              try dsimp only at hSw
              go_simp
              with_reducible rfl
            try simp only [Act.put, List.getElem_toArray, List.getElem_cons_zero, List.getElem_cons_succ, List.setIfInBounds_toArray, List.set_cons_zero, List.set_cons_succ]
            refine wpAnyH_take (i := 47) (oi := _) (v := .bool false) rfl (by kernel_rfl) (by kernel_rfl) (by kernel_rfl) (fun _ _ _ h => h) (Or.inl ⟨by rfl, ?_⟩) (by assumption) ?_
            · intro w hSw
              try dsimp only at hSw
              go_simp
              all_goals (first | with_reducible rfl | simp [nb] | (simp; omega))
            try simp only [Act.put, List.getElem_toArray, List.getElem_cons_zero, List.getElem_cons_succ, List.setIfInBounds_toArray, List.set_cons_zero, List.set_cons_succ]
            refine wpAnyH_take (i := 48) (oi := _) (v := ?_) rfl (by kernel_rfl) (by kernel_rfl) (by kernel_rfl) (fun _ _ _ h => h) (Or.inl ⟨by rfl, ?_⟩) (by assumption) ?_
            rotate_left
            · intro w hSw
              try dsimp only at hSw
              go_simp
              with_reducible rfl
            try simp only [Act.put, List.getElem_toArray, List.getElem_cons_zero, List.getElem_cons_succ, List.setIfInBounds_toArray, List.set_cons_zero, List.set_cons_succ]
            refine wpAnyH_take (i := 49) (oi := _) (v := ?_) rfl (by kernel_rfl) (by kernel_rfl) (by kernel_rfl) (fun _ _ _ h => h) (Or.inl ⟨by rfl, ?_⟩) (by assumption) ?_
            rotate_left
            · intro w hSw
              try dsimp only at hSw
              go_simp
              with_reducible rfl
            try simp only [Act.put, List.getElem_toArray, List.getElem_cons_zero, List.getElem_cons_succ, List.setIfInBounds_toArray, List.set_cons_zero, List.set_cons_succ]
            refine wpAnyH_take (i := 50) (oi := _) (v := ?_) rfl (by kernel_rfl) (by kernel_rfl) (by kernel_rfl) (fun _ _ _ h => h) (Or.inl ⟨by rfl, ?_⟩) (by assumption) ?_
            rotate_left
            · intro w hSw
              try dsimp only at hSw
              go_simp
              with_reducible rfl
            try simp only [Act.put, List.getElem_toArray, List.getElem_cons_zero, List.getElem_cons_succ, List.setIfInBounds_toArray, List.set_cons_zero, List.set_cons_succ]
            refine wpAnyH_take (i := 51) (oi := _) (v := ?_) rfl (by kernel_rfl) (by kernel_rfl) (by kernel_rfl) (fun _ _ _ h => h) (Or.inl ⟨by rfl, ?_⟩) (by assumption) ?_
            rotate_left
            · intro w hSw
              try dsimp only at hSw
              go_simp
              with_reducible rfl
            try simp only [Act.put, List.getElem_toArray, List.getElem_cons_zero, List.getElem_cons_succ, List.setIfInBounds_toArray, List.set_cons_zero, List.set_cons_succ]
            refine wpAnyH_take (i := 52) (oi := _) (v := ?_) rfl (by kernel_rfl) (by kernel_rfl) (by kernel_rfl) (fun _ _ _ h => h) (Or.inl ⟨by rfl, ?_⟩) (by assumption) ?_
            rotate_left
            · intro w hSw
              try dsimp only at hSw
              go_simp
              with_reducible rfl
            try simp only [Act.put, List.getElem_toArray, List.getElem_cons_zero, List.getElem_cons_succ, List.setIfInBounds_toArray, List.set_cons_zero, List.set_cons_succ]
            refine wpAnyH_take (i := 53) (oi := _) (v := ?_) rfl (by kernel_rfl) (by kernel_rfl) (by kernel_rfl) (fun _ _ _ h => h) (Or.inl ⟨by rfl, ?_⟩) (by assumption) ?_
            rotate_left
            · intro w hSw
              try dsimp only at hSw
              go_simp
              with_reducible rfl
            try simp only [Act.put, List.getElem_toArray, List.getElem_cons_zero, List.getElem_cons_succ, List.setIfInBounds_toArray, List.set_cons_zero, List.set_cons_succ]
            refine wpAnyH_take (i := 55) (oi := _) (v := ?_) rfl (by kernel_rfl) (by kernel_rfl) (by kernel_rfl) (fun _ _ _ h => h) (Or.inl ⟨by rfl, ?_⟩) (by assumption) ?_
            rotate_left
            · intro w hSw
              try dsimp only at hSw
              go_simp
              with_reducible rfl
            try simp only [Act.put, List.getElem_toArray, List.getElem_cons_zero, List.getElem_cons_succ, List.setIfInBounds_toArray, List.set_cons_zero, List.set_cons_succ]
            refine wpAnyH_take (i := 56) (oi := _) (v := ?_) rfl (by kernel_rfl) (by kernel_rfl) (by kernel_rfl) (fun _ _ _ h => h) (Or.inl ⟨by rfl, ?_⟩) (by assumption) ?_
            rotate_left
            · intro w hSw
              try dsimp only at hSw
              go_simp
              with_reducible rfl
            try simp only [Act.put, List.getElem_toArray, List.getElem_cons_zero, List.getElem_cons_succ, List.setIfInBounds_toArray, List.set_cons_zero, List.set_cons_succ]
            refine wpAnyH_take (i := 57) (oi := _) (v := ?_) rfl (by kernel_rfl) (by kernel_rfl) (by kernel_rfl) (fun _ _ _ h => h) (Or.inl ⟨by rfl, ?_⟩) (by assumption) ?_
            rotate_left
            · intro w hSw
              try dsimp only at hSw
              go_simp
              with_reducible rfl
            try simp only [Act.put, List.getElem_toArray, List.getElem_cons_zero, List.getElem_cons_succ, List.setIfInBounds_toArray, List.set_cons_zero, List.set_cons_succ]
            refine wpAnyH_take (i := 58) (oi := _) (v := ?_) rfl (by kernel_rfl) (by kernel_rfl) (by kernel_rfl) (fun _ _ _ h => h) (Or.inl ⟨by rfl, ?_⟩) (by assumption) ?_
            rotate_left
            · intro w hSw
              try dsimp only at hSw
              go_simp
              with_reducible rfl
            try simp only [Act.put, List.getElem_toArray, List.getElem_cons_zero, List.getElem_cons_succ, List.setIfInBounds_toArray, List.set_cons_zero, List.set_cons_succ]
            refine wpAnyH_ready (rs := [54]) (by kernel_rfl) (by simp) ?_
            refine AllReadyH.cons (o := _) rfl (fun K hK => ?_) AllReadyH.nil
            go_simp
            go_at_call 12
            (with_reducible refine (CH.out _ H7).mono ?_)
            rintro e u4 ⟨rfl, H8⟩
            go_wp2_with fail
            refine hK.out _ _ (HS.out _ H8) (fun hHeld => ?_)
            clear hK K
            try simp only [Act.put, List.getElem_toArray, List.getElem_cons_zero, List.getElem_cons_succ, List.setIfInBounds_toArray, List.set_cons_zero, List.set_cons_succ]
            refine wpAnyH_ready (rs := [59]) (by kernel_rfl) (by simp) ?_
            refine AllReadyH.cons (o := _) rfl (fun K hK => ?_) AllReadyH.nil
            go_simp
            go_at_call 13
            (with_reducible refine (CI.out _ H8).mono ?_)
            rintro e u5 ⟨rfl, H9⟩
            go_wp2_with fail
            refine hK.out _ _ (HS.out _ H9) (fun hHeld => ?_)
            clear hK K
            try simp only [Act.put, List.getElem_toArray, List.getElem_cons_zero, List.getElem_cons_succ, List.setIfInBounds_toArray, List.set_cons_zero, List.set_cons_succ]
            refine wpAnyH_take (i := 60) (oi := _) (v := .bool false) rfl (by kernel_rfl) (by kernel_rfl) (by kernel_rfl) (fun _ _ _ h => h) (Or.inl ⟨by rfl, ?_⟩) (by assumption) ?_
            · intro w hSw
              try dsimp only at hSw
              go_simp
              all_goals (first | with_reducible rfl | simp [nb] | (simp; omega))
            try simp only [Act.put, List.getElem_toArray, List.getElem_cons_zero, List.getElem_cons_succ, List.setIfInBounds_toArray, List.set_cons_zero, List.set_cons_succ]
            refine wpAnyH_take (i := 61) (oi := _) (v := ?_) rfl (by kernel_rfl) (by kernel_rfl) (by kernel_rfl) (fun _ _ _ h => h) (Or.inl ⟨by rfl, ?_⟩) (by assumption) ?_
            rotate_left
            · intro w hSw
              try dsimp only at hSw
              go_simp
              with_reducible rfl
            try simp only [Act.put, List.getElem_toArray, List.getElem_cons_zero, List.getElem_cons_succ, List.setIfInBounds_toArray, List.set_cons_zero, List.set_cons_succ]
            refine wpAnyH_done (by kernel_rfl) ?_ _
            go_wp2_with fail
            go_meet
            exact ⟨rfl, rfl, H9⟩
          case rest => as_aux_lemma =>
            obtain ⟨rfl, rfl, H3⟩ := hcut
            have P9 := hid (UQ.out _ H3).1
            have B9 := P9.out.bl
            clear CP CQ CM CH CI HB HS UQ H2 HD H3
            go_wp2_with fail
            go_roundw
            case rel => exact ⟨k + 1, _, _, _, _, _, _, _, _, _, by omega, by go_num, P9, B9⟩
            case measure => simp [intOf]; omega
        · obtain ⟨HQ, hHQ⟩ : ∃ HQ : World → Prop, HQ = fun y => LW w x np B (k + 1) N ZA f5 P5 Q5 M5 l5 (.slice bP mP dP) (.slice bQ mQ dQ) (.slice bM mM dM) y ∧ y.heap[E]? = some (.cells #[.int .u8 K, .int .i64 G] 31) := ⟨_, rfl⟩
          have UQ := hid (show ∀ y, HQ y → LW w x np B (k + 1) N ZA f5 P5 Q5 M5 l5 (.slice bP mP dP) (.slice bQ mQ dQ) (.slice bM mM dM) y ∧ y.heap[E]? = some (.cells #[.int .u8 K, .int .i64 G] 31) from fun y hy => by rw [hHQ] at hy; exact hy)
          have HB : Hid (∀ y y', HQ y → Below y.heap.size y y' → HQ y') := hid (fun y y' hy hb => by rw [hHQ] at hy ⊢; exact ⟨hy.1.below hb, (hb.block _ (by have := (Array.getElem?_eq_some_iff.1 hy.2).1; exact this)).trans hy.2⟩)
          have HS : Hid (∀ w', HQ w' → w'.cell? ⟨B, 2, none⟩ = some (.slice bP mP dP) ∧ w'.cell? ⟨B, 3, none⟩ = some (.slice bQ mQ dQ) ∧ w'.cell? ⟨B, 4, none⟩ = some (.slice bM mM dM) ∧ w'.cell? ⟨B, 5, none⟩ = some (.int .i64 l5) ∧ w'.cell? ⟨E, 1, none⟩ = some (.int .i64 G)) := hid (fun y hy => by
            rw [hHQ] at hy
            exact ⟨blk_cell hy.1.bx rfl, blk_cell hy.1.bx rfl, blk_cell hy.1.bx rfl, blk_cell hy.1.bx rfl, blk_cell hy.2 rfl⟩)
          have H1 : HQ (w5.setRow B (ix np N (.slice bP mP dP) (.slice bQ mQ dQ) (.slice bM mM dM) l5)) := by rw [hHQ]; exact ⟨L5.out, E5.out⟩
          have CP := hid (fun (y : World) (hy : HQ y) => (countP_any (UQ.out y hy).1.st.ids).mono (R' := fun e y' => e = .returned (.int .i64 mP) ∧ HQ y') (fun e y' h => ⟨by rw [h.1, (UQ.out y hy).1.st.im.c, HP5.out], by rw [← h.2]; exact hy⟩))
          have CQ := hid (fun (y : World) (hy : HQ y) => (pending_any (UQ.out y hy).1.st.ids).mono (R' := fun e y' => e = .returned (.int .i64 mQ) ∧ HQ y') (fun e y' h => ⟨by rw [h.1, HQ5.out], by rw [← h.2]; exact hy⟩))
          have CM := hid (fun (y : World) (hy : HQ y) => (iCountM (UQ.out y hy).1.st.ids mM HM5.out).mono (R' := fun e y' => e = .returned (.int .i64 mM) ∧ HQ y') (fun e y' h => ⟨h.1, by rw [← h.2]; exact hy⟩))
          have CH := hid (fun (y : World) (hy : HQ y) => (hasP_any (UQ.out y hy).1.st.ids G).mono (R' := fun e y' => e = .returned (.bool ba) ∧ HQ y') (fun e y' h => ⟨by rw [h.1, (UQ.out y hy).1.st.im.inF, hba], HB.out y y' hy (h.2.below _)⟩))
          have CI := hid (fun (y : World) (hy : HQ y) => (rin y _ P5 (UQ.out y hy).1.st.di.hp (UQ.out y hy).1.st.di.lp G ba hba.symm).mono (R' := fun e y' => e = .returned (.bool ba) ∧ HQ y') (fun e y' h => ⟨h.1, by rw [h.2]; exact hy⟩))
          have PO := hid (fun (y : World) (hy : HQ y) => (iPoller_yes (UQ.out y hy).1.st.ids hpl).mono (R' := fun e y' => e = .returned (.tuple #[.int .i64 l5, .bool true]) ∧ HQ y') (fun e y' h => ⟨h.1, by rw [← h.2]; exact hy⟩))
          clear hHQ hba L5 E5
          generalize w5.setRow B (ix np N (.slice bP mP dP) (.slice bQ mQ dQ) (.slice bM mM dM) l5) = w6 at *
          refine (PO.out _ H1).mono ?_
          rintro e w7 ⟨rfl, H2⟩
          clear PO H1
          have HD := HB.out _ _ H2 (bl_drw13 w7 _)
          go_upto_region 10 with (fail)
          go_cut [30, 107] from 31 to 108 (fun s30 s107 wx => s30 = .int .i64 k ∧ s107 = .bool false ∧ HQ wx)
          case first => as_aux_lemma =>
            refine wp_region_held_drew (S := fun w' => w'.cell? ⟨B, 2, none⟩ = some (.slice bP mP dP) ∧ w'.cell? ⟨B, 3, none⟩ = some (.slice bQ mQ dQ) ∧ w'.cell? ⟨B, 4, none⟩ = some (.slice bM mM dM) ∧ w'.cell? ⟨B, 5, none⟩ = some (.int .i64 l5) ∧ w'.cell? ⟨E, 1, none⟩ = some (.int .i64 G)) (by kernel_rfl) (HS.out _ HD) (fun hHeld => ?_)
            refine wpAnyH_take (i := 0) (oi := _) (v := ?_) rfl (by kernel_rfl) (by kernel_rfl) (by kernel_rfl) (fun _ _ _ h => h) (Or.inl ⟨by rfl, ?_⟩) (by assumption) ?_
            rotate_left
            · intro w hSw
              try dsimp only at hSw
              go_simp
              with_reducible rfl
            try simp only [Act.put, List.getElem_toArray, List.getElem_cons_zero, List.getElem_cons_succ, List.setIfInBounds_toArray, List.set_cons_zero, List.set_cons_succ]
            refine wpAnyH_take (i := 1) (oi := _) (v := ?_) rfl (by kernel_rfl) (by kernel_rfl) (by kernel_rfl) (fun _ _ _ h => h) (Or.inl ⟨by rfl, ?_⟩) (by assumption) ?_
            rotate_left
            · intro w hSw
              try dsimp only at hSw
              go_simp
              with_reducible rfl
            try simp only [Act.put, List.getElem_toArray, List.getElem_cons_zero, List.getElem_cons_succ, List.setIfInBounds_toArray, List.set_cons_zero, List.set_cons_succ]
            refine wpAnyH_take (i := 2) (oi := _) (v := ?_) rfl (by kernel_rfl) (by kernel_rfl) (by kernel_rfl) (fun _ _ _ h => h) (Or.inl ⟨by rfl, ?_⟩) (by assumption) ?_
            rotate_left
            · intro w hSw
              try dsimp only at hSw
              go_simp
              with_reducible rfl
            try simp only [Act.put, List.getElem_toArray, List.getElem_cons_zero, List.getElem_cons_succ, List.setIfInBounds_toArray, List.set_cons_zero, List.set_cons_succ]
            refine wpAnyH_take (i := 3) (oi := _) (v := ?_) rfl (by kernel_rfl) (by kernel_rfl) (by kernel_rfl) (fun _ _ _ h => h) (Or.inl ⟨by rfl, ?_⟩) (by assumption) ?_
            rotate_left
            · intro w hSw
              try dsimp only at hSw
              go_simp
              with_reducible rfl
            try simp only [Act.put, List.getElem_toArray, List.getElem_cons_zero, List.getElem_cons_succ, List.setIfInBounds_toArray, List.set_cons_zero, List.set_cons_succ]
            refine wpAnyH_take (i := 5) (oi := _) (v := ?_) rfl (by kernel_rfl) (by kernel_rfl) (by kernel_rfl) (fun _ _ _ h => h) (Or.inl ⟨by rfl, ?_⟩) (by assumption) ?_
            rotate_left
            · intro w hSw
              try dsimp only at hSw
              go_simp
              with_reducible rfl
            try simp only [Act.put, List.getElem_toArray, List.getElem_cons_zero, List.getElem_cons_succ, List.setIfInBounds_toArray, List.set_cons_zero, List.set_cons_succ]
            refine wpAnyH_take (i := 6) (oi := _) (v := ?_) rfl (by kernel_rfl) (by kernel_rfl) (by kernel_rfl) (fun _ _ _ h => h) (Or.inl ⟨by rfl, ?_⟩) (by assumption) ?_
            rotate_left
            · intro w hSw
              try dsimp only at hSw
              go_simp
              with_reducible rfl
            try simp only [Act.put, List.getElem_toArray, List.getElem_cons_zero, List.getElem_cons_succ, List.setIfInBounds_toArray, List.set_cons_zero, List.set_cons_succ]
            refine wpAnyH_take (i := 7) (oi := _) (v := ?_) rfl (by kernel_rfl) (by kernel_rfl) (by kernel_rfl) (fun _ _ _ h => h) (Or.inl ⟨by rfl, ?_⟩) (by assumption) ?_
            rotate_left
            · intro w hSw
              try dsimp only at hSw
              go_simp
              with_reducible rfl
            try simp only [Act.put, List.getElem_toArray, List.getElem_cons_zero, List.getElem_cons_succ, List.setIfInBounds_toArray, List.set_cons_zero, List.set_cons_succ]
            refine wpAnyH_ready (rs := [4]) (by kernel_rfl) (by simp) ?_
            refine AllReadyH.cons (o := _) rfl (fun K hK => ?_) AllReadyH.nil
            go_simp
            go_at_call 9
            (with_reducible refine (CP.out _ HD).mono ?_)
            rintro e u1 ⟨rfl, H5⟩
            go_wp2_with fail
            refine hK.out _ _ (HS.out _ H5) (fun hHeld => ?_)
            clear hK K
            try simp only [Act.put, List.getElem_toArray, List.getElem_cons_zero, List.getElem_cons_succ, List.setIfInBounds_toArray, List.set_cons_zero, List.set_cons_succ]
            refine wpAnyH_take (i := 8) (oi := _) (v := .bool false) rfl (by kernel_rfl) (by kernel_rfl) (by kernel_rfl) (fun _ _ _ h => h) (Or.inl ⟨by rfl, ?_⟩) (by assumption) ?_
            · intro w hSw
              try dsimp only at hSw
              go_simp
              all_goals (first | with_reducible rfl | simp [nb] | (simp; omega))
            try simp only [Act.put, List.getElem_toArray, List.getElem_cons_zero, List.getElem_cons_succ, List.setIfInBounds_toArray, List.set_cons_zero, List.set_cons_succ]
            refine wpAnyH_take (i := 9) (oi := _) (v := ?_) rfl (by kernel_rfl) (by kernel_rfl) (by kernel_rfl) (fun _ _ _ h => h) (Or.inl ⟨by rfl, ?_⟩) (by assumption) ?_
            rotate_left
            · intro w hSw
              try dsimp only at hSw
              go_simp
              with_reducible rfl
            try simp only [Act.put, List.getElem_toArray, List.getElem_cons_zero, List.getElem_cons_succ, List.setIfInBounds_toArray, List.set_cons_zero, List.set_cons_succ]
            refine wpAnyH_take (i := 10) (oi := _) (v := ?_) rfl (by kernel_rfl) (by kernel_rfl) (by kernel_rfl) (fun _ _ _ h => h) (Or.inl ⟨by rfl, ?_⟩) (by assumption) ?_
            rotate_left
            · intro w hSw
              try dsimp only at hSw
              go_simp
              with_reducible rfl
            try simp only [Act.put, List.getElem_toArray, List.getElem_cons_zero, List.getElem_cons_succ, List.setIfInBounds_toArray, List.set_cons_zero, List.set_cons_succ]
            refine wpAnyH_take (i := 11) (oi := _) (v := ?_) rfl (by kernel_rfl) (by kernel_rfl) (by kernel_rfl) (fun _ _ _ h => h) (Or.inl ⟨by rfl, ?_⟩) (by assumption) ?_
            rotate_left
            · intro w hSw
              try dsimp only at hSw
              go_simp
              with_reducible rfl
            try simp only [Act.put, List.getElem_toArray, List.getElem_cons_zero, List.getElem_cons_succ, List.setIfInBounds_toArray, List.set_cons_zero, List.set_cons_succ]
            refine wpAnyH_take (i := 13) (oi := _) (v := ?_) rfl (by kernel_rfl) (by kernel_rfl) (by kernel_rfl) (fun _ _ _ h => h) (Or.inl ⟨by rfl, ?_⟩) (by assumption) ?_
            rotate_left
            · intro w hSw
              try dsimp only at hSw
              go_simp
              with_reducible rfl
            try simp only [Act.put, List.getElem_toArray, List.getElem_cons_zero, List.getElem_cons_succ, List.setIfInBounds_toArray, List.set_cons_zero, List.set_cons_succ]
            refine wpAnyH_take (i := 14) (oi := _) (v := ?_) rfl (by kernel_rfl) (by kernel_rfl) (by kernel_rfl) (fun _ _ _ h => h) (Or.inl ⟨by rfl, ?_⟩) (by assumption) ?_
            rotate_left
            · intro w hSw
              try dsimp only at hSw
              go_simp
              with_reducible rfl
            try simp only [Act.put, List.getElem_toArray, List.getElem_cons_zero, List.getElem_cons_succ, List.setIfInBounds_toArray, List.set_cons_zero, List.set_cons_succ]
            refine wpAnyH_take (i := 15) (oi := _) (v := ?_) rfl (by kernel_rfl) (by kernel_rfl) (by kernel_rfl) (fun _ _ _ h => h) (Or.inl ⟨by rfl, ?_⟩) (by assumption) ?_
            rotate_left
            · intro w hSw
              try dsimp only at hSw
              go_simp
              with_reducible rfl
            try simp only [Act.put, List.getElem_toArray, List.getElem_cons_zero, List.getElem_cons_succ, List.setIfInBounds_toArray, List.set_cons_zero, List.set_cons_succ]
            refine wpAnyH_ready (rs := [12]) (by kernel_rfl) (by simp) ?_
            refine AllReadyH.cons (o := _) rfl (fun K hK => ?_) AllReadyH.nil
            go_simp
            go_at_call 10
            (with_reducible refine (CQ.out _ H5).mono ?_)
            rintro e u2 ⟨rfl, H6⟩
            go_wp2_with fail
            refine hK.out _ _ (HS.out _ H6) (fun hHeld => ?_)
            clear hK K
            try simp only [Act.put, List.getElem_toArray, List.getElem_cons_zero, List.getElem_cons_succ, List.setIfInBounds_toArray, List.set_cons_zero, List.set_cons_succ]
            refine wpAnyH_take (i := 16) (oi := _) (v := .bool false) rfl (by kernel_rfl) (by kernel_rfl) (by kernel_rfl) (fun _ _ _ h => h) (Or.inl ⟨by rfl, ?_⟩) (by assumption) ?_
            · intro w hSw
              try dsimp only at hSw
              go_simp
              all_goals (first | with_reducible rfl | simp [nb] | (simp; omega))
            try simp only [Act.put, List.getElem_toArray, List.getElem_cons_zero, List.getElem_cons_succ, List.setIfInBounds_toArray, List.set_cons_zero, List.set_cons_succ]
            refine wpAnyH_take (i := 17) (oi := _) (v := ?_) rfl (by kernel_rfl) (by kernel_rfl) (by kernel_rfl) (fun _ _ _ h => h) (Or.inl ⟨by rfl, ?_⟩) (by assumption) ?_
            rotate_left
            · intro w hSw
              try dsimp only at hSw
              go_simp
              with_reducible rfl
            try simp only [Act.put, List.getElem_toArray, List.getElem_cons_zero, List.getElem_cons_succ, List.setIfInBounds_toArray, List.set_cons_zero, List.set_cons_succ]
            refine wpAnyH_take (i := 18) (oi := _) (v := ?_) rfl (by kernel_rfl) (by kernel_rfl) (by kernel_rfl) (fun _ _ _ h => h) (Or.inl ⟨by rfl, ?_⟩) (by assumption) ?_
            rotate_left
            · intro w hSw
              try dsimp only at hSw
              go_simp
              with_reducible rfl
            try simp only [Act.put, List.getElem_toArray, List.getElem_cons_zero, List.getElem_cons_succ, List.setIfInBounds_toArray, List.set_cons_zero, List.set_cons_succ]
            refine wpAnyH_take (i := 19) (oi := _) (v := ?_) rfl (by kernel_rfl) (by kernel_rfl) (by kernel_rfl) (fun _ _ _ h => h) (Or.inl ⟨by rfl, ?_⟩) (by assumption) ?_
            rotate_left
            · intro w hSw
              try dsimp only at hSw
              go_simp
              with_reducible rfl
            try simp only [Act.put, List.getElem_toArray, List.getElem_cons_zero, List.getElem_cons_succ, List.setIfInBounds_toArray, List.set_cons_zero, List.set_cons_succ]
            refine wpAnyH_take (i := 21) (oi := _) (v := ?_) rfl (by kernel_rfl) (by kernel_rfl) (by kernel_rfl) (fun _ _ _ h => h) (Or.inl ⟨by rfl, ?_⟩) (by assumption) ?_
            rotate_left
            · intro w hSw
              try dsimp only at hSw
              go_simp
              with_reducible rfl
            try simp only [Act.put, List.getElem_toArray, List.getElem_cons_zero, List.getElem_cons_succ, List.setIfInBounds_toArray, List.set_cons_zero, List.set_cons_succ]
            refine wpAnyH_take (i := 22) (oi := _) (v := ?_) rfl (by kernel_rfl) (by kernel_rfl) (by kernel_rfl) (fun _ _ _ h => h) (Or.inl ⟨by rfl, ?_⟩) (by assumption) ?_
            rotate_left
            · intro w hSw
              try dsimp only at hSw
              go_simp
              with_reducible rfl
            try simp only [Act.put, List.getElem_toArray, List.getElem_cons_zero, List.getElem_cons_succ, List.setIfInBounds_toArray, List.set_cons_zero, List.set_cons_succ]
            refine wpAnyH_take (i := 23) (oi := _) (v := ?_) rfl (by kernel_rfl) (by kernel_rfl) (by kernel_rfl) (fun _ _ _ h => h) (Or.inl ⟨by rfl, ?_⟩) (by assumption) ?_
            rotate_left
            · intro w hSw
              try dsimp only at hSw
              go_simp
              with_reducible rfl
            try simp only [Act.put, List.getElem_toArray, List.getElem_cons_zero, List.getElem_cons_succ, List.setIfInBounds_toArray, List.set_cons_zero, List.set_cons_succ]
            refine wpAnyH_ready (rs := [20]) (by kernel_rfl) (by simp) ?_
            refine AllReadyH.cons (o := _) rfl (fun K hK => ?_) AllReadyH.nil
            go_simp
            go_at_call 11
            (with_reducible refine (CM.out _ H6).mono ?_)
            rintro e u3 ⟨rfl, H7⟩
            go_wp2_with fail
            refine hK.out _ _ (HS.out _ H7) (fun hHeld => ?_)
            clear hK K
            try simp only [Act.put, List.getElem_toArray, List.getElem_cons_zero, List.getElem_cons_succ, List.setIfInBounds_toArray, List.set_cons_zero, List.set_cons_succ]
            refine wpAnyH_take (i := 24) (oi := _) (v := .bool false) rfl (by kernel_rfl) (by kernel_rfl) (by kernel_rfl) (fun _ _ _ h => h) (Or.inl ⟨by rfl, ?_⟩) (by assumption) ?_
            · intro w hSw
              try dsimp only at hSw
              go_simp
              all_goals (first | with_reducible rfl | simp [nb] | (simp; omega))
            try simp only [Act.put, List.getElem_toArray, List.getElem_cons_zero, List.getElem_cons_succ, List.setIfInBounds_toArray, List.set_cons_zero, List.set_cons_succ]
            refine wpAnyH_take (i := 25) (oi := _) (v := ?_) rfl (by kernel_rfl) (by kernel_rfl) (by kernel_rfl) (fun _ _ _ h => h) (Or.inl ⟨by rfl, ?_⟩) (by assumption) ?_
            rotate_left
            · intro w hSw
              try dsimp only at hSw
              go_simp
              with_reducible rfl
            try simp only [Act.put, List.getElem_toArray, List.getElem_cons_zero, List.getElem_cons_succ, List.setIfInBounds_toArray, List.set_cons_zero, List.set_cons_succ]
            refine wpAnyH_take (i := 26) (oi := _) (v := ?_) rfl (by kernel_rfl) (by kernel_rfl) (by kernel_rfl) (fun _ _ _ h => h) (Or.inl ⟨by rfl, ?_⟩) (by assumption) ?_
            rotate_left
            · intro w hSw
              try dsimp only at hSw
              go_simp
              with_reducible rfl
            try simp only [Act.put, List.getElem_toArray, List.getElem_cons_zero, List.getElem_cons_succ, List.setIfInBounds_toArray, List.set_cons_zero, List.set_cons_succ]
            refine wpAnyH_take (i := 27) (oi := _) (v := ?_) rfl (by kernel_rfl) (by kernel_rfl) (by kernel_rfl) (fun _ _ _ h => h) (Or.inl ⟨by rfl, ?_⟩) (by assumption) ?_
            rotate_left
            · intro w hSw
              try dsimp only at hSw
              go_simp
              with_reducible rfl
            try simp only [Act.put, List.getElem_toArray, List.getElem_cons_zero, List.getElem_cons_succ, List.setIfInBounds_toArray, List.set_cons_zero, List.set_cons_succ]
            refine wpAnyH_take (i := 28) (oi := _) (v := ?_) rfl (by kernel_rfl) (by kernel_rfl) (by kernel_rfl) (fun _ _ _ h => h) (Or.inl ⟨by rfl, ?_⟩) (by assumption) ?_
            rotate_left
            · intro w hSw
              try dsimp only at hSw
              go_simp
              with_reducible rfl
            try simp only [Act.put, List.getElem_toArray, List.getElem_cons_zero, List.getElem_cons_succ, List.setIfInBounds_toArray, List.set_cons_zero, List.set_cons_succ]
            refine wpAnyH_take (i := 29) (oi := _) (v := ?_) rfl (by kernel_rfl) (by kernel_rfl) (by kernel_rfl) (fun _ _ _ h => h) (Or.inl ⟨by rfl, ?_⟩) (by assumption) ?_
            rotate_left
            · intro w hSw
              try dsimp only at hSw
              go_simp
              with_reducible rfl
            try simp only [Act.put, List.getElem_toArray, List.getElem_cons_zero, List.getElem_cons_succ, List.setIfInBounds_toArray, List.set_cons_zero, List.set_cons_succ]
            refine wpAnyH_take (i := 30) (oi := _) (v := .bool true) rfl (by kernel_rfl) (by kernel_rfl) (by kernel_rfl) (fun _ _ _ h => h) (Or.inl ⟨by rfl, ?_⟩) (by assumption) ?_
            · intro w hSw
              try dsimp only at hSw
              go_simp
              all_goals (first | with_reducible rfl | (simp; omega) | simp)
            try simp only [Act.put, List.getElem_toArray, List.getElem_cons_zero, List.getElem_cons_succ, List.setIfInBounds_toArray, List.set_cons_zero, List.set_cons_succ]
            refine wpAnyH_take (i := 31) (oi := _) (v := .bool false) rfl (by kernel_rfl) (by kernel_rfl) (by kernel_rfl) (fun _ _ _ h => h) (Or.inl ⟨by rfl, ?_⟩) (by assumption) ?_
            · intro w hSw
              try dsimp only at hSw
              go_simp
              all_goals (first | with_reducible rfl | simp [nb] | (simp; omega))
            try simp only [Act.put, List.getElem_toArray, List.getElem_cons_zero, List.getElem_cons_succ, List.setIfInBounds_toArray, List.set_cons_zero, List.set_cons_succ]
            refine wpAnyH_take (i := 32) (oi := _) (v := ?_) rfl (by kernel_rfl) (by kernel_rfl) (by kernel_rfl) (fun _ _ _ h => h) (Or.inl ⟨by rfl, ?_⟩) (by assumption) ?_
            rotate_left
            · intro w hSw
              try dsimp only at hSw
              go_simp
              with_reducible rfl
            try simp only [Act.put, List.getElem_toArray, List.getElem_cons_zero, List.getElem_cons_succ, List.setIfInBounds_toArray, List.set_cons_zero, List.set_cons_succ]
            refine wpAnyH_take (i := 33) (oi := _) (v := ?_) rfl (by kernel_rfl) (by kernel_rfl) (by kernel_rfl) (fun _ _ _ h => h) (Or.inl ⟨by rfl, ?_⟩) (by assumption) ?_
            rotate_left
            · intro w hSw
              try dsimp only at hSw
              go_simp
              with_reducible rfl
            try simp only [Act.put, List.getElem_toArray, List.getElem_cons_zero, List.getElem_cons_succ, List.setIfInBounds_toArray, List.set_cons_zero, List.set_cons_succ]
            refine wpAnyH_take (i := 34) (oi := _) (v := ?_) rfl (by kernel_rfl) (by kernel_rfl) (by kernel_rfl) (fun _ _ _ h => h) (Or.inl ⟨by rfl, ?_⟩) (by assumption) ?_
            rotate_left
            · intro w hSw
              try dsimp only at hSw
              go_simp
              with_reducible rfl
            try simp only [Act.put, List.getElem_toArray, List.getElem_cons_zero, List.getElem_cons_succ, List.setIfInBounds_toArray, List.set_cons_zero, List.set_cons_succ]
            refine wpAnyH_take (i := 35) (oi := _) (v := ?_) rfl (by kernel_rfl) (by kernel_rfl) (by kernel_rfl) (fun _ _ _ h => h) (Or.inl ⟨by rfl, ?_⟩) (by assumption) ?_
            rotate_left
            · intro w hSw
              try dsimp only at hSw
              go_simp
              with_reducible rfl
            try simp only [Act.put, List.getElem_toArray, List.getElem_cons_zero, List.getElem_cons_succ, List.setIfInBounds_toArray, List.set_cons_zero, List.set_cons_succ]
            refine wpAnyH_take (i := 36) (oi := _) (v := ?_) rfl (by kernel_rfl) (by kernel_rfl) (by kernel_rfl) (fun _ _ _ h => h) (Or.inl ⟨by rfl, ?_⟩) (by assumption) ?_
            rotate_left
            · intro w hSw
              try dsimp only at hSw
              go_simp
              with_reducible rfl
            try simp only [Act.put, List.getElem_toArray, List.getElem_cons_zero, List.getElem_cons_succ, List.setIfInBounds_toArray, List.set_cons_zero, List.set_cons_succ]
            refine wpAnyH_take (i := 37) (oi := _) (v := ?_) rfl (by kernel_rfl) (by kernel_rfl) (by kernel_rfl) (fun _ _ _ h => h) (Or.inl ⟨by rfl, ?_⟩) (by assumption) ?_
            rotate_left
            · intro w hSw
              try dsimp only at hSw
              go_simp
              with_reducible rfl
            try simp only [Act.put, List.getElem_toArray, List.getElem_cons_zero, List.getElem_cons_succ, List.setIfInBounds_toArray, List.set_cons_zero, List.set_cons_succ]
            refine wpAnyH_take (i := 38) (oi := _) (v := ?_) rfl (by kernel_rfl) (by kernel_rfl) (by kernel_rfl) (fun _ _ _ h => h) (Or.inl ⟨by rfl, ?_⟩) (by assumption) ?_
            rotate_left
            · intro w hSw
              try dsimp only at hSw
              go_simp
              with_reducible rfl
            try simp only [Act.put, List.getElem_toArray, List.getElem_cons_zero, List.getElem_cons_succ, List.setIfInBounds_toArray, List.set_cons_zero, List.set_cons_succ]
            refine wpAnyH_take (i := 39) (oi := _) (v := .bool false) rfl (by kernel_rfl) (by kernel_rfl) (by kernel_rfl) (fun _ _ _ h => h) (Or.inl ⟨by rfl, ?_⟩) (by assumption) ?_
            · intro w hSw
              try dsimp only at hSw
              go_simp
              all_goals (first | with_reducible rfl | simp [nb] | (simp; omega))
            try simp only [Act.put, List.getElem_toArray, List.getElem_cons_zero, List.getElem_cons_succ, List.setIfInBounds_toArray, List.set_cons_zero, List.set_cons_succ]
            refine wpAnyH_take (i := 40) (oi := _) (v := ?_) rfl (by kernel_rfl) (by kernel_rfl) (by kernel_rfl) (fun _ _ _ h => h) (Or.inl ⟨by rfl, ?_⟩) (by assumption) ?_
            rotate_left
            · intro w hSw
              try dsimp only at hSw
              go_simp
              with_reducible rfl
            try simp only [Act.put, List.getElem_toArray, List.getElem_cons_zero, List.getElem_cons_succ, List.setIfInBounds_toArray, List.set_cons_zero, List.set_cons_succ]
            refine wpAnyH_take (i := 41) (oi := _) (v := ?_) rfl (by kernel_rfl) (by kernel_rfl) (by kernel_rfl) (fun _ _ _ h => h) (Or.inl ⟨by rfl, ?_⟩) (by assumption) ?_
            rotate_left
            · intro w hSw
              try dsimp only at hSw
              go_simp
              with_reducible rfl
            try simp only [Act.put, List.getElem_toArray, List.getElem_cons_zero, List.getElem_cons_succ, List.setIfInBounds_toArray, List.set_cons_zero, List.set_cons_succ]
            refine wpAnyH_take (i := 42) (oi := _) (v := ?_) rfl (by kernel_rfl) (by kernel_rfl) (by kernel_rfl) (fun _ _ _ h => h) (Or.inl ⟨by rfl, ?_⟩) (by assumption) ?_
            rotate_left
            · intro w hSw
              try dsimp only at hSw
              go_simp
              with_reducible rfl
            try simp only [Act.put, List.getElem_toArray, List.getElem_cons_zero, List.getElem_cons_succ, List.setIfInBounds_toArray, List.set_cons_zero, List.set_cons_succ]
            refine wpAnyH_take (i := 43) (oi := _) (v := ?_) rfl (by kernel_rfl) (by kernel_rfl) (by kernel_rfl) (fun _ _ _ h => h) (Or.inl ⟨by rfl, ?_⟩) (by assumption) ?_
            rotate_left
            · intro w hSw
              try dsimp only at hSw
              go_simp
              with_reducible rfl
            try simp only [Act.put, List.getElem_toArray, List.getElem_cons_zero, List.getElem_cons_succ, List.setIfInBounds_toArray, List.set_cons_zero, List.set_cons_succ]
            refine wpAnyH_take (i := 44) (oi := _) (v := ?_) rfl (by kernel_rfl) (by kernel_rfl) (by kernel_rfl) (fun _ _ _ h => h) (Or.inl ⟨by rfl, ?_⟩) (by assumption) ?_
            rotate_left
            · intro w hSw
              try dsimp only at hSw
              go_simp
              with_reducible rfl
            try simp only [Act.put, List.getElem_toArray, List.getElem_cons_zero, List.getElem_cons_succ, List.setIfInBounds_toArray, List.set_cons_zero, List.set_cons_succ]
            refine wpAnyH_take (i := 45) (oi := _) (v := ?_) rfl (by kernel_rfl) (by kernel_rfl) (by kernel_rfl) (fun _ _ _ h => h) (Or.inl ⟨by rfl, ?_⟩) (by assumption) ?_
            rotate_left
            · intro w hSw
              try dsimp only at hSw
              go_simp
              with_reducible rfl
            try simp only [Act.put, List.getElem_toArray, List.getElem_cons_zero, List.getElem_cons_succ, List.setIfInBounds_toArray, List.set_cons_zero, List.set_cons_succ]
            refine wpAnyH_take (i := 46) (oi := _) (v := undef) rfl (by kernel_rfl) (by kernel_rfl) (by kernel_rfl) (fun _ _ _ h => h) (Or.inr ⟨by rfl, rfl⟩) (by assumption) ?_
            try simp only [Act.put, List.getElem_toArray, List.getElem_cons_zero, List.getElem_cons_succ, List.setIfInBounds_toArray, List.set_cons_zero, List.set_cons_succ]
            refine wpAnyH_take (i := 47) (oi := _) (v := undef) rfl (by kernel_rfl) (by kernel_rfl) (by kernel_rfl) (fun _ _ _ h => h) (Or.inr ⟨by rfl, rfl⟩) (by assumption) ?_
            try simp only [Act.put, List.getElem_toArray, List.getElem_cons_zero, List.getElem_cons_succ, List.setIfInBounds_toArray, List.set_cons_zero, List.set_cons_succ]
            refine wpAnyH_take (i := 48) (oi := _) (v := ?_) rfl (by kernel_rfl) (by kernel_rfl) (by kernel_rfl) (fun _ _ _ h => h) (Or.inl ⟨by rfl, ?_⟩) (by assumption) ?_
            rotate_left
            · intro w hSw
              try dsimp only at hSw
              go_simp
              with_reducible rfl
            try simp only [Act.put, List.getElem_toArray, List.getElem_cons_zero, List.getElem_cons_succ, List.setIfInBounds_toArray, List.set_cons_zero, List.set_cons_succ]
            refine wpAnyH_take (i := 49) (oi := _) (v := ?_) rfl (by kernel_rfl) (by kernel_rfl) (by kernel_rfl) (fun _ _ _ h => h) (Or.inl ⟨by rfl, ?_⟩) (by assumption) ?_
            rotate_left
            · intro w hSw
              try dsimp only at hSw
              go_simp
              with_reducible rfl
            try simp only [Act.put, List.getElem_toArray, List.getElem_cons_zero, List.getElem_cons_succ, List.setIfInBounds_toArray, List.set_cons_zero, List.set_cons_succ]
            refine wpAnyH_take (i := 50) (oi := _) (v := ?_) rfl (by kernel_rfl) (by kernel_rfl) (by kernel_rfl) (fun _ _ _ h => h) (Or.inl ⟨by rfl, ?_⟩) (by assumption) ?_
            rotate_left
            · intro w hSw
              try dsimp only at hSw
              go_simp
              with_reducible rfl
            try simp only [Act.put, List.getElem_toArray, List.getElem_cons_zero, List.getElem_cons_succ, List.setIfInBounds_toArray, List.set_cons_zero, List.set_cons_succ]
            refine wpAnyH_take (i := 51) (oi := _) (v := ?_) rfl (by kernel_rfl) (by kernel_rfl) (by kernel_rfl) (fun _ _ _ h => h) (Or.inl ⟨by rfl, ?_⟩) (by assumption) ?_
            rotate_left
            · intro w hSw
              try dsimp only at hSw
              go_simp
              with_reducible rfl
            try simp only [Act.put, List.getElem_toArray, List.getElem_cons_zero, List.getElem_cons_succ, List.setIfInBounds_toArray, List.set_cons_zero, List.set_cons_succ]
            refine wpAnyH_take (i := 52) (oi := _) (v := ?_) rfl (by kernel_rfl) (by kernel_rfl) (by kernel_rfl) (fun _ _ _ h => h) (Or.inl ⟨by rfl, ?_⟩) (by assumption) ?_
            rotate_left
            · intro w hSw
              try dsimp only at hSw
              go_simp
              with_reducible rfl
            try simp only [Act.put, List.getElem_toArray, List.getElem_cons_zero, List.getElem_cons_succ, List.setIfInBounds_toArray, List.set_cons_zero, List.set_cons_succ]
            refine wpAnyH_take (i := 53) (oi := _) (v := ?_) rfl (by kernel_rfl) (by kernel_rfl) (by kernel_rfl) (fun _ _ _ h => h) (Or.inl ⟨by rfl, ?_⟩) (by assumption) ?_
            rotate_left
            · intro w hSw
              try dsimp only at hSw
              go_simp
              with_reducible rfl
            try simp only [Act.put, List.getElem_toArray, List.getElem_cons_zero, List.getElem_cons_succ, List.setIfInBounds_toArray, List.set_cons_zero, List.set_cons_succ]
            refine wpAnyH_take (i := 55) (oi := _) (v := ?_) rfl (by kernel_rfl) (by kernel_rfl) (by kernel_rfl) (fun _ _ _ h => h) (Or.inl ⟨by rfl, ?_⟩) (by assumption) ?_
            rotate_left
            · intro w hSw
              try dsimp only at hSw
              go_simp
              with_reducible rfl
            try simp only [Act.put, List.getElem_toArray, List.getElem_cons_zero, List.getElem_cons_succ, List.setIfInBounds_toArray, List.set_cons_zero, List.set_cons_succ]
            refine wpAnyH_take (i := 56) (oi := _) (v := ?_) rfl (by kernel_rfl) (by kernel_rfl) (by kernel_rfl) (fun _ _ _ h => h) (Or.inl ⟨by rfl, ?_⟩) (by assumption) ?_
            rotate_left
            · intro w hSw
              try dsimp only at hSw
              go_simp
              with_reducible rfl
            try simp only [Act.put, List.getElem_toArray, List.getElem_cons_zero, List.getElem_cons_succ, List.setIfInBounds_toArray, List.set_cons_zero, List.set_cons_succ]
            refine wpAnyH_take (i := 57) (oi := _) (v := ?_) rfl (by kernel_rfl) (by kernel_rfl) (by kernel_rfl) (fun _ _ _ h => h) (Or.inl ⟨by rfl, ?_⟩) (by assumption) ?_
            rotate_left
            · intro w hSw
              try dsimp only at hSw
              go_simp
              with_reducible rfl
            try simp only [Act.put, List.getElem_toArray, List.getElem_cons_zero, List.getElem_cons_succ, List.setIfInBounds_toArray, List.set_cons_zero, List.set_cons_succ]
            refine wpAnyH_take (i := 58) (oi := _) (v := ?_) rfl (by kernel_rfl) (by kernel_rfl) (by kernel_rfl) (fun _ _ _ h => h) (Or.inl ⟨by rfl, ?_⟩) (by assumption) ?_
            rotate_left
            · intro w hSw
              try dsimp only at hSw
              go_simp
              with_reducible rfl
            try simp only [Act.put, List.getElem_toArray, List.getElem_cons_zero, List.getElem_cons_succ, List.setIfInBounds_toArray, List.set_cons_zero, List.set_cons_succ]
            refine wpAnyH_ready (rs := [54]) (by kernel_rfl) (by simp) ?_
            refine AllReadyH.cons (o := _) rfl (fun K hK => ?_) AllReadyH.nil
            go_simp
            go_at_call 12
            (with_reducible refine (CH.out _ H7).mono ?_)
            rintro e u4 ⟨rfl, H8⟩
            go_wp2_with fail
            refine hK.out _ _ (HS.out _ H8) (fun hHeld => ?_)
            clear hK K
            try simp only [Act.put, List.getElem_toArray, List.getElem_cons_zero, List.getElem_cons_succ, List.setIfInBounds_toArray, List.set_cons_zero, List.set_cons_succ]
            refine wpAnyH_ready (rs := [59]) (by kernel_rfl) (by simp) ?_
            refine AllReadyH.cons (o := _) rfl (fun K hK => ?_) AllReadyH.nil
            go_simp
            go_at_call 13
            (with_reducible refine (CI.out _ H8).mono ?_)
            rintro e u5 ⟨rfl, H9⟩
            go_wp2_with fail
            refine hK.out _ _ (HS.out _ H9) (fun hHeld => ?_)
            clear hK K
            try simp only [Act.put, List.getElem_toArray, List.getElem_cons_zero, List.getElem_cons_succ, List.setIfInBounds_toArray, List.set_cons_zero, List.set_cons_succ]
            refine wpAnyH_take (i := 60) (oi := _) (v := .bool false) rfl (by kernel_rfl) (by kernel_rfl) (by kernel_rfl) (fun _ _ _ h => h) (Or.inl ⟨by rfl, ?_⟩) (by assumption) ?_
            · intro w hSw
              try dsimp only at hSw
              go_simp
              all_goals (first | with_reducible rfl | simp [nb] | (simp; omega))
            try simp only [Act.put, List.getElem_toArray, List.getElem_cons_zero, List.getElem_cons_succ, List.setIfInBounds_toArray, List.set_cons_zero, List.set_cons_succ]
            refine wpAnyH_take (i := 61) (oi := _) (v := ?_) rfl (by kernel_rfl) (by kernel_rfl) (by kernel_rfl) (fun _ _ _ h => h) (Or.inl ⟨by rfl, ?_⟩) (by assumption) ?_
            rotate_left
            · intro w hSw
              try dsimp only at hSw
              go_simp
              with_reducible rfl
            try simp only [Act.put, List.getElem_toArray, List.getElem_cons_zero, List.getElem_cons_succ, List.setIfInBounds_toArray, List.set_cons_zero, List.set_cons_succ]
            refine wpAnyH_done (by kernel_rfl) ?_ _
            go_wp2_with fail
            go_meet
            exact ⟨rfl, rfl, H9⟩
          case rest => as_aux_lemma =>
            obtain ⟨rfl, rfl, H3⟩ := hcut
            have P9 := hid (UQ.out _ H3).1
            have B9 := P9.out.bl
            clear CP CQ CM CH CI HB HS UQ H2 HD H3
            go_wp2_with fail
            go_roundw
            case rel => exact ⟨k + 1, _, _, _, _, _, _, _, _, _, by omega, by go_num, P9, B9⟩
            case measure => simp [intOf]; omega
      · obtain rfl : k = len2 := by omega
        clear F
        go_wp2
        go_ret
        exact ⟨rfl, hbr⟩
end Go.Proofs.YtnabikoieolfcaaDoor.idlePlays
