/- The document's poll by value: Take. Written by wip/tools/gen11t.py. -/
import Derived.Test.YtaogpodncphpjaaRef11D
namespace Go.Proofs.Ytaogpodncphpjaa
set_option linter.unusedVariables false
set_option linter.unusedSimpArgs false
open Go.RowKit
def bstep (S : List Int) (b e : Int × Int) : Int × Int := if e.1 ∈ S ∧ e.1 < b.1 then e else b
/-- The least one that is ready. -/
def bst (S : List Int) (V : List (Int × Int)) : Int × Int := V.foldl (bstep S) (65536, 0)
theorem bst_snoc (S : List Int) (V : List (Int × Int)) (e : Int × Int) : bst S (V ++ [e]) = bstep S (bst S V) e := by simp [bst]
theorem bst_stay {S : List Int} : ∀ {V : List (Int × Int)} {b : Int × Int}, (∀ e ∈ V, e.1 ∈ S → ¬ e.1 < b.1) → V.foldl (bstep S) b = b
  | [], b, _ => rfl
  | e :: V, b, h => by
    rw [List.foldl_cons, show bstep S b e = b from if_neg (fun q => h e (.head _) q.1 q.2)]
    exact bst_stay fun x hx => h x (.tail _ hx)
theorem bst_find {S : List Int} {m y : Int} (hm : m ∈ S) : ∀ {V : List (Int × Int)} {b : Int × Int}, (V.map Prod.fst).Nodup → (m, y) ∈ V → m < b.1 → (∀ e ∈ V, e.1 ∈ S → m ≤ e.1) → V.foldl (bstep S) b = (m, y)
  | e :: V, b, hn, hv, hb, h => by
    simp only [List.map_cons, List.nodup_cons] at hn
    rw [List.foldl_cons]
    rcases List.mem_cons.1 hv with rfl | hv'
    · rw [show bstep S b (m, y) = (m, y) from if_pos ⟨hm, hb⟩]
      exact bst_stay fun x hx hs => by have := h x (.tail _ hx) hs; simp only; omega
    · refine bst_find hm hn.2 hv' ?_ (fun x hx => h x (.tail _ hx))
      unfold bstep
      split
      · rename_i q
        have h1 := h e (.head _) q.1
        have h2 : e.1 ≠ m := fun q2 => hn.1 (q2 ▸ List.mem_map.2 ⟨_, hv', rfl⟩)
        omega
      · exact hb
theorem bst_some {S : List Int} {m y : Int} {V : List (Int × Int)} (hm : m ∈ S) (hn : (V.map Prod.fst).Nodup) (hv : (m, y) ∈ V) (hb : m ≤ 65535) (h : ∀ e ∈ V, e.1 ∈ S → m ≤ e.1) : bst S V = (m, y) := bst_find hm hn hv (by simp only; omega) h
theorem bst_none {S : List Int} {V : List (Int × Int)} (h : ∀ e ∈ V, e.1 ∉ S) : bst S V = (65536, 0) := bst_stay fun e he hs => absurd hs (h e he)
theorem bst_take_none {S : List Int} {V : List (Int × Int)} (h : ∀ e ∈ V, e.1 ∉ S) (k : Nat) : bst S (V.take k) = (65536, 0) := bst_none fun e he => h e (List.mem_of_mem_take he)
theorem wAt_mem {V : List (Int × Int)} {k : Nat} (h : k < V.length) : wAt V k ∈ V := by
  unfold wAt
  rw [List.getD_eq_getElem?_getD, List.getElem?_eq_getElem h]
  exact List.getElem_mem h
theorem results_row3 {P : Program} {fn : Func} {p u v x : Tmp} {ty : TypeId} (h : fn.results = #[.cell p ty, .tmp u, .tmp v, .tmp x]) (tmps : Array Value) (w : World) (g : Nat) (t : TypeId) (cs : Array Value) (fr : Nat × Nat) (d : TypeDesc)
    (hp : tmps.getD p undef = .pointer (some ⟨g, 0, none⟩)) (hg : w.heap[g]? = some (.cells cs t fr))
    (hu : P.underlying ty = some d) (hd : (match d with | .struct _ | .array _ _ => true | _ => false) = true) (hi : (P.info? ty).map (·.size) = some cs.size) (b c e : Value) (hb : tmps.getD u undef = b) (hc : tmps.getD v undef = c) (he : tmps.getD x undef = e) :
    (results fn tmps).run P w = .ok (.tuple #[.agg cs, b, c, e]) w := by
  have hp' : tmps[p]?.getD undef = .pointer (some ⟨g, 0, none⟩) := by simpa using hp
  have hb' : tmps[u]?.getD undef = b := by simpa using hb
  have hc' : tmps[v]?.getD undef = c := by simpa using hc
  have he' : tmps[x]?.getD undef = e := by simpa using he
  simp [results, h, hp', hb', hc', he', asAddr, run_loadVar_row w g t ty cs fr d hg hu hd hi, Result.andThen, Sem.run_bind]
/-- What Take hands back. -/
def TpPost (w : World) (vW vS : Value) (V : List (Int × Int)) (S : List Int) (m y : Int) (is : Bool) (e : Ending) (w' : World) : Prop :=
  ∃ vW' vS', e = .returned (.tuple #[.agg #[vW', vS'], .int .i64 m, .int .i64 y, .bool is]) ∧ Dp w' vW' vS' V S ∧ Below w.heap.size w w' ∧ (∀ q, vW'.ownBlock = some q → vW.ownBlock = some q ∨ (w.heap.size ≤ q ∧ q < w'.heap.size)) ∧ ∀ q, vS'.ownBlock = some q → vS.ownBlock = some q ∨ (w.heap.size ≤ q ∧ q < w'.heap.size)
set_option maxHeartbeats 4000000 in
theorem rtake_none (w : World) (vW vS : Value) (V : List (Int × Int)) (S : List Int) (h : Dp w vW vS V S) (hv : ∀ e ∈ V, 0 ≤ e.1 ∧ e.1 ≤ 65535) (hd : ∀ e ∈ V, e.1 ∉ S) :
    Calls Try.prog 34 #[.agg #[vW, vS]] w (TpPost w vW vS V S 0 0 false) := by
  obtain ⟨aW, nW, cW, aS, nS, cS, rfl, rfl, HNW, HNS, lw, ls⟩ := h.sl
  obtain ⟨P, hP⟩ : ∃ P, P = w.heap.size := ⟨_, rfl⟩
  obtain ⟨w0, hw0⟩ : ∃ w0, w0 = ((w.alloc (.cells #[.slice aW nW cW, .slice aS nS cS] 33)).alloc (.cells #[.slice none 0 0, .slice none 0 0] 33)).alloc (.cells #[.int .i64 65536, .int .i64 0] 121) := ⟨_, rfl⟩
  have hb0 : Below P w w0 := by rw [hw0, hP]; exact (((Below.refl w.heap.size w).alloc (Nat.le_refl _) _).alloc (by simp) _).alloc (by simp; omega) _
  have H := hid (h.below (by rw [← hP]; exact hb0))
  have B := hid hb0
  have hs0 : w0.heap.size = P + 3 := by rw [hw0, hP]; simp
  have K := hid (show w0.heap[P]? = some (.cells #[.slice aW nW cW, .slice aS nS cS] 33 (0, 0)) by
    rw [hw0, hP]; exact (Below.heap_alloc _ _ _ (by simp; omega)).trans (heap_alloc2_old w _ _))
  have R := hid (show w0.heap[P + 1]? = some (.cells #[.slice none 0 0, .slice none 0 0] 33 (0, 0)) by
    rw [hw0, hP]; exact (Below.heap_alloc _ _ _ (by simp)).trans (heap_alloc2_new w _ _))
  have E := hid (show w0.heap[P + 2]? = some (.cells #[.int .i64 65536, .int .i64 0] 121 (0, 0)) by
    have := heap_alloc_new ((w.alloc (.cells #[.slice aW nW cW, .slice aS nS cS] 33)).alloc (.cells #[.slice none 0 0, .slice none 0 0] 33)) (.cells #[.int .i64 65536, .int .i64 0] 121)
    rw [hw0, hP]; simpa using this)
  have HD := hid h
  have HP := hid hP
  clear h hb0
  have HV := hid hv
  have BST := hid (bst_none hd)
  clear hv hd
  go_enter Try.func34, Try.ntmps34
  go_wp2_with fail
  rw [← hw0, ← hP]
  clear hw0 hP
  go_loopw [18] (fun i wr => ∃ (k : Nat) (bf bg : Int), k ≤ nW ∧ bf ≤ 65536 ∧ i = .int .i64 k ∧ Hid (bst S (V.take k) = (bf, bg)) ∧ Hid (wr.heap[P + 2]? = some (.cells #[.int .i64 bf, .int .i64 bg] 121 (0, 0))) ∧ Hid (Below (P + 2) w0 wr) ∧ P + 3 ≤ wr.heap.size) (fun i _ => nW - (intOf i).toNat)
  case atStart => exact ⟨0, 65536, 0, by omega, by omega, rfl, hid rfl, E, hid (Below.refl _ _), by omega⟩
  case round =>
    clear E
    obtain ⟨k, bf, bg, hk, hbf, rfl, F, E, BR, hs⟩ := hrel
    have KR := hid ((BR.out.block P (by omega)).trans K.out)
    have RR := hid ((BR.out.block (P + 1) (by omega)).trans R.out)
    have BW := hid (B.out.trans (BR.out.mono (by omega)))
    have HR := hid (HD.out.below (by rw [← HP.out]; exact BW.out))
    by_cases hlt : k < nW
    · obtain ⟨a, c, e, _, hh⟩ := HR.out.hw
      simp only [Value.slice.injEq] at e
      obtain ⟨rfl, e2, rfl⟩ := e
      clear e2
      obtain ⟨g, off, rfl, _, hc⟩ := hh (by have := HNW.out; omega)
      obtain ⟨h0, h1⟩ := hc k (by have := HNW.out; omega)
      have T := hid (w_take (es := V) (k := k) (by have := HNW.out; omega))
      have M := hid (wAt_mem (V := V) (k := k) (by have := HNW.out; omega))
      generalize wAt V k = ev at *
      obtain ⟨x, y1⟩ := ev
      simp only at h0 h1
      have hx1 := (HV.out _ M.out).2
      have hx0 := (HV.out _ M.out).1
      simp only at hx0 hx1
      have hge : w.heap.size ≤ wr.heap.size := by have := HP.out; omega
      have B2 := hid (BR.out.alloc (by omega) (.cells #[.int .i64 x, .int .i64 y1] 121))
      have H2 := hid (HR.out.below (bl_al wr (.cells #[.int .i64 x, .int .i64 y1] 121)))
      have K2 := hid ((Below.heap_alloc wr (.cells #[.int .i64 x, .int .i64 y1] 121) _ (by omega)).trans KR.out)
      have E2 := hid ((Below.heap_alloc wr (.cells #[.int .i64 x, .int .i64 y1] 121) _ (by omega)).trans E.out)
      have N2 := hid (heap_alloc_new wr (.cells #[.int .i64 x, .int .i64 y1] 121))
      have hs2 : (wr.alloc (.cells #[.int .i64 x, .int .i64 y1] 121)).heap.size = wr.heap.size + 1 := by simp
      have y0 := blk_cell K2.out (i := 0) rfl
      have z0 := blk_cell K2.out (i := 1) rfl
      clear hh hc BR HR KR RR BW E M
      obtain ⟨b, hb⟩ : ∃ b, decide (x ∈ S) = b := ⟨_, rfl⟩
      have HB := hid hb
      have F2 := hid (show bst S (V.take (k + 1)) = bstep S (bf, bg) (x, y1) by rw [T.out, bst_snoc, F.out])
      clear hb T
      go_wp2_with fail
      refine (ris _ _ _ V S H2.out x b HB.out).mono ?_
      rintro e w3 ⟨rfl, h3⟩
      have B3 := hid (B2.out.trans (h3.mono (by omega)))
      have E3 := hid ((h3.block _ (by omega)).trans E2.out)
      have N3 := hid ((h3.block _ (by omega)).trans N2.out)
      have hs3 : P + 3 ≤ w3.heap.size := by have := h3.size; omega
      clear h3 B2 H2 K2 E2 N2 hs2 y0 z0 h0 h1
      cases b
      · have F3 := hid (show bst S (V.take (k + 1)) = (bf, bg) by rw [F2.out]; exact if_neg (fun q => by have := HB.out; simp [q.1] at this))
        clear F F2 N3
        go_wp2_with fail
        go_roundw
        case rel => exact ⟨k + 1, bf, bg, by omega, hbf, by go_num, F3, E3, B3, hs3⟩
        case measure => simp [intOf]; omega
      · have u0 := blk_cell N3.out (i := 0) rfl
        have u1 := blk_cell N3.out (i := 1) rfl
        have t0 := blk_cell E3.out (i := 0) rfl
        have t1 := blk_cell E3.out (i := 1) rfl
        by_cases hxb : x < bf
        · have F3 := hid (show bst S (V.take (k + 1)) = (x, y1) by rw [F2.out]; exact if_pos ⟨by simpa using HB.out, hxb⟩)
          have f0 : w3.frozen? ⟨P + 2, 0, none⟩ = false := blk_free E3.out
          have f1 : w3.frozen? ⟨P + 2, 1, none⟩ = false := blk_free E3.out
          have E4 := hid (show (w3.setRow (P + 2) #[.int .i64 x, .int .i64 y1]).heap[P + 2]? = some (.cells #[.int .i64 x, .int .i64 y1] 121 (0, 0)) from setRow_heap _ _ _ _ _ _ E3.out)
          have B4 := hid (row_below B3.out (Nat.le_refl _) #[.int .i64 x, .int .i64 y1])
          have s4 : P + 3 ≤ (w3.setRow (P + 2) #[.int .i64 x, .int .i64 y1]).heap.size := by rw [row_size]; omega
          clear F F2 B3
          go_wp2_with (first
            | (refine wpList_store_row rfl 121 (.tmp 6) (.tmp 33) rfl (P + 2) #[.int .i64 x, .int .i64 y1] rfl rfl 121 _ E3.out (by kernel_rfl) (by rfl) (by simp [Value.oneCell']) ?_))
          go_roundw
          case rel => exact ⟨k + 1, x, y1, by omega, by omega, by go_num, F3, E4, B4, s4⟩
          case measure => simp [intOf]; omega
        · have F3 := hid (show bst S (V.take (k + 1)) = (bf, bg) by rw [F2.out]; exact if_neg (fun q => hxb q.2))
          clear F F2 N3
          go_wp2_with fail
          go_roundw
          case rel => exact ⟨k + 1, bf, bg, by omega, hbf, by go_num, F3, E3, B3, hs3⟩
          case measure => simp [intOf]; omega
    · obtain rfl : k = nW := by omega
      rw [List.take_of_length_le (by have := HNW.out; omega)] at F
      have hbe := F.out
      rw [BST.out, Prod.mk.injEq] at hbe
      obtain ⟨rfl, rfl⟩ := hbe
      have t0 := blk_cell E.out (i := 0) rfl
      have FIN := hid (show TpPost w (.slice aW k cW) (.slice aS nS cS) V S 0 0 false (.returned (.tuple #[.agg #[.slice aW k cW, .slice aS nS cS], .int .i64 0, .int .i64 0, .bool false])) (wr.setRow (P + 1) #[.slice aW k cW, .slice aS nS cS]) from by
        have BF := row_below (by have := BW.out; rw [HP.out] at this; exact this) (show w.heap.size ≤ P + 1 by rw [HP.out]; omega) #[.slice aW k cW, .slice aS nS cS]
        exact ⟨_, _, rfl, HD.out.below BF, BF, fun q hq => .inl hq, fun q hq => .inl hq⟩)
      clear HD BW BR HR H B F
      go_wp2_with (first
        | (refine wpList_load_known (by rfl) 33 (.tmp 1) rfl P rfl 33 #[.slice aW k cW, .slice aS nS cS] (0, 0) _ KR.out Try.underlying33 rfl (by kernel_rfl) ?_)
        | (refine wpList_store_row rfl 33 (.tmp 2) (.tmp 38) rfl (P + 1) #[.slice aW k cW, .slice aS nS cS] rfl rfl 33 _ RR.out (by kernel_rfl) (by rfl) (by simp [Value.oneCell']) ?_))
      refine bodyPost_ret (v := .tuple #[.agg #[.slice aW k cW, .slice aS nS cS], .int .i64 0, .int .i64 0, .bool false]) (results_row3 rfl _ _ (P + 1) 33 #[.slice aW k cW, .slice aS nS cS] (0, 0) _ (by rfl) (setRow_heap _ _ _ _ _ _ RR.out) Try.underlying33 rfl (by kernel_rfl) _ _ _ (by rfl) (by rfl) (by rfl)) rfl FIN.out
set_option maxHeartbeats 4000000 in
theorem rtake_some (w : World) (vW vS : Value) (V : List (Int × Int)) (S : List Int) (h : Dp w vW vS V S) (hv : ∀ e ∈ V, 0 ≤ e.1 ∧ e.1 ≤ 65535) (hn : (V.map Prod.fst).Nodup) (m y : Int) (hm : (m, y) ∈ V) (hr : m ∈ S) (hmin : ∀ e ∈ V, e.1 ∈ S → m ≤ e.1) :
    Calls Try.prog 34 #[.agg #[vW, vS]] w (TpPost w vW vS (V.filter fun e => !(e.1 == m)) (S.filter fun a => !(a == m)) m y true) := by
  obtain ⟨aW, nW, cW, aS, nS, cS, rfl, rfl, HNW, HNS, lw, ls⟩ := h.sl
  obtain ⟨P, hP⟩ : ∃ P, P = w.heap.size := ⟨_, rfl⟩
  obtain ⟨w0, hw0⟩ : ∃ w0, w0 = ((w.alloc (.cells #[.slice aW nW cW, .slice aS nS cS] 33)).alloc (.cells #[.slice none 0 0, .slice none 0 0] 33)).alloc (.cells #[.int .i64 65536, .int .i64 0] 121) := ⟨_, rfl⟩
  have hb0 : Below P w w0 := by rw [hw0, hP]; exact (((Below.refl w.heap.size w).alloc (Nat.le_refl _) _).alloc (by simp) _).alloc (by simp; omega) _
  have H := hid (h.below (by rw [← hP]; exact hb0))
  have B := hid hb0
  have hs0 : w0.heap.size = P + 3 := by rw [hw0, hP]; simp
  have K := hid (show w0.heap[P]? = some (.cells #[.slice aW nW cW, .slice aS nS cS] 33 (0, 0)) by
    rw [hw0, hP]; exact (Below.heap_alloc _ _ _ (by simp; omega)).trans (heap_alloc2_old w _ _))
  have R := hid (show w0.heap[P + 1]? = some (.cells #[.slice none 0 0, .slice none 0 0] 33 (0, 0)) by
    rw [hw0, hP]; exact (Below.heap_alloc _ _ _ (by simp)).trans (heap_alloc2_new w _ _))
  have E := hid (show w0.heap[P + 2]? = some (.cells #[.int .i64 65536, .int .i64 0] 121 (0, 0)) by
    have := heap_alloc_new ((w.alloc (.cells #[.slice aW nW cW, .slice aS nS cS] 33)).alloc (.cells #[.slice none 0 0, .slice none 0 0] 33)) (.cells #[.int .i64 65536, .int .i64 0] 121)
    rw [hw0, hP]; simpa using this)
  have HD := hid h
  have HP := hid hP
  clear h hb0
  have HV := hid hv
  have BST := hid (bst_some hr hn hm (hv _ hm).2 hmin)
  have HM := hid hm
  have hm1 := (hv _ hm).2
  have hm0 := (hv _ hm).1
  simp only at hm0 hm1
  have HN := hid hn
  clear hv hr hmin hm hn
  go_enter Try.func34, Try.ntmps34
  go_wp2_with fail
  rw [← hw0, ← hP]
  clear hw0 hP
  go_loopw [18] (fun i wr => ∃ (k : Nat) (bf bg : Int), k ≤ nW ∧ bf ≤ 65536 ∧ i = .int .i64 k ∧ Hid (bst S (V.take k) = (bf, bg)) ∧ Hid (wr.heap[P + 2]? = some (.cells #[.int .i64 bf, .int .i64 bg] 121 (0, 0))) ∧ Hid (Below (P + 2) w0 wr) ∧ P + 3 ≤ wr.heap.size) (fun i _ => nW - (intOf i).toNat)
  case atStart => exact ⟨0, 65536, 0, by omega, by omega, rfl, hid rfl, E, hid (Below.refl _ _), by omega⟩
  case round =>
    clear E
    obtain ⟨k, bf, bg, hk, hbf, rfl, F, E, BR, hs⟩ := hrel
    have KR := hid ((BR.out.block P (by omega)).trans K.out)
    have RR := hid ((BR.out.block (P + 1) (by omega)).trans R.out)
    have BW := hid (B.out.trans (BR.out.mono (by omega)))
    have HR := hid (HD.out.below (by rw [← HP.out]; exact BW.out))
    by_cases hlt : k < nW
    · obtain ⟨a, c, e, _, hh⟩ := HR.out.hw
      simp only [Value.slice.injEq] at e
      obtain ⟨rfl, e2, rfl⟩ := e
      clear e2
      obtain ⟨g, off, rfl, _, hc⟩ := hh (by have := HNW.out; omega)
      obtain ⟨h0, h1⟩ := hc k (by have := HNW.out; omega)
      have T := hid (w_take (es := V) (k := k) (by have := HNW.out; omega))
      have M := hid (wAt_mem (V := V) (k := k) (by have := HNW.out; omega))
      generalize wAt V k = ev at *
      obtain ⟨x, y1⟩ := ev
      simp only at h0 h1
      have hx1 := (HV.out _ M.out).2
      have hx0 := (HV.out _ M.out).1
      simp only at hx0 hx1
      have hge : w.heap.size ≤ wr.heap.size := by have := HP.out; omega
      have B2 := hid (BR.out.alloc (by omega) (.cells #[.int .i64 x, .int .i64 y1] 121))
      have H2 := hid (HR.out.below (bl_al wr (.cells #[.int .i64 x, .int .i64 y1] 121)))
      have K2 := hid ((Below.heap_alloc wr (.cells #[.int .i64 x, .int .i64 y1] 121) _ (by omega)).trans KR.out)
      have E2 := hid ((Below.heap_alloc wr (.cells #[.int .i64 x, .int .i64 y1] 121) _ (by omega)).trans E.out)
      have N2 := hid (heap_alloc_new wr (.cells #[.int .i64 x, .int .i64 y1] 121))
      have hs2 : (wr.alloc (.cells #[.int .i64 x, .int .i64 y1] 121)).heap.size = wr.heap.size + 1 := by simp
      have y0 := blk_cell K2.out (i := 0) rfl
      have z0 := blk_cell K2.out (i := 1) rfl
      clear hh hc BR HR KR RR BW E M
      obtain ⟨b, hb⟩ : ∃ b, decide (x ∈ S) = b := ⟨_, rfl⟩
      have HB := hid hb
      have F2 := hid (show bst S (V.take (k + 1)) = bstep S (bf, bg) (x, y1) by rw [T.out, bst_snoc, F.out])
      clear hb T
      go_wp2_with fail
      refine (ris _ _ _ V S H2.out x b HB.out).mono ?_
      rintro e w3 ⟨rfl, h3⟩
      have B3 := hid (B2.out.trans (h3.mono (by omega)))
      have E3 := hid ((h3.block _ (by omega)).trans E2.out)
      have N3 := hid ((h3.block _ (by omega)).trans N2.out)
      have hs3 : P + 3 ≤ w3.heap.size := by have := h3.size; omega
      clear h3 B2 H2 K2 E2 N2 hs2 y0 z0 h0 h1
      cases b
      · have F3 := hid (show bst S (V.take (k + 1)) = (bf, bg) by rw [F2.out]; exact if_neg (fun q => by have := HB.out; simp [q.1] at this))
        clear F F2 N3
        go_wp2_with fail
        go_roundw
        case rel => exact ⟨k + 1, bf, bg, by omega, hbf, by go_num, F3, E3, B3, hs3⟩
        case measure => simp [intOf]; omega
      · have u0 := blk_cell N3.out (i := 0) rfl
        have u1 := blk_cell N3.out (i := 1) rfl
        have t0 := blk_cell E3.out (i := 0) rfl
        have t1 := blk_cell E3.out (i := 1) rfl
        by_cases hxb : x < bf
        · have F3 := hid (show bst S (V.take (k + 1)) = (x, y1) by rw [F2.out]; exact if_pos ⟨by simpa using HB.out, hxb⟩)
          have f0 : w3.frozen? ⟨P + 2, 0, none⟩ = false := blk_free E3.out
          have f1 : w3.frozen? ⟨P + 2, 1, none⟩ = false := blk_free E3.out
          have E4 := hid (show (w3.setRow (P + 2) #[.int .i64 x, .int .i64 y1]).heap[P + 2]? = some (.cells #[.int .i64 x, .int .i64 y1] 121 (0, 0)) from setRow_heap _ _ _ _ _ _ E3.out)
          have B4 := hid (row_below B3.out (Nat.le_refl _) #[.int .i64 x, .int .i64 y1])
          have s4 : P + 3 ≤ (w3.setRow (P + 2) #[.int .i64 x, .int .i64 y1]).heap.size := by rw [row_size]; omega
          clear F F2 B3
          go_wp2_with (first
            | (refine wpList_store_row rfl 121 (.tmp 6) (.tmp 33) rfl (P + 2) #[.int .i64 x, .int .i64 y1] rfl rfl 121 _ E3.out (by kernel_rfl) (by rfl) (by simp [Value.oneCell']) ?_))
          go_roundw
          case rel => exact ⟨k + 1, x, y1, by omega, by omega, by go_num, F3, E4, B4, s4⟩
          case measure => simp [intOf]; omega
        · have F3 := hid (show bst S (V.take (k + 1)) = (bf, bg) by rw [F2.out]; exact if_neg (fun q => hxb q.2))
          clear F F2 N3
          go_wp2_with fail
          go_roundw
          case rel => exact ⟨k + 1, bf, bg, by omega, hbf, by go_num, F3, E3, B3, hs3⟩
          case measure => simp [intOf]; omega
    · obtain rfl : k = nW := by omega
      rw [List.take_of_length_le (by have := HNW.out; omega)] at F
      have hbe := F.out
      rw [BST.out, Prod.mk.injEq] at hbe
      obtain ⟨rfl, rfl⟩ := hbe
      have t0 := blk_cell E.out (i := 0) rfl
      have hne : (m == 65536) = false := beq_eq_false_iff_ne.2 (by omega)
      obtain ⟨Q, hQ⟩ : ∃ Q, Q = wr.heap.size := ⟨_, rfl⟩
      obtain ⟨w1, hw1⟩ : ∃ w1, w1 = wr.alloc (.cells #[.slice none 0 0, .slice none 0 0] 33) := ⟨_, rfl⟩
      have Q1 := hid (show w1.heap[Q]? = some (.cells #[.slice none 0 0, .slice none 0 0] 33 (0, 0)) by rw [hw1, hQ]; exact heap_alloc_new _ _)
      have hbq : Below Q wr w1 := by rw [hw1, hQ]; exact bl_al _ _
      have hs1 : w1.heap.size = Q + 1 := by rw [hw1, hQ]; simp
      have hPQ : P + 3 ≤ Q := by omega
      have K1 := hid ((hbq.block P (by omega)).trans KR.out)
      have R1 := hid ((hbq.block (P + 1) (by omega)).trans RR.out)
      have E1 := hid ((hbq.block (P + 2) (by omega)).trans E.out)
      have B1 := hid (show Below w.heap.size w w1 by have := BW.out; rw [HP.out] at this; exact this.trans (hbq.mono (by have := HP.out; omega)))
      have H1 := hid (HD.out.below B1.out)
      have y0 : (wr.alloc (.cells #[.slice none 0 0, .slice none 0 0] 33)).cell? ⟨P, 0, none⟩ = some (.slice aW k cW) := by rw [← hw1]; exact blk_cell K1.out rfl
      clear HR BR KR RR E BW B F H hbq
      go_wp2_with fail
      rw [← hw1, ← hQ]
      clear hw1 hQ t0 y0
      obtain ⟨i0, hi, hz0, hz1, hz2⟩ := info_parts infoW
      have HI := hid (And.intro hi (And.intro hz0 (And.intro hz1 hz2)))
      clear hi hz0 hz1 hz2
      go_loopw [42] (fun i wr => ∃ (j n : Nat) (a : Option Addr) (c : Nat), j ≤ k ∧ n ≤ j ∧ i = .int .i64 j ∧ Hid (((V.take j).filter fun e => !(e.1 == m)).length = n) ∧ Hid (wr.heap[Q]? = some (.cells #[.slice a n c, .slice none 0 0] 33 (0, 0))) ∧
          Hid (wr.ownsRow (Q + 1) 121 2 (.slice a n c) n (fw ((V.take j).filter fun e => !(e.1 == m)))) ∧ Hid (Below Q w1 wr) ∧ Q + 1 ≤ wr.heap.size) (fun i _ => k - (intOf i).toNat)
      case atStart => exact ⟨0, 0, none, 0, by omega, by omega, rfl, hid (by simp), Q1, hid ⟨by simp [fw], .inl ⟨rfl, by simp [fw]⟩⟩, hid (Below.refl _ _), by omega⟩
      case round =>
        clear Q1
        obtain ⟨j, n, a, c, hj, hnj, rfl, LN, QR, OW, BR, hsr⟩ := hrel
        have BW := hid (B1.out.trans (BR.out.mono (by have := HP.out; omega)))
        have HR := hid (HD.out.below BW.out)
        have K2 := hid ((BR.out.block P (by omega)).trans K1.out)
        have R2 := hid ((BR.out.block (P + 1) (by omega)).trans R1.out)
        have E2 := hid ((BR.out.block (P + 2) (by omega)).trans E1.out)
        by_cases hlt : j < k
        · obtain ⟨a', c', e, _, hh⟩ := HR.out.hw
          simp only [Value.slice.injEq] at e
          obtain ⟨rfl, e2, rfl⟩ := e
          clear e2
          obtain ⟨g, off, rfl, _, hc⟩ := hh (by have := HNW.out; omega)
          obtain ⟨h0, h1⟩ := hc j (by have := HNW.out; omega)
          have T := hid (w_take (es := V) (k := j) (by have := HNW.out; omega))
          have M := hid (wAt_mem (V := V) (k := j) (by have := HNW.out; omega))
          generalize wAt V j = ev at *
          obtain ⟨x, y2⟩ := ev
          simp only at h0 h1
          have B3 := hid (BR.out.alloc (by omega) (.cells #[.int .i64 x, .int .i64 y2] 121))
          have Q3 := hid ((Below.heap_alloc wr (.cells #[.int .i64 x, .int .i64 y2] 121) _ (by omega)).trans QR.out)
          have E3 := hid ((Below.heap_alloc wr (.cells #[.int .i64 x, .int .i64 y2] 121) _ (by omega)).trans E2.out)
          have O3 := hid (OW.out.alloc (.cells #[.int .i64 x, .int .i64 y2] 121))
          have t0 := blk_cell E3.out (i := 0) rfl
          have t1 := blk_cell E3.out (i := 1) rfl
          clear hh hc BR BW HR K2 R2 E2 QR OW
          by_cases hxm : x = m
          · have hyy : y2 = y := pair_snd HN.out (by have := M.out; rw [hxm] at this; exact this) HM.out
            subst hxm
            subst hyy
            have FE := hid (show (V.take (j + 1)).filter (fun e => !(e.1 == x)) = (V.take j).filter (fun e => !(e.1 == x)) by rw [T.out, List.filter_append]; simp)
            have L4 := hid (show ((V.take (j + 1)).filter fun e => !(e.1 == x)).length = n by rw [FE.out]; exact LN.out)
            have O4 := hid (show (wr.alloc (.cells #[.int .i64 x, .int .i64 y2] 121)).ownsRow (Q + 1) 121 2 (.slice a n c) n (fw ((V.take (j + 1)).filter fun e => !(e.1 == x))) by rw [FE.out]; exact O3.out)
            clear T M FE LN O3
            go_wp2_with fail
            go_roundw
            case rel => exact ⟨j + 1, n, a, c, by omega, by omega, by go_num, L4, Q3, O4, B3, by simp; omega⟩
            case measure => simp [intOf]; omega
          · have hxn : (x == m) = false := by simpa using hxm
            have FE := hid (show (V.take (j + 1)).filter (fun e => !(e.1 == m)) = (V.take j).filter (fun e => !(e.1 == m)) ++ [(x, y2)] by rw [T.out, List.filter_append]; simp [hxm])
            clear T M hxm
            have hO4 := O3.out.alloc (.cells #[.int .i64 x, .int .i64 y2] 121)
            have hs3 : (wr.alloc (.cells #[.int .i64 x, .int .i64 y2] 121)).heap.size = wr.heap.size + 1 := by simp
            have hn4 := hid (heap_alloc_new (wr.alloc (.cells #[.int .i64 x, .int .i64 y2] 121)) (.cells #[.int .i64 x, .int .i64 y2] 121))
            have q0 := blk_cell Q3.out (i := 0) rfl
            have q1 := blk_cell Q3.out (i := 1) rfl
            rw [hs3] at hn4
            go_wp2_with (at_builtin; refine wpList_app rfl _ _ 30 rfl (Q + 1) 121 i0 (.agg #[.int .i64 0, .int .i64 0]) 2 16 Try.underlying30 HI.out.1 HI.out.2.1 HI.out.2.2.1 HI.out.2.2.2 rfl (by decide) _ _ _ rfl hO4 1 [.int .i64 x, .int .i64 y2] _ rfl ⟨_, _, rfl, .inr ⟨⟨wr.heap.size + 1, 0, none⟩, rfl, ?d0⟩⟩ ?d1 ?d2 ?d3 ?d4 ?d5 ?_)
            case d0 =>
              intro j u hj
              rw [Addr.add_lit]
              match j, hj with
              | 0, hj => simp at hj; subst hj; exact blk_cell hn4.out rfl
              | 1, hj => simp at hj; subst hj; exact blk_cell hn4.out rfl
              | j + 2, hj => simp at hj
            case d1 => rfl
            case d2 => intro u hu; simp at hu; rcases hu with rfl | rfl <;> rfl
            case d3 => unfold maxLen; omega
            case d4 => omega
            case d5 => simp; omega
            intro v5 w5 own5 grown5
            have hg5 := grown5.size
            simp only [World.size_alloc] at hg5
            have hlt5 := fun q hq => (World.ownsRow.lt hO4 q hq).1
            obtain ⟨a5, c5, rfl⟩ : ∃ a c, v5 = .slice a (n + 1) c := by
              obtain ⟨q0, ⟨q1, q2⟩ | ⟨q, cap, cur, q1, _⟩⟩ := own5
              · omega
              · exact ⟨_, _, q1⟩
            have Q5 := hid ((grown5.block Q (by simp; omega) (fun e => by have := hlt5 _ e.symm; omega)).trans ((Below.heap_alloc _ _ _ (by simp; omega)).trans Q3.out))
            have B5 := hid ((B3.out.alloc (by simp; omega) (.cells #[.int .i64 x, .int .i64 y2] 121)).grown grown5 (by simp; omega) (fun q hq => by have := hlt5 q hq; omega))
            have L5 := hid (show ((V.take (j + 1)).filter fun e => !(e.1 == m)).length = n + 1 by rw [FE.out, List.length_append, LN.out]; rfl)
            have O5 := hid (show w5.ownsRow (Q + 1) 121 2 (.slice a5 (n + 1) c5) (n + 1) (fw ((V.take (j + 1)).filter fun e => !(e.1 == m))) by
              rw [FE.out, fw_app]; exact own5)
            have Q6 := hid (blk_set (i := 0) (.slice a5 (n + 1) c5) Q5.out (show (#[.slice a n c, .slice none 0 0] : Array Value).setIfInBounds 0 (.slice a5 (n + 1) c5) = #[.slice a5 (n + 1) c5, .slice none 0 0] from rfl))
            have O6 := hid (ownP_kept O5.out (w' := w5.setCell ⟨Q, 0, none⟩ (.slice a5 (n + 1) c5)) (fun q hq => heap_setCell_other _ _ _ _ (by have := (World.ownsRow.lt O5.out q hq).1; simp; omega)))
            have B6 := hid (B5.out.setCell (p := ⟨Q, 0, none⟩) (Nat.le_refl _) (.slice a5 (n + 1) c5))
            have q0 := blk_cell Q5.out (i := 0) rfl
            have q1 := blk_cell Q5.out (i := 1) rfl
            have f0 : w5.frozen? ⟨Q, 0, none⟩ = false := blk_free Q5.out
            clear own5 grown5 hO4 hn4 O3 O5 B3 B5 Q3 FE LN hlt5 t0 t1 E3
            go_wp2_with fail
            go_roundw
            case rel => exact ⟨j + 1, n + 1, a5, c5, by omega, by omega, by go_num, L5, Q6, O6, B6, by simp; omega⟩
            case measure => simp [intOf]; omega
        · obtain rfl : j = k := by omega
          rw [List.take_of_length_le (by have := HNW.out; omega)] at LN OW
          have QB := hid (fun q hq => World.ownsRow.lt OW.out q hq)
          obtain ⟨w2, hw2⟩ : ∃ w2, w2 = wr := ⟨_, rfl⟩
          obtain ⟨Q2, hQ2⟩ : ∃ Q2, Q2 = w2.heap.size := ⟨_, rfl⟩
          have hQQ : Q + 1 ≤ Q2 := by rw [hQ2, hw2]; exact hsr
          have HQ2 := hid hQ2
          subst hw2
          have y1 := blk_cell K2.out (i := 1) rfl
          obtain ⟨i1, hi, hz0, hz1, hz2⟩ := info_parts infoIntP
          have HJ := hid (And.intro hi (And.intro hz0 (And.intro hz1 hz2)))
          clear hi hz0 hz1 hz2 hQ2
          go_wp2_with fail
          go_loopw [59] (fun i wr => ∃ (t n3 : Nat) (a3 : Option Addr) (c3 : Nat), t ≤ nS ∧ n3 ≤ t ∧ i = .int .i64 t ∧ Hid (((S.take t).filter fun a => !(a == m)).length = n3) ∧ Hid (wr.heap[Q]? = some (.cells #[.slice a n c, .slice a3 n3 c3] 33 (0, 0))) ∧
              Hid (wr.ownsRow Q2 3 1 (.slice a3 n3 c3) n3 (((S.take t).filter fun a => !(a == m)).map (Value.int .i64))) ∧ Hid (∀ q, q < Q2 → q ≠ Q → wr.heap[q]? = w2.heap[q]?) ∧ Hid (Below Q w1 wr) ∧ Q2 ≤ wr.heap.size) (fun i _ => nS - (intOf i).toNat)
          case atStart => exact ⟨0, 0, none, 0, by omega, by omega, rfl, hid (by simp), QR, hid ⟨by simp, .inl ⟨rfl, by simp⟩⟩, hid (fun _ _ _ => rfl), BR, by rw [HQ2.out]; exact Nat.le_refl _⟩
          case round =>
            clear QR
            obtain ⟨t, n3, a3, c3, ht, hnt, rfl, L3, Q3, O3, G3, B3, hs3⟩ := hrel
            have BW3 := hid (B1.out.trans (B3.out.mono (by have := HP.out; omega)))
            have H3 := hid (HD.out.below BW3.out)
            have E3 := hid ((B3.out.block (P + 2) (by omega)).trans E1.out)
            have R3 := hid ((B3.out.block (P + 1) (by omega)).trans R1.out)
            have t0 := blk_cell E3.out (i := 0) rfl
            by_cases hlt : t < nS
            · obtain ⟨a', c', e, _, hh⟩ := H3.out.hs
              simp only [Value.slice.injEq] at e
              obtain ⟨rfl, e2, rfl⟩ := e
              clear e2
              obtain ⟨g, off, rfl, _, hc⟩ := hh (by have := HNS.out; omega)
              have h0 := hc t (by have := HNS.out; omega)
              have T := hid (show S.take (t + 1) = S.take t ++ [S.getD t 0] by
                rw [List.take_add_one, List.getElem?_eq_getElem (show t < S.length by have := HNS.out; omega)]
                simp [List.getElem?_eq_getElem (show t < S.length by have := HNS.out; omega)])
              generalize S.getD t 0 = x at *
              clear hh hc BW3 H3 R3
              by_cases hxm : x = m
              · subst hxm
                have FE := hid (show (S.take (t + 1)).filter (fun a => !(a == x)) = (S.take t).filter (fun a => !(a == x)) by rw [T.out, List.filter_append]; simp)
                have L4 := hid (show ((S.take (t + 1)).filter fun a => !(a == x)).length = n3 by rw [FE.out]; exact L3.out)
                have O4 := hid (show wr.ownsRow Q2 3 1 (.slice a3 n3 c3) n3 (((S.take (t + 1)).filter fun a => !(a == x)).map (Value.int .i64)) by rw [FE.out]; exact O3.out)
                clear T FE L3 O3
                go_wp2_with fail
                go_roundw
                case rel => exact ⟨t + 1, n3, a3, c3, by omega, by omega, by go_num, L4, Q3, O4, G3, B3, hs3⟩
                case measure => simp [intOf]; omega
              · have hxn : (x != m) = true := by simpa using hxm
                have FE := hid (show (S.take (t + 1)).filter (fun a => !(a == m)) = (S.take t).filter (fun a => !(a == m)) ++ [x] by rw [T.out, List.filter_append]; simp [hxm])
                clear T hxm
                have hO4 := O3.out.alloc (.cells #[.int .i64 x] 3)
                have hn4 := hid (heap_alloc_new wr (.cells #[.int .i64 x] 3))
                have q0 := blk_cell Q3.out (i := 0) rfl
                have q1 := blk_cell Q3.out (i := 1) rfl
                go_wp2_with (at_builtin; refine wpList_app rfl _ _ 31 rfl Q2 3 i1 (.int .i64 0) 1 8 Try.underlying31 HJ.out.1 HJ.out.2.1 HJ.out.2.2.1 HJ.out.2.2.2 rfl (by decide) _ _ _ rfl hO4 1 [.int .i64 x] _ rfl ⟨_, _, rfl, .inr ⟨⟨wr.heap.size, 0, none⟩, rfl, ?d0⟩⟩ ?d1 ?d2 ?d3 ?d4 ?d5 ?_)
                case d0 =>
                  intro j u hj
                  rw [Addr.add_lit]
                  match j, hj with
                  | 0, hj => simp at hj; subst hj; exact blk_cell hn4.out rfl
                  | j + 1, hj => simp at hj
                case d1 => rfl
                case d2 => intro u hu; simp at hu; subst hu; rfl
                case d3 => unfold maxLen; omega
                case d4 => omega
                case d5 => simp; omega
                intro v5 w5 own5 grown5
                have hg5 := grown5.size
                simp only [World.size_alloc] at hg5
                have hlt5 := fun q hq => (World.ownsRow.lt hO4 q hq).1
                obtain ⟨a5, c5, rfl⟩ : ∃ a c, v5 = .slice a (n3 + 1) c := by
                  obtain ⟨q0, ⟨q1, q2⟩ | ⟨q, cap, cur, q1, _⟩⟩ := own5
                  · omega
                  · exact ⟨_, _, q1⟩
                have Q5 := hid ((grown5.block Q (by simp; omega) (fun e => by have := hlt5 _ e.symm; omega)).trans ((Below.heap_alloc _ _ _ (by omega)).trans Q3.out))
                have B5 := hid ((B3.out.alloc (by omega) (.cells #[.int .i64 x] 3)).grown grown5 (by simp; omega) (fun q hq => by have := hlt5 q hq; omega))
                have L5 := hid (show ((S.take (t + 1)).filter fun a => !(a == m)).length = n3 + 1 by rw [FE.out, List.length_append, L3.out]; rfl)
                have O5 := hid (show w5.ownsRow Q2 3 1 (.slice a5 (n3 + 1) c5) (n3 + 1) (((S.take (t + 1)).filter fun a => !(a == m)).map (Value.int .i64)) by
                  rw [FE.out, List.map_append]; exact own5)
                have Q6 := hid (blk_set (i := 1) (.slice a5 (n3 + 1) c5) Q5.out (show (#[.slice a n c, .slice a3 n3 c3] : Array Value).setIfInBounds 1 (.slice a5 (n3 + 1) c5) = #[.slice a n c, .slice a5 (n3 + 1) c5] from rfl))
                have O6 := hid (ownP_kept O5.out (w' := w5.setCell ⟨Q, 1, none⟩ (.slice a5 (n3 + 1) c5)) (fun q hq => heap_setCell_other _ _ _ _ (by have := (World.ownsRow.lt O5.out q hq).1; simp; omega)))
                have B6 := hid (B5.out.setCell (p := ⟨Q, 1, none⟩) (Nat.le_refl _) (.slice a5 (n3 + 1) c5))
                have G6 := hid (show ∀ q, q < Q2 → q ≠ Q → (w5.setCell ⟨Q, 1, none⟩ (.slice a5 (n3 + 1) c5)).heap[q]? = w2.heap[q]? from fun q h1 h2 => by
                  rw [heap_setCell_other _ _ _ _ (by simpa using h2), grown5.block q (by simp; omega) (fun e => by have := hlt5 _ e.symm; omega), Below.heap_alloc _ _ _ (by omega)]
                  exact G3.out q h1 h2)
                have q0 := blk_cell Q5.out (i := 0) rfl
                have q1 := blk_cell Q5.out (i := 1) rfl
                have f0 : w5.frozen? ⟨Q, 1, none⟩ = false := blk_free Q5.out
                clear own5 grown5 hO4 hn4 O3 O5 B3 B5 Q3 FE L3 hlt5 t0 E3 G3
                go_wp2_with fail
                go_roundw
                case rel => exact ⟨t + 1, n3 + 1, a5, c5, by omega, by omega, by go_num, L5, Q6, O6, G6, B6, by simp; omega⟩
                case measure => simp [intOf]; omega
            · obtain rfl : t = nS := by omega
              rw [List.take_of_length_le (by have := HNS.out; omega)] at L3 O3
              have t1 := blk_cell E3.out (i := 1) rfl
              have q0 := blk_cell Q3.out (i := 0) rfl
              have q1 := blk_cell Q3.out (i := 1) rfl
              have r0 := blk_cell R3.out (i := 0) rfl
              have r1 := blk_cell R3.out (i := 1) rfl
              have f0 : wr.frozen? ⟨P + 1, 0, none⟩ = false := blk_free R3.out
              have f1 : wr.frozen? ⟨P + 1, 1, none⟩ = false := blk_free R3.out
              have R4 := hid (blk_set (w := wr) (i := 0) (.slice a n c) R3.out (show (#[.slice none 0 0, .slice none 0 0] : Array Value).setIfInBounds 0 (.slice a n c) = #[.slice a n c, .slice none 0 0] from rfl))
              have R5 := hid (show ((wr.setCell ⟨P + 1, 0, none⟩ (.slice a n c)).setCell ⟨P + 1, 1, none⟩ (.slice a3 n3 c3)).drew.heap[P + 1]? = some (.cells #[.slice a n c, .slice a3 n3 c3] 33 (0, 0)) from blk_set (w := wr.setCell ⟨P + 1, 0, none⟩ (.slice a n c)) (i := 1) (.slice a3 n3 c3) R4.out rfl)
              have FIN := hid (show TpPost w (.slice aW j cW) (.slice aS t cS) (V.filter fun e => !(e.1 == m)) (S.filter fun a => !(a == m)) m y true (.returned (.tuple #[.agg #[.slice a n c, .slice a3 n3 c3], .int .i64 m, .int .i64 y, .bool true])) ((wr.setCell ⟨P + 1, 0, none⟩ (.slice a n c)).setCell ⟨P + 1, 1, none⟩ (.slice a3 n3 c3)).drew from by
                have BF := ((BW3.out.setCell (p := ⟨P + 1, 0, none⟩) (by have := HP.out; simp; omega) (.slice a n c)).setCell (p := ⟨P + 1, 1, none⟩) (by have := HP.out; simp; omega) (.slice a3 n3 c3)).trans (bl_drw _ w.heap.size)
                have kp : ∀ q, q ≠ P + 1 → ((wr.setCell ⟨P + 1, 0, none⟩ (.slice a n c)).setCell ⟨P + 1, 1, none⟩ (.slice a3 n3 c3)).drew.heap[q]? = wr.heap[q]? := fun q hq => by
                  show ((wr.setCell ⟨P + 1, 0, none⟩ (.slice a n c)).setCell ⟨P + 1, 1, none⟩ (.slice a3 n3 c3)).heap[q]? = _
                  rw [heap_setCell_other _ _ _ _ (by simpa using hq), heap_setCell_other _ _ _ _ (by simpa using hq)]
                have OWF : ((wr.setCell ⟨P + 1, 0, none⟩ (.slice a n c)).setCell ⟨P + 1, 1, none⟩ (.slice a3 n3 c3)).drew.ownsRow (Q + 1) 121 2 (.slice a n c) n (fw (V.filter fun e => !(e.1 == m))) := ownP_kept OW.out (fun q hq => by
                  have h1 := QB.out q hq
                  rw [kp q (by omega), G3.out q (by rw [HQ2.out]; exact h1.2) (by omega)])
                have OSF : ((wr.setCell ⟨P + 1, 0, none⟩ (.slice a n c)).setCell ⟨P + 1, 1, none⟩ (.slice a3 n3 c3)).drew.ownsRow Q2 3 1 (.slice a3 n3 c3) n3 ((S.filter fun a => !(a == m)).map (Value.int .i64)) := ownP_kept O3.out (fun q hq => by
                  have h1 := (World.ownsRow.lt O3.out q hq).1
                  rw [kp q (by omega)])
                refine ⟨_, _, rfl, ⟨readsQ OWF LN.out, readsP OSF L3.out, by rw [LN.out]; have := LN.out; omega, by rw [L3.out]; omega⟩, BF, fun q hq => .inr ?_, fun q hq => .inr ?_⟩
                · have h1 := QB.out q hq; have := HP.out; have := BF.size; have e : ((wr.setCell ⟨P + 1, 0, none⟩ (.slice a n c)).setCell ⟨P + 1, 1, none⟩ (.slice a3 n3 c3)).drew.heap.size = wr.heap.size := by simp [World.setCell, World.drew]
                  have h2 := HQ2.out; have h3 : Q2 ≤ wr.heap.size := by omega
                  omega
                · have h1 := World.ownsRow.lt O3.out q hq; have := HP.out; have e : ((wr.setCell ⟨P + 1, 0, none⟩ (.slice a n c)).setCell ⟨P + 1, 1, none⟩ (.slice a3 n3 c3)).drew.heap.size = wr.heap.size := by simp [World.setCell, World.drew]
                  omega)
              clear BW3 H3 B3 OW QB G3 O3 HD R4
              go_wp2_with fail
              go_region
              all_goals
                go_wp2
                refine bodyPost_ret (v := .tuple #[.agg #[.slice a n c, .slice a3 n3 c3], .int .i64 m, .int .i64 y, .bool true]) ?_ rfl FIN.out
                refine results_row3 (p := 2) (u := 3) (v := 4) (x := 5) rfl _ _ (P + 1) 33 #[.slice a n c, .slice a3 n3 c3] (0, 0) _ ?_ R5.out Try.underlying33 rfl (by kernel_rfl) _ _ _ ?_ ?_ ?_ <;> rfl
end Go.Proofs.Ytaogpodncphpjaa
