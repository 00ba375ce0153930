/- The document's timers by value: Take that takes one. -/
import Derived.Test.YtaogpodncphpjaaPre2
import Derived.Deep.QuietTactic
import Derived.BigQuiet
namespace Go.Proofs.Ytaogpodncphpjaa
set_option linter.unusedVariables false
set_option linter.unusedSimpArgs false
open Go.RowKit Tk
/-- All but those with one entry. -/
def butE (y : En) (D : List Tr) : List Tr := D.filter fun x => !(x.2 == y)
theorem butE_app (y : En) (D : List Tr) (x : Tr) : butE y (D ++ [x]) = butE y D ++ (if x.2 = y then [] else [x]) := by
  simp only [butE, List.filter_append]
  congr 1
  by_cases h : x.2 = y
  · simp [List.filter, h]
  · have hb : (x.2 == y) = false := by simpa using h
    simp [List.filter, h, hb]
theorem butE_len (y : En) (D : List Tr) : (butE y D).length ≤ D.length := List.length_filter_le ..
/-- What the stores at the end leave. -/
theorem tt_fin {w wr : World} (v0 : Value) {P Q n3 c3 : Nat} {a3 : Option Addr} {N o y1 y2 y3 : Int} {D' : List Tr} (hP : P = w.heap.size) (BW : Below P w wr)
    (RR : wr.heap[P + 1]? = some (.cells #[.int .i64 0, .slice none 0 0, .int .u64 0] 29 (0, 0))) (ER : wr.heap[P + 1 + 1]? = some (.cells #[.int .i64 0, .int .u64 0, .int .i64 0] 51 (0, 0)))
    (OW : wr.ownsRow Q 53 4 (.slice a3 n3 c3) n3 (ft D')) (hQ : P + 3 ≤ Q) (hl : D'.length = n3) (hn : n3 ≤ 1000) :
    (((((((wr.setCell ⟨P, 1, none⟩ (.slice a3 n3 c3)).setCell ⟨P + 1, 0, none⟩ (.int .i64 N)).setCell ⟨P + 1, 1, none⟩ (.slice a3 n3 c3)).setCell ⟨P + 1, 2, none⟩ (.int .u64 o)).setCell ⟨P + 1 + 1, 0, none⟩ (.int .i64 y1)).setCell ⟨P + 1 + 1, 1, none⟩ (.int .u64 y2)).setCell ⟨P + 1 + 1, 2, none⟩ (.int .i64 y3)).drew.heap[P + 1]? = some (.cells #[.int .i64 N, .slice a3 n3 c3, .int .u64 o] 29 (0, 0)) ∧ (((((((wr.setCell ⟨P, 1, none⟩ (.slice a3 n3 c3)).setCell ⟨P + 1, 0, none⟩ (.int .i64 N)).setCell ⟨P + 1, 1, none⟩ (.slice a3 n3 c3)).setCell ⟨P + 1, 2, none⟩ (.int .u64 o)).setCell ⟨P + 1 + 1, 0, none⟩ (.int .i64 y1)).setCell ⟨P + 1 + 1, 1, none⟩ (.int .u64 y2)).setCell ⟨P + 1 + 1, 2, none⟩ (.int .i64 y3)).drew.heap[P + 1 + 1]? = some (.cells #[.int .i64 y1, .int .u64 y2, .int .i64 y3] 51 (0, 0)) ∧
    TtPost w v0 D' N o (y1, y2, y3) true (.returned (.tuple #[.agg #[.int .i64 N, .slice a3 n3 c3, .int .u64 o], .agg #[.int .i64 y1, .int .u64 y2, .int .i64 y3], .bool true])) (((((((wr.setCell ⟨P, 1, none⟩ (.slice a3 n3 c3)).setCell ⟨P + 1, 0, none⟩ (.int .i64 N)).setCell ⟨P + 1, 1, none⟩ (.slice a3 n3 c3)).setCell ⟨P + 1, 2, none⟩ (.int .u64 o)).setCell ⟨P + 1 + 1, 0, none⟩ (.int .i64 y1)).setCell ⟨P + 1 + 1, 1, none⟩ (.int .u64 y2)).setCell ⟨P + 1 + 1, 2, none⟩ (.int .i64 y3)).drew := by
  have h0 := (heap_setCell_other wr ⟨P, 1, none⟩ (P + 1) (.slice a3 n3 c3) (by simp)).trans RR
  have h1 := blk_set (i := 0) (.int .i64 N) h0 (show (#[.int .i64 0, .slice none 0 0, .int .u64 0] : Array Value).setIfInBounds 0 (.int .i64 N) = #[.int .i64 N, .slice none 0 0, .int .u64 0] from rfl)
  have h2 := blk_set (i := 1) (.slice a3 n3 c3) h1 (show (#[.int .i64 N, .slice none 0 0, .int .u64 0] : Array Value).setIfInBounds 1 (.slice a3 n3 c3) = #[.int .i64 N, .slice a3 n3 c3, .int .u64 0] from rfl)
  have h3 := blk_set (i := 2) (.int .u64 o) h2 (show (#[.int .i64 N, .slice a3 n3 c3, .int .u64 0] : Array Value).setIfInBounds 2 (.int .u64 o) = #[.int .i64 N, .slice a3 n3 c3, .int .u64 o] from rfl)
  have o0 : ∀ (x : Nat) (W : World) (i : Nat) (v : Value), x ≠ P + 1 + 1 → (W.setCell ⟨P + 1 + 1, i, none⟩ v).heap[x]? = W.heap[x]? := fun x W i v hx => heap_setCell_other _ _ _ _ (by simpa using hx)
  have o1 : ∀ (x : Nat) (W : World) (i : Nat) (v : Value), x ≠ P + 1 → (W.setCell ⟨P + 1, i, none⟩ v).heap[x]? = W.heap[x]? := fun x W i v hx => heap_setCell_other _ _ _ _ (by simpa using hx)
  have o2 : ∀ (x : Nat) (W : World) (i : Nat) (v : Value), x ≠ P → (W.setCell ⟨P, i, none⟩ v).heap[x]? = W.heap[x]? := fun x W i v hx => heap_setCell_other _ _ _ _ (by simpa using hx)
  have e0 : ((((wr.setCell ⟨P, 1, none⟩ (.slice a3 n3 c3)).setCell ⟨P + 1, 0, none⟩ (.int .i64 N)).setCell ⟨P + 1, 1, none⟩ (.slice a3 n3 c3)).setCell ⟨P + 1, 2, none⟩ (.int .u64 o)).heap[P + 1 + 1]? = some (.cells #[.int .i64 0, .int .u64 0, .int .i64 0] 51 (0, 0)) := by
    rw [o1 _ _ _ _ (by omega), o1 _ _ _ _ (by omega), o1 _ _ _ _ (by omega), o2 _ _ _ _ (by omega)]
    exact ER
  have e1 := blk_set (i := 0) (.int .i64 y1) e0 (show (#[.int .i64 0, .int .u64 0, .int .i64 0] : Array Value).setIfInBounds 0 (.int .i64 y1) = #[.int .i64 y1, .int .u64 0, .int .i64 0] from rfl)
  have e2 := blk_set (i := 1) (.int .u64 y2) e1 (show (#[.int .i64 y1, .int .u64 0, .int .i64 0] : Array Value).setIfInBounds 1 (.int .u64 y2) = #[.int .i64 y1, .int .u64 y2, .int .i64 0] from rfl)
  have e3 := blk_set (i := 2) (.int .i64 y3) e2 (show (#[.int .i64 y1, .int .u64 y2, .int .i64 0] : Array Value).setIfInBounds 2 (.int .i64 y3) = #[.int .i64 y1, .int .u64 y2, .int .i64 y3] from rfl)
  have hd : ∀ (W : World) (x : Nat), W.drew.heap[x]? = W.heap[x]? := fun _ _ => rfl
  have bs : ∀ (W : World) (x i : Nat) (v : Value), Below w.heap.size w W → P ≤ x → Below w.heap.size w (W.setCell ⟨x, i, none⟩ v) := fun W x i v hb hx => hb.setCell (p := ⟨x, i, none⟩) (by rw [← hP]; exact hx) v
  have b0 : Below w.heap.size w wr := by rw [← hP]; exact BW
  have BF : Below w.heap.size w (((((((wr.setCell ⟨P, 1, none⟩ (.slice a3 n3 c3)).setCell ⟨P + 1, 0, none⟩ (.int .i64 N)).setCell ⟨P + 1, 1, none⟩ (.slice a3 n3 c3)).setCell ⟨P + 1, 2, none⟩ (.int .u64 o)).setCell ⟨P + 1 + 1, 0, none⟩ (.int .i64 y1)).setCell ⟨P + 1 + 1, 1, none⟩ (.int .u64 y2)).setCell ⟨P + 1 + 1, 2, none⟩ (.int .i64 y3)).drew := (bs _ _ _ _ (bs _ _ _ _ (bs _ _ _ _ (bs _ _ _ _ (bs _ _ _ _ (bs _ _ _ _ (bs _ _ _ _ b0 (Nat.le_refl _)) (by omega)) (by omega)) (by omega)) (by omega)) (by omega)) (by omega)).trans (bl_drw _ w.heap.size)
  refine ⟨?_, ?_, ?_⟩
  · rw [hd, o0 _ _ _ _ (by omega), o0 _ _ _ _ (by omega), o0 _ _ _ _ (by omega)]
    exact h3
  · rw [hd]
    exact e3
  · refine ⟨_, rfl, ⟨readsT (ownT_kept OW (fun q hq => ?_)) hl, by omega⟩, BF, fun q hq => .inr (by have := World.ownsRow.lt OW q hq; simp; omega)⟩
    have h1 := (World.ownsRow.lt OW q hq).1
    rw [hd, o0 _ _ _ _ (by omega), o0 _ _ _ _ (by omega), o0 _ _ _ _ (by omega), o1 _ _ _ _ (by omega), o1 _ _ _ _ (by omega), o1 _ _ _ _ (by omega), o2 _ _ _ _ (by omega)]
set_option maxHeartbeats 8000000 in
theorem rttake_some (w : World) (N o : Int) (v : Value) (D : List Tr) (h : Dt w v D) (now y1 y2 y3 : Int) (l : List En) (hL : sortE (ofL (-1) D) = (y1, y2, y3) :: l) (hnow : y1 ≤ now) :
    Calls Try.prog 33 #[.agg #[.int .i64 N, v, .int .u64 o], .int .i64 now] w (TtPost w v (butE (y1, y2, y3) D) N o (y1, y2, y3) true) := by
  obtain ⟨a, n, c, rfl, HN, lw⟩ := h.sl
  obtain ⟨P, hP⟩ : ∃ P, P = w.heap.size := ⟨_, rfl⟩
  obtain ⟨w0, hw0⟩ : ∃ w0, w0 = ((w.alloc (.cells #[.int .i64 N, .slice a n c, .int .u64 o] 29)).alloc (.cells #[.int .i64 0, .slice none 0 0, .int .u64 0] 29)).alloc (.cells #[.int .i64 0, .int .u64 0, .int .i64 0] 51) := ⟨_, rfl⟩
  have hb0 : Below P w w0 := by rw [hw0, hP]; exact (((Below.refl w.heap.size w).alloc (Nat.le_refl _) _).alloc (by simp) _).alloc (by simp; omega) _
  have H := hid (h.below (by rw [← hP]; exact hb0))
  have hs0 : w0.heap.size = P + 3 := by rw [hw0, hP]; simp
  have K := hid (show w0.heap[P]? = some (.cells #[.int .i64 N, .slice a n c, .int .u64 o] 29 (0, 0)) by
    rw [hw0, hP]; exact (Below.heap_alloc _ _ _ (by simp; omega)).trans (heap_alloc2_old w _ _))
  have R := hid (show w0.heap[P + 1]? = some (.cells #[.int .i64 0, .slice none 0 0, .int .u64 0] 29 (0, 0)) by
    rw [hw0, hP]; exact (Below.heap_alloc _ _ _ (by simp)).trans (heap_alloc2_new w _ _))
  have E := hid (show w0.heap[P + 2]? = some (.cells #[.int .i64 0, .int .u64 0, .int .i64 0] 51 (0, 0)) by
    have := heap_alloc_new ((w.alloc (.cells #[.int .i64 N, .slice a n c, .int .u64 o] 29)).alloc (.cells #[.int .i64 0, .slice none 0 0, .int .u64 0] 29)) (.cells #[.int .i64 0, .int .u64 0, .int .i64 0] 51)
    rw [hw0, hP]; simpa using this)
  have B := hid hb0
  have HD := hid h
  have HP := hid hP
  clear h hb0
  go_enter Try.func33, Try.ntmps33
  go_wp2_with (refine wpList_load_known (by rfl) 29 (.tmp 2) rfl w.heap.size rfl 29 #[.int .i64 N, .slice a n c, .int .u64 o] (0, 0) _ (by rw [← hw0, ← hP]; exact K.out) Try.underlying29 rfl (by kernel_rfl) ?_)
  rw [← hw0, ← hP]
  clear hw0
  refine (rtof_any _ N o _ D H.out (-1)).mono ?_
  rintro e w2 ⟨va, rfl, hr, hb⟩
  have hs2 : P + 3 ≤ w2.heap.size := by have := hb.size; omega
  have K2 := hid ((hb.block _ (by omega)).trans K.out)
  have R2 := hid ((hb.block _ (by omega)).trans R.out)
  have E2 := hid ((hb.block _ (by omega)).trans E.out)
  have B2 := hid (B.out.trans (hb.mono (by omega)))
  clear hb K R E B H hP hs0
  rw [hL] at hr
  obtain ⟨a1, c1, rfl, hc1, hm1, hr1⟩ := hr
  unfold maxLen at hm1
  obtain ⟨g, off, rfl, hgl, hcl⟩ := hr1 (by simp)
  obtain ⟨q0, q1, q2⟩ := hcl 0 (by simp)
  simp only [enAt, List.getD_cons_zero, Nat.zero_mul, Nat.add_zero] at q0 q1 q2
  obtain ⟨m, hm⟩ : ∃ m, m = l.length := ⟨_, rfl⟩
  simp only [List.length_cons, ← hm] at hc1 ⊢
  have d1 : decide (now < y1) = false := decide_eq_false (by omega)
  have CL := hid (And.intro q0 (And.intro q1 q2))
  have GL := hid hgl
  obtain ⟨i0, hi, hz0, hz1, hz2⟩ := info_parts infoTr
  have HI := hid (And.intro hi (And.intro hz0 (And.intro hz1 hz2)))
  clear hL hcl hr1 hm hi hz0 hz1 hz2 hgl hnow q1 q2
  have y1' := blk_cell K2.out (i := 1) rfl
  have m0 : ((m : Int) + 1 == 0) = false := by simp; omega
  go_wp2_with fail
  obtain ⟨Q, hQ⟩ : ∃ Q, Q = w2.heap.size := ⟨_, rfl⟩
  have HQ := hid hQ
  rw [← hQ] at hs2
  clear hQ d1 q0 y1' m0
  go_loopw [8, 29] (fun v8 i wr => ∃ (j n3 : Nat) (a3 : Option Addr) (c3 : Nat), j ≤ n ∧ n3 ≤ j ∧ .slice a3 n3 c3 = v8 ∧ i = .int .i64 j ∧ Hid ((butE (y1, y2, y3) (D.take j)).length = n3) ∧
      Hid (wr.ownsRow Q 53 4 (.slice a3 n3 c3) n3 (ft (butE (y1, y2, y3) (D.take j)))) ∧ Hid (Below Q w2 wr) ∧ Q ≤ wr.heap.size) (fun _ i _ => n - (intOf i).toNat)
  case atStart => exact ⟨0, 0, none, 0, by omega, by omega, rfl, rfl, hid (by simp [butE]), hid ⟨by simp [butE, ft], .inl ⟨rfl, by simp [butE, ft]⟩⟩, hid (Below.refl _ _), by rw [HQ.out]; exact Nat.le_refl _⟩
  case round =>
    obtain ⟨j, n3, a3, c3, hj, hnj, rfl, rfl, LN, OW, BR, hsr⟩ := hrel
    have BW := hid (B2.out.trans (BR.out.mono (by omega)))
    have HR := hid (HD.out.below (by rw [← HP.out]; exact BW.out))
    by_cases hlt : j < n
    · obtain ⟨a', c', e, _, hh⟩ := HR.out.hd
      simp only [Value.slice.injEq] at e
      obtain ⟨rfl, e2, rfl⟩ := e
      clear e2
      obtain ⟨gd, offd, rfl, _, hc⟩ := hh (by have := HN.out; omega)
      obtain ⟨h0, h1, h2, h3⟩ := hc j (by have := HN.out; omega)
      have T := hid (t_take (es := D) (k := j) (by have := HN.out; omega))
      generalize tAt D j = ev at *
      obtain ⟨x, e1, e2, e3⟩ := ev
      simp only at h0 h1 h2 h3
      have hgQ : g < wr.heap.size := by have := GL.out; have := HQ.out; omega
      have bx := Below.heap_alloc wr (.cells #[.int .i64 x, .int .i64 e1, .int .u64 e2, .int .i64 e3] 53) g hgQ
      have bg := bx.trans (BR.out.block g (by have := GL.out; have := HQ.out; omega))
      have z0 : (wr.alloc (.cells #[.int .i64 x, .int .i64 e1, .int .u64 e2, .int .i64 e3] 53)).cell? ⟨g, off, none⟩ = some (.int .i64 y1) := (World.cell?_of_block bg).trans CL.out.1
      have z1 : (wr.alloc (.cells #[.int .i64 x, .int .i64 e1, .int .u64 e2, .int .i64 e3] 53)).cell? ⟨g, off + 1, none⟩ = some (.int .u64 y2) := (World.cell?_of_block bg).trans CL.out.2.1
      have z2 : (wr.alloc (.cells #[.int .i64 x, .int .i64 e1, .int .u64 e2, .int .i64 e3] 53)).cell? ⟨g, off + 2, none⟩ = some (.int .i64 y3) := (World.cell?_of_block bg).trans CL.out.2.2
      have NB := hid (heap_alloc_new wr (.cells #[.int .i64 x, .int .i64 e1, .int .u64 e2, .int .i64 e3] 53))
      have B3 := hid (BR.out.alloc hsr (.cells #[.int .i64 x, .int .i64 e1, .int .u64 e2, .int .i64 e3] 53))
      have O3 := hid (OW.out.alloc (.cells #[.int .i64 x, .int .i64 e1, .int .u64 e2, .int .i64 e3] 53))
      have s4 : ∀ k, ((wr.alloc (.cells #[.int .i64 x, .int .i64 e1, .int .u64 e2, .int .i64 e3] 53)).drewN k).heap.size = wr.heap.size + 1 := fun k => by simp
      have s3 : wr.heap.size < (wr.alloc (.cells #[.int .i64 x, .int .i64 e1, .int .u64 e2, .int .i64 e3] 53)).heap.size := by simp
      clear hh hc BR BW HR OW bx bg
      by_cases hxy : (e1, e2, e3) = (y1, y2, y3)
      · have FE := hid (show butE (y1, y2, y3) (D.take (j + 1)) = butE (y1, y2, y3) (D.take j) by rw [T.out, butE_app, if_pos hxy, List.append_nil])
        simp only [Prod.mk.injEq] at hxy
        obtain ⟨rfl, rfl, rfl⟩ := hxy
        have c1' : (e1 == e1) = true := by simp
        have c2' : (e2 == e2) = true := by simp
        have c3' : (e3 == e3) = true := by simp
        clear T
        go_wp2_with fail
        go_quiet (fail)
        go_wp2
        go_roundw
        case rel => exact ⟨j + 1, n3, a3, c3, by omega, by omega, rfl, by go_num, hid (by rw [FE.out]; exact LN.out), hid (by rw [FE.out]; exact ownT_kept O3.out (fun q hq => (bl_dN _ _).block q (World.ownsRow.lt O3.out q hq).2)), hid (B3.out.trans ((bl_dN _ _).mono (by omega))), by simp; omega⟩
        case measure => simp [intOf]; omega
      · have FE := hid (show butE (y1, y2, y3) (D.take (j + 1)) = butE (y1, y2, y3) (D.take j) ++ [(x, e1, e2, e3)] by rw [T.out, butE_app, if_neg hxy])
        have O4 := hid (fun k => (ownT_kept O3.out (w' := (wr.alloc (.cells #[.int .i64 x, .int .i64 e1, .int .u64 e2, .int .i64 e3] 53)).drewN k) (fun q hq => (bl_dN _ _).block q (World.ownsRow.lt O3.out q hq).2)).alloc (.cells #[.int .i64 x, .int .i64 e1, .int .u64 e2, .int .i64 e3] 53))
        have N4 := hid (fun k => (show (((wr.alloc (.cells #[.int .i64 x, .int .i64 e1, .int .u64 e2, .int .i64 e3] 53)).drewN k).alloc (.cells #[.int .i64 x, .int .i64 e1, .int .u64 e2, .int .i64 e3] 53)).heap[wr.heap.size + 1]? = some (.cells #[.int .i64 x, .int .i64 e1, .int .u64 e2, .int .i64 e3] 53 (0, 0)) by
          have := heap_alloc_new ((wr.alloc (.cells #[.int .i64 x, .int .i64 e1, .int .u64 e2, .int .i64 e3] 53)).drewN k) (.cells #[.int .i64 x, .int .i64 e1, .int .u64 e2, .int .i64 e3] 53)
          simpa using this))
        have B4 := hid (fun k => (B3.out.trans ((bl_dN (wr.alloc (.cells #[.int .i64 x, .int .i64 e1, .int .u64 e2, .int .i64 e3] 53)) k).mono (by omega))).alloc (by simp; omega) (.cells #[.int .i64 x, .int .i64 e1, .int .u64 e2, .int .i64 e3] 53))
        have hlt4 := hid (fun q hq => (World.ownsRow.lt O3.out q hq).1)
        have hne : e1 ≠ y1 ∨ (y1 = e1 ∧ e2 ≠ y2) ∨ (y1 = e1 ∧ y2 = e2 ∧ e3 ≠ y3) := by
          by_cases p1 : e1 = y1
          · by_cases p2 : e2 = y2
            · exact .inr (.inr ⟨p1.symm, p2.symm, fun p3 => hxy (by rw [p1, p2, p3])⟩)
            · exact .inr (.inl ⟨p1.symm, p2⟩)
          · exact .inl p1
        clear T O3 hxy
        rcases hne with p | ⟨p0, p⟩ | ⟨p0, p1, p⟩
        · have c1' : (e1 == y1) = false := by simpa using p
          clear p
          go_wp2_with fail
          go_quiet (fail)
          go_wp2_with (at_builtin; refine wpList_appT rfl _ _ 26 rfl Q 53 i0 (.agg #[.int .i64 0, .int .i64 0, .int .u64 0, .int .i64 0]) 4 32 Try.underlying26 HI.out.1 HI.out.2.1 HI.out.2.2.1 HI.out.2.2.2 rfl (by decide) _ _ _ rfl (O4.out _) 1 [.int .i64 x, .int .i64 e1, .int .u64 e2, .int .i64 e3] _ rfl ⟨_, _, rfl, .inr ⟨⟨wr.heap.size + 1, 0, none⟩, rfl, ?d0⟩⟩ ?d1 ?d2 ?d3 ?d4 ?d5 ?_)
          case d0 =>
            intro j u hj
            rw [Addr.add_lit]
            match j, hj with
            | 0, hj => simp at hj; subst hj; exact blk_cell (N4.out _) rfl
            | 1, hj => simp at hj; subst hj; exact blk_cell (N4.out _) rfl
            | 2, hj => simp at hj; subst hj; exact blk_cell (N4.out _) rfl
            | 3, hj => simp at hj; subst hj; exact blk_cell (N4.out _) rfl
            | j + 4, hj => simp at hj
          case d1 => rfl
          case d2 => intro u hu; simp at hu; rcases hu with rfl | rfl | rfl | rfl <;> rfl
          case d3 => unfold maxLen; omega
          case d4 => omega
          case d5 => simp; omega
          intro v5 w5 own5 grown5
          have hg5 := grown5.size
          have B5 := hid ((B4.out _).grown grown5 (by simp; omega) (fun q hq => hlt4.out q hq))
          have L5 := hid (show (butE (y1, y2, y3) (D.take (j + 1))).length = n3 + 1 by rw [FE.out, List.length_append, LN.out]; rfl)
          obtain ⟨a5, c5, rfl⟩ : ∃ a c, v5 = .slice a (n3 + 1) c := by
            obtain ⟨q0, ⟨q1, q2⟩ | ⟨q, cap, cur, q1, _⟩⟩ := own5
            · omega
            · exact ⟨_, _, q1⟩
          have O5 := hid (show w5.ownsRow Q 53 4 (.slice a5 (n3 + 1) c5) (n3 + 1) (ft (butE (y1, y2, y3) (D.take (j + 1)))) by rw [FE.out, ft_app]; exact own5)
          simp only [World.size_alloc] at hg5
          clear own5 grown5 O4 N4 B4 hlt4 FE LN z0 z1 z2 NB B3
          go_wp2_with fail
          go_roundw
          case rel => exact ⟨j + 1, n3 + 1, a5, c5, by omega, by omega, rfl, by go_num, L5, O5, B5, by rw [s4] at hg5; omega⟩
          case measure => simp [intOf]; omega
        · subst p0
          have c1' : (y1 == y1) = true := by simp
          have c2' : (e2 == y2) = false := by simpa using p
          clear p
          go_wp2_with fail
          go_quiet (fail)
          go_wp2_with (at_builtin; refine wpList_appT rfl _ _ 26 rfl Q 53 i0 (.agg #[.int .i64 0, .int .i64 0, .int .u64 0, .int .i64 0]) 4 32 Try.underlying26 HI.out.1 HI.out.2.1 HI.out.2.2.1 HI.out.2.2.2 rfl (by decide) _ _ _ rfl (O4.out _) 1 [.int .i64 x, .int .i64 y1, .int .u64 e2, .int .i64 e3] _ rfl ⟨_, _, rfl, .inr ⟨⟨wr.heap.size + 1, 0, none⟩, rfl, ?d0⟩⟩ ?d1 ?d2 ?d3 ?d4 ?d5 ?_)
          case d0 =>
            intro j u hj
            rw [Addr.add_lit]
            match j, hj with
            | 0, hj => simp at hj; subst hj; exact blk_cell (N4.out _) rfl
            | 1, hj => simp at hj; subst hj; exact blk_cell (N4.out _) rfl
            | 2, hj => simp at hj; subst hj; exact blk_cell (N4.out _) rfl
            | 3, hj => simp at hj; subst hj; exact blk_cell (N4.out _) rfl
            | j + 4, hj => simp at hj
          case d1 => rfl
          case d2 => intro u hu; simp at hu; rcases hu with rfl | rfl | rfl | rfl <;> rfl
          case d3 => unfold maxLen; omega
          case d4 => omega
          case d5 => simp; omega
          intro v5 w5 own5 grown5
          have hg5 := grown5.size
          have B5 := hid ((B4.out _).grown grown5 (by simp; omega) (fun q hq => hlt4.out q hq))
          have L5 := hid (show (butE (y1, y2, y3) (D.take (j + 1))).length = n3 + 1 by rw [FE.out, List.length_append, LN.out]; rfl)
          obtain ⟨a5, c5, rfl⟩ : ∃ a c, v5 = .slice a (n3 + 1) c := by
            obtain ⟨q0, ⟨q1, q2⟩ | ⟨q, cap, cur, q1, _⟩⟩ := own5
            · omega
            · exact ⟨_, _, q1⟩
          have O5 := hid (show w5.ownsRow Q 53 4 (.slice a5 (n3 + 1) c5) (n3 + 1) (ft (butE (y1, y2, y3) (D.take (j + 1)))) by rw [FE.out, ft_app]; exact own5)
          simp only [World.size_alloc] at hg5
          clear own5 grown5 O4 N4 B4 hlt4 FE LN z0 z1 z2 NB B3
          go_wp2_with fail
          go_roundw
          case rel => exact ⟨j + 1, n3 + 1, a5, c5, by omega, by omega, rfl, by go_num, L5, O5, B5, by rw [s4] at hg5; omega⟩
          case measure => simp [intOf]; omega
        · subst p0
          subst p1
          have c1' : (y1 == y1) = true := by simp
          have c2' : (y2 == y2) = true := by simp
          have c3' : (e3 == y3) = false := by simpa using p
          clear p
          go_wp2_with fail
          go_quiet (fail)
          go_wp2_with (at_builtin; refine wpList_appT rfl _ _ 26 rfl Q 53 i0 (.agg #[.int .i64 0, .int .i64 0, .int .u64 0, .int .i64 0]) 4 32 Try.underlying26 HI.out.1 HI.out.2.1 HI.out.2.2.1 HI.out.2.2.2 rfl (by decide) _ _ _ rfl (O4.out _) 1 [.int .i64 x, .int .i64 y1, .int .u64 y2, .int .i64 e3] _ rfl ⟨_, _, rfl, .inr ⟨⟨wr.heap.size + 1, 0, none⟩, rfl, ?d0⟩⟩ ?d1 ?d2 ?d3 ?d4 ?d5 ?_)
          case d0 =>
            intro j u hj
            rw [Addr.add_lit]
            match j, hj with
            | 0, hj => simp at hj; subst hj; exact blk_cell (N4.out _) rfl
            | 1, hj => simp at hj; subst hj; exact blk_cell (N4.out _) rfl
            | 2, hj => simp at hj; subst hj; exact blk_cell (N4.out _) rfl
            | 3, hj => simp at hj; subst hj; exact blk_cell (N4.out _) rfl
            | j + 4, hj => simp at hj
          case d1 => rfl
          case d2 => intro u hu; simp at hu; rcases hu with rfl | rfl | rfl | rfl <;> rfl
          case d3 => unfold maxLen; omega
          case d4 => omega
          case d5 => simp; omega
          intro v5 w5 own5 grown5
          have hg5 := grown5.size
          have B5 := hid ((B4.out _).grown grown5 (by simp; omega) (fun q hq => hlt4.out q hq))
          have L5 := hid (show (butE (y1, y2, y3) (D.take (j + 1))).length = n3 + 1 by rw [FE.out, List.length_append, LN.out]; rfl)
          obtain ⟨a5, c5, rfl⟩ : ∃ a c, v5 = .slice a (n3 + 1) c := by
            obtain ⟨q0, ⟨q1, q2⟩ | ⟨q, cap, cur, q1, _⟩⟩ := own5
            · omega
            · exact ⟨_, _, q1⟩
          have O5 := hid (show w5.ownsRow Q 53 4 (.slice a5 (n3 + 1) c5) (n3 + 1) (ft (butE (y1, y2, y3) (D.take (j + 1)))) by rw [FE.out, ft_app]; exact own5)
          simp only [World.size_alloc] at hg5
          clear own5 grown5 O4 N4 B4 hlt4 FE LN z0 z1 z2 NB B3
          go_wp2_with fail
          go_roundw
          case rel => exact ⟨j + 1, n3 + 1, a5, c5, by omega, by omega, rfl, by go_num, L5, O5, B5, by rw [s4] at hg5; omega⟩
          case measure => simp [intOf]; omega
    · obtain rfl : j = n := by omega
      rw [List.take_of_length_le (by have := HN.out; omega)] at LN OW
      have KR := hid ((BR.out.block P (by omega)).trans K2.out)
      have RR := hid ((BR.out.block (P + 1) (by omega)).trans R2.out)
      have ER := hid ((BR.out.block (P + 2) (by omega)).trans E2.out)
      have bg := BR.out.block g (by have := GL.out; have := HQ.out; omega)
      have CR := hid (And.intro ((World.cell?_of_block bg).trans CL.out.1) (And.intro ((World.cell?_of_block bg).trans CL.out.2.1) ((World.cell?_of_block bg).trans CL.out.2.2)))
      have p1 := blk_cell KR.out (i := 1) rfl
      have pf := blk_free KR.out (i := 1)
      have hPQ : P + 3 ≤ wr.heap.size := by omega
      have k0 := KR.out
      have k1 := RR.out
      have gp0 : g ≠ P := by
        rintro rfl
        obtain ⟨t1, t2, t3⟩ := CR.out
        simp only [World.cell?, k0, Option.bind_some] at t1 t2 t3
        match off, t1, t2, t3 with
        | 0, _, t2, _ => simp at t2
        | q + 1, _, _, t3 => simp at t3
      have gp1 : g ≠ P + 1 := by
        rintro rfl
        obtain ⟨t1, t2, t3⟩ := CR.out
        simp only [World.cell?, k1, Option.bind_some] at t1 t2 t3
        match off, t1, t2, t3 with
        | 0, _, t2, _ => simp at t2
        | q + 1, _, _, t3 => simp at t3
      have p0 := blk_cell KR.out (i := 0) rfl
      have p2 := blk_cell KR.out (i := 2) rfl
      have r0 := blk_cell RR.out (i := 0) rfl
      have r1 := blk_cell RR.out (i := 1) rfl
      have r2 := blk_cell RR.out (i := 2) rfl
      have rf0 := blk_free RR.out (i := 0)
      have rf1 := blk_free RR.out (i := 1)
      have rf2 := blk_free RR.out (i := 2)
      have e0 := blk_cell ER.out (i := 0) rfl
      have e1 := blk_cell ER.out (i := 1) rfl
      have e2 := blk_cell ER.out (i := 2) rfl
      have ef0 := blk_free ER.out (i := 0)
      have ef1 := blk_free ER.out (i := 1)
      have ef2 := blk_free ER.out (i := 2)
      obtain ⟨z0, z1, z2⟩ := CR.out
      clear k0 k1 bg
      obtain ⟨f1, f2, f3⟩ := tt_fin (.slice a j c) (N := N) (o := o) (y1 := y1) (y2 := y2) (y3 := y3) HP.out BW.out RR.out ER.out OW.out hs2 LN.out (by omega)
      have R5 := hid f1
      have E5 := hid f2
      have FIN := hid f3
      clear f1 f2 f3
      clear HD HR BW BR OW KR RR ER LN
      go_wp2_with fail
      go_region
      all_goals
        go_wp2
        exact bodyPost_ret (v := .tuple #[.agg #[.int .i64 N, .slice a3 n3 c3, .int .u64 o], .agg #[.int .i64 y1, .int .u64 y2, .int .i64 y3], .bool true]) (results_row2 (p := 4) (q := 5) (u := 6) rfl _ _ (P + 1) 29 #[.int .i64 N, .slice a3 n3 c3, .int .u64 o] (0, 0) _ (by rfl) R5.out Try.underlying29 rfl (by kernel_rfl) (P + 1 + 1) 51 #[.int .i64 y1, .int .u64 y2, .int .i64 y3] (0, 0) _ (by rfl) E5.out Try.underlying51 rfl (by kernel_rfl) _ (by rfl)) rfl FIN.out
end Go.Proofs.Ytaogpodncphpjaa
