/- hostlerref16.One of any text: the event whose word it is, or none. (written by wip/tools/genone.py) -/
import Derived.Test.YtnaphgjkkagpoaaDoorGlyOe
import Derived.Deep.RegionHeld3
namespace Go.Proofs.YtnaphgjkkagpoaaDoor
set_option linter.unusedVariables false
set_option linter.unusedSimpArgs false
set_option maxRecDepth 20000
open Go.RowKit

/-- A number that may be left out, read again. -/
theorem rpart_ok {s s2 : ByteArray} {c : UInt8} {z n n' : Int} {r : List UInt8} (h : RPart s { data := #[c] } z n' s2) (h0 : -9223372036854775808 ≤ n) (h1 : n ≤ 9223372036854775807) (hr : ∀ d, r.head? = some d → ¬ Gw.Dig d)
    (hc : ∀ d, r.head? = some d → d ≠ c) (e : s.data.toList = (if n = z then [] else c :: Lib.itoa n) ++ r) : n' = n ∧ s2.data.toList = r := by
  by_cases hz : n = z
  · rw [if_pos hz, List.nil_append] at e
    have hb : hasB s { data := #[c] } = false := by
      unfold hasB
      rw [e]
      exact has_not hc
    obtain ⟨h2, h3⟩ := h.1 hb
    exact ⟨h2.trans hz.symm, by rw [h3, e]⟩
  · rw [if_neg hz, List.cons_append] at e
    have hb : hasB s { data := #[c] } = true := by
      unfold hasB
      rw [e]
      show Lib.hasPrefix _ [c] = true
      simp [Lib.hasPrefix, List.isPrefixOf]
    exact h.2 hb n r h0 h1 hr (by rw [e]; rfl)
theorem has_gl {j k : Nat} {r : List UInt8} (hj : j < 8) (hk : k < 8) (h : Lib.hasPrefix (Gw.gl j ++ r) (Gw.gl k) = true) : j = k := by
  rcases (show j = 0 ∨ j = 1 ∨ j = 2 ∨ j = 3 ∨ j = 4 ∨ j = 5 ∨ j = 6 ∨ j = 7 by omega) with rfl | rfl | rfl | rfl | rfl | rfl | rfl | rfl <;>
  rcases (show k = 0 ∨ k = 1 ∨ k = 2 ∨ k = 3 ∨ k = 4 ∨ k = 5 ∨ k = 6 ∨ k = 7 by omega) with rfl | rfl | rfl | rfl | rfl | rfl | rfl | rfl <;>
  first | rfl | (exfalso; simp [Gw.gl, Lib.hasPrefix, List.isPrefixOf] at h)
theorem has_own {k : Nat} {r : List UInt8} : Lib.hasPrefix (Gw.gl k ++ r) (Gw.gl k) = true := by
  unfold Lib.hasPrefix
  rw [List.isPrefixOf_iff_prefix]
  exact List.prefix_append _ _
/-- An event's word begins with its kind's rune, and no other one. -/
theorem isW_has {s : ByteArray} {x : Ev} (hx : IsW s x) : x.1 = (x.1.toNat : Int) ∧ x.1.toNat < 8 ∧ hasB s (glText x.1.toNat) = true ∧ ∀ k, k < 8 → hasB s (glText k) = true → k = x.1.toNat := by
  obtain ⟨⟨h0, h8⟩, _⟩ := right_all hx.1
  have h9 : x.1.toNat < 8 := by omega
  have hl := isW_list hx
  refine ⟨by omega, h9, ?_, fun k hk h => ?_⟩
  · unfold hasB; rw [hl, gl_list _ h9]; exact has_own
  · unfold hasB at h; rw [hl, gl_list _ hk] at h; exact (has_gl h9 hk h).symm
theorem isW_rest {s : ByteArray} {x : Ev} (hx : IsW s x) : (trimB s (glText x.1.toNat)).data.toList = tailW x := by
  obtain ⟨_, h9, h, _⟩ := isW_has hx
  rw [trimB_yes h, drop_ext, isW_list hx, Lib.size_eq, gl_list _ h9, List.drop_left]
theorem cells_other {w : World} {E b : Nat} {k g m p v x0 x1 x2 x3 x4 : Value} (h : E ≠ b)
    (hc : w.cell? ⟨E, 0, none⟩ = some k ∧ w.cell? ⟨E, 1, none⟩ = some g ∧ w.cell? ⟨E, 2, none⟩ = some m ∧ w.cell? ⟨E, 3, none⟩ = some p ∧ w.cell? ⟨E, 4, none⟩ = some v) :
    (((((w.setCell ⟨b, 0, none⟩ x0).setCell ⟨b, 1, none⟩ x1).setCell ⟨b, 2, none⟩ x2).setCell ⟨b, 3, none⟩ x3).setCell ⟨b, 4, none⟩ x4).cell? ⟨E, 0, none⟩ = some k ∧ (((((w.setCell ⟨b, 0, none⟩ x0).setCell ⟨b, 1, none⟩ x1).setCell ⟨b, 2, none⟩ x2).setCell ⟨b, 3, none⟩ x3).setCell ⟨b, 4, none⟩ x4).cell? ⟨E, 1, none⟩ = some g ∧ (((((w.setCell ⟨b, 0, none⟩ x0).setCell ⟨b, 1, none⟩ x1).setCell ⟨b, 2, none⟩ x2).setCell ⟨b, 3, none⟩ x3).setCell ⟨b, 4, none⟩ x4).cell? ⟨E, 2, none⟩ = some m ∧ (((((w.setCell ⟨b, 0, none⟩ x0).setCell ⟨b, 1, none⟩ x1).setCell ⟨b, 2, none⟩ x2).setCell ⟨b, 3, none⟩ x3).setCell ⟨b, 4, none⟩ x4).cell? ⟨E, 3, none⟩ = some p ∧ (((((w.setCell ⟨b, 0, none⟩ x0).setCell ⟨b, 1, none⟩ x1).setCell ⟨b, 2, none⟩ x2).setCell ⟨b, 3, none⟩ x3).setCell ⟨b, 4, none⟩ x4).cell? ⟨E, 4, none⟩ = some v := by
  have hh : (((((w.setCell ⟨b, 0, none⟩ x0).setCell ⟨b, 1, none⟩ x1).setCell ⟨b, 2, none⟩ x2).setCell ⟨b, 3, none⟩ x3).setCell ⟨b, 4, none⟩ x4).heap[E]? = w.heap[E]? := by
    rw [heap_setCell_other _ _ _ _ (by simpa using h), heap_setCell_other _ _ _ _ (by simpa using h), heap_setCell_other _ _ _ _ (by simpa using h), heap_setCell_other _ _ _ _ (by simpa using h), heap_setCell_other _ _ _ _ (by simpa using h)]
  simp only [World.cell?] at hc ⊢
  rw [hh]
  exact hc
/-- The box of the answer, none so far. -/
structure OneB (w w1 : World) : Prop where
  b0 : w1.heap[w.heap.size]? = some (.cells #[.int .i64 0, .int .i64 0, .int .i64 0, .int .i64 0, .int .i64 0] 34 (0, 0))
  bl : Below w.heap.size w w1
theorem OneB.below {w w1 w2 : World} (h : OneB w w1) (hb : Below w1.heap.size w1 w2) : OneB w w2 :=
  ⟨(hb.block _ (Array.getElem?_eq_some_iff.1 h.b0).1).trans h.b0, h.bl.trans (hb.mono h.bl.size)⟩
theorem OneB.froz {w w1 : World} (h : OneB w w1) : w1.frozen? ⟨w.heap.size, 0, none⟩ = false ∧ w1.frozen? ⟨w.heap.size, 1, none⟩ = false ∧ w1.frozen? ⟨w.heap.size, 2, none⟩ = false ∧ w1.frozen? ⟨w.heap.size, 3, none⟩ = false ∧ w1.frozen? ⟨w.heap.size, 4, none⟩ = false := by
  simp [World.frozen?, h.b0]
theorem OneB.new (w : World) : OneB w (w.alloc (.cells #[.int .i64 0, .int .i64 0, .int .i64 0, .int .i64 0, .int .i64 0] 34)) := ⟨heap_alloc_new _ _, (Below.refl _ _).alloc (Nat.le_refl _) _⟩
/-- What One answers. -/
def OneP (s : ByteArray) (w : World) (e : Ending) (w' : World) : Prop :=
  ((∃ x : Ev, IsW s x ∧ e = .returned (.tuple #[.agg #[.int .i64 x.1, .int .i64 x.2.1, .int .i64 x.2.2.1, .int .i64 x.2.2.2.1, .int .i64 x.2.2.2.2], .bool true])) ∨
      ((∀ x, ¬ IsW s x) ∧ ∃ y : Ev, e = .returned (.tuple #[.agg #[.int .i64 y.1, .int .i64 y.2.1, .int .i64 y.2.2.1, .int .i64 y.2.2.2.1, .int .i64 y.2.2.2.2], .bool false]))) ∧ Below w.heap.size w w'
theorem one_fin {s : ByteArray} {w w1 : World} (h : OneB w w1) (k g m p v : Int) (q : Bool) (hq : if q then IsW s (k, g, m, p, v) else ∀ x, ¬ IsW s x) :
    (((((w1.setCell ⟨w.heap.size, 0, none⟩ (.int .i64 k)).setCell ⟨w.heap.size, 1, none⟩ (.int .i64 g)).setCell ⟨w.heap.size, 2, none⟩ (.int .i64 m)).setCell ⟨w.heap.size, 3, none⟩ (.int .i64 p)).setCell ⟨w.heap.size, 4, none⟩ (.int .i64 v)).heap[w.heap.size]? = some (.cells #[.int .i64 k, .int .i64 g, .int .i64 m, .int .i64 p, .int .i64 v] 34 (0, 0)) ∧ OneP s w (.returned (.tuple #[.agg #[.int .i64 k, .int .i64 g, .int .i64 m, .int .i64 p, .int .i64 v], .bool q])) (((((w1.setCell ⟨w.heap.size, 0, none⟩ (.int .i64 k)).setCell ⟨w.heap.size, 1, none⟩ (.int .i64 g)).setCell ⟨w.heap.size, 2, none⟩ (.int .i64 m)).setCell ⟨w.heap.size, 3, none⟩ (.int .i64 p)).setCell ⟨w.heap.size, 4, none⟩ (.int .i64 v)) := by
  refine ⟨fin5 h.b0 _ _ _ _ _, ?_, fin5_below h.bl _ _ _ _ _⟩
  cases q with
  | true => exact .inl ⟨(k, g, m, p, v), hq, rfl⟩
  | false => exact .inr ⟨hq, (k, g, m, p, v), rfl⟩
set_option maxHeartbeats 16000000 in
theorem one_any (s : ByteArray) (hl : s.size ≤ 500000) (w : World) : Calls Tryd.prog 27 #[.string s] w (OneP s w) := by
  have K0 := hid (OneB.new w)
  have WH := hid (fun x hx => @isW_has s x hx)
  have WT := hid (fun x hx => @isW_rest s x hx)
  go_enter Tryd.func27, Tryd.ntmps27
  go_wp2_with fail
  go_loopw [13] (fun i wr => ∃ k : Nat, k ≤ 8 ∧ i = .int .i64 k ∧ Hid (∀ j, j < k → hasB s (glText j) = false) ∧ Hid (OneB w wr)) (fun i _ => 8 - (intOf i).toNat)
  case atStart => exact ⟨0, by omega, rfl, hid (fun j hj => by omega), K0⟩
  case round =>
    clear K0
    obtain ⟨k, hk, rfl, NB, BX⟩ := hrel
    by_cases hlt : k < 8
    · have KI := hid (rk_any k hlt wr)
      have hgs : (glText k).size ≤ 3 := by
        rw [Lib.size_eq, gl_list k hlt]
        match k, hlt with
        | 0, _ | 1, _ | 2, _ | 3, _ | 4, _ | 5, _ | 6, _ | 7, _ => simp [Gw.gl]
      have BG := hid (fun w => begins_any s (glText k) (by omega) (by omega) w)
      rcases hq : hasB s (glText k) with _ | _
      · have NB2 : Hid (∀ j, j < k + 1 → hasB s (glText j) = false) := hid (fun j hj => by
          by_cases hjk : j = k
          · rw [hjk]; exact hq
          · exact NB.out j (by omega))
        rw [hq] at BG
        clear hq
        generalize glText k = gt at *
        go_wp2_with fail
        refine KI.out.mono ?_
        rintro e w1 ⟨rfl, hb⟩
        have B1 := hid (BX.out.below hb)
        clear hb KI
        go_wp2_with fail
        refine (BG.out _).mono ?_
        rintro e w2 ⟨rfl, hb⟩
        have B2 := hid (B1.out.below hb)
        clear hb BG B1 BX
        go_wp2
        go_roundw
        case rel => exact ⟨k + 1, by omega, by go_num, NB2, B2⟩
        case measure => simp [intOf]; omega
      · have KX : Hid (∀ x, IsW s x → x.1 = (k : Int) ∧ (trimB s (glText k)).data.toList = tailW x) := hid (fun x hx => by
          obtain ⟨h1, h2, h3, h4⟩ := WH.out x hx
          have h5 := h4 k hlt hq
          refine ⟨by rw [h1, ← h5], ?_⟩
          rw [h5]
          exact WT.out x hx)
        have TS := trimB_size s (glText k)
        rw [hq] at BG
        clear hq NB
        obtain ⟨r0, hr0⟩ : ∃ r0, r0 = trimB s (glText k) := ⟨_, rfl⟩
        rw [← hr0] at BG KX TS
        clear hr0
        generalize glText k = gt at *
        go_wp2_with fail
        refine KI.out.mono ?_
        rintro e w1 ⟨rfl, hb⟩
        have B1 := hid (BX.out.below hb)
        clear hb KI BX
        go_wp2_with fail
        refine (BG.out _).mono ?_
        rintro e w2 ⟨rfl, hb⟩
        have B2 := hid (B1.out.below hb)
        clear hb BG B1
        have PA := hid (part_any r0 { data := #[] } 0 (by omega) (by show 0 ≤ 1000000; omega) (by omega) (by omega) w2)
        go_wp2_with fail
        refine PA.out.mono ?_
        rintro e w3 ⟨g, r1, rfl, hg, hz1, RG, hb⟩
        have B3 := hid (B2.out.below hb)
        clear hb PA B2
        have PA := hid (part_any r1 { data := #[109] } (-1) (by omega) (by show 1 ≤ 1000000; omega) (by omega) (by omega) w3)
        go_wp2_with fail
        refine PA.out.mono ?_
        rintro e w4 ⟨m, r2, rfl, hm, hz2, RM, hb⟩
        have B4 := hid (B3.out.below hb)
        clear hb PA B3
        have PA := hid (part_any r2 { data := #[112] } (-1) (by omega) (by show 1 ≤ 1000000; omega) (by omega) (by omega) w4)
        go_wp2_with fail
        refine PA.out.mono ?_
        rintro e w5 ⟨p, r3, rfl, hp, hz3, RP, hb⟩
        have B5 := hid (B4.out.below hb)
        clear hb PA B4
        have PA := hid (part_any r3 { data := #[61] } 0 (by omega) (by show 1 ≤ 1000000; omega) (by omega) (by omega) w5)
        go_wp2_with fail
        refine PA.out.mono ?_
        rintro e w6 ⟨v, r4, rfl, hv, hz4, RV, hb⟩
        have B6 := hid (B5.out.below hb)
        clear hb PA B5
        have LO : Hid (∀ x, IsW s x → x = (((k : Int), g, m, p, v) : Ev) ∧ (0 ≤ g ∧ g < 4096) ∧ (-1 ≤ m ∧ m < 128) ∧ (-1 ≤ p ∧ p < 64)) := hid (fun x hx => by
          obtain ⟨e1, e2⟩ := KX.out x hx
          obtain ⟨⟨h0, h8⟩, qg, qm, qp⟩ := right_all hx.1
          obtain ⟨y0, y1, y2, y3, y4⟩ := x
          simp only at *
          have e3 : r0.data.toList = Lib.itoa y1 ++ (Gw.om y2 ++ (Gw.op y3 ++ Gw.ov y4)) := e2
          have hb0 : hasB r0 { data := #[] } = true := by rw [hasB_iff]; rfl
          obtain ⟨q1, q2⟩ := RG.out.2 hb0 y1 _ (by omega) (by omega) Gw.ompv_nd (by rw [show (({ data := #[] } : ByteArray)).size = 0 from rfl, List.drop_zero]; exact e3)
          obtain ⟨q3, q4⟩ := rpart_ok (c := 109) (n := y2) (r := Gw.op y3 ++ Gw.ov y4) RM.out (by omega) (by omega) Gw.opv_nd (fun d hd => by rcases Gw.opv_head d hd with rfl | rfl <;> decide) (by rw [q2]; unfold Gw.om; rfl)
          obtain ⟨q5, q6⟩ := rpart_ok (c := 112) (n := y3) (r := Gw.ov y4) RP.out (by omega) (by omega) (fun d hd => by rw [Gw.ov_head d hd]; exact Gw.nd61) (fun d hd => by rw [Gw.ov_head d hd]; decide) (by rw [q4]; unfold Gw.op; rfl)
          obtain ⟨q7, q8⟩ := rpart_ok (c := 61) (n := y4) (r := []) RV.out hx.2.1.1 hx.2.1.2 (fun d hd => by simp at hd) (fun d hd => by simp at hd) (by rw [q6]; unfold Gw.ov; rw [List.append_nil])
          rw [e1, q1, q3, q5, q7]
          exact ⟨rfl, qg, qm, qp⟩)
        clear RG RM RP RV KX hz1 hz2 hz3 hz4 TS
        by_cases hok : (0 ≤ g ∧ g < 4096) ∧ (-1 ≤ m ∧ m < 128) ∧ (-1 ≤ p ∧ p < 64)
        · obtain ⟨⟨g0, g1⟩, ⟨m0, m1⟩, ⟨p0, p1⟩⟩ := hok
          have t1 : ¬ (4095 : Int) < g := by omega
          have t2 : ¬ (127 : Int) < m := by omega
          have t3 : ¬ (63 : Int) < p := by omega
          have t4 : ¬ g < (0 : Int) := by omega
          have t5 : ¬ m < (-1 : Int) := by omega
          have t6 : ¬ p < (-1 : Int) := by omega
          have LX : Hid (∀ x, IsW s x → x = (((k : Int), g, m, p, v) : Ev)) := hid (fun x hx => (LO.out x hx).1)
          clear LO
          go_upto_region 13 with (fail)
          have hbx := heap_alloc_new w6 (.cells #[.int .i64 k, .int .i64 g, .int .i64 m, .int .i64 p, .int .i64 v] 34)
          have B7 := hid (B6.out.below ((Below.refl w6.heap.size w6).alloc (Nat.le_refl _) (.cells #[.int .i64 k, .int .i64 g, .int .i64 m, .int .i64 p, .int .i64 v] 34)))
          have hEb : w6.heap.size ≠ w.heap.size := by have := (Array.getElem?_eq_some_iff.1 B6.out.b0).1; omega
          generalize w6.alloc (.cells #[.int .i64 k, .int .i64 g, .int .i64 m, .int .i64 p, .int .i64 v] 34) = w7 at *
          generalize w6.heap.size = E at *
          have BE : Hid (∀ y, Below w7.heap.size w7 y → y.cell? ⟨E, 0, none⟩ = some (.int .i64 k) ∧ y.cell? ⟨E, 1, none⟩ = some (.int .i64 g) ∧ y.cell? ⟨E, 2, none⟩ = some (.int .i64 m) ∧ y.cell? ⟨E, 3, none⟩ = some (.int .i64 p) ∧ y.cell? ⟨E, 4, none⟩ = some (.int .i64 v)) :=
            hid (fun y hy => ev5c ((hy.block _ (Array.getElem?_eq_some_iff.1 hbx).1).trans hbx))
          have BF : Hid (∀ y, Below w7.heap.size w7 y → y.frozen? ⟨w.heap.size, 0, none⟩ = false ∧ y.frozen? ⟨w.heap.size, 1, none⟩ = false ∧ y.frozen? ⟨w.heap.size, 2, none⟩ = false ∧ y.frozen? ⟨w.heap.size, 3, none⟩ = false ∧ y.frozen? ⟨w.heap.size, 4, none⟩ = false) := hid (fun y hy => (B7.out.below hy).froz)
          have BD := hid (show Below w7.heap.size w7 w7.drew from Quiet.below ⟨1, rfl⟩ _)
          have RR := hid (fun w => rright_any k g m p v w)
          clear hbx B6 t1 t2 t3 t4 t5 t6
          rcases hr : evRight (k : Int) g m p v with _ | _
          · have NO : Hid (∀ x, ¬ IsW s x) := hid (fun x hx => by
              have h := hx.1
              rw [LX.out x hx] at h
              have h2 : evRight (k : Int) g m p v = true := h
              rw [hr] at h2
              cases h2)
            have ON := hid (fun y (hy : OneB w y) => one_fin (s := s) hy k g m p v false NO.out)
            rw [hr] at RR
            clear hr LX
            refine wp_region_held_drew (S := fun w' => w'.cell? ⟨E, 0, none⟩ = some (.int .i64 k) ∧ w'.cell? ⟨E, 1, none⟩ = some (.int .i64 g) ∧ w'.cell? ⟨E, 2, none⟩ = some (.int .i64 m) ∧ w'.cell? ⟨E, 3, none⟩ = some (.int .i64 p) ∧ w'.cell? ⟨E, 4, none⟩ = some (.int .i64 v)) (by kernel_rfl) (BE.out _ BD.out) (fun hHeld => ?_)
            refine wpAnyH_take (i := 0) (oi := _) (v := ?_) rfl (by kernel_rfl) (by kernel_rfl) (by kernel_rfl) (fun _ _ _ h => h) (Or.inl ⟨by rfl, ?_⟩) (by assumption) ?_
            rotate_left
            · intro w hSw
              try dsimp only at hSw
              go_simp
              with_reducible rfl
            try simp only [Act.put, List.getElem_toArray, List.getElem_cons_zero, List.getElem_cons_succ, List.setIfInBounds_toArray, List.set_cons_zero, List.set_cons_succ]
            refine wpAnyH_take (i := 1) (oi := _) (v := ?_) rfl (by kernel_rfl) (by kernel_rfl) (by kernel_rfl) (fun _ _ _ h => h) (Or.inl ⟨by rfl, ?_⟩) (by assumption) ?_
            rotate_left
            · intro w hSw
              try dsimp only at hSw
              go_simp
              with_reducible rfl
            try simp only [Act.put, List.getElem_toArray, List.getElem_cons_zero, List.getElem_cons_succ, List.setIfInBounds_toArray, List.set_cons_zero, List.set_cons_succ]
            refine wpAnyH_ready (rs := [2]) (by kernel_rfl) (by simp) ?_
            refine AllReadyH.cons (o := _) rfl (fun K hK => ?_) AllReadyH.nil
            go_simp
            go_at_call 9
            refine (RR.out _).mono ?_
            rintro e y ⟨rfl, hb⟩
            have BY := hid (BD.out.trans (hb.mono BD.out.size))
            clear hb
            obtain ⟨f0, f1, f2, f3, f4⟩ := BF.out _ BY.out
            obtain ⟨b0, b1, b2, b3, b4⟩ := ev5c (B7.out.below BY.out).b0
            go_wp2_with fail
            refine hK.out _ _ (BE.out _ BY.out) (fun hHeld => ?_)
            clear hK K
            try simp only [Act.put, List.getElem_toArray, List.getElem_cons_zero, List.getElem_cons_succ, List.setIfInBounds_toArray, List.set_cons_zero, List.set_cons_succ]
            refine wpAnyH_take (i := 3) (oi := _) (v := ?_) rfl (by kernel_rfl) (by kernel_rfl) (by kernel_rfl) (fun _ _ _ h => h) (Or.inl ⟨by rfl, ?_⟩) (by assumption) ?_
            rotate_left
            · intro w hSw
              try dsimp only at hSw
              go_simp
              with_reducible rfl
            try simp only [Act.put, List.getElem_toArray, List.getElem_cons_zero, List.getElem_cons_succ, List.setIfInBounds_toArray, List.set_cons_zero, List.set_cons_succ]
            refine wpAnyH_take (i := 4) (oi := _) (v := undef) rfl (by kernel_rfl) (by kernel_rfl) (by kernel_rfl) (fun _ _ _ h => h) (Or.inr ⟨by rfl, rfl⟩) (by assumption) ?_
            try simp only [Act.put, List.getElem_toArray, List.getElem_cons_zero, List.getElem_cons_succ, List.setIfInBounds_toArray, List.set_cons_zero, List.set_cons_succ]
            refine wpAnyH_take (i := 5) (oi := _) (v := undef) rfl (by kernel_rfl) (by kernel_rfl) (by kernel_rfl) (fun _ _ _ h => h) (Or.inr ⟨by rfl, rfl⟩) (by assumption) ?_
            try simp only [Act.put, List.getElem_toArray, List.getElem_cons_zero, List.getElem_cons_succ, List.setIfInBounds_toArray, List.set_cons_zero, List.set_cons_succ]
            refine wpAnyH_take (i := 6) (oi := _) (v := undef) rfl (by kernel_rfl) (by kernel_rfl) (by kernel_rfl) (fun _ _ _ h => h) (Or.inr ⟨by rfl, rfl⟩) (by assumption) ?_
            try simp only [Act.put, List.getElem_toArray, List.getElem_cons_zero, List.getElem_cons_succ, List.setIfInBounds_toArray, List.set_cons_zero, List.set_cons_succ]
            refine wpAnyH_take (i := 7) (oi := _) (v := undef) rfl (by kernel_rfl) (by kernel_rfl) (by kernel_rfl) (fun _ _ _ h => h) (Or.inr ⟨by rfl, rfl⟩) (by assumption) ?_
            try simp only [Act.put, List.getElem_toArray, List.getElem_cons_zero, List.getElem_cons_succ, List.setIfInBounds_toArray, List.set_cons_zero, List.set_cons_succ]
            refine wpAnyH_take (i := 8) (oi := _) (v := ?_) rfl (by kernel_rfl) (by kernel_rfl) (by kernel_rfl) (fun _ _ _ h => h) (Or.inl ⟨by rfl, ?_⟩) (by assumption) ?_
            rotate_left
            · intro w hSw
              try dsimp only at hSw
              go_simp
              with_reducible rfl
            try simp only [Act.put, List.getElem_toArray, List.getElem_cons_zero, List.getElem_cons_succ, List.setIfInBounds_toArray, List.set_cons_zero, List.set_cons_succ]
            refine wpAnyH_ready (rs := [9]) (by kernel_rfl) (by simp) ?_
            refine AllReadyH.cons (o := _) rfl (fun K hK => ?_) AllReadyH.nil
            go_simp
            go_wp2_with fail
            refine hK.out _ _ (cells_other hEb (BE.out _ BY.out)) (fun hHeld => ?_)
            clear hK K
            try simp only [Act.put, List.getElem_toArray, List.getElem_cons_zero, List.getElem_cons_succ, List.setIfInBounds_toArray, List.set_cons_zero, List.set_cons_succ]
            refine wpAnyH_take (i := 10) (oi := _) (v := ?_) rfl (by kernel_rfl) (by kernel_rfl) (by kernel_rfl) (fun _ _ _ h => h) (Or.inl ⟨by rfl, ?_⟩) (by assumption) ?_
            rotate_left
            · intro w hSw
              try dsimp only at hSw
              go_simp
              with_reducible rfl
            try simp only [Act.put, List.getElem_toArray, List.getElem_cons_zero, List.getElem_cons_succ, List.setIfInBounds_toArray, List.set_cons_zero, List.set_cons_succ]
            refine wpAnyH_done (by kernel_rfl) ?_ _
            obtain ⟨e0, e1, e2, e3, e4⟩ := ev5c (ON.out _ (B7.out.below BY.out)).1
            go_wp2
            exact bodyPost_ret (v := .tuple #[.agg #[.int .i64 k, .int .i64 g, .int .i64 m, .int .i64 p, .int .i64 v], .bool false]) (by simp [results, Tryd.results27, go_sem, e0, e1, e2, e3, e4]) rfl (ON.out _ (B7.out.below BY.out)).2
          · have RW := hid (fun w => rword_any k g m p v hr hv w)
            rw [hr] at RR
            have HWD : Hid (∀ q : Bool, ((wordB k g m p v).toList == s.toList) = q → if q then IsW s (k, g, m, p, v) else ∀ x, ¬ IsW s x) := hid (fun q hq => by
              cases q with
              | true =>
                refine ⟨hr, hv, ?_⟩
                unfold wordE
                simp only [Int.toNat_natCast]
                have h2 : (wordB k g m p v).toList = s.toList := by simpa using hq
                rw [ByteArray.toList_eq, ByteArray.toList_eq] at h2
                exact ByteArray.ext (Array.toList_inj.1 h2)
              | false =>
                intro x hx
                have h := LX.out x hx
                rw [h] at hx
                have := hx.2.2
                unfold wordE at this
                simp only [Int.toNat_natCast] at this
                rw [this] at hq
                simp at hq)
            clear hr LX
            generalize wordB k g m p v = wd at *
            rcases hq : (wd.toList == s.toList) with _ | _
            all_goals
              have ON := hid (fun y (hy : OneB w y) => one_fin (s := s) hy k g m p v _ (HWD.out _ hq))
              refine wp_region_held_drew (S := fun w' => w'.cell? ⟨E, 0, none⟩ = some (.int .i64 k) ∧ w'.cell? ⟨E, 1, none⟩ = some (.int .i64 g) ∧ w'.cell? ⟨E, 2, none⟩ = some (.int .i64 m) ∧ w'.cell? ⟨E, 3, none⟩ = some (.int .i64 p) ∧ w'.cell? ⟨E, 4, none⟩ = some (.int .i64 v)) (by kernel_rfl) (BE.out _ BD.out) (fun hHeld => ?_)
              refine wpAnyH_take (i := 0) (oi := _) (v := ?_) rfl (by kernel_rfl) (by kernel_rfl) (by kernel_rfl) (fun _ _ _ h => h) (Or.inl ⟨by rfl, ?_⟩) (by assumption) ?_
              rotate_left
              · intro w hSw
                try dsimp only at hSw
                go_simp
                with_reducible rfl
              try simp only [Act.put, List.getElem_toArray, List.getElem_cons_zero, List.getElem_cons_succ, List.setIfInBounds_toArray, List.set_cons_zero, List.set_cons_succ]
              refine wpAnyH_take (i := 1) (oi := _) (v := ?_) rfl (by kernel_rfl) (by kernel_rfl) (by kernel_rfl) (fun _ _ _ h => h) (Or.inl ⟨by rfl, ?_⟩) (by assumption) ?_
              rotate_left
              · intro w hSw
                try dsimp only at hSw
                go_simp
                with_reducible rfl
              try simp only [Act.put, List.getElem_toArray, List.getElem_cons_zero, List.getElem_cons_succ, List.setIfInBounds_toArray, List.set_cons_zero, List.set_cons_succ]
              refine wpAnyH_ready (rs := [2]) (by kernel_rfl) (by simp) ?_
              refine AllReadyH.cons (o := _) rfl (fun K hK => ?_) AllReadyH.nil
              go_simp
              go_at_call 9
              refine (RR.out _).mono ?_
              rintro e y ⟨rfl, hb⟩
              have BY := hid (BD.out.trans (hb.mono BD.out.size))
              clear hb
              go_wp2_with fail
              refine hK.out _ _ (BE.out _ BY.out) (fun hHeld => ?_)
              clear hK K
              try simp only [Act.put, List.getElem_toArray, List.getElem_cons_zero, List.getElem_cons_succ, List.setIfInBounds_toArray, List.set_cons_zero, List.set_cons_succ]
              refine wpAnyH_take (i := 3) (oi := _) (v := ?_) rfl (by kernel_rfl) (by kernel_rfl) (by kernel_rfl) (fun _ _ _ h => h) (Or.inl ⟨by rfl, ?_⟩) (by assumption) ?_
              rotate_left
              · intro w hSw
                try dsimp only at hSw
                go_simp
                with_reducible rfl
              try simp only [Act.put, List.getElem_toArray, List.getElem_cons_zero, List.getElem_cons_succ, List.setIfInBounds_toArray, List.set_cons_zero, List.set_cons_succ]
              refine wpAnyH_take (i := 4) (oi := _) (v := ?_) rfl (by kernel_rfl) (by kernel_rfl) (by kernel_rfl) (fun _ _ _ h => h) (Or.inl ⟨by rfl, ?_⟩) (by assumption) ?_
              rotate_left
              · intro w hSw
                try dsimp only at hSw
                go_simp
                with_reducible rfl
              try simp only [Act.put, List.getElem_toArray, List.getElem_cons_zero, List.getElem_cons_succ, List.setIfInBounds_toArray, List.set_cons_zero, List.set_cons_succ]
              refine wpAnyH_take (i := 6) (oi := _) (v := ?_) rfl (by kernel_rfl) (by kernel_rfl) (by kernel_rfl) (fun _ _ _ h => h) (Or.inl ⟨by rfl, ?_⟩) (by assumption) ?_
              rotate_left
              · intro w hSw
                try dsimp only at hSw
                go_simp
                with_reducible rfl
              try simp only [Act.put, List.getElem_toArray, List.getElem_cons_zero, List.getElem_cons_succ, List.setIfInBounds_toArray, List.set_cons_zero, List.set_cons_succ]
              refine wpAnyH_ready (rs := [5]) (by kernel_rfl) (by simp) ?_
              refine AllReadyH.cons (o := _) rfl (fun K hK => ?_) AllReadyH.nil
              go_simp
              go_at_call 12
              refine (RW.out _).mono ?_
              rintro e y2 ⟨rfl, hb⟩
              have BY2 := hid (BY.out.trans (hb.mono BY.out.size))
              clear hb
              obtain ⟨f0, f1, f2, f3, f4⟩ := BF.out _ BY2.out
              obtain ⟨b0, b1, b2, b3, b4⟩ := ev5c (B7.out.below BY2.out).b0
              go_wp2_with fail
              refine hK.out _ _ (BE.out _ BY2.out) (fun hHeld => ?_)
              clear hK K
              try simp only [Act.put, List.getElem_toArray, List.getElem_cons_zero, List.getElem_cons_succ, List.setIfInBounds_toArray, List.set_cons_zero, List.set_cons_succ]
              refine wpAnyH_take (i := 7) (oi := _) (v := ?_) rfl (by kernel_rfl) (by kernel_rfl) (by kernel_rfl) (fun _ _ _ h => h) (Or.inl ⟨by rfl, ?_⟩) (by assumption) ?_
              rotate_left
              · intro w hSw
                try dsimp only at hSw
                go_simp
                with_reducible rfl
              try simp only [Act.put, List.getElem_toArray, List.getElem_cons_zero, List.getElem_cons_succ, List.setIfInBounds_toArray, List.set_cons_zero, List.set_cons_succ]
              refine wpAnyH_take (i := 8) (oi := _) (v := ?_) rfl (by kernel_rfl) (by kernel_rfl) (by kernel_rfl) (fun _ _ _ h => h) (Or.inl ⟨by rfl, ?_⟩) (by assumption) ?_
              rotate_left
              · intro w hSw
                try dsimp only at hSw
                go_simp
                with_reducible rfl
              try simp only [Act.put, List.getElem_toArray, List.getElem_cons_zero, List.getElem_cons_succ, List.setIfInBounds_toArray, List.set_cons_zero, List.set_cons_succ]
              refine wpAnyH_ready (rs := [9]) (by kernel_rfl) (by simp) ?_
              refine AllReadyH.cons (o := _) rfl (fun K hK => ?_) AllReadyH.nil
              go_simp
              go_wp2_with fail
              refine hK.out _ _ (cells_other hEb (BE.out _ BY2.out)) (fun hHeld => ?_)
              clear hK K
              try simp only [Act.put, List.getElem_toArray, List.getElem_cons_zero, List.getElem_cons_succ, List.setIfInBounds_toArray, List.set_cons_zero, List.set_cons_succ]
              refine wpAnyH_take (i := 10) (oi := _) (v := ?_) rfl (by kernel_rfl) (by kernel_rfl) (by kernel_rfl) (fun _ _ _ h => h) (Or.inl ⟨by rfl, ?_⟩) (by assumption) ?_
              rotate_left
              · intro w hSw
                try dsimp only at hSw
                go_simp
                with_reducible rfl
              try simp only [Act.put, List.getElem_toArray, List.getElem_cons_zero, List.getElem_cons_succ, List.setIfInBounds_toArray, List.set_cons_zero, List.set_cons_succ]
              refine wpAnyH_done (by kernel_rfl) ?_ _
              obtain ⟨e0, e1, e2, e3, e4⟩ := ev5c (ON.out _ (B7.out.below BY2.out)).1
              go_wp2
              exact bodyPost_ret (v := .tuple #[.agg #[.int .i64 k, .int .i64 g, .int .i64 m, .int .i64 p, .int .i64 v], .bool _]) (by simp [results, Tryd.results27, go_sem, e0, e1, e2, e3, e4]) rfl (ON.out _ (B7.out.below BY2.out)).2
        · have NO : Hid (∀ x, ¬ IsW s x) := hid (fun x hx => hok (LO.out x hx).2)
          have ON := hid (one_fin (s := s) B6.out 0 0 0 0 0 false NO.out)
          obtain ⟨f0, f1, f2, f3, f4⟩ := B6.out.froz
          obtain ⟨b0, b1, b2, b3, b4⟩ := ev5c B6.out.b0
          clear LO NO
          rcases (show (4095 : Int) < g ∨ (¬ (4095 : Int) < g ∧ (127 : Int) < m) ∨ (¬ (4095 : Int) < g ∧ ¬ (127 : Int) < m ∧ (63 : Int) < p) ∨ (¬ (4095 : Int) < g ∧ ¬ (127 : Int) < m ∧ ¬ (63 : Int) < p ∧ g < 0) ∨ (¬ (4095 : Int) < g ∧ ¬ (127 : Int) < m ∧ ¬ (63 : Int) < p ∧ ¬ g < 0 ∧ m < -1) ∨ (¬ (4095 : Int) < g ∧ ¬ (127 : Int) < m ∧ ¬ (63 : Int) < p ∧ ¬ g < 0 ∧ ¬ m < -1 ∧ p < -1) by omega) with t1 | ⟨t1, t2⟩ | ⟨t1, t2, t3⟩ | ⟨t1, t2, t3, t4⟩ | ⟨t1, t2, t3, t4, t5⟩ | ⟨t1, t2, t3, t4, t5, t6⟩
          all_goals
            clear hok
            go_wp2
            obtain ⟨e0, e1, e2, e3, e4⟩ := ev5c ON.out.1
            exact bodyPost_ret (v := .tuple #[.agg #[.int .i64 0, .int .i64 0, .int .i64 0, .int .i64 0, .int .i64 0], .bool false]) (by simp [results, Tryd.results27, go_sem, e0, e1, e2, e3, e4]) rfl ON.out.2
    · obtain rfl : k = 8 := by omega
      have NO : Hid (∀ x, ¬ IsW s x) := hid (fun x hx => by
        obtain ⟨h1, h2, h3, h4⟩ := WH.out x hx
        rw [NB.out _ h2] at h3
        cases h3)
      have ON := hid (one_fin (s := s) BX.out 0 0 0 0 0 false NO.out)
      obtain ⟨f0, f1, f2, f3, f4⟩ := BX.out.froz
      obtain ⟨b0, b1, b2, b3, b4⟩ := ev5c BX.out.b0
      clear NB NO
      go_wp2
      obtain ⟨e0, e1, e2, e3, e4⟩ := ev5c ON.out.1
      exact bodyPost_ret (v := .tuple #[.agg #[.int .i64 0, .int .i64 0, .int .i64 0, .int .i64 0, .int .i64 0], .bool false]) (by simp [results, Tryd.results27, go_sem, e0, e1, e2, e3, e4]) rfl ON.out.2
end Go.Proofs.YtnaphgjkkagpoaaDoor
