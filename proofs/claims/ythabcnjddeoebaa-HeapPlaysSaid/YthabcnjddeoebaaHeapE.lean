/- slices.DeleteFunc with Heap.Remove's test: the contract. -/
import Derived.Test.YthabcnjddeoebaaHeapD
import Derived.Deep.CutRange
namespace Go.Proofs.Ythabcnjddeoebaa
set_option linter.unusedVariables false
set_option linter.unusedSimpArgs false
open Go.RowKit

/-- What isn't the goroutine's. -/
def rest (g : Int) (es : List (Int × Int × Int)) : List (Int × Int × Int) := es.filter (fun e => !isG g e)
def DlPost (w : World) (base gr c : Nat) (es : List (Int × Int × Int)) (g : Int) (e : Ending) (w' : World) : Prop :=
  e = .returned (.slice (some ⟨gr, 0, none⟩) (rest g es).length c) ∧ w'.ownsRow base 28 3 (.slice (some ⟨gr, 0, none⟩) (rest g es).length c) (rest g es).length (fl (rest g es)) ∧ Only gr gr w w'
theorem ret_s {a : Option Addr} {n m c : Nat} (h : n = m) : Ending.returned (.slice a n c) = .returned (.slice a m c) := by rw [h]
theorem rest_all {g : Int} {es : List (Int × Int × Int)} (h : es.findIdx (isG g) = es.length) : rest g es = es := by
  rw [List.findIdx_eq_length] at h
  unfold rest
  rw [List.filter_eq_self]
  intro e he
  simp [h e he]
theorem rest_first {g : Int} {es : List (Int × Int × Int)} (h : es.findIdx (isG g) < es.length) : es.take (es.findIdx (isG g)) = (es.take (es.findIdx (isG g) + 1)).filter (fun e => !isG g e) := by
  obtain ⟨h1, h2⟩ := (List.findIdx_eq h).1 rfl
  rw [Dg.tk1 es _ h, List.filter_append]
  have e1 : (es.take (es.findIdx (isG g))).filter (fun e => !isG g e) = es.take (es.findIdx (isG g)) := by
    rw [List.filter_eq_self]
    intro e he
    obtain ⟨i, hi, rfl⟩ := List.mem_iff_getElem.1 he
    rw [List.length_take] at hi
    rw [List.getElem_take]
    have := h2 i (by omega)
    simpa using this
  rw [e1, enAt_get h]
  simp [h1]
set_option maxHeartbeats 8000000 in
theorem hdelete (gr n c base : Nat) (es : List (Int × Int × Int)) (g : Int) (X : Nat) (w : World) (ho : w.ownsRow base 28 3 (.slice (some ⟨gr, 0, none⟩) n c) n (fl es)) (hn : es.length = n) (hl : n ≤ 100000) (hnc : n ≤ c) (hcm : c ≤ maxLen)
    (hX : w.heap[X]? = some (.cells #[.int .i64 g] 3 (0, 0))) (hXg : X ≠ gr) :
    Calls Try.prog 37 #[.slice (some ⟨gr, 0, none⟩) n c, .func (.func 38) #[] #[.pointer (some ⟨X, 0, none⟩)]] w (DlPost w base gr c es g) := by
  have HO := hid ho
  have HN := hid hn
  have HX := hid hX
  have hgl : gr < w.heap.size := by
    obtain ⟨h0, ⟨h1, h2⟩ | ⟨q, cap, cur, h1, h2, h3, h4, h5, _⟩⟩ := ho
    · cases h1
    · simp only [Value.slice.injEq, Option.some.injEq, Addr.mk.injEq] at h1
      obtain ⟨⟨rfl, _⟩, _⟩ := h1
      obtain ⟨hl, _⟩ := Array.getElem?_eq_some_iff.1 h3; exact hl
  have IX := hid (hindex gr n c (some ⟨gr, 0, none⟩) es g X w hn hl hX (fun _ => rfl) hnc hcm (fun i hi => ⟨hgl, by
    obtain ⟨h1, h2, h3⟩ := fl_get es i (by omega)
    have k := fun j => ho.cellAt (g := gr) (cap := c) j
    have hl := fl_len es
    exact ⟨(k _ (by omega)).trans h1, (k _ (by omega)).trans h2, (k _ (by omega)).trans h3⟩⟩))
  obtain ⟨d, hd⟩ : ∃ d, d = es.findIdx (isG g) := ⟨_, rfl⟩
  have HD := hid hd
  unfold IxPost at IX
  rw [← hd] at IX
  unfold maxLen at hcm
  clear ho hX hn hd
  by_cases hall : d = es.length
  · rw [if_pos hall] at IX
    have HA := hid (rest_all (g := g) (es := es) (by rw [← HD.out]; exact hall))
    clear hall
    go_enter Try.func37, Try.ntmps37
    go_wp2_with fail
    refine (IX.out).mono ?_
    rintro e w5 ⟨rfl, hb5⟩
    have H := hid (show w5.ownsRow base 28 3 (.slice (some ⟨gr, 0, none⟩) n c) n (fl es) from by
      obtain ⟨h0, h1 | ⟨q, cap, cur, h1, h2, h3, h4⟩⟩ := HO.out
      · exact ⟨h0, .inl h1⟩
      · exact ⟨h0, .inr ⟨q, cap, cur, h1, h2, (hb5.block q (by obtain ⟨hl, _⟩ := Array.getElem?_eq_some_iff.1 h3; exact hl)).trans h3, h4⟩⟩)
    have HB := hid hb5
    clear hb5
    go_wp2
    go_ret
    refine ⟨ret_s (by rw [HA.out]; exact HN.out.symm), ?_, ⟨HB.out.os, HB.out.tape, HB.out.output, HB.out.size, fun q hq _ _ => HB.out.block q hq⟩⟩
    rw [HA.out, HN.out]
    exact H.out
  · rw [if_neg hall] at IX
    have hdl : d < n := by
      have := List.findIdx_le_length (p := isG g) (xs := es)
      have := HN.out; have := HD.out
      omega
    have HF := hid (rest_first (g := g) (es := es) (by rw [← HD.out, HN.out]; exact hdl))
    rw [← HD.out] at HF
    have dne : ((d : Int) == -1) = false := beq_eq_false_iff_ne.2 (by omega)
    clear hall
    go_enter Try.func37, Try.ntmps37
    go_wp2_with fail
    refine (IX.out).mono ?_
    rintro e w5 ⟨rfl, hb5⟩
    have D5 : Hid (Dg w base gr n c es g (d + 1) d es w5) := by
      refine hid ⟨?_, HN.out, HF.out, rfl, by omega, ⟨hb5.os, hb5.tape, hb5.output, hb5.size, fun q hq _ _ => hb5.block q hq⟩⟩
      obtain ⟨h0, h1 | ⟨q, cap, cur, h1, h2, h3, h4⟩⟩ := HO.out
      · exact ⟨h0, .inl h1⟩
      · exact ⟨h0, .inr ⟨q, cap, cur, h1, h2, (hb5.block q (by obtain ⟨hl, _⟩ := Array.getElem?_eq_some_iff.1 h3; exact hl)).trans h3, h4⟩⟩
    clear hb5 HO IX HF
    go_wp2_with fail
    go_loopw [5, 6] (fun i j wr => ∃ (k m : Nat) (R : List (Int × Int × Int)), k ≤ n ∧ i = .int .i64 m ∧ j = .int .i64 k ∧ Hid (Dg w base gr n c es g k m R wr))
      (fun _ j _ => n - (intOf j).toNat)
    case atStart => exact ⟨d + 1, d, es, by omega, rfl, by go_num, D5⟩
    case round =>
      clear D5 dne
      obtain ⟨k, m, R, hk, rfl, rfl, D⟩ := hrel
      have hmk := D.out.ml
      by_cases hlt : k < n
      · obtain ⟨q0, q1, q2⟩ := D.out.cells k hlt
        have hxe := D.out.hd hlt HN.out
        obtain ⟨x1, x2, x3, hx⟩ : ∃ x1 x2 x3, enAt es k = (x1, x2, x3) := ⟨_, _, _, rfl⟩
        rw [hxe, hx] at q0 q1 q2
        have HXX := hid hx
        have DA := hid (D.out.below ((Below.refl _ _).alloc (Nat.le_refl _) (.cells #[.int .i64 x1, .int .u64 x2, .int .i64 x3] 28)))
        have NA := hid (Deep.blk_alloc_new wr (.cells #[.int .i64 x1, .int .u64 x2, .int .i64 x3] 28))
        have XA : (wr.alloc (.cells #[.int .i64 x1, .int .u64 x2, .int .i64 x3] 28)).heap[X]? = some (.cells #[.int .i64 g] 3 (0, 0)) :=
          (DA.out.only.block X (by obtain ⟨hl, _⟩ := Array.getElem?_eq_some_iff.1 HX.out; exact hl) hXg hXg).trans HX.out
        have hgw := D.out.lt
        clear hx hxe D
        cases hr : (x3 == g)
        · have DC := hid (del_any g x1 x2 x3 X _ XA false hr)
          have HR := hid hr
          clear XA hr
          go_wp2_with fail
          refine (DC.out).mono ?_
          rintro e w6 ⟨rfl, hb6⟩
          have D6 := hid (DA.out.below hb6)
          have N6 := (hb6.block _ (by simp)).trans NA.out
          have y0 : w6.cell? ⟨wr.heap.size, 0, none⟩ = some (.int .i64 x1) := cell_ent N6 rfl
          have y1 : w6.cell? ⟨wr.heap.size, 1, none⟩ = some (.int .u64 x2) := cell_ent N6 rfl
          have y2 : w6.cell? ⟨wr.heap.size, 2, none⟩ = some (.int .i64 x3) := cell_ent N6 rfl
          obtain ⟨u0, u1, u2⟩ := D6.out.cells m (by omega)
          have v0 := D6.out.fr (m * 3)
          have v1 := D6.out.fr (m * 3 + 1)
          have v2 := D6.out.fr (m * 3 + 2)
          have D7 := hid (D6.out.stay hlt HN.out x1 x2 x3 HXX.out HR.out)
          clear hb6 DC DA NA N6 D6 q0 q1 q2
          go_wp2
          go_roundw
          case rel => exact ⟨k + 1, m + 1, _, by omega, by go_num, by go_num, D7⟩
          case measure => simp [intOf]; omega
        · have DC := hid (del_any g x1 x2 x3 X _ XA true hr)
          have HR := hid hr
          clear XA hr
          go_wp2_with fail
          refine (DC.out).mono ?_
          rintro e w6 ⟨rfl, hb6⟩
          have D6 := hid ((DA.out.below hb6).skip hlt HN.out (by rw [HXX.out]; exact HR.out))
          clear hb6 DC DA NA q0 q1 q2
          go_wp2
          go_roundw
          case rel => exact ⟨k + 1, m, R, by omega, by go_num, by go_num, D6⟩
          case measure => simp [intOf]; omega
      · obtain rfl : k = n := by omega
        have hr : R.take m = rest g es := by rw [D.out.tk]; unfold rest; rw [List.take_of_length_le (by have := HN.out; omega)]
        have hrm : (rest g es).length = m := by rw [← hr, List.length_take, D.out.len]; omega
        obtain ⟨cur, hcur, hcs⟩ : ∃ cur, wr.heap[gr]? = some (.cells cur 28 (0, 0)) ∧ cur.size = c * 3 := by
          obtain ⟨h0, ⟨h1, h2⟩ | ⟨q, cap, cur, h1, h2, h3, h4, h5, h6, _⟩⟩ := D.out.own
          · cases h1
          · simp only [Value.slice.injEq, Option.some.injEq, Addr.mk.injEq] at h1
            obtain ⟨⟨rfl, _⟩, _, rfl⟩ := h1
            exact ⟨cur, h3, h6⟩
        obtain ⟨Z, hZ, hcl⟩ := run_clear3 wr gr (m * 3) (k - m) (c - m) cur hcur (by omega) (by omega)
        have H := hid (And.intro (own_clear D.out.own D.out.len (show m ≤ k by omega) Z) (D.out.only.trans (only_cells gr Z (m * 3) wr)))
        rw [hr] at H
        have HRM := hid hrm
        have hmc : (m : Int) ≤ c := by omega
        have hmk' : (m : Int) ≤ k := by omega
        clear hr hrm hcur hcs hZ D
        go_wp2
        go_ret
        refine ⟨ret_s HRM.out.symm, ?_, H.out.2⟩
        rw [HRM.out]
        exact H.out.1
end Go.Proofs.Ythabcnjddeoebaa
