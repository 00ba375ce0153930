/- The walk of the statement HeapSorts: the law answers true and turns nothing that was there. -/
import Derived.Test.YthkaachdggajkaaLives09
import Derived.Test.YthkaachdggajkaaHeap8
import Derived.Test.YthkaachdggajkaaHeap9
import Derived.Test.YthkaachdggajkaaHeapK
import Derived.Test.YthkaachdggajkaaHeapO2
import Derived.Test.YthkaachdggajkaaStructs
namespace Go.Proofs.Ythkaachdggajkaa.heapSorts
open Go.RowKit
set_option linter.unusedVariables false
set_option linter.unusedSimpArgs false

theorem count_app (es : List (Int × Int × Int)) (a e : Int × Int × Int) : (es ++ [a]).count e = if e = a then es.count a + 1 else es.count e := by
  rw [List.count_append]
  by_cases h : e = a
  · simp [h]
  · simp only [List.count_cons, List.count_nil, beq_iff_eq, if_neg h]
    rw [if_neg (fun q => h q.symm)]; omega
theorem put_count (es : List (Int × Int × Int)) (a e : Int × Int × Int) : (riseF es.length (es ++ [a]) es.length).count e = if e = a then es.count a + 1 else es.count e := by
  rw [rise_count _ _ _ (by simp) e, count_app]
theorem put_len (es : List (Int × Int × Int)) (a : Int × Int × Int) : (riseF es.length (es ++ [a]) es.length).length = es.length + 1 := by
  rw [rise_len]; simp
/-- What is behind the one at the top. -/
theorem take_count {es : List (Int × Int × Int)} {m : Nat} (hm : es.length = m + 1) (e : Int × Int × Int) :
    es.count e = (sinkF (m + 1) ((sw es 0 m).take m) m 0).count e + if e = enAt es 0 then 1 else 0 := by
  have hl : ((sw es 0 m).take m).length = m := by rw [List.length_take, sw_len]; omega
  have h1 : (sinkF (m + 1) ((sw es 0 m).take m) m 0).count e = ((sw es 0 m).take m).count e := by
    rcases Nat.eq_zero_or_pos m with h0 | h0
    · subst h0
      have : (sw es 0 0).take 0 = [] := rfl
      rw [this]
      have hk : lk [] 0 0 4 = 0 := by decide
      simp [sinkF, hk]
    · have := sink_count (m + 1) ((sw es 0 m).take m) 0 (by omega) e
      rw [hl] at this
      exact this
  have h2 := sw_count es 0 m (by omega) (by omega) e
  have h3 : sw es 0 m = (sw es 0 m).take m ++ [enAt es 0] := by
    have hsl : (sw es 0 m).length = m + 1 := by rw [sw_len]; exact hm
    have h4 := List.take_append_drop m (sw es 0 m)
    have h5 : (sw es 0 m).drop m = [enAt es 0] := by
      rw [List.drop_eq_getElem_cons (by omega)]
      have h6 : (sw es 0 m)[m] = enAt es 0 := by
        have := enAt_sw es 0 m m (by omega)
        rw [if_pos rfl] at this
        rw [← this, enAt_get]
      rw [h6, List.drop_eq_nil_of_le (by omega)]
    rw [h5] at h4
    exact h4.symm
  rw [h1, ← h2]
  conv => lhs; rw [h3]
  rw [List.count_append, List.count_cons, List.count_nil]
  by_cases h : e = enAt es 0
  · simp [h]
  · simp only [beq_iff_eq, if_neg h]; rw [if_neg (fun q => h q.symm)]
theorem take_len {es : List (Int × Int × Int)} {m : Nat} (hm : es.length = m + 1) : (sinkF (m + 1) ((sw es 0 m).take m) m 0).length = m := by
  rw [sink_len, List.length_take, sw_len]; omega
/-- What is left isn't ahead of the one that was taken. -/
theorem take_le {es : List (Int × Int × Int)} {m : Nat} (ho : Ord es) (hm : es.length = m + 1) : ∀ e, 0 < (sinkF (m + 1) ((sw es 0 m).take m) m 0).count e → leE (enAt es 0) e := by
  intro e he
  have h1 := take_count hm e
  have h2 : 0 < es.count e := by omega
  obtain ⟨i, hi, h3⟩ := List.mem_iff_getElem.1 (List.count_pos_iff.1 h2)
  have := root_le ho i i (Nat.le_refl _) hi
  rw [enAt_get hi, h3] at this
  exact this
theorem enAt_pos {es : List (Int × Int × Int)} (h : 0 < es.length) : 0 < es.count (enAt es 0) := by
  rw [List.count_pos_iff, enAt_get h]
  exact List.getElem_mem h

set_option maxHeartbeats 4000000 in
theorem walk (a0 : Option Addr) (len0 cap0 : Nat) (z0 : Nat → Nat → Int) (w : World) (w0 : IsStructs [.i64, .u64, .i64] w a0 len0 cap0 z0) :
    Calls Try.prog 5 #[.slice a0 len0 cap0] w fun e w' => e = .returned (.bool true) ∧ Below w.heap.size w w' := by
  by_cases hlen : (80 : Int) < len0
  · go_enter Try.func5, Try.ntmps5
    go_wp2_with fail
    refine (lives9 _).mono ?_
    rintro e w2 ⟨rfl, hb1⟩
    go_wp2_with fail
    refine (lives9 _).mono ?_
    rintro e w3 ⟨rfl, hb2⟩
    go_wp2
    go_ret
    exact ⟨rfl, hb1.trans (hb2.mono hb1.size)⟩
  · have hlen' : len0 ≤ 80 := by omega
    have W0 := hid w0
    clear w0
    go_enter Try.func5, Try.ntmps5
    go_wp2_with fail
    refine (lives9 _).mono ?_
    rintro e w2 ⟨rfl, hb1⟩
    have hs1 := hb1.size
    have H0 : Hid (Hp ((w2.alloc (.cells #[.slice none 0 0] 26)).alloc (.map #[] 0)) (w2.heap.size + 2) w2.heap.size (.slice none 0 0) []) :=
      ⟨(Below.heap_alloc _ _ _ (by simp)).trans (Deep.blk_alloc_new _ _), ⟨by simp [fl], .inl ⟨rfl, rfl⟩⟩, by simp [Value.ownBlock], by simp⟩
    have C0 : Hid (Ctr ((w2.alloc (.cells #[.slice none 0 0] 26)).alloc (.map #[] 0)) (w2.heap.size + 1) (fun _ => 0)) := by
      have := Ctr.new (w2.alloc (.cells #[.slice none 0 0] 26))
      rw [World.size_alloc] at this
      exact this
    have hmm : (Instr.makeMap 45 none).run Try.prog (w2.alloc (.cells #[.slice none 0 0] 26)) = .ok (.map (some (w2.heap.size + 1))) ((w2.alloc (.cells #[.slice none 0 0] 26)).alloc (.map #[] 0)) := by
      have := World.size_alloc w2 (.cells #[.slice none 0 0] 26)
      rw [← this]; rfl
    have hB0 := (hb1.alloc hs1 (.cells #[.slice none 0 0] 26)).alloc (by simp; omega) (.map #[] 0)
    have HB0 := hid hB0
    clear hB0 hb1
    generalize hP : w2.heap.size = P at *
    have hP2 : ((w2.alloc (.cells #[.slice none 0 0] 26)).alloc (.map #[] 0)).heap.size = P + 2 := by simp [hP]
    go_wp2_with fail
    generalize (w2.alloc (.cells #[.slice none 0 0] 26)).alloc (.map #[] 0) = w3 at *
    go_loopw [24] (fun i wr => ∃ (k : Nat) (v : Value) (es : List (Int × Int × Int)), k ≤ len0 ∧ i = .int .i64 k ∧ Hid (Hp wr (P + 2) P v es) ∧ es.length = k ∧ Hid (Ord es) ∧ Hid (Ctr wr (P + 1) (fun e => es.count e)) ∧ P + 2 ≤ wr.heap.size ∧ Hid (Below w.heap.size w wr))
      (fun i _ => len0 - (intOf i).toNat)
    case atStart => exact ⟨0, _, [], by omega, rfl, H0, rfl, fun k h1 h2 => by simp at h2, hid (by simpa using C0.out), by omega, HB0⟩
    case round =>
      obtain ⟨k, v, es, hk, rfl, hhr, hek, hor, hcr, hsr, hbr⟩ := hrel
      by_cases hlt : k < len0
      · obtain ⟨bx, off, rfl, hcell⟩ := W0.out.open (by omega) (by simp)
        obtain ⟨hx, hxw⟩ := hcell _ hbr.out k hlt 0 .i64 rfl
        obtain ⟨hy, hyw⟩ := hcell _ hbr.out k hlt 1 .u64 rfl
        obtain ⟨hz, hzw⟩ := hcell _ hbr.out k hlt 2 .i64 rfl
        obtain ⟨x1, hx1⟩ : ∃ x, x = z0 k 0 := ⟨_, rfl⟩
        obtain ⟨x2, hx2⟩ : ∃ x, x = z0 k 1 := ⟨_, rfl⟩
        obtain ⟨x3, hx3⟩ : ∃ x, x = z0 k 2 := ⟨_, rfl⟩
        rw [← hx1] at hx
        rw [← hx2] at hy
        rw [← hx3] at hz
        clear hx1 hx2 hx3 hcell hxw hyw hzw
        simp only [List.length_cons, List.length_nil, Nat.reduceAdd, Nat.add_zero] at hx hy hz
        rw [← Nat.add_assoc] at hy hz
        have HA := hid (hhr.out.below ((Below.refl wr.heap.size wr).alloc (Nat.le_refl _) (.cells #[.int .i64 x1, .int .u64 x2, .int .i64 x3] 29)))
        have NA := hid (Deep.blk_alloc_new wr (.cells #[.int .i64 x1, .int .u64 x2, .int .i64 x3] 29))
        have CA := hid (hcr.out.kept (Below.heap_alloc wr (.cells #[.int .i64 x1, .int .u64 x2, .int .i64 x3] 29) _ (by omega)))
        have BA := hid (hbr.out.alloc hbr.out.size (.cells #[.int .i64 x1, .int .u64 x2, .int .i64 x3] 29))
        have OV : Hid (v.ownBlock ≠ some wr.heap.size) := hid (fun e => by have := (hhr.out.own_lt _ e).2; omega)
        have hsp : (wr.alloc (.cells #[.int .i64 x1, .int .u64 x2, .int .i64 x3] 29)).heap.size = wr.heap.size + 1 := by simp
        go_wp2_with fail
        refine (put_all _ (P + 2) P v es x1 x2 x3 HA.out (by omega) (by omega)).mono ?_
        rintro e w5 ⟨rfl, v5, h5, o5, q5⟩
        have s5 := q5.size
        rw [hsp] at s5
        have N5 := q5.blk NA.out (by omega) OV.out
        have y0 := cell_ent (i := 0) N5 rfl
        have y1 := cell_ent (i := 1) N5 rfl
        have y2 := cell_ent (i := 2) N5 rfl
        have C5 := CA.out.kept (o5.block (P + 1) (by omega) (by omega) (by omega))
        have B5 := hid (BA.out.trans (o5.below (B := w.heap.size) (by omega) (by omega) (by rw [hsp]; omega)))
        have H5 := hid h5
        have OV5 : Hid (v5.ownBlock ≠ some (P + 1)) := hid (fun e => by have := (h5.own_lt _ e).1; omega)
        obtain ⟨c, hc⟩ : ∃ c, c = es.count (x1, x2, x3) := ⟨_, rfl⟩
        have hcl : c ≤ 80 := by rw [hc]; have := List.count_le_length (a := (x1, x2, x3)) (l := es); omega
        have CD : Ctr w5.drew (P + 1) (fun e => es.count e) := C5.kept rfl
        have E1 := CD.look x1 x2 x3
        obtain ⟨w6, sg, w7, E2, E3, E4, C7, o7⟩ := CD.step x1 x2 x3 ((c : Int) + 1) (c + 1) (by omega)
        simp only [← hc] at E1 E2 E3
        have C7' := hid C7
        have O7 := hid o7
        have HC := hid hc
        clear h5 o5 q5 N5 C5 CD C7 o7 hc HA NA CA BA OV hhr hcr hx hy hz
        go_wp2_with fail
        go_region
        all_goals
          go_wp2
          go_roundw
          case rel =>
            refine ⟨k + 1, v5, _, by omega, by go_num, hid ((H5.out.kept (w' := w5.drew) rfl (fun _ _ => rfl)).other O7.out (by omega) OV5.out), by rw [put_len]; omega, hid (put_ord hor.out _), hid ?_, ?_, hid (B5.out.trans ((Quiet.below ⟨1, rfl⟩ _).trans (O7.out.below (by omega) (by omega) (by simp; omega))))⟩
            · have e : (fun e => (riseF es.length (es ++ [(x1, x2, x3)]) es.length).count e) = fun e => if e = (x1, x2, x3) then c + 1 else es.count e := funext fun e => by rw [put_count, HC.out]
              rw [e]; exact C7'.out
            · have h1 := O7.out.size
              have h2 : w5.drew.heap.size = w5.heap.size := rfl
              omega
          case measure => simp [intOf]; omega
      · obtain rfl : k = len0 := by omega
        have N0 := hid (Deep.blk_alloc_new wr (.cells #[.int .i64 0, .int .u64 0, .int .i64 0] 29))
        have H0 := hid (hhr.out.below ((Below.refl wr.heap.size wr).alloc (Nat.le_refl _) (.cells #[.int .i64 0, .int .u64 0, .int .i64 0] 29)))
        have C0 := hid (hcr.out.kept (Below.heap_alloc wr (.cells #[.int .i64 0, .int .u64 0, .int .i64 0] 29) _ (by omega)))
        have B0 := hid (hbr.out.alloc hbr.out.size (.cells #[.int .i64 0, .int .u64 0, .int .i64 0] 29))
        have OV : Hid (v.ownBlock ≠ some wr.heap.size) := hid (fun e => by have := (hhr.out.own_lt _ e).2; omega)
        have OR := hor
        obtain ⟨n, hn⟩ : ∃ n, n = k := ⟨_, rfl⟩
        have hes : es.length = n := by omega
        have hn80 : n ≤ 80 := by omega
        clear hhr hcr hbr hor hek W0
        go_wp2_with fail
        rw [← hn]
        clear hn hk hlt hlen' hlen
        generalize hLb : wr.heap.size = Lb at *
        have hsz : (wr.alloc (.cells #[.int .i64 0, .int .u64 0, .int .i64 0] 29)).heap.size = Lb + 1 := by simp [hLb]
        generalize wr.alloc (.cells #[.int .i64 0, .int .u64 0, .int .i64 0] 29) = w4 at *
        go_loopw [40] (fun i wr => ∃ (k : Nat) (v : Value) (es : List (Int × Int × Int)) (l1 l2 l3 : Int), k ≤ n ∧ i = .int .i64 k ∧ Hid (Hp wr (P + 2) P v es) ∧ es.length + k = n ∧ Hid (Ord es) ∧ Hid (Ctr wr (P + 1) (fun e => es.count e)) ∧ Hid (wr.heap[Lb]? = some (.cells #[.int .i64 l1, .int .u64 l2, .int .i64 l3] 29 (0, 0))) ∧ Hid (v.ownBlock ≠ some Lb) ∧
            Hid (0 < k → ∀ e, 0 < es.count e → leE (l1, l2, l3) e) ∧ Lb < wr.heap.size ∧ Hid (Below w.heap.size w wr))
          (fun i _ => n - (intOf i).toNat)
        case atStart => exact ⟨0, v, es, 0, 0, 0, by omega, rfl, H0, by omega, OR, C0, N0, OV, hid (fun h => absurd h (by omega)), by omega, B0⟩
        case round =>
          obtain ⟨k, v, es, l1, l2, l3, hk, rfl, hhr, hek, hor, hcr, hnr, hov, hle, hlb, hbr⟩ := hrel
          by_cases hlt : k < n
          · obtain ⟨m, hm⟩ : ∃ m, es.length = m + 1 := ⟨es.length - 1, by omega⟩
            obtain ⟨g, c, rfl, hs⟩ := hhr.out.hs (by omega)
            rw [hm] at hs hov
            obtain ⟨x1, x2, x3, hx⟩ : ∃ x1 x2 x3, enAt es 0 = (x1, x2, x3) := ⟨_, _, _, rfl⟩
            have TK := hid (take_some wr (P + 2) P g m c es hs x1 x2 x3 hx)
            have TC := hid (take_count hm)
            have TL := hid (take_len hm)
            have TO := hid (take_ord hor.out hm)
            have TE := hid (take_le hor.out hm)
            have EP := enAt_pos (es := es) (by omega)
            rw [hx] at TC TE EP
            have HX := hid hx
            have hgl : g ≠ Lb := fun e => hov.out (by rw [← e]; rfl)
            obtain ⟨hg1, hg2, hg3⟩ := hs.ge
            generalize sinkF (m + 1) ((sw es 0 m).take m) m 0 = T at *
            have AH : Hid (0 < k → aheadE (x1, x2, x3) (l1, l2, l3) = false) := hid (fun h => hle.out h _ EP)
            clear hs hx hle hhr hor
            go_wp2_with fail
            refine (TK.out).mono ?_
            rintro e w5 ⟨rfl, h5⟩
            have s5 := h5.ho.size
            have N5 := hid (h5.ho.blk hnr.out (by omega) (by omega))
            have C5 := hid (hcr.out.kept (h5.ho.block (P + 1) (by omega) (by omega) (by omega)))
            have B5 := hid (hbr.out.trans ((OnlyV.of_h h5.ho hg1).below (B := w.heap.size) (by omega) (by omega) hbr.out.size))
            have M6 := hid (Deep.blk_alloc_new w5 (.cells #[.int .i64 x1, .int .u64 x2, .int .i64 x3] 29))
            have N6 := hid ((Below.heap_alloc w5 (.cells #[.int .i64 x1, .int .u64 x2, .int .i64 x3] 29) _ (by omega)).trans N5.out)
            have C6 := hid (C5.out.kept (Below.heap_alloc w5 (.cells #[.int .i64 x1, .int .u64 x2, .int .i64 x3] 29) _ (by omega)))
            have B6 := hid (B5.out.alloc B5.out.size (.cells #[.int .i64 x1, .int .u64 x2, .int .i64 x3] 29))
            have H6 := hid (h5.hp.below ((Below.refl w5.heap.size w5).alloc (Nat.le_refl _) (.cells #[.int .i64 x1, .int .u64 x2, .int .i64 x3] 29)))
            have hsz6 : (w5.alloc (.cells #[.int .i64 x1, .int .u64 x2, .int .i64 x3] 29)).heap.size = w5.heap.size + 1 := by simp
            obtain ⟨cc, hcc⟩ : ∃ cc, cc = es.count (x1, x2, x3) := ⟨_, rfl⟩
            rw [← hcc] at EP
            have hcl : (cc : Int) ≤ 80 := by rw [hcc]; have := List.count_le_length (a := (x1, x2, x3)) (l := es); omega
            have hc1 : (1 : Int) ≤ cc := by omega
            have hc0 : ((cc : Int) == 0) = false := beq_eq_false_iff_ne.2 (by omega)
            have CC := hid hcc
            clear h5 N5 C5 B5 hnr hcr hbr hcc
            rcases Nat.eq_zero_or_pos k with hk0 | hk0
            · have hkz : (k : Int) ≤ 0 := by omega
              clear hk0 AH
              have E1 := C6.out.look x1 x2 x3
              rw [← CC.out] at E1
              go_wp2_with fail
              have M7 := M6
              have N7 := N6
              have C7 := C6
              have B7 := B6
              have H7 := H6
              have s7 : w5.heap.size + 1 ≤ (w5.alloc (.cells #[.int .i64 x1, .int .u64 x2, .int .i64 x3] 29)).heap.size := by omega
              clear M6 N6 C6 B6 H6 E1 hsz6
              generalize w5.alloc (.cells #[.int .i64 x1, .int .u64 x2, .int .i64 x3] 29) = w6 at *
              have CD : Ctr w6.drew (P + 1) (fun e => es.count e) := C7.out.kept rfl
              have F1 := CD.look x1 x2 x3
              obtain ⟨w8, sg, w9, F2, F3, F4, C9, o9⟩ := CD.step x1 x2 x3 ((cc : Int) - 1) (cc - 1) (by omega)
              simp only [← CC.out] at F1 F2 F3
              have y0 := cell_ent (i := 0) M7.out rfl
              have y1 := cell_ent (i := 1) M7.out rfl
              have y2 := cell_ent (i := 2) M7.out rfl
              have N9 : w9.heap[Lb]? = some (.cells #[.int .i64 l1, .int .u64 l2, .int .i64 l3] 29 (0, 0)) := (o9.block Lb (by show Lb < w6.heap.size; omega) (by omega) (by omega)).trans N7.out
              have M9 : w9.heap[w5.heap.size]? = some (.cells #[.int .i64 x1, .int .u64 x2, .int .i64 x3] 29 (0, 0)) := (o9.block w5.heap.size (by show w5.heap.size < w6.heap.size; omega) (by omega) (by omega)).trans M7.out
              have q0 := cell_ent (i := 0) M9 rfl
              have q1 := cell_ent (i := 1) M9 rfl
              have q2 := cell_ent (i := 2) M9 rfl
              have u0 := cell_ent (i := 0) N9 rfl
              have u1 := cell_ent (i := 1) N9 rfl
              have u2 := cell_ent (i := 2) N9 rfl
              have v0 : w9.frozen? ⟨Lb, 0, none⟩ = false := by simp [World.frozen?, N9]
              have v1 : w9.frozen? ⟨Lb, 1, none⟩ = false := by simp [World.frozen?, N9]
              have v2 : w9.frozen? ⟨Lb, 2, none⟩ = false := by simp [World.frozen?, N9]
              have ST := hid (set3 N9 (.int .i64 x1) (.int .u64 x2) (.int .i64 x3)).out
              have O9 := hid o9
              have C9' := hid C9
              have S9 := hid o9.size
              clear CD N9 M9 o9 C9 N7 M7 C7
              go_region
              all_goals
                go_wp2
                go_roundw
                case rel =>
                  obtain ⟨so, sb⟩ := ST.out
                  refine ⟨k + 1, _, T, x1, x2, x3, by omega, by go_num, hid ((((H7.out.kept (w' := w6.drew) rfl (fun _ _ => rfl)).other O9.out (by omega) (by simp [Value.ownBlock]; omega))).other so (by omega) (by simp [Value.ownBlock]; omega)), by rw [TL.out]; omega, TO, hid ?_, hid sb, hov, hid (fun _ e he => TE.out e he), ?_, hid ((B7.out.trans ((Quiet.below ⟨1, rfl⟩ _).trans (O9.out.below (by omega) (by omega) (by have := B7.out.size; exact this)))).trans (so.below (by omega) (by omega) ?_))⟩
                  · have e : (fun e => T.count e) = fun e => if e = (x1, x2, x3) then cc - 1 else es.count e := funext fun e => by
                      have := TC.out e
                      by_cases h : e = (x1, x2, x3)
                      · rw [if_pos h] at this ⊢; rw [h] at this ⊢; have hc := CC.out; omega
                      · rw [if_neg h] at this ⊢; omega
                    rw [e]; exact C9'.out.kept (so.block _ C9'.out.lt (by omega) (by omega))
                  · have h1 := so.size; have h2 := S9.out; have h3 : w6.drew.heap.size = w6.heap.size := rfl; omega
                  · have h2 := S9.out; have h3 : w6.drew.heap.size = w6.heap.size := rfl; have := B7.out.size; omega
                case measure => simp [intOf]; omega
            · have hkz : (0 : Int) < k := by omega
              have AC : Hid (Calls Try.prog 11 #[.agg #[.int .i64 x1, .int .u64 x2, .int .i64 x3], .agg #[.int .i64 l1, .int .u64 l2, .int .i64 l3]] (w5.alloc (.cells #[.int .i64 x1, .int .u64 x2, .int .i64 x3] 29)) fun e w' => e = .returned (.bool false) ∧ Below (w5.alloc (.cells #[.int .i64 x1, .int .u64 x2, .int .i64 x3] 29)).heap.size (w5.alloc (.cells #[.int .i64 x1, .int .u64 x2, .int .i64 x3] 29)) w') := by
                rw [← AH.out hk0]; exact hid (ahead_any x1 x2 x3 l1 l2 l3 _)
              clear hk0 AH
              have z0 := cell_ent (i := 0) N6.out rfl
              have z1 := cell_ent (i := 1) N6.out rfl
              have z2 := cell_ent (i := 2) N6.out rfl
              go_wp2_with fail
              refine (AC.out).mono ?_
              rintro e w6 ⟨rfl, h6⟩
              have s7 := h6.size
              rw [hsz6] at s7 h6
              have M7 := hid ((h6.block _ (by omega)).trans M6.out)
              have N7 := hid ((h6.block _ (by omega)).trans N6.out)
              have C7 := hid (C6.out.kept (h6.block _ (by omega)))
              have H7 := hid (H6.out.below (by rw [hsz6]; exact h6))
              have B7 := hid (B6.out.trans (h6.mono (by have := B6.out.size; omega)))
              clear M6 N6 C6 B6 H6 hsz6 z0 z1 z2 AC h6
              have E1 := C7.out.look x1 x2 x3
              rw [← CC.out] at E1
              have y0 := cell_ent (i := 0) M7.out rfl
              have y1 := cell_ent (i := 1) M7.out rfl
              have y2 := cell_ent (i := 2) M7.out rfl
              go_wp2_with fail
              clear E1 y0 y1 y2
              have CD : Ctr w6.drew (P + 1) (fun e => es.count e) := C7.out.kept rfl
              have F1 := CD.look x1 x2 x3
              obtain ⟨w8, sg, w9, F2, F3, F4, C9, o9⟩ := CD.step x1 x2 x3 ((cc : Int) - 1) (cc - 1) (by omega)
              simp only [← CC.out] at F1 F2 F3
              have y0 := cell_ent (i := 0) M7.out rfl
              have y1 := cell_ent (i := 1) M7.out rfl
              have y2 := cell_ent (i := 2) M7.out rfl
              have N9 : w9.heap[Lb]? = some (.cells #[.int .i64 l1, .int .u64 l2, .int .i64 l3] 29 (0, 0)) := (o9.block Lb (by show Lb < w6.heap.size; omega) (by omega) (by omega)).trans N7.out
              have M9 : w9.heap[w5.heap.size]? = some (.cells #[.int .i64 x1, .int .u64 x2, .int .i64 x3] 29 (0, 0)) := (o9.block w5.heap.size (by show w5.heap.size < w6.heap.size; omega) (by omega) (by omega)).trans M7.out
              have q0 := cell_ent (i := 0) M9 rfl
              have q1 := cell_ent (i := 1) M9 rfl
              have q2 := cell_ent (i := 2) M9 rfl
              have u0 := cell_ent (i := 0) N9 rfl
              have u1 := cell_ent (i := 1) N9 rfl
              have u2 := cell_ent (i := 2) N9 rfl
              have v0 : w9.frozen? ⟨Lb, 0, none⟩ = false := by simp [World.frozen?, N9]
              have v1 : w9.frozen? ⟨Lb, 1, none⟩ = false := by simp [World.frozen?, N9]
              have v2 : w9.frozen? ⟨Lb, 2, none⟩ = false := by simp [World.frozen?, N9]
              have ST := hid (set3 N9 (.int .i64 x1) (.int .u64 x2) (.int .i64 x3)).out
              have O9 := hid o9
              have C9' := hid C9
              have S9 := hid o9.size
              clear CD N9 M9 o9 C9 N7 M7 C7
              go_region
              all_goals
                go_wp2
                go_roundw
                case rel =>
                  obtain ⟨so, sb⟩ := ST.out
                  refine ⟨k + 1, _, T, x1, x2, x3, by omega, by go_num, hid ((((H7.out.kept (w' := w6.drew) rfl (fun _ _ => rfl)).other O9.out (by omega) (by simp [Value.ownBlock]; omega))).other so (by omega) (by simp [Value.ownBlock]; omega)), by rw [TL.out]; omega, TO, hid ?_, hid sb, hov, hid (fun _ e he => TE.out e he), ?_, hid ((B7.out.trans ((Quiet.below ⟨1, rfl⟩ _).trans (O9.out.below (by omega) (by omega) (by have := B7.out.size; exact this)))).trans (so.below (by omega) (by omega) ?_))⟩
                  · have e : (fun e => T.count e) = fun e => if e = (x1, x2, x3) then cc - 1 else es.count e := funext fun e => by
                      have := TC.out e
                      by_cases h : e = (x1, x2, x3)
                      · rw [if_pos h] at this ⊢; rw [h] at this ⊢; have hc := CC.out; omega
                      · rw [if_neg h] at this ⊢; omega
                    rw [e]; exact C9'.out.kept (so.block _ C9'.out.lt (by omega) (by omega))
                  · have h1 := so.size; have h2 := S9.out; have h3 : w6.drew.heap.size = w6.heap.size := rfl; omega
                  · have h2 := S9.out; have h3 : w6.drew.heap.size = w6.heap.size := rfl; have := B7.out.size; omega
                case measure => simp [intOf]; omega
          · obtain rfl : es = [] := List.length_eq_zero_iff.1 (by omega)
            have TN := hid (take_none wr (P + 2) P v hhr.out)
            have B0 := hbr
            clear hhr hcr hnr hov hle hbr hor hek
            go_wp2_with fail
            refine (TN.out).mono ?_
            rintro e w5 ⟨rfl, h5⟩
            have B5 := hid ((B0.out.trans (h5.mono B0.out.size)).alloc (by have := B0.out.size; have := h5.size; omega) (.cells #[.int .i64 0, .int .u64 0, .int .i64 0] 29))
            go_wp2
            go_ret
            exact ⟨rfl, B5.out⟩
end Go.Proofs.Ythkaachdggajkaa.heapSorts
