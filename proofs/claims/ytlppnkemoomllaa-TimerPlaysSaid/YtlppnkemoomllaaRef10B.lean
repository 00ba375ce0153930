/- The document's timers by value: Of as a contract; New. -/
import Derived.Test.YtlppnkemoomllaaRef10A
import Derived.Test.YtlppnkemoomllaaRef09
import Derived.Test.YtlppnkemoomllaaTimB
namespace Go.Proofs.Ytlppnkemoomllaa
set_option linter.unusedVariables false
set_option linter.unusedSimpArgs false
open Go.RowKit Tk
/-- A processor's entries, as they stand; below 0: all. -/
def ofL (p : Int) (D : List Tr) : List En := (D.filter fun x => x.1 == p || decide (p < 0)).map Prod.snd
theorem ofL_len (p : Int) (D : List Tr) : (ofL p D).length ≤ D.length := by simp only [ofL, List.length_map]; exact List.length_filter_le ..
theorem ofL_app (p : Int) (D : List Tr) (x : Tr) : ofL p (D ++ [x]) = ofL p D ++ (if (x.1 == p || decide (p < 0)) then [x.2] else []) := by
  simp only [ofL, List.filter_append, List.map_append]
  congr 1
  by_cases h : (x.1 == p || decide (p < 0)) = true <;> simp [List.filter, h]
theorem sort_snoc (l : List En) (e : En) : sortE (l ++ [e]) = insF e (sortE l) := by
  rw [sort_perm (List.perm_append_singleton e l), insF_sort]
theorem of_hit {p : Int} {D : List Tr} {x : Tr} (h : (x.1 == p || decide (p < 0)) = true) : sortE (ofL p (D ++ [x])) = insF x.2 (sortE (ofL p D)) := by
  rw [ofL_app, if_pos h, sort_snoc]
theorem of_miss {p : Int} {D : List Tr} {x : Tr} (h : (x.1 == p || decide (p < 0)) = false) : sortE (ofL p (D ++ [x])) = sortE (ofL p D) := by
  rw [ofL_app, if_neg (by simp [h]), List.append_nil]
def OfPost (p : Int) (D : List Tr) (w : World) (e : Ending) (w' : World) : Prop := ∃ v, e = .returned v ∧ Rd3 w' v (sortE (ofL p D)) ∧ Below w.heap.size w w'
theorem Rd3.nil (w : World) : Rd3 w (.slice none 0 0) [] := ⟨none, 0, rfl, by simp, by simp, fun h => by simp at h⟩
set_option maxHeartbeats 4000000 in
theorem rtof_any (w : World) (N o : Int) (v : Value) (D : List Tr) (h : Dt w v D) (p : Int) :
    Calls Try.prog 12 #[.agg #[.int .i64 N, v, .int .u64 o], .int .i64 p] w (OfPost p D w) := by
  obtain ⟨a, n, c, rfl, HN, lw⟩ := h.sl
  have H := hid (h.below ((Below.refl _ _).alloc (Nat.le_refl _) (.cells #[.int .i64 N, .slice a n c, .int .u64 o] 29)))
  have B := hid (show Below w.heap.size w (w.alloc (.cells #[.int .i64 N, .slice a n c, .int .u64 o] 29)) from (Below.refl _ _).alloc (Nat.le_refl _) _)
  clear h
  go_enter Try.func12, Try.ntmps12
  go_wp2_with fail
  obtain ⟨w0, hw0⟩ : ∃ w0, w0 = w.alloc (.cells #[.int .i64 N, .slice a n c, .int .u64 o] 29) := ⟨_, rfl⟩
  rw [← hw0] at H B ⊢
  have hs0 : w.heap.size ≤ w0.heap.size := B.out.size
  clear hw0
  go_loopw [5, 11] (fun v5 i wr => ∃ (k : Nat) (vo : Value), k ≤ n ∧ vo = v5 ∧ i = .int .i64 k ∧ Hid (Rd3 wr vo (sortE (ofL p (D.take k)))) ∧ Hid (Below w0.heap.size w0 wr)) (fun _ i _ => n - (intOf i).toNat)
  case atStart => exact ⟨0, _, by omega, rfl, rfl, hid (by simpa [ofL, sortE] using Rd3.nil w0), hid (Below.refl _ _)⟩
  case round =>
    obtain ⟨k, vo, hk, rfl, rfl, F, BR⟩ := hrel
    by_cases hlt : k < n
    · obtain ⟨a', c', e, _, hh⟩ := (H.out.below BR.out).hd
      simp only [Value.slice.injEq] at e
      obtain ⟨rfl, e2, rfl⟩ := e
      clear e2
      obtain ⟨q, off, rfl, _, hc⟩ := hh (by have := HN.out; omega)
      obtain ⟨h0, h1, h2, h3⟩ := hc k (by have := HN.out; omega)
      have T := hid (t_take (es := D) (k := k) (by have := HN.out; omega))
      have LN := hid (show (sortE (ofL p (D.take k))).length ≤ 1000 by
        rw [sort_len]
        have := ofL_len p (D.take k)
        rw [List.length_take] at this
        omega)
      generalize tAt D k = ev at *
      obtain ⟨x, y1, y2, y3⟩ := ev
      simp only at h0 h1 h2 h3
      have BA := (Below.refl wr.heap.size wr).alloc (Nat.le_refl _) (.cells #[.int .i64 x, .int .i64 y1, .int .u64 y2, .int .i64 y3] 65)
      have B2 := hid (BR.out.trans (BA.mono BR.out.size))
      have F1 := hid (F.out.below BA)
      have RP := hid (refput vo (sortE (ofL p (D.take k))) y1 y2 y3 (wr.alloc (.cells #[.int .i64 x, .int .i64 y1, .int .u64 y2, .int .i64 y3] 65)) F1.out LN.out)
      clear hh hc BR BA F
      rcases hc : (x == p || decide (p < 0)) with _ | _
      · have F2 := hid (show Rd3 (wr.alloc (.cells #[.int .i64 x, .int .i64 y1, .int .u64 y2, .int .i64 y3] 65)) vo (sortE (ofL p (D.take (k + 1)))) by rw [T.out, of_miss (x := (x, y1, y2, y3)) hc]; exact F1.out)
        obtain ⟨g1, g2⟩ : (x == p) = false ∧ decide (p < 0) = false := by simpa [Bool.or_eq_false_iff] using hc
        clear hc T RP F1
        go_wp2_with fail
        go_roundw
        case rel => exact ⟨k + 1, _, by omega, rfl, by go_num, F2, B2⟩
        case measure => simp [intOf]; omega
      · have EQ := hid (of_hit (p := p) (D := D.take k) (x := (x, y1, y2, y3)) hc)
        rw [← T.out] at EQ
        have hz1 : (wr.alloc (.cells #[.int .i64 x, .int .i64 y1, .int .u64 y2, .int .i64 y3] 65)).heap.size = wr.heap.size + 1 := by simp
        rcases hxp : (x == p) with _ | _
        · have hp0 : decide (p < 0) = true := by simpa [hxp] using hc
          clear hc T F1
          go_wp2_with fail
          refine (RP.out).mono ?_
          rintro e w5 ⟨v5, rfl, ho, hb⟩
          have F2 := hid (show Rd3 w5 v5 (sortE (ofL p (D.take (k + 1)))) by rw [EQ.out]; exact own_rd3 ho)
          have B5 := hid (B2.out.trans (hb.mono B2.out.size))
          clear ho hb RP
          go_wp2_with fail
          go_roundw
          case rel => exact ⟨k + 1, _, by omega, rfl, by go_num, F2, B5⟩
          case measure => simp [intOf]; omega
        · clear hc T F1
          go_wp2_with fail
          refine (RP.out).mono ?_
          rintro e w5 ⟨v5, rfl, ho, hb⟩
          have F2 := hid (show Rd3 w5 v5 (sortE (ofL p (D.take (k + 1)))) by rw [EQ.out]; exact own_rd3 ho)
          have B5 := hid (B2.out.trans (hb.mono B2.out.size))
          clear ho hb RP
          go_wp2_with fail
          go_roundw
          case rel => exact ⟨k + 1, _, by omega, rfl, by go_num, F2, B5⟩
          case measure => simp [intOf]; omega
    · obtain rfl : k = n := by omega
      have E := hid (show Rd3 wr vo (sortE (ofL p D)) by
        have := F.out
        rwa [List.take_of_length_le (by have := HN.out; omega)] at this)
      have BF := hid (B.out.trans (BR.out.mono hs0))
      clear F
      go_wp2
      go_ret
      exact ⟨_, rfl, E.out, BF.out⟩
end Go.Proofs.Ytlppnkemoomllaa
