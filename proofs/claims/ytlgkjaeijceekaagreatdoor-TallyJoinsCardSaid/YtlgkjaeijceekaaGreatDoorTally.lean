/- tally.Order, tally.waits, tally.Longest as contracts. -/
import Derived.Test.YtlgkjaeijceekaaGreatDoorRdE
import Derived.Test.YtlgkjaeijceekaaGreatDoorPre1
import Derived.Maps.AppendAt
namespace Go.Proofs.YtlgkjaeijceekaaGreatDoor
set_option linter.unusedVariables false
set_option linter.unusedSimpArgs false
set_option maxRecDepth 20000
open Go.RowKit

/-- Does one wait from an event on? -/
def wts (k : Int) : Bool := k == 0 || k == 1 || k == 3
/-- One more event: the longest so far, how many others there were, does it wait? -/
def lstep (g : Int) (s : Int × Int × Bool) (e : Ev) : Int × Int × Bool :=
  if e.2.1 = g then ((if s.2.2 then max s.1 s.2.1 else s.1), 0, wts e.1) else (s.1, s.2.1 + 1, s.2.2)
def lfold (g : Int) (es : List Ev) : Int × Int × Bool := es.foldl (lstep g) (0, 0, false)
theorem lfold_snoc (g : Int) (es : List Ev) (e : Ev) : lfold g (es ++ [e]) = lstep g (lfold g es) e := by simp [lfold]
theorem lfold_range (g : Int) : ∀ (es : List Ev) (s : Int × Int × Bool) (n : Nat), 0 ≤ s.1 → s.1 ≤ n → 0 ≤ s.2.1 → s.2.1 ≤ n →
    0 ≤ (es.foldl (lstep g) s).1 ∧ (es.foldl (lstep g) s).1 ≤ n + es.length ∧ 0 ≤ (es.foldl (lstep g) s).2.1 ∧ (es.foldl (lstep g) s).2.1 ≤ n + es.length
  | [], s, n, h1, h2, h3, h4 => by simp; omega
  | e :: es, s, n, h1, h2, h3, h4 => by
    have := lfold_range g es (lstep g s e) (n + 1) (by unfold lstep; split <;> simp <;> (try split) <;> omega) (by unfold lstep; split <;> simp <;> (try split) <;> omega) (by unfold lstep; split <;> simp <;> omega) (by unfold lstep; split <;> simp <;> omega)
    simp only [List.foldl_cons, List.length_cons]
    omega
theorem lfold_take (g : Int) (es : List Ev) (k : Nat) : 0 ≤ (lfold g (es.take k)).1 ∧ (lfold g (es.take k)).1 ≤ k ∧ 0 ≤ (lfold g (es.take k)).2.1 ∧ (lfold g (es.take k)).2.1 ≤ k := by
  have := lfold_range g (es.take k) (0, 0, false) 0 (by simp) (by simp) (by simp) (by simp)
  have hl := List.length_take_le k es
  unfold lfold
  omega
theorem lfold_mono (g : Int) : ∀ (es : List Ev) (s t : Int × Int × Bool), t.1 ≤ s.1 → (t.2.2 = false ∨ (s.2.1 = t.2.1 ∧ s.2.2 = t.2.2)) → (es.foldl (lstep g) t).1 ≤ (es.foldl (lstep g) s).1
  | [], s, t, h, _ => h
  | e :: es, s, t, h, h2 => by
    refine lfold_mono g es (lstep g s e) (lstep g t e) ?_ ?_
    · unfold lstep
      split
      · rcases h2 with h2 | ⟨h3, h4⟩
        · rw [h2]; simp; split <;> omega
        · rw [h3, h4]; simp; split <;> omega
      · exact h
    · unfold lstep
      split
      · exact .inr ⟨rfl, rfl⟩
      · rcases h2 with h2 | ⟨h3, h4⟩
        · exact .inl h2
        · exact .inr ⟨by simp [h3], h4⟩
theorem lfold_grows (g : Int) : ∀ (es : List Ev) (s : Int × Int × Bool), s.1 ≤ (es.foldl (lstep g) s).1
  | [], s => Int.le_refl _
  | e :: es, s => by
    refine Int.le_trans ?_ (lfold_grows g es (lstep g s e))
    unfold lstep
    split
    · simp; split <;> omega
    · exact Int.le_refl _
theorem lfold_app (g : Int) (es fs : List Ev) : (lfold g es).1 ≤ (lfold g (es ++ fs)).1 ∧ (lfold g fs).1 ≤ (lfold g (es ++ fs)).1 := by
  unfold lfold
  rw [List.foldl_append]
  refine ⟨lfold_grows g _ _, lfold_mono g fs _ _ ?_ (.inl rfl)⟩
  have := lfold_range g es (0, 0, false) 0 (by simp) (by simp) (by simp) (by simp)
  exact this.1

theorem waits_any (k : Int) (w : World) : Calls Tryz.prog 23 #[.int .i64 k] w fun e w' => e = .returned (.bool (wts k)) ∧ w' = w := by
  by_cases h0 : k = 0
  · subst h0
    go_enter Tryz.func23, Tryz.ntmps23
    go_wp2
    go_ret
    exact ⟨rfl, rfl⟩
  · by_cases h1 : k = 1
    · subst h1
      clear h0
      go_enter Tryz.func23, Tryz.ntmps23
      go_wp2
      go_ret
      exact ⟨rfl, rfl⟩
    · have e0 : (k == 0) = false := by simpa using h0
      have e1 : (k == 1) = false := by simpa using h1
      rw [show wts k = (k == 3) by simp [wts, e0, e1]]
      clear h0 h1
      go_enter Tryz.func23, Tryz.ntmps23
      go_wp2
      go_ret
      exact ⟨rfl, rfl⟩

set_option maxHeartbeats 4000000 in
theorem longest_any (v : Value) (es : List Ev) (g : Int) (w : World) (hr : RdE w v es) (hl : es.length ≤ 1000) :
    Calls Tryz.prog 11 #[v, .int .i64 g] w fun e w' => e = .returned (.int .i64 (lfold g es).1) ∧ Below w.heap.size w w' := by
  have RD := hid hr
  obtain ⟨a, c, rfl, _, _⟩ := hr
  obtain ⟨n, hn⟩ : ∃ n, n = es.length := ⟨_, rfl⟩
  have HN := hid hn
  rw [← hn] at hl ⊢
  have R := hid (fun k => lfold_take g es k)
  clear hn
  go_enter Tryz.func11, Tryz.ntmps11
  go_wp2_with fail
  go_loopw [5, 6, 7, 12] (fun x y z i wr => ∃ (k : Nat) (L o : Int) (b : Bool), k ≤ n ∧ x = .int .i64 L ∧ y = .int .i64 o ∧ z = .bool b ∧ i = .int .i64 k ∧ Hid (lfold g (es.take k) = (L, o, b)) ∧ Hid (Below w.heap.size w wr))
    (fun _ _ _ i _ => n - (intOf i).toNat)
  case atStart => exact ⟨0, 0, 0, false, by omega, rfl, rfl, rfl, rfl, hid rfl, hid (Below.refl _ _)⟩
  case round =>
    obtain ⟨k, L, o, b, hk, rfl, rfl, rfl, rfl, F, B⟩ := hrel
    have hR := R.out k
    rw [F.out] at hR
    obtain ⟨r1, r2, r3, r4⟩ := hR
    simp only at r1 r2 r3 r4
    by_cases hlt : k < n
    · obtain ⟨a', c', e, _, hh⟩ := RD.out.below B.out
      simp only [Value.slice.injEq] at e
      obtain ⟨rfl, _, rfl⟩ := e
      obtain ⟨q, off, rfl, _, hc⟩ := hh (by have := HN.out; omega)
      obtain ⟨h0, h1, h2, h3, h4⟩ := hc k (by have := HN.out; omega)
      have T := hid (ev_take (es := es) (k := k) (by have := HN.out; omega))
      generalize evAt es k = ev at *
      obtain ⟨kd, gg, mm, pp, vv⟩ := ev
      simp only at h0 h1 h2 h3 h4
      have B2 := hid (B.out.alloc B.out.size (.cells #[.int .i64 kd, .int .i64 gg, .int .i64 mm, .int .i64 pp, .int .i64 vv] 46))
      clear B hh hc
      by_cases hg : gg = g
      · subst hg
        cases b
        · have F2 := hid (show lfold gg (es.take (k + 1)) = (L, 0, wts kd) by rw [T.out, lfold_snoc, F.out]; simp [lstep])
          clear F T
          go_wp2_with fail
          refine (waits_any kd _).mono ?_
          rintro e w3 ⟨rfl, rfl⟩
          generalize wts kd = bb at *
          go_wp2_with fail
          go_roundw
          case rel => exact ⟨k + 1, L, 0, bb, by omega, rfl, rfl, rfl, by go_num, F2, B2⟩
          case measure => simp [intOf]; omega
        · rcases (show L < o ∨ o ≤ L by omega) with hlo | hlo
          · have F2 := hid (show lfold gg (es.take (k + 1)) = (o, 0, wts kd) by rw [T.out, lfold_snoc, F.out]; simp [lstep]; omega)
            clear F T
            go_wp2_with fail
            refine (waits_any kd _).mono ?_
            rintro e w3 ⟨rfl, rfl⟩
            generalize wts kd = bb at *
            go_wp2_with fail
            go_roundw
            case rel => exact ⟨k + 1, o, 0, bb, by omega, rfl, rfl, rfl, by go_num, F2, B2⟩
            case measure => simp [intOf]; omega
          · have F2 := hid (show lfold gg (es.take (k + 1)) = (L, 0, wts kd) by rw [T.out, lfold_snoc, F.out]; simp [lstep]; omega)
            clear F T
            go_wp2_with fail
            refine (waits_any kd _).mono ?_
            rintro e w3 ⟨rfl, rfl⟩
            generalize wts kd = bb at *
            go_wp2_with fail
            go_roundw
            case rel => exact ⟨k + 1, L, 0, bb, by omega, rfl, rfl, rfl, by go_num, F2, B2⟩
            case measure => simp [intOf]; omega
      · have hgn : (gg != g) = true := by simpa using hg
        have F2 := hid (show lfold g (es.take (k + 1)) = (L, o + 1, b) by rw [T.out, lfold_snoc, F.out]; simp [lstep, hg])
        clear F T hg
        go_wp2_with fail
        go_roundw
        case rel => exact ⟨k + 1, L, o + 1, b, by omega, rfl, by go_num, rfl, by go_num, F2, B2⟩
        case measure => simp [intOf]; omega
    · obtain rfl : k = n := by omega
      have E := hid (show L = (lfold g es).1 by
        have := F.out
        rw [List.take_of_length_le (by have := HN.out; omega)] at this
        rw [this])
      clear F
      go_wp2
      go_ret
      exact ⟨(show Ending.returned (.int .i64 L) = _ by rw [E.out]), B.out⟩
end Go.Proofs.YtlgkjaeijceekaaGreatDoor
