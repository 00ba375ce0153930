/- hostlerref17: Status, Runs, Used. -/
import Derived.Test.YtkimfejhgfnjoaaDoorMoP
import Derived.Test.YtkimfejhgfnjoaaDoorEvent2
import Derived.Test.YtkimfejhgfnjoaaDoorLegalR
import Derived.BigQuiet
import Derived.Deep.CutRange
namespace Go.Proofs.YtkimfejhgfnjoaaDoor
open Go.RowKit
set_option linter.unusedVariables false
set_option linter.unusedSimpArgs false
set_option maxRecDepth 20000
theorem ev5q {w : World} {B : Nat} {k g m p v : Int} {t : TypeId} (h : w.heap[B]? = some (.cells #[.int .i64 k, .int .i64 g, .int .i64 m, .int .i64 p, .int .i64 v] t (0, 0))) :
    w.cell? ⟨B, 0, none⟩ = some (.int .i64 k) ∧ w.cell? ⟨B, 1, none⟩ = some (.int .i64 g) ∧ w.cell? ⟨B, 2, none⟩ = some (.int .i64 m) ∧ w.cell? ⟨B, 3, none⟩ = some (.int .i64 p) ∧ w.cell? ⟨B, 4, none⟩ = some (.int .i64 v) := by simp [World.cell?, h]
set_option maxHeartbeats 4000000 in
theorem rstat_any (w : World) (v : Value) (es : List Ev) (g : Int) (h : RdE w v es) (hl : es.length ≤ 1000) : Calls Tryd.prog 9 #[v, .int .i64 g] w fun e w' => e = .returned (.int .i64 (statL es g)) ∧ Below w.heap.size w w' := by
  obtain ⟨n, hn⟩ : ∃ n, n = es.length := ⟨_, rfl⟩
  have HN := hid hn
  have RD := hid h
  obtain ⟨a, c, rfl, _, _⟩ := h
  rw [← hn] at hl ⊢
  clear hn
  go_enter Tryd.func9, Tryd.ntmps9
  go_wp2_with fail
  go_loopw [5, 13] (fun s i wr => ∃ (k : Nat) (x : Int), k ≤ n ∧ s = .int .i64 x ∧ i = .int .i64 k ∧ Hid (x = statL (es.take k) g) ∧ Hid (Below w.heap.size w wr)) (fun _ i _ => n - (intOf i).toNat)
  case atStart => exact ⟨0, 0, Nat.zero_le _, rfl, rfl, hid rfl, hid (Below.refl _ _)⟩
  case round =>
    obtain ⟨k, x, hk, rfl, rfl, HX, B⟩ := hrel
    by_cases hlt : k < n
    · obtain ⟨a', c', e, _, hh⟩ := RD.out.below B.out
      simp only [Value.slice.injEq] at e
      obtain ⟨rfl, e9, rfl⟩ := e
      clear e9
      obtain ⟨q, off, rfl, _, hc⟩ := hh (by have := HN.out; omega)
      obtain ⟨h0, h1, h2, h3, h4⟩ := hc k (by have := HN.out; omega)
      have TK := hid (show statL (es.take (k + 1)) g = sstep g (statL (es.take k) g) (evAt es k) by rw [ev_take (by have := HN.out; omega), statL_snoc])
      generalize evAt es k = ev at *
      obtain ⟨kd, gg, mm, pp, vv⟩ := ev
      simp only at h0 h1 h2 h3 h4
      have B2 := hid (B.out.alloc B.out.size (.cells #[.int .i64 kd, .int .i64 gg, .int .i64 mm, .int .i64 pp, .int .i64 vv] 33))
      have hbx := ev5q (heap_alloc_new wr (.cells #[.int .i64 kd, .int .i64 gg, .int .i64 mm, .int .i64 pp, .int .i64 vv] 33))
      clear hh hc B
      go_upto_region 5 with (fail)
      generalize wr.alloc (.cells #[.int .i64 kd, .int .i64 gg, .int .i64 mm, .int .i64 pp, .int .i64 vv] 33) = w2 at *
      obtain ⟨c0, c1, c2, c3, c4⟩ := hbx
      have RS := hid (rsteps_any kd w2)
      clear h0 h1 h2 h3 h4
      by_cases hg : gg = g
      · have TX := hid (show evTo kd = statL (es.take (k + 1)) g by rw [TK.out]; unfold sstep; rw [if_pos hg])
        subst hg
        go_wp2_with fail
        refine RS.out.mono ?_
        rintro e w3 ⟨rfl, rfl⟩
        go_wp2
        go_roundw
        case rel => exact ⟨k + 1, _, by omega, rfl, by go_num, TX, B2⟩
        case measure => simp [intOf]; omega
      · have TX := hid (show x = statL (es.take (k + 1)) g by rw [TK.out]; unfold sstep; rw [if_neg hg, HX.out])
        clear RS HX
        go_wp2
        go_roundw
        case rel => exact ⟨k + 1, _, by omega, rfl, by go_num, TX, B2⟩
        case measure => simp [intOf]; omega
    · obtain rfl : k = n := by omega
      rw [List.take_of_length_le (by have := HN.out; omega)] at HX
      go_wp2
      go_ret
      exact ⟨by rw [← HX.out]; rfl, B.out⟩
set_option maxHeartbeats 4000000 in
theorem rruns_any (w : World) (v : Value) (es : List Ev) (g : Int) (h : RdE w v es) (hl : es.length ≤ 1000) : Calls Tryd.prog 12 #[v, .int .i64 g] w fun e w' => e = .returned (runsV (runsL es g)) ∧ Below w.heap.size w w' := by
  obtain ⟨n, hn⟩ : ∃ n, n = es.length := ⟨_, rfl⟩
  have HN := hid hn
  have RD := hid h
  obtain ⟨a, c, rfl, _, _⟩ := h
  rw [← hn] at hl ⊢
  clear hn
  go_enter Tryd.func12, Tryd.ntmps12
  go_wp2_with fail
  go_loopw [7, 8, 9, 14] (fun s t u i wr => ∃ (k : Nat) (x : Option (Int × Int)) (s1 s2 : Int) (q : Bool), k ≤ n ∧ s = .int .i64 s1 ∧ t = .int .i64 s2 ∧ u = .bool q ∧ i = .int .i64 k ∧ Hid (s1 = (x.getD (0, 0)).1 ∧ s2 = (x.getD (0, 0)).2 ∧ q = x.isSome) ∧ Hid (x = runsL (es.take k) g) ∧ Hid (Below w.heap.size w wr)) (fun _ _ _ i _ => n - (intOf i).toNat)
  case atStart => exact ⟨0, none, 0, 0, false, Nat.zero_le _, rfl, rfl, rfl, rfl, hid ⟨rfl, rfl, rfl⟩, hid rfl, hid (Below.refl _ _)⟩
  case round =>
    obtain ⟨k, x, s1, s2, qb, hk, rfl, rfl, rfl, rfl, HS, HX, B⟩ := hrel
    by_cases hlt : k < n
    · obtain ⟨a', c', e, _, hh⟩ := RD.out.below B.out
      simp only [Value.slice.injEq] at e
      obtain ⟨rfl, e9, rfl⟩ := e
      clear e9
      obtain ⟨q, off, rfl, _, hc⟩ := hh (by have := HN.out; omega)
      obtain ⟨h0, h1, h2, h3, h4⟩ := hc k (by have := HN.out; omega)
      have TK := hid (show runsL (es.take (k + 1)) g = rstep g (runsL (es.take k) g) (evAt es k) by rw [ev_take (by have := HN.out; omega), runsL_snoc])
      generalize evAt es k = ev at *
      obtain ⟨kd, gg, mm, pp, vv⟩ := ev
      simp only at h0 h1 h2 h3 h4
      have B2 := hid (B.out.alloc B.out.size (.cells #[.int .i64 kd, .int .i64 gg, .int .i64 mm, .int .i64 pp, .int .i64 vv] 33))
      have hbx := ev5q (heap_alloc_new wr (.cells #[.int .i64 kd, .int .i64 gg, .int .i64 mm, .int .i64 pp, .int .i64 vv] 33))
      clear hh hc B
      go_upto_region 7 with (fail)
      generalize wr.alloc (.cells #[.int .i64 kd, .int .i64 gg, .int .i64 mm, .int .i64 pp, .int .i64 vv] 33) = w2 at *
      obtain ⟨c0, c1, c2, c3, c4⟩ := hbx
      clear h0 h1 h2 h3 h4
      rcases (show (kd < 2) ∨ (¬ kd < 2 ∧ mm ≠ g) ∨ (¬ kd < 2 ∧ mm = g ∧ kd = 2) ∨ (¬ kd < 2 ∧ mm = g ∧ kd ≠ 2) by omega) with t1 | ⟨t1, t2⟩ | ⟨t1, t2, t3⟩ | ⟨t1, t2, t3⟩
      · have TX := hid (show x = runsL (es.take (k + 1)) g by rw [TK.out, HX.out]; unfold rstep; rw [if_pos (.inl t1)])
        go_wp2
        go_roundw
        case rel => exact ⟨k + 1, x, s1, s2, qb, by omega, rfl, rfl, rfl, by go_num, HS, TX, B2⟩
        case measure => simp [intOf]; omega
      · have TX := hid (show x = runsL (es.take (k + 1)) g by rw [TK.out, HX.out]; unfold rstep; rw [if_pos (.inr t2)])
        go_wp2
        go_roundw
        case rel => exact ⟨k + 1, x, s1, s2, qb, by omega, rfl, rfl, rfl, by go_num, HS, TX, B2⟩
        case measure => simp [intOf]; omega
      · have TX := hid (show some (gg, pp) = runsL (es.take (k + 1)) g by rw [TK.out]; unfold rstep; rw [if_neg (by simp only; omega), if_pos t3])
        subst t2 t3
        clear TK HX HS
        go_wp2
        go_roundw
        case rel => exact ⟨k + 1, some (gg, pp), gg, pp, true, by omega, rfl, rfl, rfl, by go_num, hid ⟨rfl, rfl, rfl⟩, TX, B2⟩
        case measure => simp [intOf]; omega
      · have TX := hid (show none = runsL (es.take (k + 1)) g by rw [TK.out]; unfold rstep; rw [if_neg (by simp only; omega), if_neg t3])
        have t4 : (kd == 2) = false := by simpa using t3
        subst t2
        clear TK HX HS
        go_wp2
        go_roundw
        case rel => exact ⟨k + 1, none, 0, 0, false, by omega, rfl, rfl, rfl, by go_num, hid ⟨rfl, rfl, rfl⟩, TX, B2⟩
        case measure => simp [intOf]; omega
    · obtain rfl : k = n := by omega
      rw [List.take_of_length_le (by have := HN.out; omega)] at HX
      obtain ⟨e1, e2, e3⟩ := HS.out
      have RV := hid (show runsV (runsL es g) = .tuple #[.int .i64 s1, .int .i64 s2, .bool qb] by rw [← HX.out, e1, e2, e3]; rfl)
      clear e1 e2 e3
      go_wp2
      exact bodyPost_ret (v := .tuple #[.int .i64 s1, .int .i64 s2, .bool qb]) (by simp [results, Tryd.results12, go_sem]) rfl ⟨by rw [RV.out], B.out⟩
theorem usedL_step (es : List Ev) (p : Int) (k : Nat) : usedL es (k + 1) p = (usedL es k p || onP (runsL es k) p) := by
  unfold usedL
  rw [List.range_succ, List.any_append]
  simp
theorem usedL_mono {es : List Ev} {p : Int} {k K : Nat} (h : usedL es k p = true) (hk : k ≤ K) : usedL es K p = true := by
  rw [usedL_iff] at h ⊢
  obtain ⟨m, hm, x, hx, hp⟩ := h
  exact ⟨m, by omega, x, hx, hp⟩
set_option maxHeartbeats 4000000 in
theorem rused_any (w : World) (v : Value) (es : List Ev) (K : Nat) (p : Int) (h : RdE w v es) (hl : es.length ≤ 1000) (hK : K ≤ 1000) : Calls Tryd.prog 20 #[v, .int .i64 K, .int .i64 p] w fun e w' => e = .returned (.bool (usedL es K p)) ∧ Below w.heap.size w w' := by
  have RD := hid h
  have RU := hid (fun w2 (hb : Below w.heap.size w w2) (k : Nat) => rruns_any w2 v es k (h.below hb) hl)
  clear h
  go_enter Tryd.func20, Tryd.ntmps20
  go_wp2_with fail
  go_loopw [12] (fun i wr => ∃ (k : Nat), k ≤ K ∧ i = .int .i64 k ∧ Hid (usedL es k p = false) ∧ Hid (Below w.heap.size w wr)) (fun i _ => K - (intOf i).toNat)
  case atStart => exact ⟨0, Nat.zero_le _, rfl, hid rfl, hid (Below.refl _ _)⟩
  case round =>
    obtain ⟨k, hk, rfl, HU, B⟩ := hrel
    by_cases hlt : k < K
    · have RK := hid (RU.out wr B.out k)
      have US := hid (usedL_step es p k)
      rw [HU.out, Bool.false_or] at US
      have UM := hid (fun h => usedL_mono (es := es) (p := p) (k := k + 1) (K := K) h (by omega))
      generalize runsL es k = rr at *
      unfold runsV at RK
      rcases (show rr = none ∨ (∃ x y, rr = some (x, y) ∧ y = p) ∨ (∃ x y, rr = some (x, y) ∧ y ≠ p) by
        rcases rr with _ | ⟨x, y⟩
        · exact .inl rfl
        · by_cases hy : y = p
          · exact .inr (.inl ⟨x, y, rfl, hy⟩)
          · exact .inr (.inr ⟨x, y, rfl, hy⟩)) with rfl | ⟨x, y, rfl, hy⟩ | ⟨x, y, rfl, hy⟩
      · have U2 := hid (show usedL es (k + 1) p = false from US.out)
        simp only [Option.getD_none, Option.isSome_none] at RK
        clear US UM HU
        go_wp2_with fail
        refine RK.out.mono ?_
        rintro e w2 ⟨rfl, hb⟩
        have B2 := hid (B.out.trans (hb.mono B.out.size))
        clear hb B RK
        go_wp2
        go_roundw
        case rel => exact ⟨k + 1, by omega, by go_num, U2, B2⟩
        case measure => simp [intOf]; omega
      · have U2 := hid (show usedL es K p = true from UM.out (US.out.trans (by unfold onP; exact decide_eq_true hy)))
        simp only [Option.getD_some, Option.isSome_some] at RK
        subst hy
        clear US UM HU
        go_wp2_with fail
        refine RK.out.mono ?_
        rintro e w2 ⟨rfl, hb⟩
        have B2 := hid (B.out.trans (hb.mono B.out.size))
        clear hb B RK
        go_wp2
        go_ret
        exact ⟨by rw [U2.out]; rfl, B2.out⟩
      · have U2 := hid (show usedL es (k + 1) p = false from US.out.trans (by unfold onP; exact decide_eq_false hy))
        simp only [Option.getD_some, Option.isSome_some] at RK
        have hyb : (y == p) = false := by simpa using hy
        clear US UM HU
        go_wp2_with fail
        refine RK.out.mono ?_
        rintro e w2 ⟨rfl, hb⟩
        have B2 := hid (B.out.trans (hb.mono B.out.size))
        clear hb B RK
        go_wp2
        go_roundw
        case rel => exact ⟨k + 1, by omega, by go_num, U2, B2⟩
        case measure => simp [intOf]; omega
    · obtain rfl : k = K := by omega
      go_wp2
      go_ret
      exact ⟨by rw [HU.out]; rfl, B.out⟩
end Go.Proofs.YtkimfejhgfnjoaaDoor
