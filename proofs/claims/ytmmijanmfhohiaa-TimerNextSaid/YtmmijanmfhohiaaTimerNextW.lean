/- The walk of the statement TimerNext: the law answers true and turns nothing that was there. -/
import Derived.Test.YtmmijanmfhohiaaLives10
import Derived.Test.YtmmijanmfhohiaaTimZ
import Derived.Test.YtmmijanmfhohiaaTimO
namespace Go.Proofs.Ytmmijanmfhohiaa.timerNext
open Go.RowKit Tk
set_option linter.unusedVariables false
set_option linter.unusedSimpArgs false

/-- The least time of so many heaps' first ones. -/
def mn (es : Nat → List En) : Nat → Option Int
  | 0 => none
  | q + 1 => match sortE (es q), mn es q with
    | [], r => r
    | y :: _, none => some y.1
    | y :: _, some m => if y.1 < m then some y.1 else some m
theorem mn_nil {es : Nat → List En} {q : Nat} (h : sortE (es q) = []) : mn es (q + 1) = mn es q := by simp [mn, h]
theorem mn_first {es : Nat → List En} {q : Nat} {y : En} {l : List En} (h : sortE (es q) = y :: l) (hm : mn es q = none) : mn es (q + 1) = some y.1 := by simp [mn, h, hm]
theorem mn_lt {es : Nat → List En} {q : Nat} {y : En} {l : List En} {m : Int} (h : sortE (es q) = y :: l) (hm : mn es q = some m) (hl : y.1 < m) : mn es (q + 1) = some y.1 := by simp [mn, h, hm, hl]
theorem mn_ge {es : Nat → List En} {q : Nat} {y : En} {l : List En} {m : Int} (h : sortE (es q) = y :: l) (hm : mn es q = some m) (hl : ¬ y.1 < m) : mn es (q + 1) = some m := by simp [mn, h, hm, hl]
theorem sort_le {l : List En} {y : En} {r : List En} (h : sortE l = y :: r) : y ∈ l ∧ ∀ e ∈ l, y.1 ≤ e.1 := by
  have hs := sortE_ord l
  rw [h] at hs
  refine ⟨(sortE_perm l).mem_iff.1 (by rw [h]; exact List.mem_cons_self), fun e he => ?_⟩
  have he2 := (sortE_perm l).mem_iff.2 he
  rw [h] at he2
  rcases List.mem_cons.1 he2 with rfl | he2
  · exact Int.le_refl _
  · exact leE_when ((List.pairwise_cons.1 hs).1 e he2)
theorem sort_nil {l : List En} (h : sortE l = []) : l = [] := by
  have := sort_len l
  rw [h] at this
  exact List.length_eq_zero_iff.1 this.symm
theorem mn_spec (es : Nat → List En) : ∀ q, (mn es q = none ∧ ∀ j, j < q → es j = []) ∨ ∃ m, mn es q = some m ∧ (∃ j, j < q ∧ ∃ e ∈ es j, e.1 = m) ∧ ∀ j, j < q → ∀ e ∈ es j, m ≤ e.1
  | 0 => .inl ⟨rfl, fun j hj => by omega⟩
  | q + 1 => by
    rcases hq : sortE (es q) with _ | ⟨y, r⟩
    · have hn := sort_nil hq
      rw [mn_nil hq]
      rcases mn_spec es q with ⟨h1, h2⟩ | ⟨m, h1, ⟨j, hj, e, he, h2⟩, h3⟩
      · refine .inl ⟨h1, fun j hj => ?_⟩
        rcases Nat.lt_or_ge j q with h | h
        · exact h2 j h
        · rw [show j = q by omega]; exact hn
      · refine .inr ⟨m, h1, ⟨j, by omega, e, he, h2⟩, fun j hj e he => ?_⟩
        rcases Nat.lt_or_ge j q with h | h
        · exact h3 j h e he
        · rw [show j = q by omega, hn] at he; cases he
    · obtain ⟨hy, hl⟩ := sort_le hq
      rcases mn_spec es q with ⟨h1, h2⟩ | ⟨m, h1, ⟨j, hj, e, he, h2⟩, h3⟩
      · refine .inr ⟨y.1, mn_first hq h1, ⟨q, by omega, y, hy, rfl⟩, fun j hj e he => ?_⟩
        rcases Nat.lt_or_ge j q with h | h
        · rw [h2 j h] at he; cases he
        · rw [show j = q by omega] at he; exact hl e he
      · by_cases hlt : y.1 < m
        · refine .inr ⟨y.1, mn_lt hq h1 hlt, ⟨q, by omega, y, hy, rfl⟩, fun j hj e he => ?_⟩
          rcases Nat.lt_or_ge j q with h | h
          · have := h3 j h e he; omega
          · rw [show j = q by omega] at he; exact hl e he
        · refine .inr ⟨m, mn_ge hq h1 hlt, ⟨j, by omega, e, he, h2⟩, fun j hj e he => ?_⟩
          rcases Nat.lt_or_ge j q with h | h
          · exact h3 j h e he
          · rw [show j = q by omega] at he; have := hl e he; omega
theorem mn_head {es : Nat → List En} {n : Nat} {x : En} {l : List En} (h : sortE (allE n es) = x :: l) : mn es n = some x.1 := by
  obtain ⟨hx, hl⟩ := sort_le h
  obtain ⟨j, hj, hx2⟩ := mem_allE.1 hx
  rcases mn_spec es n with ⟨h1, h2⟩ | ⟨m, h1, ⟨i, hi, e, he, h2⟩, h3⟩
  · rw [h2 j hj] at hx2; cases hx2
  · have a := h3 j hj x hx2
    have b := hl e (mem_allE.2 ⟨i, hi, he⟩)
    rw [h1]; congr 1; omega
theorem own_open {w : World} {b : Nat} {v : Value} (h : w.ownsRow b 32 3 v 0 (fl [])) : ∃ a c, v = .slice a 0 c := by
  rcases h.2 with ⟨rfl, e⟩ | ⟨g, cap, cur, rfl, _⟩
  · exact ⟨none, 0, rfl⟩
  · exact ⟨_, _, rfl⟩
theorem own_first {w : World} {b : Nat} {v : Value} {y : En} {l : List En} {n : Nat} (hn : 0 < n) (h : w.ownsRow b 32 3 v n (fl (y :: l))) : ∃ g c, v = .slice (some ⟨g, 0, none⟩) n c ∧ w.cell? ⟨g, 0, none⟩ = some (.int .i64 y.1) := by
  obtain ⟨g, c, rfl, _, _⟩ := h.form hn
  refine ⟨g, c, rfl, ?_⟩
  have := h.cells (g := g) rfl 0 (.int .i64 y.1) (by simp [fl, ent])
  simpa [Addr.add] using this
def inI (x : Int) : Prop := -9223372036854775808 ≤ x ∧ x ≤ 9223372036854775807
theorem te_of {Z : Nat → Prop} {w : World} {t n ad : Nat} {es : Nat → List En} {L : List En} (h : Te Z w t n es L ad) (p : Nat) (hp : p < n) : Calls Try.prog 10 #[.pointer (some ⟨t, 0, none⟩), .int .i64 p] w (Cl3 (sortE (es p)) w) := by
  obtain ⟨⟨hb', mb, c, hp', v, h1⟩, h2⟩ := h
  exact tof h1 p hp
/-- What stands between two rounds. -/
structure N1 (w : World) (Z : Nat → Prop) (t : Nat) (k : Nat) (es : Nat → List En) (L : List En) (wr : World) : Prop where
  te : Te Z wr t 5 es L k
  en : ∀ e ∈ L, 0 ≤ e.2.2 ∧ e.2.2 < k ∧ inI e.1
  ln : L.length = k
  bl : Below w.heap.size w wr
  hz : ∀ q, Z q → q < wr.heap.size
  zb : ∀ q, q < w.heap.size → Z q
section
variable {w : World} {Z : Nat → Prop} {t k : Nat} {es : Nat → List En} {L : List En} {wr w' : World}
theorem N1.below (h : N1 w Z t k es L wr) (hb : Below wr.heap.size wr w') : N1 w Z t k es L w' :=
  ⟨h.te.below hb, h.en, h.ln, h.bl.trans (hb.mono h.bl.size), fun q hq => Nat.lt_of_lt_of_le (h.hz q hq) hb.size, h.zb⟩
theorem N1.no (h : N1 w Z t k es L wr) : hasG L (k : Int) = false := by
  refine decide_eq_false fun hm => ?_
  obtain ⟨e, he, h2⟩ := List.mem_map.1 hm
  have := h.en e he
  have h2 : e.2.2 = (k : Int) := h2
  omega
theorem N1.step (h : N1 w Z t k es L wr) {p : Nat} {y : Int} (hy : inI y) (ha : TeAdd Z wr t 5 es L k p (y, (k : Int), (k : Int)) w') : ∃ es', N1 w Z t (k + 1) es' (insF (y, (k : Int), (k : Int)) L) w' := by
  obtain ⟨hf, T, _, ht⟩ := ha
  refine ⟨_, ht, fun e he => ?_, by rw [len_ins, h.ln], h.bl.trans (hf.below h.zb h.bl.size), fun q hq => Nat.lt_of_lt_of_le (h.hz q hq) hf.size, h.zb⟩
  rcases mem_ins.1 he with rfl | he
  · exact ⟨by simp only; omega, by simp only; omega, hy⟩
  · have := h.en e he
    exact ⟨this.1, by omega, this.2.2⟩
end
set_option maxRecDepth 100000 in
set_option maxHeartbeats 16000000 in
theorem walk (a0 : Option Addr) (len0 cap0 : Nat) (z0 : List Int) (w : World) (w0 : IsRow .i64 w a0 len0 cap0 z0) :
    Calls Try.prog 3 #[.slice a0 len0 cap0] w fun e w' => e = .returned (.bool true) ∧ Below w.heap.size w w' := by
  by_cases hlen : (40 : Int) < len0
  · go_enter Try.func3, Try.ntmps3
    go_wp2_with fail
    refine (lives10 _).mono ?_
    rintro e w2 ⟨rfl, hb1⟩
    go_wp2_with fail
    refine (lives10 _).mono ?_
    rintro e w3 ⟨rfl, hb2⟩
    go_wp2
    go_ret
    exact ⟨rfl, hb1.trans (hb2.mono hb1.size)⟩
  · have hlen' : len0 ≤ 40 := by omega
    have W0 := hid w0
    clear w0
    go_enter Try.func3, Try.ntmps3
    go_wp2_with fail
    refine (lives10 _).mono ?_
    rintro e w2 ⟨rfl, hb1⟩
    have hs1 := hb1.size
    go_wp2_with fail
    refine (te_new 5 (by decide) (by decide) w2).mono ?_
    rintro e w3 ⟨rfl, h3, b3⟩
    obtain ⟨Z, hZ⟩ : ∃ Z : Nat → Prop, Z = fun q => q < w2.heap.size := ⟨_, rfl⟩
    obtain ⟨t, ht⟩ : ∃ t, t = w2.heap.size + 1 := ⟨_, rfl⟩
    have s3 := b3.size
    have S0 : Hid (N1 w Z t 0 (fun _ => []) [] w3) := by
      rw [← hZ, ← ht] at h3
      refine ⟨h3, fun e he => (by cases he), rfl, hb1.trans (b3.mono hs1), fun q hq => ?_, fun q hq => ?_⟩
      · rw [hZ] at hq; have hq : q < w2.heap.size := hq; omega
      · rw [hZ]; show q < w2.heap.size; omega
    rw [← ht]
    clear hZ ht h3 b3 hb1 s3
    go_wp2_with fail
    go_loopw [23] (fun i wr => ∃ (k : Nat) (es : Nat → List En) (L : List En), k ≤ len0 ∧ i = .int .i64 k ∧ Hid (N1 w Z t k es L wr) ∧ Below w.heap.size w wr) (fun i _ => len0 - (intOf i).toNat)
    case atStart => exact ⟨0, _, [], by omega, rfl, S0, S0.out.bl⟩
    case round =>
      clear S0
      obtain ⟨k, es, L, hk, rfl, F, hbr⟩ := hrel
      by_cases hlt : k < len0
      · obtain ⟨bx, off, rfl, hzl, hwf, hcell⟩ := W0.out.open.resolve_left (by omega)
        have hy := hcell _ hbr k hlt
        have hyI := range_i64 hwf k
        obtain ⟨y, hye⟩ : ∃ y, y = z0.getD k 0 := ⟨_, rfl⟩
        rw [← List.getD_eq_getElem?_getD, ← hye] at hyI
        rw [← hye] at hy
        have hyI' : inI y := hyI
        have HY := hid hyI'
        clear hcell hwf hzl hye hyI hyI'
        have k3 : 0 ≤ (k : Int) % 5 := by omega
        have k3' : (k : Int) % 5 < 5 := by omega
        have A := hid (te_addI F.out.te F.out.hz ((k : Int) % 5) k k3 k3' (by omega) (by omega) y F.out.no (by rw [F.out.ln]; omega) (by omega))
        go_wp2_with fail
        refine (A.out).mono ?_
        rintro e w5 ⟨rfl, h5⟩
        obtain ⟨es5, f5⟩ := F.out.step HY.out h5
        obtain ⟨L5, hL5⟩ : ∃ l, l = insF (y, (k : Int), (k : Int)) L := ⟨_, rfl⟩
        rw [← hL5] at f5
        have F5 := hid f5
        clear h5 f5 A F hL5 hy k3 k3' hbr
        go_wp2_with fail
        obtain ⟨wo, hwo⟩ : ∃ wo : World, wo = wr := ⟨_, rfl⟩
        clear hwo
        go_loopw [6, 7, 34] (fun le ha i wr => ∃ (q : Nat), q ≤ 5 ∧ i = .int .i64 q ∧ Hid (N1 w Z t (k + 1) es5 L5 wr) ∧ ((ha = .bool false ∧ le = .int .i64 0 ∧ Hid (mn es5 q = none)) ∨ ∃ m : Int, ha = .bool true ∧ le = .int .i64 m ∧ Hid (mn es5 q = some m))) (fun _ _ i _ => 5 - (intOf i).toNat)
        case atStart => exact ⟨0, by omega, rfl, F5, .inl ⟨rfl, rfl, hid rfl⟩⟩
        case round =>
          clear F5
          obtain ⟨q, hq, rfl, G, hst⟩ := hrel
          by_cases hlt2 : q < 5
          · rcases hS : sortE (es5 q) with _ | ⟨y0, l⟩
            · have OF := te_of G.out.te q hlt2
              rw [hS] at OF
              have HOF := hid OF
              have HS := hid hS
              clear OF hS
              go_wp2_with fail
              refine (HOF.out).mono ?_
              rintro e w6 ⟨v6, rfl, ho, hb6⟩
              obtain ⟨a6, c6, rfl⟩ := own_open ho
              have G6 := hid (G.out.below hb6)
              have B6 := hid hb6
              clear ho hb6 HOF G
              rcases hst with ⟨rfl, rfl, hm⟩ | ⟨m, rfl, rfl, hm⟩
              · have M2 := hid ((mn_nil HS.out).trans hm.out)
                go_wp2
                go_roundw
                case rel => exact ⟨q + 1, by omega, by go_num, G6, .inl ⟨rfl, rfl, M2⟩⟩
                case measure => simp [intOf]; omega
              · have M2 := hid ((mn_nil HS.out).trans hm.out)
                go_wp2
                go_roundw
                case rel => exact ⟨q + 1, by omega, by go_num, G6, .inr ⟨m, rfl, rfl, M2⟩⟩
                case measure => simp [intOf]; omega
            · have OF := te_of G.out.te q hlt2
              rw [hS] at OF
              have HOF := hid OF
              have HS := hid hS
              clear OF hS
              go_wp2_with fail
              refine (HOF.out).mono ?_
              rintro e w6 ⟨v6, rfl, ho, hb6⟩
              obtain ⟨nl, hnl⟩ : ∃ nl, (y0 :: l).length = nl := ⟨_, rfl⟩
              rw [hnl] at ho
              have hn0 : 0 < nl := by rw [← hnl]; simp
              obtain ⟨g6, c6, rfl, hc6⟩ := own_first hn0 ho
              obtain ⟨x0, hx0⟩ : ∃ x, x = y0.1 := ⟨_, rfl⟩
              rw [← hx0] at hc6
              have HX0 := hid hx0
              have hl6 : (nl : Int) ≤ c6 := by
                rcases ho.2 with ⟨e, _⟩ | ⟨g, cap, cur, e, _, _, h1, _⟩
                · cases e
                · injection e with e1 e2 e3; omega
              have G6 := hid (G.out.below hb6)
              clear ho hb6 HOF G hnl hx0
              rcases hst with ⟨rfl, rfl, hm⟩ | ⟨m, rfl, rfl, hm⟩
              · have M2 := hid (mn_first HS.out hm.out)
                rw [← HX0.out] at M2
                go_wp2
                go_roundw
                case rel => exact ⟨q + 1, by omega, by go_num, G6, .inr ⟨x0, rfl, rfl, M2⟩⟩
                case measure => simp [intOf]; omega
              · by_cases hxm : x0 < m
                · have M2 := hid (mn_lt HS.out hm.out (by rw [← HX0.out]; exact hxm))
                  rw [← HX0.out] at M2
                  go_wp2
                  go_roundw
                  case rel => exact ⟨q + 1, by omega, by go_num, G6, .inr ⟨x0, rfl, rfl, M2⟩⟩
                  case measure => simp [intOf]; omega
                · have M2 := hid (mn_ge HS.out hm.out (by rw [← HX0.out]; exact hxm))
                  have d1 : decide (x0 < m) = false := decide_eq_false hxm
                  go_wp2
                  go_roundw
                  case rel => exact ⟨q + 1, by omega, by go_num, G6, .inr ⟨m, rfl, rfl, M2⟩⟩
                  case measure => simp [intOf]; omega
          · obtain rfl : q = 5 := by omega
            rcases hL : L5 with _ | ⟨⟨x1, x2, x3⟩, l⟩
            · have := G.out.ln; rw [hL] at this; simp at this
            have te5 := G.out.te
            rw [hL] at te5
            have hmn := mn_head te5.2.1
            have ix := (G.out.en (x1, x2, x3) (by rw [hL]; exact List.mem_cons_self)).2.2
            rcases hst with ⟨rfl, rfl, hm⟩ | ⟨m, rfl, rfl, hm⟩
            · have := hm.out; rw [hmn] at this; cases this
            obtain rfl : m = x1 := by have := hm.out; rw [hmn] at this; injection this with this; exact this.symm
            have NX := hid (te_next te5)
            have T5 := hid te5
            have IX := hid (show inI m from ix)
            clear hmn ix te5 hm hL
            go_wp2_with fail
            refine (NX.out).mono ?_
            rintro e w6 ⟨rfl, b6⟩
            have G6 := hid (G.out.below b6)
            have DU := hid (te_due (T5.out.below b6) m true (by simp [dueL]))
            have T6 := hid (T5.out.below b6)
            clear b6 NX T5 G
            go_wp2_with fail
            refine (DU.out).mono ?_
            rintro e w7 ⟨rfl, b7⟩
            have G7 := hid (G6.out.below b7)
            have T7 := hid (T6.out.below b7)
            clear b7 DU T6 G6
            by_cases hmin : (-9223372036854775808 : Int) < m
            · have W1 : IntKind.i64.wrap (m - 1) = m - 1 := by
                have h := IX.out
                unfold inI at h
                have hb : IntKind.i64.bits = 64 := rfl
                have hs : IntKind.i64.signed = true := rfl
                simp [IntKind.wrap, hb, hs]
                split <;> omega
              have D2 := hid (te_due T7.out (m - 1) false (by simp only [dueL]; exact decide_eq_false (by omega)))
              clear T7
              go_wp2_with fail
              refine (D2.out).mono ?_
              rintro e w8 ⟨rfl, b8⟩
              have G8 := hid (G7.out.below b8)
              have B8 := G8.out.bl
              clear b8 D2 G7 W1
              go_wp2
              go_roundw
              case rel => exact ⟨k + 1, es5, L5, by omega, by go_num, G8, B8⟩
              case measure => simp [intOf]; omega
            · have d1 : decide ((-9223372036854775808 : Int) < m) = false := decide_eq_false hmin
              have B8 := G7.out.bl
              clear T7
              go_wp2
              go_roundw
              case rel => exact ⟨k + 1, es5, L5, by omega, by go_num, G7, B8⟩
              case measure => simp [intOf]; omega
      · obtain rfl : k = len0 := by omega
        have TL := te_len F.out.te
        rw [F.out.ln] at TL
        have HTL := hid TL
        have BL := hid F.out.bl
        clear TL F
        go_wp2_with fail
        refine (HTL.out).mono ?_
        rintro e w' ⟨rfl, rfl⟩
        go_wp2
        go_ret
        exact ⟨rfl, BL.out⟩
end Go.Proofs.Ytmmijanmfhohiaa.timerNext
