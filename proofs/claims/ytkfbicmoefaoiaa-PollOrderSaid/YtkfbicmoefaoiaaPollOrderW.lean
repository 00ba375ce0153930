/- The walk of the statement PollOrder: the law answers true and turns nothing that was there. -/
import Derived.Test.YtkfbicmoefaoiaaLives11
import Derived.OpenShut
namespace Go.Proofs.Ytkfbicmoefaoiaa.pollOrder
open Go.RowKit
set_option linter.unusedVariables false
set_option linter.unusedSimpArgs false

/-- What stands between two rounds of the first loop. -/
structure Po (w : World) (Z : Nat → Prop) (p m1 m2 m3 : Nat) (z : List Int) (k d : Nat) (W : List (Int × Int)) (R : List Int) (wr : World) : Prop where
  pq : Pq Z wr p m1 m2 m3 W R
  bl : Below w.heap.size w wr
  ws : ∀ x y, (x, y) ∈ W → 0 ≤ y ∧ y < k ∧ z.getD y.toNat 0 = x
  rs : ∀ a, a ∈ R → waitsF W a = true ∧ 0 ≤ a
  ln : W.length ≤ k ∧ R.length = d
theorem plen_le (W : List (Int × Int)) (R : List Int) : plen W R ≤ W.length + R.length := by
  unfold plen
  have := List.length_filter_le (fun a => !waitsF W a) R
  omega
theorem not_full {W : List (Int × Int)} {R : List Int} (h : W.length + R.length < 1024) (b : Bool) : (b && decide (1024 ≤ plen W R)) = false := by
  have := plen_le W R
  rw [decide_eq_false (by omega), Bool.and_false]
theorem wf_cons {W : List (Int × Int)} {x y a : Int} : waitsF ((x, y) :: W) a = (decide (a = x) || waitsF W a) := by
  unfold waitsF
  rw [← Bool.decide_or]
  exact decide_eq_decide.2 (by simp)
section
variable {w : World} {Z : Nat → Prop} {p m1 m2 m3 k d : Nat} {z : List Int} {W : List (Int × Int)} {R : List Int} {wr w' : World}
theorem Po.noG (h : Po w Z p m1 m2 m3 z k d W R wr) : waitsG W (k : Int) = false := by
  refine decide_eq_false fun hm => ?_
  obtain ⟨⟨x, y⟩, he, h2⟩ := List.mem_map.1 hm
  have := h.ws x y he
  simp only at h2; omega
theorem Po.stay (h : Po w Z p m1 m2 m3 z k d W R wr) : Po w Z p m1 m2 m3 z (k + 1) d W R wr :=
  ⟨h.pq, h.bl, fun x y he => by have := h.ws x y he; exact ⟨this.1, by omega, this.2.2⟩, h.rs, by have := h.ln; omega⟩
theorem Po.wait (h : Po w Z p m1 m2 m3 z k d W R wr) (hz : ∀ q, q < w.heap.size → Z q) {fd : Int} (hf : z.getD k 0 = fd) (h5 : WaPost Z wr p m1 m2 m3 W R fd k w') : Po w Z p m1 m2 m3 z (k + 1) d ((fd, (k : Int)) :: W) R w' := by
  refine ⟨h5.2, h.bl.trans (h5.1.below hz h.bl.size), fun x y he => ?_, fun a ha => ?_, by have := h.ln; simp; omega⟩
  · rcases List.mem_cons.1 he with e | he
    · injection e with e1 e2
      subst e1 e2
      exact ⟨by omega, by omega, by simpa using hf⟩
    · have := h.ws x y he; exact ⟨this.1, by omega, this.2.2⟩
  · have := h.rs a ha
    exact ⟨by rw [wf_cons, this.1, Bool.or_true], this.2⟩
theorem Po.ready (h : Po w Z p m1 m2 m3 z k d W R wr) (hz : ∀ q, q < w.heap.size → Z q) {fd : Int} (hw : waitsF W fd = true) (h0 : 0 ≤ fd) (hn : fd ∉ R) (h5 : RePost Z wr p m1 m2 m3 W (addR R fd) w') : Po w Z p m1 m2 m3 z k (d + 1) W (fd :: R) w' := by
  have e : addR R fd = fd :: R := by unfold addR; rw [if_neg hn]
  rw [e] at h5
  refine ⟨h5.2, h.bl.trans (h5.1.below hz h.bl.size), h.ws, fun a ha => ?_, by have := h.ln; simp; omega⟩
  rcases List.mem_cons.1 ha with rfl | ha
  · exact ⟨hw, h0⟩
  · exact h.rs a ha
end
set_option maxRecDepth 100000 in
set_option maxHeartbeats 16000000 in
theorem walk (a0 : Option Addr) (len0 cap0 : Nat) (z0 : List Int) (a1 : Int) (w : World) (w0 : IsRow .u16 w a0 len0 cap0 z0) (w1 : (Lit.int .u64 a1).wf = true) :
    Calls Try.prog 3 #[.slice a0 len0 cap0, .int .u64 a1] w fun e w' => e = .returned (.bool true) ∧ Below w.heap.size w w' := by
  have b1 : 0 ≤ a1 := (bounds_u64 w1).1
  clear w1
  by_cases hlen : (60 : Int) < len0
  · go_enter Try.func3, Try.ntmps3
    go_wp2_with fail
    refine (lives11 _).mono ?_
    rintro e w2 ⟨rfl, hb1⟩
    go_wp2_with fail
    refine (lives11 _).mono ?_
    rintro e w3 ⟨rfl, hb2⟩
    go_wp2
    go_ret
    exact ⟨rfl, hb1.trans (hb2.mono hb1.size)⟩
  · have hlen' : len0 ≤ 60 := by omega
    have W0 := hid w0
    clear w0 hlen
    go_enter Try.func3, Try.ntmps3
    go_wp2_with fail
    refine (lives11 _).mono ?_
    rintro e w2 ⟨rfl, hb1⟩
    have HB1 := hid hb1
    clear hb1
    go_wp2_with fail
    refine (pnewZ _).mono ?_
    rintro e w3 ⟨Z, p, m1, m2, m3, rfl, q3, bl3, hz, _⟩
    have HZ := hid (fun q (hq : q < w.heap.size) => hz q (Nat.lt_of_lt_of_le hq HB1.out.size))
    have S0 := hid (show Po w Z p m1 m2 m3 z0 0 0 [] [] w3 from ⟨q3, HB1.out.trans (bl3.mono HB1.out.size), fun x y h => (by cases h), fun a h => (by cases h), by simp⟩)
    clear q3 bl3 hz HB1
    go_wp2_with fail
    go_loopw [6, 27] (fun dv i wr => ∃ (k d : Nat) (W : List (Int × Int)) (R : List Int), k ≤ len0 ∧ i = .int .i64 k ∧ dv = .int .i64 d ∧ d ≤ k ∧ Hid (Po w Z p m1 m2 m3 z0 k d W R wr) ∧ Below w.heap.size w wr) (fun _ i _ => len0 - (intOf i).toNat)
    case atStart => exact ⟨0, 0, [], [], by omega, rfl, rfl, by omega, S0, S0.out.bl⟩
    case round =>
      clear S0
      obtain ⟨k, d, W, R, hk, rfl, rfl, hd, F, hbr⟩ := hrel
      by_cases hlt : k < len0
      · obtain ⟨bx, off, rfl, hzl, hwf, hcell⟩ := W0.out.open.resolve_left (by omega)
        have hy := hcell _ hbr k hlt
        have hyI := range_u16 hwf k
        obtain ⟨y, hye⟩ : ∃ y, y = z0.getD k 0 := ⟨_, rfl⟩
        rw [← List.getD_eq_getElem?_getD, ← hye] at hyI
        rw [← hye] at hy
        obtain ⟨y0, y1⟩ := hyI
        have HY := hid hye.symm
        clear hcell hwf hzl hye hbr
        rcases hw : waitsF W y with _ | _
        · have A := hid (pwait F.out.pq (by have := F.out.ln; omega) y k (by omega) (by omega) hw F.out.noG (by rw [not_full (by have := F.out.ln; omega)]))
          go_wp2_with fail
          refine (A.out).mono ?_
          rintro e w5 ⟨rfl, h5⟩
          have hnr : y ∉ R := fun hm => by have := (F.out.rs y hm).1; rw [hw] at this; cases this
          have F5 := hid (F.out.wait HZ.out HY.out h5)
          have HNR := hid hnr
          have B5 := F5.out.bl
          clear h5 A F hw hnr
          go_wp2_with fail
          · have RE := hid (pready F5.out.pq (by have := F5.out.ln; omega) y (by rw [not_full (by have := F5.out.ln; omega)]))
            refine (RE.out).mono ?_
            rintro e w6 ⟨rfl, h6⟩
            have F6 := hid (F5.out.ready HZ.out (by rw [wf_cons]; simp) y0 HNR.out h6)
            have B6 := F6.out.bl
            clear h6 RE F5
            go_wp2
            go_roundw
            case rel => exact ⟨k + 1, d + 1, _, _, by omega, by go_num, by go_num, by omega, F6, B6⟩
            case measure => simp [intOf]; omega
          · go_wp2
            go_roundw
            case rel => exact ⟨k + 1, d, _, _, by omega, by go_num, rfl, by omega, F5, B5⟩
            case measure => simp [intOf]; omega
        · have A := hid (pwait_same F.out.pq y k (by omega) (by omega) (.inl hw))
          have F5 := hid F.out.stay
          have B5 := F5.out.bl
          clear F hw
          go_wp2_with fail
          refine (A.out).mono ?_
          rintro e w5 ⟨rfl, rfl⟩
          go_wp2
          go_roundw
          case rel => exact ⟨k + 1, d, W, R, by omega, by go_num, rfl, by omega, F5, B5⟩
          case measure => simp [intOf]; omega
      · obtain rfl : k = len0 := by omega
        have S2 := hid (show (∀ a, a ∈ R → (-1 : Int) < a) ∧ R.length + 0 = d from ⟨fun a ha => by have := (F.out.rs a ha).2; omega, by have := F.out.ln; omega⟩)
        have F2 := hid (show Pq Z wr p m1 m2 m3 W R ∧ Below w.heap.size w wr ∧ (∀ x y, (x, y) ∈ W → 0 ≤ y ∧ y < k ∧ z0.getD y.toNat 0 = x) ∧ (∀ a, a ∈ R → waitsF W a = true) from ⟨F.out.pq, F.out.bl, F.out.ws, fun a ha => (F.out.rs a ha).1⟩)
        clear F hbr
        go_wp2_with fail
        go_loopw [9, 51] (fun la i wr => ∃ (j : Nat) (l : Int) (W : List (Int × Int)) (R : List Int), j ≤ d ∧ i = .int .i64 j ∧ la = .int .i64 l ∧ Hid ((∀ a, a ∈ R → l < a) ∧ R.length + j = d) ∧
          Hid (Pq Z wr p m1 m2 m3 W R ∧ Below w.heap.size w wr ∧ (∀ x y, (x, y) ∈ W → 0 ≤ y ∧ y < k ∧ z0.getD y.toNat 0 = x) ∧ (∀ a, a ∈ R → waitsF W a = true)) ∧ Below w.heap.size w wr) (fun _ i _ => d - (intOf i).toNat)
        case atStart => exact ⟨0, -1, W, R, by omega, rfl, rfl, S2, F2, F2.out.2.1⟩
        case round =>
          clear S2 F2
          obtain ⟨j, l, W, R, hj, rfl, rfl, G, F, hbr⟩ := hrel
          by_cases hlt2 : j < d
          · have hne : anyDue W R = true := by
              rcases R with _ | ⟨a, R⟩
              · have := G.out.2; simp at this; omega
              · exact anyDue_yes (m := a) (by simp [dueP, F.out.2.2.2 a List.mem_cons_self])
            have TK := hid (ptake F.out.1 hne)
            clear hne
            go_wp2_with fail
            refine (TK.out).mono ?_
            rintro e w5 ⟨m, y, rfl, hm, hmr, hle, f5, q5⟩
            obtain ⟨y0, y1, y2⟩ := F.out.2.2.1 m y hm
            have hlm := G.out.1 m hmr
            obtain ⟨g, rfl⟩ := Int.eq_ofNat_of_zero_le y0
            have hg : g < k := by omega
            have B5 := F.out.2.1.trans (f5.below HZ.out F.out.2.1.size)
            obtain ⟨bx, off, rfl, hzl, hwf, hcell⟩ := W0.out.open.resolve_left (by omega)
            have hy := hcell _ B5 g hg
            have y2 : z0.getD g 0 = m := by simpa using y2
            rw [y2] at hy
            have hmI := range_u16 hwf g
            rw [← List.getD_eq_getElem?_getD, y2] at hmI
            obtain ⟨mm0, mm1⟩ := hmI
            have G6 := hid (show (∀ a, a ∈ (R.filter fun a => !(a == m)) → m < a) ∧ (R.filter fun a => !(a == m)).length + (j + 1) = d by
              refine ⟨fun a ha => ?_, ?_⟩
              · obtain ⟨h1, h2⟩ := List.mem_filter.1 ha
                have h3 := hle a (by simp [dueP, h1, F.out.2.2.2 a h1])
                have : a ≠ m := by simpa using h2
                omega
              · have := len_drop2 F.out.1.n3 hmr
                have := G.out.2
                have := List.length_pos_of_mem hmr
                omega)
            have F6 := hid (show Pq Z w5 p m1 m2 m3 (W.filter fun e => !(e.1 == m)) (R.filter fun a => !(a == m)) ∧ Below w.heap.size w w5 ∧ (∀ x y, (x, y) ∈ (W.filter fun e => !(e.1 == m)) → 0 ≤ y ∧ y < k ∧ z0.getD y.toNat 0 = x) ∧ (∀ a, a ∈ (R.filter fun a => !(a == m)) → waitsF (W.filter fun e => !(e.1 == m)) a = true) by
              refine ⟨q5, B5, fun x y he => F.out.2.2.1 x y (List.mem_filter.1 he).1, fun a ha => ?_⟩
              obtain ⟨h1, h2⟩ := List.mem_filter.1 ha
              obtain ⟨yy, hyy⟩ := waitsF_mem (F.out.2.2.2 a h1)
              exact decide_eq_true (List.mem_map.2 ⟨_, List.mem_filter.2 ⟨hyy, h2⟩, rfl⟩))
            have g0 : (0 : Int) ≤ g := by omega
            have g1 : (g : Int) < k := by omega
            have d1 : decide (m ≤ l) = false := decide_eq_false (by omega)
            have d2 : decide (k ≤ g) = false := decide_eq_false (by omega)
            have BB := hid B5
            clear hm hmr hle f5 q5 hcell hwf hzl y2 F G TK hbr B5 hlm
            go_wp2
            go_roundw
            case rel => exact ⟨j + 1, m, _, _, by omega, by go_num, rfl, G6, F6, BB.out⟩
            case measure => simp [intOf]; omega
          · obtain rfl : j = d := by omega
            have hR : R = [] := List.length_eq_zero_iff.1 (by have := G.out.2; omega)
            have hno : anyDue W R = false := by rw [anyDue, List.any_eq_false, hR]; simp
            have TN := hid (ptake_none F.out.1 hno)
            have HNO := hid hno
            clear hno hR
            go_wp2_with fail
            refine (TN.out).mono ?_
            rintro e w5 ⟨rfl, b5⟩
            have DU := pdue (F.out.1.below b5)
            rw [HNO.out] at DU
            have HDU := hid DU
            have B5 := hid (F.out.2.1.trans (b5.mono F.out.2.1.size))
            clear DU b5 F TN G hbr
            go_wp2_with fail
            refine (HDU.out).mono ?_
            rintro e w6 ⟨rfl, b6⟩
            have B6 := hid (B5.out.trans (b6.mono B5.out.size))
            clear b6 HDU B5
            go_wp2
            go_ret
            exact ⟨rfl, B6.out⟩
end Go.Proofs.Ytkfbicmoefaoiaa.pollOrder
