/- The walk of the statement ModelKeeps: the law answers true and turns nothing that was there. -/
import Derived.Test.YtgfamjbpdomjfaaDoorLives17
import Derived.Test.YtgfamjbpdomjfaaDoorLegalA
import Derived.Test.YtgfamjbpdomjfaaDoorStructs
import Derived.Deep.CutRange
import Derived.Deep.CutBlock
namespace Go.Proofs.YtgfamjbpdomjfaaDoor.modelKeeps
open Go.RowKit
set_option linter.unusedVariables false
set_option linter.unusedSimpArgs false

theorem stat {w : World} {lo hi b : Nat} {s : Ms} (h : Mdl w lo hi b s) (a : Int) : Calls Tryd.prog 10 #[.pointer (some ⟨b, 0, none⟩), .int .i64 a] w fun e w' => e = .returned (.int .u64 (s.st a)) ∧ w' = w := by
  obtain ⟨b1, b2, b3, h1, _⟩ := h
  exact mstatus h1 a
theorem legal_ev : ∀ k : Nat, k < 8 → k ≠ 1 → ∃ a b : Nat, a < 7 ∧ b < 7 ∧ evStep0 k = a ∧ evStep1 k = b ∧ stLegal a b = true
  | 0, _, _ => ⟨0, 1, by decide⟩
  | 2, _, _ => ⟨1, 2, by decide⟩
  | 3, _, _ => ⟨2, 1, by decide⟩
  | 4, _, _ => ⟨2, 3, by decide⟩
  | 5, _, _ => ⟨2, 4, by decide⟩
  | 6, _, _ => ⟨2, 5, by decide⟩
  | 7, _, _ => ⟨2, 6, by decide⟩
theorem wrong_none {s : Ms} {k g m p v : Int} (h : wrongM s k g m p v = none) : shapedB s k g m p v = true ∧ stepsB s k g = true := by
  unfold wrongM at h
  split at h
  · cases h
  · rename_i h1
    split at h
    · cases h
    · rename_i h2
      exact ⟨by simpa using h1, by simpa using h2⟩
/-- A step that is let is legal. -/
theorem legal_step {s : Ms} {k g m p v : Int} (h : wrongM s k g m p v = none) : ∃ a b : Nat, a < 7 ∧ b < 7 ∧ s.st g = a ∧ (addM s k g m p v).st g = b ∧ stLegal a b = true := by
  obtain ⟨h1, h2⟩ := wrong_none h
  obtain ⟨k0, k8⟩ := shaped_k h1
  obtain ⟨n, rfl⟩ : ∃ n : Nat, k = n := ⟨k.toNat, by omega⟩
  have hst : (addM s n g m p v).st g = evStep1 n := by
    unfold addM
    rw [if_pos h]
    unfold doM
    split
    · simp [upf]
    · split <;> simp [upf]
  rw [hst]
  unfold stepsB at h2
  by_cases hn : (n : Int) = 1
  · rw [if_pos hn] at h2
    have hn1 : n = 1 := by omega
    subst hn1
    simp only [Bool.or_eq_true, decide_eq_true_eq] at h2
    rcases h2 with h2 | h2 | h2
    · exact ⟨3, 1, by omega, by omega, h2, rfl, by decide⟩
    · exact ⟨4, 1, by omega, by omega, h2, rfl, by decide⟩
    · exact ⟨5, 1, by omega, by omega, h2, rfl, by decide⟩
  · rw [if_neg hn] at h2
    simp only [decide_eq_true_eq, Int.toNat_natCast] at h2
    obtain ⟨a, b, ha, hb, e0, e1, e2⟩ := legal_ev n (by omega) (by omega)
    exact ⟨a, b, ha, hb, by rw [h2, e0], e1, e2⟩
theorem other_step {s : Ms} {k g m p v i : Int} (h : i ≠ g) : (addM s k g m p v).st i = s.st i := by
  unfold addM
  split
  · unfold doM
    split
    · simp [upf, h]
    · split <;> simp [upf, h]
  · rfl
theorem same_step {s : Ms} {k g m p v : Int} {x : Nat} (h : wrongM s k g m p v = some x) : addM s k g m p v = s := by
  unfold addM
  rw [if_neg (by rw [h]; simp)]
/-- An array of six numbers. -/
def Wa (w : World) (pw : Nat) (f : Nat → Int) : Prop := ∃ cs : Array Value, w.heap[pw]? = some (.cells cs 56 (0, 0)) ∧ ∀ i, i < 6 → cs[i]? = some (.int .u64 (f i))
theorem Wa.cell {w : World} {pw : Nat} {f : Nat → Int} (h : Wa w pw f) {i : Nat} (hi : i < 6) : w.cell? ⟨pw, i, none⟩ = some (.int .u64 (f i)) ∧ w.frozen? ⟨pw, i, none⟩ = false := by
  obtain ⟨cs, h1, h2⟩ := h
  exact ⟨cell_md h1 (h2 i hi), by simp [World.frozen?, h1]⟩
theorem Wa.set {w : World} {pw : Nat} {f : Nat → Int} (h : Wa w pw f) (i : Nat) (hi : i < 6) (x : Int) : Wa (w.setCell ⟨pw, i, none⟩ (.int .u64 x)) pw (fun j => if j = i then x else f j) := by
  obtain ⟨cs, h1, h2⟩ := h
  refine ⟨cs.setIfInBounds i (.int .u64 x), by simp [World.setCell, Array.getElem?_modify, h1], fun j hj => ?_⟩
  have hs : ∀ j, j < 6 → j < cs.size := fun j hj => by
    have := h2 j hj
    rw [Array.getElem?_eq_some_iff] at this
    exact this.1
  rw [Array.getElem?_setIfInBounds]
  by_cases hji : i = j
  · subst hji
    rw [if_pos rfl, if_pos (hs i hi)]
    simp
  · rw [if_neg hji]
    have hji' : ¬ j = i := fun e => hji e.symm
    simp only [if_neg hji']
    exact h2 j hj
/-- All that stands in a round. -/
structure Kp (w : World) (hi b : Nat) (s : Ms) (pe pw : Nat) (k g m p v : Int) (f : Nat → Int) (wr : World) : Prop where
  hm : Mdl wr w.heap.size hi b s
  hv : wr.heap[pe]? = some (.cells #[.int .i64 k, .int .i64 g, .int .i64 m, .int .i64 p, .int .i64 v] 30 (0, 0))
  ha : Wa wr pw f
  bl : Below w.heap.size w wr
  hs : hi ≤ wr.heap.size
  he : hi ≤ pe
  hw : hi ≤ pw
  ne : pe ≠ pw
  ws : w.heap.size ≤ hi
variable {w wr w' : World} {hi b pe pw : Nat} {s s' : Ms} {k g m p v : Int} {f f' : Nat → Int}
theorem Wa.lt (h : Wa w pw f) : pw < w.heap.size := by
  obtain ⟨cs, h1, _⟩ := h
  exact lt_of_heap h1
theorem Wa.kept (h : Wa w pw f) (e : w'.heap[pw]? = w.heap[pw]?) : Wa w' pw f := by
  obtain ⟨cs, h1, h2⟩ := h
  exact ⟨cs, e.trans h1, h2⟩
theorem Kp.below (h : Kp w hi b s pe pw k g m p v f wr) (hb : Below wr.heap.size wr w') : Kp w hi b s pe pw k g m p v f w' :=
  ⟨h.hm.below hb, (hb.block _ (lt_of_heap h.hv)).trans h.hv, h.ha.kept (hb.block _ h.ha.lt), h.bl.trans (hb.mono h.bl.size), Nat.le_trans h.hs hb.size, h.he, h.hw, h.ne, h.ws⟩
theorem Kp.set (h : Kp w hi b s pe pw k g m p v f wr) (i : Nat) (hi6 : i < 6) (x : Int) : Kp w hi b s pe pw k g m p v (fun j => if j = i then x else f j) (wr.setCell ⟨pw, i, none⟩ (.int .u64 x)) := by
  have hw := h.hw
  have hws := h.ws
  have hne := h.ne
  have ho : OM hi (pw + 1) wr (wr.setCell ⟨pw, i, none⟩ (.int .u64 x)) := ⟨rfl, rfl, rfl, by simp [World.setCell], fun k hk hn => Below.heap_setCell _ _ _ _ (by show k ≠ pw; omega)⟩
  refine ⟨h.hm.other ho (.inl (Nat.le_refl _)), (Below.heap_setCell _ _ _ _ hne).trans h.hv, h.ha.set i hi6 x, h.bl.trans (ho.below hws h.bl.size), Nat.le_trans h.hs ho.size, h.he, h.hw, h.ne, h.ws⟩
theorem Kp.add (h : Kp w hi b s pe pw k g m p v f wr) (hm : Mdl w' w.heap.size hi b s') (ho : OM w.heap.size hi wr w') : Kp w hi b s' pe pw k g m p v f w' :=
  ⟨hm, (ho.block _ (lt_of_heap h.hv) (.inr h.he)).trans h.hv, h.ha.kept (ho.block _ h.ha.lt (.inr h.hw)), h.bl.trans (ho.below (Nat.le_refl _) h.bl.size), Nat.le_trans h.hs ho.size, h.he, h.hw, h.ne, h.ws⟩
theorem Kp.to (h : Kp w hi b s pe pw k g m p v f wr) (e : ∀ i, i < 6 → f i = f' i) : Kp w hi b s pe pw k g m p v f' wr := by
  obtain ⟨cs, h1, h2⟩ := h.ha
  exact ⟨h.hm, h.hv, ⟨cs, h1, fun i hi => by rw [← e i hi]; exact h2 i hi⟩, h.bl, h.hs, h.he, h.hw, h.ne, h.ws⟩
/-- What stands between two rounds. -/
structure Mk (w : World) (hi b : Nat) (s : Ms) (wr : World) : Prop where
  hm : Mdl wr w.heap.size hi b s
  bl : Below w.heap.size w wr
  hs : hi ≤ wr.heap.size
  ws : w.heap.size ≤ hi
theorem Kp.toMk (h : Kp w hi b s pe pw k g m p v f wr) : Mk w hi b s wr := ⟨h.hm, h.bl, h.hs, h.ws⟩
theorem Mk.kp (h : Mk w hi b s wr) (k g m p v : Int) : Kp w hi b s wr.heap.size (wr.heap.size + 1) k g m p v (fun _ => 0)
    ((wr.alloc (.cells #[.int .i64 k, .int .i64 g, .int .i64 m, .int .i64 p, .int .i64 v] 30)).alloc (.cells #[.int .u64 0, .int .u64 0, .int .u64 0, .int .u64 0, .int .u64 0, .int .u64 0] 56)) := by
  have hb := (bl_ad wr (.cells #[.int .i64 k, .int .i64 g, .int .i64 m, .int .i64 p, .int .i64 v] 30)).trans ((bl_ad _ (.cells #[.int .u64 0, .int .u64 0, .int .u64 0, .int .u64 0, .int .u64 0, .int .u64 0] 56)).mono (by simp))
  have hs := h.hs
  refine ⟨h.hm.below hb, ?_, ?_, h.bl.trans (hb.mono h.bl.size), Nat.le_trans h.hs hb.size, hs, by omega, by omega, h.ws⟩
  · rw [Below.heap_alloc _ _ _ (by simp)]
    exact heap_alloc_new wr _
  · refine ⟨#[.int .u64 0, .int .u64 0, .int .u64 0, .int .u64 0, .int .u64 0, .int .u64 0], ?_, fun i hi => ?_⟩
    · have := heap_alloc_new (wr.alloc (.cells #[.int .i64 k, .int .i64 g, .int .i64 m, .int .i64 p, .int .i64 v] 30)) (.cells #[.int .u64 0, .int .u64 0, .int .u64 0, .int .u64 0, .int .u64 0, .int .u64 0] 56)
      rw [World.size_alloc] at this
      exact this
    · match i, hi with
      | 0, _ => rfl
      | 1, _ => rfl
      | 2, _ => rfl
      | 3, _ => rfl
      | 4, _ => rfl
      | 5, _ => rfl
set_option maxRecDepth 100000 in
set_option maxHeartbeats 16000000 in
theorem walk (a0 : Option Addr) (len0 cap0 : Nat) (z0 : Nat → Nat → Int) (w : World) (w0 : IsStructs [.i64, .i64, .i64, .i64, .i64] w a0 len0 cap0 z0) (T1 : StSteps w) (T2 : EvNames w) (T3 : EvSteps w) :
    Calls Tryd.prog 6 #[.slice a0 len0 cap0] w fun e w' => e = .returned (.bool true) ∧ Below w.heap.size w w' := by
  have TL := hid T1
  have TN := hid T2
  have TS := hid T3
  clear T1 T2 T3
  by_cases hlen : (60 : Int) < len0
  · go_enter Tryd.func6, Tryd.ntmps6
    go_wp2_with fail
    refine (lives17 _ TN.out TS.out).mono ?_
    rintro e w2 ⟨rfl, hb1⟩
    have HB1 := hid hb1
    clear hb1
    go_wp2_with fail
    refine (lives17 _ (TN.out.at HB1.out) (TS.out.at HB1.out)).mono ?_
    rintro e w3 ⟨rfl, hb2⟩
    go_wp2
    go_ret
    exact ⟨rfl, HB1.out.trans (hb2.mono HB1.out.size)⟩
  · have hlen' : len0 ≤ 60 := by omega
    have W0 := hid w0
    clear w0 hlen
    go_enter Tryd.func6, Tryd.ntmps6
    go_wp2_with fail
    refine (lives17 _ TN.out TS.out).mono ?_
    rintro e w1 ⟨rfl, hb1⟩
    have B1 := hid hb1
    have NA := hid (mnew 3 3 6 w1 (by omega) (by omega) (by omega))
    have TN1 := hid (TN.out.at B1.out)
    have TS1 := hid (TS.out.at B1.out)
    have TL1 := hid (TL.out.at B1.out)
    clear hb1
    go_wp2_with fail
    refine (NA.out).mono ?_
    rintro e w2 ⟨pm, rfl, hm2, hb2⟩
    obtain ⟨hi, hhi⟩ : ∃ x, x = w2.heap.size := ⟨_, rfl⟩
    have M2 : Hid (Mk w1 hi pm (newM 3 3 6) w2) := ⟨by rw [hhi]; exact hm2, hb2, by omega, by rw [hhi]; exact hb2.size⟩
    clear hm2 hb2 hhi NA
    go_wp2_with fail
    go_loopw [25] (fun i wr => ∃ (q : Nat) (s : Ms), q ≤ len0 ∧ i = .int .i64 q ∧ Hid (Mk w1 hi pm s wr))
      (fun i _ => len0 - (intOf i).toNat)
    case atStart => exact ⟨0, _, by omega, rfl, M2⟩
    case round =>
      clear M2
      obtain ⟨q, s, hq, rfl, M⟩ := hrel
      by_cases hlt : q < len0
      · obtain ⟨bx, off, rfl, hcell⟩ := W0.out.open (by omega) (by simp)
        have HC := hid (hcell _ (B1.out.trans (M.out.bl.mono B1.out.size)) q hlt)
        have h0 := (HC.out 0 .i64 rfl).1
        have h1 := (HC.out 1 .i64 rfl).1
        have h2 := (HC.out 2 .i64 rfl).1
        have h3 := (HC.out 3 .i64 rfl).1
        have h4 := (HC.out 4 .i64 rfl).1
        simp only [List.length_cons, List.length_nil, Nat.reduceAdd, Nat.add_zero] at h0 h1 h2 h3 h4
        rw [← Nat.add_assoc] at h1 h2 h3 h4
        obtain ⟨k, hk⟩ : ∃ x, x = z0 q 0 := ⟨_, rfl⟩
        obtain ⟨g, hg⟩ : ∃ x, x = z0 q 1 := ⟨_, rfl⟩
        obtain ⟨m, hm⟩ : ∃ x, x = z0 q 2 := ⟨_, rfl⟩
        obtain ⟨p, hp⟩ : ∃ x, x = z0 q 3 := ⟨_, rfl⟩
        obtain ⟨v, hv⟩ : ∃ x, x = z0 q 4 := ⟨_, rfl⟩
        rw [← hk] at h0
        rw [← hg] at h1
        rw [← hm] at h2
        rw [← hp] at h3
        rw [← hv] at h4
        clear hk hg hm hp hv HC hcell
        have K0 := hid (M.out.kp k g m p v)
        obtain ⟨pe, hpe⟩ : ∃ x, x = wr.heap.size := ⟨_, rfl⟩
        obtain ⟨pw, hpw⟩ : ∃ x, x = wr.heap.size + 1 := ⟨_, rfl⟩
        have HPE := hid (And.intro hpe hpw)
        rw [← hpw, ← hpe] at K0
        clear hpe hpw
        go_wp2_with fail
        rw [← HPE.out.2, ← HPE.out.1]
        go_loopw [29] (fun i wy => ∃ (j : Nat), j ≤ 6 ∧ i = .int .i64 j ∧ Hid (Kp w1 hi pm s pe pw k g m p v (fun i => if i < j then s.st i else 0) wy))
          (fun i _ => 6 - (intOf i).toNat)
        case atStart => exact ⟨0, by omega, rfl, hid (K0.out.to (fun i _ => by simp))⟩
        case round =>
          clear K0 M h0 h1 h2 h3 h4 HPE
          obtain ⟨j, hj, rfl, K⟩ := hrel
          by_cases hj6 : j < 6
          · have ST := hid (stat K.out.hm j)
            obtain ⟨x, hx⟩ : ∃ x, x = s.st j := ⟨_, rfl⟩
            have HX := hid hx
            rw [← hx] at ST
            obtain ⟨ca, cf⟩ := K.out.ha.cell hj6
            have KS := hid ((K.out.set j hj6 x).to (f' := fun i => if i < j + 1 then s.st i else 0) (fun i _ => by
              by_cases hij : i = j
              · subst hij; simp [HX.out]
              · by_cases h2 : i < j
                · simp [hij, h2, show i < j + 1 by omega]
                · simp [hij, h2, show ¬ i < j + 1 by omega]))
            clear hx
            go_wp2_with fail
            refine (ST.out).mono ?_
            rintro e w5 ⟨rfl, rfl⟩
            go_wp2
            go_roundw
            case rel => exact ⟨j + 1, by omega, by go_num, KS⟩
            case measure => simp [intOf]; omega
          · have K6 := hid (K.out.to (f' := fun i => s.st i) (fun i hi => by show (if i < j then s.st i else 0) = s.st i; rw [if_pos (by omega)]))
            have AD := hid (madd K6.out.hm K6.out.hs (TN1.out.at K6.out.bl) (TS1.out.at K6.out.bl) k g m p v)
            obtain ⟨u, hu⟩ : ∃ u, u = wrongM s k g m p v := ⟨_, rfl⟩
            have HU := hid hu
            unfold AddPost at AD
            rw [← hu] at AD
            obtain ⟨s', hs'⟩ : ∃ s', s' = addM s k g m p v := ⟨_, rfl⟩
            have HS := hid hs'
            rw [← hs'] at AD
            obtain ⟨c0, c1, c2, c3, c4⟩ := ev5 K6.out.hv
            clear K hu hs'
            rcases u with _ | x
            · simp only [Option.getD_none, Option.isNone_none] at AD
              go_wp2_with fail
              refine (AD.out).mono ?_
              rintro e w6 ⟨rfl, m6, o6⟩
              have K7 := hid (K6.out.add m6 o6)
              have LS := hid (legal_step (s := s) (k := k) (g := g) (m := m) (p := p) (v := v) HU.out.symm)
              clear m6 o6 AD K6 c0 c1 c2 c3 c4
              go_wp2_with fail
              go_loopw [44] (fun i wy => ∃ (j : Nat), j ≤ 6 ∧ i = .int .i64 j ∧ Hid (Kp w1 hi pm s' pe pw k g m p v (fun i => s.st i) wy))
                (fun i _ => 6 - (intOf i).toNat)
              case atStart => exact ⟨0, by omega, rfl, K7⟩
              case round =>
                clear K7
                obtain ⟨t, ht, rfl, K⟩ := hrel
                by_cases ht6 : t < 6
                · have ST := hid (stat K.out.hm t)
                  obtain ⟨ca, cf⟩ := K.out.ha.cell ht6
                  obtain ⟨c0, c1, c2, c3, c4⟩ := ev5 K.out.hv
                  by_cases htg : (t : Int) = g
                  · have tg1 : ((t : Int) != g) = false := by simp [htg]
                    have tg2 : ((t : Int) == g) = true := by simp [htg]
                    obtain ⟨x, y, hx7, hy7, hxe, hye, hl⟩ := LS.out
                    have LG := hid (slegal_in x y _ (TL1.out.at K.out.bl) hx7 hy7)
                    rw [hl] at LG
                    have e1 : s'.st t = y := by rw [HS.out, htg]; exact hye
                    have e2 : s.st t = x := by rw [htg]; exact hxe
                    rw [e1] at ST
                    rw [e2] at ca
                    clear htg hxe hye hl e1 e2 hx7 hy7
                    go_wp2_with fail
                    refine (ST.out).mono ?_
                    rintro e w8 ⟨rfl, rfl⟩
                    go_wp2_with fail
                    refine (LG.out).mono ?_
                    rintro e w9 ⟨rfl, rfl⟩
                    go_wp2
                    go_roundw
                    case rel => exact ⟨t + 1, by omega, by go_num, K⟩
                    case measure => simp [intOf]; omega
                  · have tg1 : ((t : Int) != g) = true := by simp [htg]
                    have tg2 : ((t : Int) == g) = false := by simp [htg]
                    have e1 : s'.st t = s.st t := by rw [HS.out]; exact other_step htg
                    rw [e1] at ST
                    obtain ⟨x, hx⟩ : ∃ x, x = s.st t := ⟨_, rfl⟩
                    rw [← hx] at ST ca
                    have xx : (x != x) = false := by simp
                    clear htg e1 hx
                    go_wp2_with fail
                    refine (ST.out).mono ?_
                    rintro e w8 ⟨rfl, rfl⟩
                    go_wp2
                    go_roundw
                    case rel => exact ⟨t + 1, by omega, by go_num, K⟩
                    case measure => simp [intOf]; omega
                · have M2 := hid K.out.toMk
                  clear K LS
                  go_wp2
                  go_roundw
                  case rel => exact ⟨q + 1, _, by omega, by go_num, M2⟩
                  case measure => simp [intOf]; omega
            · simp only [Option.getD_some, Option.isNone_some] at AD
              rw [show s' = s by rw [HS.out]; exact same_step HU.out.symm] at AD
              go_wp2_with fail
              refine (AD.out).mono ?_
              rintro e w6 ⟨rfl, m6, o6⟩
              have K7 := hid (K6.out.add m6 o6)
              clear m6 o6 AD K6 c0 c1 c2 c3 c4
              go_wp2_with fail
              go_loopw [44] (fun i wy => ∃ (j : Nat), j ≤ 6 ∧ i = .int .i64 j ∧ Hid (Kp w1 hi pm s pe pw k g m p v (fun i => s.st i) wy))
                (fun i _ => 6 - (intOf i).toNat)
              case atStart => exact ⟨0, by omega, rfl, K7⟩
              case round =>
                clear K7
                obtain ⟨t, ht, rfl, K⟩ := hrel
                by_cases ht6 : t < 6
                · have ST := hid (stat K.out.hm t)
                  obtain ⟨ca, cf⟩ := K.out.ha.cell ht6
                  obtain ⟨x, hx⟩ : ∃ x, x = s.st t := ⟨_, rfl⟩
                  rw [← hx] at ST ca
                  have xx : (x != x) = false := by simp
                  clear hx
                  go_wp2_with fail
                  refine (ST.out).mono ?_
                  rintro e w8 ⟨rfl, rfl⟩
                  go_wp2
                  go_roundw
                  case rel => exact ⟨t + 1, by omega, by go_num, K⟩
                  case measure => simp [intOf]; omega
                · have AD2 := hid (madd K.out.hm K.out.hs (TN1.out.at K.out.bl) (TS1.out.at K.out.bl) k g m p v)
                  unfold AddPost at AD2
                  rw [← HU.out] at AD2
                  simp only [Option.getD_some, Option.isNone_some] at AD2
                  rw [show addM s k g m p v = s from same_step HU.out.symm] at AD2
                  obtain ⟨c0, c1, c2, c3, c4⟩ := ev5 K.out.hv
                  have xx : ((x : Int) != x) = false := by simp
                  go_wp2_with fail
                  refine (AD2.out).mono ?_
                  rintro e w9 ⟨rfl, m9, o9⟩
                  have M2 := hid (K.out.add m9 o9).toMk
                  clear K m9 o9 AD2 c0 c1 c2 c3 c4
                  go_wp2
                  go_roundw
                  case rel => exact ⟨q + 1, _, by omega, by go_num, M2⟩
                  case measure => simp [intOf]; omega
      · have HF := hid (B1.out.trans (M.out.bl.mono B1.out.size))
        go_wp2
        go_ret
        exact ⟨rfl, HF.out⟩
end Go.Proofs.YtgfamjbpdomjfaaDoor.modelKeeps
