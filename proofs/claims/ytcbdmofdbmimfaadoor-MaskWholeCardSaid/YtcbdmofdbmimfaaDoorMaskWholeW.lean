/- The walk of the statement MaskWhole: the law answers true and turns nothing that was there. -/
import Derived.Test.YtcbdmofdbmimfaaDoorMask5
import Derived.Test.YtcbdmofdbmimfaaDoorMaps
import Derived.Test.YtcbdmofdbmimfaaDoorIds2
import Derived.OpenShut
namespace Go.Proofs.YtcbdmofdbmimfaaDoor.maskWhole
open Go.RowKit
set_option linter.unusedVariables false
set_option linter.unusedSimpArgs false

/-- All that stands: the mask, and the law's own map of what was put. -/
structure St (w0 : World) (x y bm n : Nat) (W : List Nat) (g : Int → Option Value) (c : Nat) (w : World) : Prop where
  s : MSt w0 x y n W w
  p : MapI w bm .i64 g c
  nx : bm ≠ x
  ny : bm ≠ y
  hb : w0.heap.size ≤ bm
  hc : c = card (bitAt W) n
  yes : ∀ k : Nat, k < n → bitAt W k = true → g k = some (.int .i64 1)
  no : ∀ a : Int, inF (bitAt W) n a = false → g a = none
namespace St
variable {w0 w : World} {x y bm n c : Nat} {W : List Nat} {g : Int → Option Value}
theorem quiet (h : St w0 x y bm n W g c w) {w' : World} (q : Quiet w w') : St w0 x y bm n W g c w' :=
  ⟨h.s.quiet q, h.p.kept (by rw [q.heap]), h.nx, h.ny, h.hb, h.hc, h.yes, h.no⟩
theorem below (h : St w0 x y bm n W g c w) {w' : World} (hb : Below w.heap.size w w') : St w0 x y bm n W g c w' :=
  ⟨h.s.below hb, h.p.kept (hb.block _ h.p.lt), h.nx, h.ny, h.hb, h.hc, h.yes, h.no⟩
/-- One more is in, and is counted. -/
theorem put (h : St w0 x y bm n W g c w) {k : Nat} (hk : k < n) (hf : bitAt W k = false) {W' : List Nat} {w1 w2 : World} (hm : Msk w1 x y n W') (hb : bitAt W' = upd (bitAt W) k true) (ho : Only x y w w1)
    (hp : MapI w2 bm .i64 (updG g k (some (.int .i64 1))) (if g k = none then c + 1 else c)) (h2 : Only bm bm w1 w2) : St w0 x y bm n W' (updG g k (some (.int .i64 1))) (c + 1) w2 := by
  have hgk := h.no k (by rw [inF_in hk]; exact hf)
  rw [if_pos hgk] at hp
  have s1 := h.s.put hm ho
  have hgm : bm ≠ 0 := by have := s1.hg; have := h.hb; omega
  refine ⟨⟨s1.m.other h2 (Ne.symm h.nx) (Ne.symm h.nx) (Ne.symm h.ny) (Ne.symm h.ny), h2.low h.hb h.hb s1.B s1.B.size, s1.T.eq (h2.block _ s1.T.lt (Ne.symm hgm) (Ne.symm hgm)), s1.hx, s1.hy, s1.hg⟩, hp, h.nx, h.ny, h.hb, ?_, fun j hj hbj => ?_, fun a ha => ?_⟩
  · rw [hb, card_put _ hk hf, ← h.hc]
  · rw [hb] at hbj
    by_cases e : j = k
    · subst e; exact updG_same _ _ _
    · rw [updG_ne _ _ (by omega)]
      rw [upd_ne _ _ e] at hbj
      exact h.yes j hj hbj
  · rw [hb] at ha
    by_cases e : a = k
    · subst e
      rw [inF_in hk, upd_same] at ha; cases ha
    · rw [updG_ne _ _ e]
      refine h.no a ?_
      by_cases ho : a < 0 ∨ (n : Int) ≤ a
      · exact inF_out ho
      · obtain ⟨j, rfl⟩ : ∃ j : Nat, a = j := ⟨a.toNat, by omega⟩
        rw [inF_in (by omega)] at ha ⊢
        rw [upd_ne _ _ (by omega)] at ha
        exact ha
end St
theorem mk {v : Value} {w w2 : World} (h : w2 = w.alloc (.map #[] 0)) : Below w.heap.size w w2 ∧ MapI w2 w.heap.size .i64 (fun _ => none) 0 := by
  subst h
  exact ⟨(Below.refl _ _).alloc (Nat.le_refl _) _, MapI.new w .i64⟩
theorem own_kept {w w' : World} {base : Nat} {v : Value} {xs : List Int} (h : U64.Owns w base v xs) (hb : ∀ k, v.ownBlock = some k → w'.heap[k]? = w.heap[k]?) : U64.Owns w' base v xs := by
  obtain ⟨h0, h1 | ⟨g, cap, cur, h1, h2, h3, h4⟩⟩ := h
  · exact ⟨h0, .inl h1⟩
  · exact ⟨h0, .inr ⟨g, cap, cur, h1, h2, by rw [hb g (by rw [h1]; rfl)]; exact h3, h4⟩⟩
theorem words_ext {W W' : List Nat} (hl : W'.length = W.length) (h1 : ∀ k, W.getD k 0 < 18446744073709551616) (h2 : ∀ k, W'.getD k 0 < 18446744073709551616) (hb : bitAt W' = bitAt W) : W' = W := by
  apply List.ext_getElem hl
  intro k hk hk'
  have e1 : W'[k] = W'.getD k 0 := by simp [List.getD_eq_getElem?_getD, hk]
  have e2 : W[k] = W.getD k 0 := by simp [List.getD_eq_getElem?_getD, hk']
  rw [e1, e2]
  apply Nat.eq_of_testBit_eq
  intro j
  by_cases hj : j < 64
  · have h := congrFun hb (64 * k + j)
    simp only [bitAt, show (64 * k + j) / 64 = k by omega, show (64 * k + j) % 64 = j by omega] at h
    exact h
  · have h3 : ∀ v : Nat, v < 18446744073709551616 → v.testBit j = false := fun v hv => by
      apply Nat.testBit_lt_two_pow
      have : (2 : Nat) ^ 64 ≤ 2 ^ j := Nat.pow_le_pow_right (by omega) (by omega)
      have e : (2 : Nat) ^ 64 = 18446744073709551616 := by decide
      omega
    rw [h3 _ (h1 k), h3 _ (h2 k)]

set_option maxHeartbeats 8000000 in
set_option maxRecDepth 100000 in
theorem walk (a0 : Int) (a1 : Option Addr) (len1 cap1 : Nat) (z1 : List Int) (a2 : Int) (w : World) (w0 : (Lit.int .i64 a0).wf = true) (w1 : IsRow .i64 w a1 len1 cap1 z1) (w2 : (Lit.int .i64 a2).wf = true) (T1 : DbTab w) :
    Calls Tryd.prog 4 #[.int .i64 a0, .slice a1 len1 cap1, .int .i64 a2] w fun e w' => e = .returned (.bool true) ∧ Below w.heap.size w w' := by
  have HT := hid T1
  clear T1 w0 w2
  by_cases hlen : (60 : Int) < len1 ∨ 5000 < a0
  · have HL := hid hlen
    clear hlen
    by_cases h1 : (60 : Int) < len1
    · go_enter Tryd.func4, Tryd.ntmps4
      go_wp2_with fail
      refine (lives2 _ HT.out).mono ?_
      rintro e w2 ⟨rfl, hb1⟩
      have T2 := hid (HT.out.at hb1)
      go_wp2_with fail
      refine (lives2 _ T2.out).mono ?_
      rintro e w3 ⟨rfl, hb2⟩
      go_wp2
      go_ret
      exact ⟨rfl, hb1.trans (hb2.mono hb1.size)⟩
    · have h2 : 5000 < a0 := by rcases HL.out with h | h; exact absurd h h1; exact h
      go_enter Tryd.func4, Tryd.ntmps4
      go_wp2_with fail
      refine (lives2 _ HT.out).mono ?_
      rintro e w2 ⟨rfl, hb1⟩
      have T2 := hid (HT.out.at hb1)
      go_wp2_with fail
      refine (lives2 _ T2.out).mono ?_
      rintro e w3 ⟨rfl, hb2⟩
      go_wp2
      go_ret
      exact ⟨rfl, hb1.trans (hb2.mono hb1.size)⟩
  · have hlen' : len1 ≤ 60 := by omega
    have ha5 : a0 ≤ 5000 := by omega
    have W0 := hid w1
    obtain ⟨n, hn⟩ : ∃ n : Nat, (n : Int) = min (max a0 0) 4096 := ⟨(min (max a0 0) 4096).toNat, by omega⟩
    have hn4 : n ≤ 4096 := by omega
    have HN := hid hn
    clear w1 hlen hn
    go_enter Tryd.func4, Tryd.ntmps4
    go_wp2_with fail
    refine (lives2 _ HT.out).mono ?_
    rintro e w2 ⟨rfl, hb1⟩
    have B2 := hid hb1
    clear hb1
    go_wp2_with fail
    refine (mnew_st a0 n HN.out _ _ HT.out B2.out).mono ?_
    rintro e w3 ⟨x, y, W3, rfl, hst, hw3⟩
    have ST := hid hst
    have HW3 := hid hw3
    have SX := hid (show x < w3.heap.size ∧ y < w3.heap.size from ⟨hst.m.sx, hst.m.sy⟩)
    clear hst hw3
    have hmm : (Instr.makeMap 30 none).run Tryd.prog w3 = .ok (.map (some w3.heap.size)) (w3.alloc (.map #[] 0)) := rfl
    go_wp2_with fail
    obtain ⟨wm, hwm⟩ : ∃ wm, wm = w3.alloc (.map #[] 0) := ⟨_, rfl⟩
    rw [← hwm]
    have MK := hid (mk (v := .nilIface) hwm)
    obtain ⟨bm, hbm⟩ : ∃ bm, bm = w3.heap.size := ⟨_, rfl⟩
    have S0 := hid (show St w x y bm n W3 (fun _ => none) 0 wm from by
      have h1 := SX.out
      have h2 := ST.out.below MK.out.1
      exact ⟨h2, by rw [hbm]; exact MK.out.2, by omega, by omega, by rw [hbm]; exact ST.out.B.size, by rw [HW3.out]; exact (card_none fun _ _ => rfl).symm, fun k _ hk => (by rw [HW3.out] at hk; cases hk), fun _ _ => rfl⟩)
    rw [← hbm]
    clear hbm hwm MK SX ST HW3 hmm
    go_loopw [34] (fun i wr => ∃ (k : Nat) (W : List Nat) (g : Int → Option Value) (c : Nat), k ≤ len1 ∧ i = .int .i64 k ∧ Hid (∀ j, j < k → 0 ≤ z1.getD j 0 → z1.getD j 0 < n → bitAt W (z1.getD j 0).toNat = true) ∧ Hid (St w x y bm n W g c wr)) (fun i _ => len1 - (intOf i).toNat)
    case atStart => exact ⟨0, W3, _, 0, Nat.zero_le _, rfl, hid (fun j hj => by omega), S0⟩
    case round =>
      clear S0 W3
      obtain ⟨k, W, g, c, hk, rfl, HB, HS⟩ := hrel
      obtain ⟨wo, rfl⟩ : ∃ wo : World, wo = wr := ⟨_, rfl⟩
      by_cases hlt : k < len1
      · obtain ⟨bx, off, rfl, hzl, hwf, hcell⟩ := W0.out.open.resolve_left (by omega)
        have hx := hcell _ HS.out.s.B k hlt
        obtain ⟨v, hv⟩ : ∃ v, v = z1.getD k 0 := ⟨_, rfl⟩
        rw [← hv] at hx
        have HV := hid hv
        clear hv hwf hcell
        by_cases hout : v < 0 ∨ (n : Int) ≤ v
        · have PT := hid (put_out x y n W v _ HS.out.s.m hout)
          have HB2 := hid (show ∀ j, j < k + 1 → 0 ≤ z1.getD j 0 → z1.getD j 0 < n → bitAt W (z1.getD j 0).toNat = true from fun j hj h1 h2 => by
            by_cases e : j = k
            · subst e; rw [← HV.out] at h1 h2; omega
            · exact HB.out j (by omega) h1 h2)
          clear hout HB
          go_wp2_with fail
          refine PT.out.mono ?_
          rintro e w5 ⟨rfl, rfl⟩
          go_wp2
          go_roundw
          case rel => exact ⟨k + 1, W, g, c, by omega, by go_num, HB2, HS⟩
          case measure => simp [intOf]; omega
        · obtain ⟨i, rfl⟩ : ∃ i : Nat, v = i := ⟨v.toNat, by omega⟩
          have hi : i < n := by omega
          have HB2 := hid (show ∀ W' : List Nat, (∀ j, bitAt W j = true → bitAt W' j = true) → bitAt W' i = true → ∀ j, j < k + 1 → 0 ≤ z1.getD j 0 → z1.getD j 0 < n → bitAt W' (z1.getD j 0).toNat = true from fun W' hm hbi j hj h1 h2 => by
            by_cases e : j = k
            · subst e; rw [← HV.out]; simpa using hbi
            · exact hm _ (HB.out j (by omega) h1 h2))
          clear hout HB HV
          rcases hbi : bitAt W i with _ | _
          · have PT := hid (put_yes x y n W i _ HS.out.s.m hi hbi)
            have gn := HS.out.no i (by rw [inF_in hi]; exact hbi)
            have HH := hid (⟨hi, hbi, gn⟩ : i < n ∧ bitAt W i = false ∧ g i = none)
            clear hi hbi gn
            go_wp2_with fail
            refine PT.out.mono ?_
            rintro e w5 ⟨W', rfl, hm5, hb5, ho5⟩
            have hp5 := HS.out.p.kept (ho5.block _ HS.out.p.lt HS.out.nx HS.out.ny)
            have hl := hp5.look_miss (P := Tryd.prog) Tryd.underlying30 Tryd.underlying3 (z := .int .i64 0) (fun w => rfl) HH.out.2.2 false
            simp only [Bool.false_eq_true, if_false] at hl
            obtain ⟨w6, hrun, hp6, ho6⟩ := hp5.store (P := Tryd.prog) Tryd.underlying30 Tryd.underlying3 i (.int .i64 1)
            have HF := hid (HS.out.put HH.out.1 HH.out.2.1 hm5 hb5 ho5 hp6 ho6)
            have HB3 := hid (HB2.out W' (fun j hj => by rw [hb5]; by_cases e : j = i; subst e; exact upd_same _ _ _; rw [upd_ne _ _ e]; exact hj) (by rw [hb5]; exact upd_same _ _ _))
            clear hm5 hb5 ho5 hp5 hp6 ho6 HB2 HS PT
            go_wp2
            go_roundw
            case rel => exact ⟨k + 1, W', _, _, by omega, by go_num, HB3, HF⟩
            case measure => simp [intOf]; omega
          · have PT := hid (put_no x y n W i _ HS.out.s.m hi hbi)
            have HB3 := hid (HB2.out W (fun j hj => hj) hbi)
            clear hi hbi HB2
            go_wp2_with fail
            refine PT.out.mono ?_
            rintro e w5 ⟨rfl, hq⟩
            have HF := hid (HS.out.quiet hq)
            clear hq HS PT
            go_wp2
            go_roundw
            case rel => exact ⟨k + 1, W, g, c, by omega, by go_num, HB3, HF⟩
            case measure => simp [intOf]; omega
      · obtain rfl : k = len1 := by omega
        have CNT := hid (mcount_any x y n W wo HS.out.s.m)
        rw [← HS.out.hc] at CNT
        go_wp2_with fail
        refine CNT.out.mono ?_
        rintro e w5 ⟨rfl, rfl⟩
        clear CNT
        have hlen := HS.out.p.len (P := Tryd.prog) Tryd.underlying30 (3)
        have t0 : ((c : Int) != c) = false := by simp
        go_wp2_with fail
        clear hlen t0
        go_loopw [53] (fun i wq => ∃ q : Nat, q ≤ k ∧ i = .int .i64 q ∧ Hid (St w x y bm n W g c wq)) (fun i _ => k - (intOf i).toNat)
        case atStart => exact ⟨0, Nat.zero_le _, rfl, HS⟩
        case round =>
          clear HS
          obtain ⟨q, hq, rfl, HS⟩ := hrel
          obtain ⟨wi, rfl⟩ : ∃ wi : World, wi = wr := ⟨_, rfl⟩
          by_cases hlt : q < k
          · obtain ⟨bx, off, rfl, hzl, hwf, hcell⟩ := W0.out.open.resolve_left (by omega)
            have hx := hcell _ HS.out.s.B q hlt
            obtain ⟨v, hv⟩ : ∃ v, v = z1.getD q 0 := ⟨_, rfl⟩
            have hbv := HB.out q hlt
            rw [← hv] at hx hbv
            clear hv hwf hcell
            by_cases hv0 : v < 0
            · have HA := hid (has_out x y n W v _ HS.out.s.m (.inl hv0))
              clear hbv
              go_wp2_with fail
              refine HA.out.mono ?_
              rintro e w5 ⟨rfl, rfl⟩
              go_wp2
              go_roundw
              case rel => exact ⟨q + 1, by omega, by go_num, HS⟩
              case measure => simp [intOf]; omega
            · have hv1 : 0 ≤ v := by omega
              have LN := hid (mlen_any x y n W _ HS.out.s.m)
              by_cases hvn : (n : Int) ≤ v
              · have HA := hid (has_out x y n W v _ HS.out.s.m (.inr hvn))
                clear hbv hv0
                go_wp2_with fail
                refine LN.out.mono ?_
                rintro e w5 ⟨rfl, rfl⟩
                go_wp2_with fail
                refine HA.out.mono ?_
                rintro e w5 ⟨rfl, rfl⟩
                go_wp2
                go_roundw
                case rel => exact ⟨q + 1, by omega, by go_num, HS⟩
                case measure => simp [intOf]; omega
              · obtain ⟨i, rfl⟩ : ∃ i : Nat, v = i := ⟨v.toNat, by omega⟩
                have hi : i < n := by omega
                have hb := hbv hv1 (by omega)
                rw [Int.toNat_natCast] at hb
                have HA := hid (has_in x y n W i true _ HS.out.s.m hi hb)
                have HY := hid (HS.out.yes i hi hb)
                have hin : (i : Int) < n := by omega
                clear hbv hv0 hb hvn hi
                go_wp2_with fail
                refine LN.out.mono ?_
                rintro e w5 ⟨rfl, rfl⟩
                go_wp2_with fail
                refine HA.out.mono ?_
                rintro e w5 ⟨rfl, hq5⟩
                have HF := hid (HS.out.quiet hq5)
                have hl := HF.out.p.look_hit (P := Tryd.prog) Tryd.underlying30 Tryd.underlying3 HY.out false
                simp only [Bool.false_eq_true, if_false] at hl
                clear hq5 HS LN HA
                go_wp2
                go_roundw
                case rel => exact ⟨q + 1, by omega, by go_num, HF⟩
                case measure => simp [intOf]; omega
          · obtain rfl : q = k := by omega
            have HS1 := hid HS.out.s
            clear HS HB
            obtain ⟨wl, hwl⟩ : ∃ wl, wl = W.length := ⟨_, rfl⟩
            have HWL := hid hwl.symm
            have HLE := hid (show wl = (n + 63) / 64 by rw [hwl]; exact HS1.out.m.len)
            clear hwl
            have SXY := hid (show x < wi.heap.size ∧ y < wi.heap.size from ⟨HS1.out.m.sx, HS1.out.m.sy⟩)
            go_wp2_with fail
            refine (mwords_any x y n W _ HS1.out.m).mono ?_
            rintro e w5 ⟨v5, rfl, ho5, hb5⟩
            have HS := hid (HS1.out.below hb5)
            have HV1 := hid ho5
            have KB := hid hb5.size
            obtain ⟨a1', c1', rfl⟩ : ∃ a c, v5 = .slice a wl c := by
              obtain ⟨a, c, h⟩ := ho5.slice; exact ⟨a, c, by rw [h, List.length_map, HWL.out]⟩
            clear ho5 hb5 HS1
            by_cases hout : a2 < 0 ∨ (n : Int) ≤ a2
            · have PT := hid (put_out x y n W a2 _ HS.out.m hout)
              have HO := HV1
              clear hout
              go_wp2_with fail
              refine PT.out.mono ?_
              rintro e w6 ⟨rfl, rfl⟩
              clear PT
              go_wp2_with fail
              refine (take_out x y n W (-1) _ HS.out.m (.inl (by omega))).mono ?_
              rintro e w7 ⟨rfl, rfl⟩
              go_wp2_with fail
              refine (mlen_any x y n W _ HS.out.m).mono ?_
              rintro e w7 ⟨rfl, rfl⟩
              go_wp2_with fail
              refine (put_out x y n W n _ HS.out.m (.inr (Int.le_refl _))).mono ?_
              rintro e w7 ⟨rfl, rfl⟩
              go_wp2_with fail
              refine (mwords_any x y n W _ HS.out.m).mono ?_
              rintro e w8 ⟨v8, rfl, ho8, hb8⟩
              have S8 := hid (HS.out.below hb8)
              have R8 := hid ho8.reads
              have RW := hid ((U64.Owns.reads HO.out).of_below hb8)
              have hn8 : (W.map Int.ofNat).length = wl := by rw [List.length_map]; exact HWL.out
              obtain ⟨a8, c8, rfl⟩ : ∃ a c, v8 = .slice a wl c := by
                obtain ⟨a, c, h⟩ := ho8.slice; exact ⟨a, c, by rw [h, hn8]⟩
              have HN8 := hid hn8
              clear ho8 hb8 hn8 HO HS
              have hl64 : wl ≤ 64 := by have := HLE.out; omega
              have d1 : ((n : Int) + 63) / 64 = wl := by have := HLE.out; omega
              have d2 : IntKind.i64.wrap ((n : Int) + 63) = (n : Int) + 63 := IntWalk.i64_in _ (by omega)
              go_wp2_with fail
              go_loopw [105] (fun i wq => ∃ q : Nat, q ≤ wl ∧ i = .int .i64 q ∧ Hid (MSt w x y n W wq) ∧ Hid (U64.Reads wq (.slice a1' wl c1') (W.map Int.ofNat)) ∧ Hid (U64.Reads wq (.slice a8 wl c8) (W.map Int.ofNat))) (fun i _ => wl - (intOf i).toNat)
              case atStart => exact ⟨0, Nat.zero_le _, rfl, S8, RW, R8⟩
              case round =>
                clear S8 RW R8
                obtain ⟨q, hq, rfl, HS, R1, R2⟩ := hrel
                obtain ⟨wi, rfl⟩ : ∃ wi : World, wi = wr := ⟨_, rfl⟩
                by_cases hlt : q < wl
                · obtain ⟨ar, cr, he, _, hr⟩ := R1.out
                  simp only [Value.slice.injEq] at he
                  obtain ⟨g1, o1, h2, _, h4⟩ := hr (by rw [HN8.out]; omega)
                  have he1 := he.1
                  rw [h2] at he1
                  have q1 := h4 q (by rw [HN8.out]; exact hlt)
                  obtain ⟨ar', cr', he', _, hr'⟩ := R2.out
                  simp only [Value.slice.injEq] at he'
                  obtain ⟨g2, o2, h2', _, h4'⟩ := hr' (by rw [HN8.out]; omega)
                  have he2 := he'.1
                  rw [h2'] at he2
                  have q2 := h4' q (by rw [HN8.out]; exact hlt)
                  obtain ⟨u, hu⟩ : ∃ u, u = (W.map Int.ofNat).getD q 0 := ⟨_, rfl⟩
                  rw [← hu] at q1 q2
                  subst he1
                  subst he2
                  have t : (u != u) = false := by simp
                  have hql : (q : Int) < wl := by omega
                  have t3 : ¬ (wl : Int) ≤ q := by omega
                  clear hu h2 h2' h4 h4' hr hr' he he'
                  go_wp2_with fail
                  go_quiet (fail)
                  have S9 := hid (HS.out.quiet (w' := wi.drewN nq) ⟨nq, rfl⟩)
                  have R91 := hid (R1.out.of_below (w' := wi.drewN nq) (Quiet.below ⟨nq, rfl⟩ _))
                  have R92 := hid (R2.out.of_below (w' := wi.drewN nq) (Quiet.below ⟨nq, rfl⟩ _))
                  go_wp2_with fail
                  go_roundw
                  case rel => exact ⟨q + 1, by omega, by go_num, S9, R91, R92⟩
                  case measure => simp [intOf]; omega
                · obtain rfl : q = wl := by omega
                  have t : ((q : Int) == q) = true := by simp
                  go_wp2_with fail
                  refine (mlen_any x y n W _ HS.out.m).mono ?_
                  rintro e w7 ⟨rfl, rfl⟩
                  go_wp2
                  go_ret
                  exact ⟨rfl, HS.out.B⟩
            · obtain ⟨i, rfl⟩ : ∃ i : Nat, a2 = i := ⟨a2.toNat, by omega⟩
              have hi : i < n := by omega
              rcases hbi : bitAt W i with _ | _
              · have PT := hid (put_yes x y n W i _ HS.out.m hi hbi)
                have HI := hid (⟨hi, hbi⟩ : i < n ∧ bitAt W i = false)
                clear hout hbi hi
                go_wp2_with fail
                refine PT.out.mono ?_
                rintro e w6 ⟨W6, rfl, hm6, hb6, ho6⟩
                have TK := hid (take_yes x y n W6 i _ hm6 HI.out.1 (by rw [hb6]; exact upd_same _ _ _))
                have H6 := hid hb6
                have S6 := hid (HS.out.put hm6 ho6)
                have O6 := hid ho6
                clear hm6 hb6 ho6 PT
                go_wp2_with fail
                refine TK.out.mono ?_
                rintro e w7 ⟨W7, rfl, hm7, hb7, ho7⟩
                have e7 : W7 = W := words_ext (by rw [hm7.len, HS.out.m.len]) HS.out.m.wf hm7.wf (by rw [hb7, H6.out, upd_upd, upd_self _ HI.out.2])
                rw [e7] at hm7
                have S7 := hid (S6.out.put hm7 ho7)
                have KEEP := hid (show ∀ k, k < w5.heap.size → k ≠ x → k ≠ y → w7.heap[k]? = w5.heap[k]? from fun k hk h1 h2 => (ho7.block k (Nat.lt_of_lt_of_le hk O6.out.size) h1 h2).trans (O6.out.block k hk h1 h2))
                clear hm7 hb7 ho7 TK H6 S6 O6 HS e7
                obtain ⟨HS, -⟩ : Hid (MSt w x y n W w7) ∧ True := ⟨S7, trivial⟩
                clear S7
                have HO := hid (own_kept HV1.out (fun k hk => by
                  have h1 := (World.ownsRow.lt HV1.out k hk)
                  exact KEEP.out k h1.2 (by have := SXY.out; omega) (by have := SXY.out; omega)))
                clear KEEP
                go_wp2_with fail
                refine (take_out x y n W (-1) _ HS.out.m (.inl (by omega))).mono ?_
                rintro e w7 ⟨rfl, rfl⟩
                go_wp2_with fail
                refine (mlen_any x y n W _ HS.out.m).mono ?_
                rintro e w7 ⟨rfl, rfl⟩
                go_wp2_with fail
                refine (put_out x y n W n _ HS.out.m (.inr (Int.le_refl _))).mono ?_
                rintro e w7 ⟨rfl, rfl⟩
                go_wp2_with fail
                refine (mwords_any x y n W _ HS.out.m).mono ?_
                rintro e w8 ⟨v8, rfl, ho8, hb8⟩
                have S8 := hid (HS.out.below hb8)
                have R8 := hid ho8.reads
                have RW := hid ((U64.Owns.reads HO.out).of_below hb8)
                have hn8 : (W.map Int.ofNat).length = wl := by rw [List.length_map]; exact HWL.out
                obtain ⟨a8, c8, rfl⟩ : ∃ a c, v8 = .slice a wl c := by
                  obtain ⟨a, c, h⟩ := ho8.slice; exact ⟨a, c, by rw [h, hn8]⟩
                have HN8 := hid hn8
                clear ho8 hb8 hn8 HO HS
                have hl64 : wl ≤ 64 := by have := HLE.out; omega
                have d1 : ((n : Int) + 63) / 64 = wl := by have := HLE.out; omega
                have d2 : IntKind.i64.wrap ((n : Int) + 63) = (n : Int) + 63 := IntWalk.i64_in _ (by omega)
                go_wp2_with fail
                go_loopw [105] (fun i wq => ∃ q : Nat, q ≤ wl ∧ i = .int .i64 q ∧ Hid (MSt w x y n W wq) ∧ Hid (U64.Reads wq (.slice a1' wl c1') (W.map Int.ofNat)) ∧ Hid (U64.Reads wq (.slice a8 wl c8) (W.map Int.ofNat))) (fun i _ => wl - (intOf i).toNat)
                case atStart => exact ⟨0, Nat.zero_le _, rfl, S8, RW, R8⟩
                case round =>
                  clear S8 RW R8
                  obtain ⟨q, hq, rfl, HS, R1, R2⟩ := hrel
                  obtain ⟨wi, rfl⟩ : ∃ wi : World, wi = wr := ⟨_, rfl⟩
                  by_cases hlt : q < wl
                  · obtain ⟨ar, cr, he, _, hr⟩ := R1.out
                    simp only [Value.slice.injEq] at he
                    obtain ⟨g1, o1, h2, _, h4⟩ := hr (by rw [HN8.out]; omega)
                    have he1 := he.1
                    rw [h2] at he1
                    have q1 := h4 q (by rw [HN8.out]; exact hlt)
                    obtain ⟨ar', cr', he', _, hr'⟩ := R2.out
                    simp only [Value.slice.injEq] at he'
                    obtain ⟨g2, o2, h2', _, h4'⟩ := hr' (by rw [HN8.out]; omega)
                    have he2 := he'.1
                    rw [h2'] at he2
                    have q2 := h4' q (by rw [HN8.out]; exact hlt)
                    obtain ⟨u, hu⟩ : ∃ u, u = (W.map Int.ofNat).getD q 0 := ⟨_, rfl⟩
                    rw [← hu] at q1 q2
                    subst he1
                    subst he2
                    have t : (u != u) = false := by simp
                    have hql : (q : Int) < wl := by omega
                    have t3 : ¬ (wl : Int) ≤ q := by omega
                    clear hu h2 h2' h4 h4' hr hr' he he'
                    go_wp2_with fail
                    go_quiet (fail)
                    have S9 := hid (HS.out.quiet (w' := wi.drewN nq) ⟨nq, rfl⟩)
                    have R91 := hid (R1.out.of_below (w' := wi.drewN nq) (Quiet.below ⟨nq, rfl⟩ _))
                    have R92 := hid (R2.out.of_below (w' := wi.drewN nq) (Quiet.below ⟨nq, rfl⟩ _))
                    go_wp2_with fail
                    go_roundw
                    case rel => exact ⟨q + 1, by omega, by go_num, S9, R91, R92⟩
                    case measure => simp [intOf]; omega
                  · obtain rfl : q = wl := by omega
                    have t : ((q : Int) == q) = true := by simp
                    go_wp2_with fail
                    refine (mlen_any x y n W _ HS.out.m).mono ?_
                    rintro e w7 ⟨rfl, rfl⟩
                    go_wp2
                    go_ret
                    exact ⟨rfl, HS.out.B⟩
              · have PT := hid (put_no x y n W i _ HS.out.m hi hbi)
                clear hout hbi hi
                go_wp2_with fail
                refine PT.out.mono ?_
                rintro e w6 ⟨rfl, hq6⟩
                have KEEP := hid (show ∀ k, k < w5.heap.size → k ≠ x → k ≠ y → w6.heap[k]? = w5.heap[k]? from fun _ _ _ _ => by rw [hq6.heap])
                have S7 := hid (HS.out.quiet hq6)
                clear hq6 PT HS
                obtain ⟨HS, -⟩ : Hid (MSt w x y n W w6) ∧ True := ⟨S7, trivial⟩
                clear S7
                have HO := hid (own_kept HV1.out (fun k hk => by
                  have h1 := (World.ownsRow.lt HV1.out k hk)
                  exact KEEP.out k h1.2 (by have := SXY.out; omega) (by have := SXY.out; omega)))
                clear KEEP
                go_wp2_with fail
                refine (take_out x y n W (-1) _ HS.out.m (.inl (by omega))).mono ?_
                rintro e w7 ⟨rfl, rfl⟩
                go_wp2_with fail
                refine (mlen_any x y n W _ HS.out.m).mono ?_
                rintro e w7 ⟨rfl, rfl⟩
                go_wp2_with fail
                refine (put_out x y n W n _ HS.out.m (.inr (Int.le_refl _))).mono ?_
                rintro e w7 ⟨rfl, rfl⟩
                go_wp2_with fail
                refine (mwords_any x y n W _ HS.out.m).mono ?_
                rintro e w8 ⟨v8, rfl, ho8, hb8⟩
                have S8 := hid (HS.out.below hb8)
                have R8 := hid ho8.reads
                have RW := hid ((U64.Owns.reads HO.out).of_below hb8)
                have hn8 : (W.map Int.ofNat).length = wl := by rw [List.length_map]; exact HWL.out
                obtain ⟨a8, c8, rfl⟩ : ∃ a c, v8 = .slice a wl c := by
                  obtain ⟨a, c, h⟩ := ho8.slice; exact ⟨a, c, by rw [h, hn8]⟩
                have HN8 := hid hn8
                clear ho8 hb8 hn8 HO HS
                have hl64 : wl ≤ 64 := by have := HLE.out; omega
                have d1 : ((n : Int) + 63) / 64 = wl := by have := HLE.out; omega
                have d2 : IntKind.i64.wrap ((n : Int) + 63) = (n : Int) + 63 := IntWalk.i64_in _ (by omega)
                go_wp2_with fail
                go_loopw [105] (fun i wq => ∃ q : Nat, q ≤ wl ∧ i = .int .i64 q ∧ Hid (MSt w x y n W wq) ∧ Hid (U64.Reads wq (.slice a1' wl c1') (W.map Int.ofNat)) ∧ Hid (U64.Reads wq (.slice a8 wl c8) (W.map Int.ofNat))) (fun i _ => wl - (intOf i).toNat)
                case atStart => exact ⟨0, Nat.zero_le _, rfl, S8, RW, R8⟩
                case round =>
                  clear S8 RW R8
                  obtain ⟨q, hq, rfl, HS, R1, R2⟩ := hrel
                  obtain ⟨wi, rfl⟩ : ∃ wi : World, wi = wr := ⟨_, rfl⟩
                  by_cases hlt : q < wl
                  · obtain ⟨ar, cr, he, _, hr⟩ := R1.out
                    simp only [Value.slice.injEq] at he
                    obtain ⟨g1, o1, h2, _, h4⟩ := hr (by rw [HN8.out]; omega)
                    have he1 := he.1
                    rw [h2] at he1
                    have q1 := h4 q (by rw [HN8.out]; exact hlt)
                    obtain ⟨ar', cr', he', _, hr'⟩ := R2.out
                    simp only [Value.slice.injEq] at he'
                    obtain ⟨g2, o2, h2', _, h4'⟩ := hr' (by rw [HN8.out]; omega)
                    have he2 := he'.1
                    rw [h2'] at he2
                    have q2 := h4' q (by rw [HN8.out]; exact hlt)
                    obtain ⟨u, hu⟩ : ∃ u, u = (W.map Int.ofNat).getD q 0 := ⟨_, rfl⟩
                    rw [← hu] at q1 q2
                    subst he1
                    subst he2
                    have t : (u != u) = false := by simp
                    have hql : (q : Int) < wl := by omega
                    have t3 : ¬ (wl : Int) ≤ q := by omega
                    clear hu h2 h2' h4 h4' hr hr' he he'
                    go_wp2_with fail
                    go_quiet (fail)
                    have S9 := hid (HS.out.quiet (w' := wi.drewN nq) ⟨nq, rfl⟩)
                    have R91 := hid (R1.out.of_below (w' := wi.drewN nq) (Quiet.below ⟨nq, rfl⟩ _))
                    have R92 := hid (R2.out.of_below (w' := wi.drewN nq) (Quiet.below ⟨nq, rfl⟩ _))
                    go_wp2_with fail
                    go_roundw
                    case rel => exact ⟨q + 1, by omega, by go_num, S9, R91, R92⟩
                    case measure => simp [intOf]; omega
                  · obtain rfl : q = wl := by omega
                    have t : ((q : Int) == q) = true := by simp
                    go_wp2_with fail
                    refine (mlen_any x y n W _ HS.out.m).mono ?_
                    rintro e w7 ⟨rfl, rfl⟩
                    go_wp2
                    go_ret
                    exact ⟨rfl, HS.out.B⟩
end Go.Proofs.YtcbdmofdbmimfaaDoor.maskWhole
