/- The walk of the statement QuietNames: the law answers true and turns nothing that was there. -/
import Derived.Test.YtfpkgkjmpcoppaaGreatDoorPre2
import Derived.Test.YtfpkgkjmpcoppaaGreatDoorWkG
import Derived.Test.YtfpkgkjmpcoppaaGreatDoorWkM
import Derived.OpenShut
namespace Go.Proofs.YtfpkgkjmpcoppaaGreatDoor.quietNames
open Go.RowKit
set_option linter.unusedVariables false
set_option linter.unusedSimpArgs false
set_option maxRecDepth 20000
theorem small0 (w : World) : Calls Tryz.prog 89 #[.int .u8 0, .int .u8 0, .int .u8 0] w fun e w' => e = .returned (.agg #[.int .i64 1, .int .i64 1, .int .i64 1]) ∧ Below w.heap.size w w' := by
  have B0 := hid (bla w (.cells #[.int .i64 0, .int .i64 0, .int .i64 0] 24))
  have X0 := hid (heap_alloc_new w (.cells #[.int .i64 0, .int .i64 0, .int .i64 0] 24))
  go_enter Tryz.func89, Tryz.ntmps89
  go_wp2_with (refine wpList_store_row rfl 24 _ _ rfl w.heap.size #[.int .i64 1, .int .i64 1, .int .i64 1] rfl rfl 24 _ X0.out (by kernel_rfl) (by rfl) (by simp [Value.oneCell']) ?_)
  refine bodyPost_ret (v := .agg #[.int .i64 1, .int .i64 1, .int .i64 1]) (results_cell_row rfl _ _ w.heap.size 24 #[.int .i64 1, .int .i64 1, .int .i64 1] (0, 0) _ (by rfl) (set_row_heap _ _ _ _ _ _ X0.out) Tryz.underlying24 rfl (by kernel_rfl)) rfl ⟨rfl, ?_⟩
  exact row_below B0.out (by omega) _
/-- What Begin answers of three zeros. -/
def BegP (w : World) (e : Ending) (w' : World) : Prop :=
  ∃ ws B Z, Below w.heap.size w ws ∧ e = .returned (.pointer (some ⟨K.Bs.W B, 0, none⟩)) ∧ K.At ws B 0 w' ∧ Ids Z B.ib 1 (idf 1) [] ((1 : Nat) : Int) (ssOf 1) (plOf 1) w' ∧ (∀ k, ¬ Z k → k < w'.heap.size → B.K k) ∧ (∀ k, B.K k → B.v k = w'.heap[k]?) ∧ 7 < ws.heap.size ∧ Below ws.heap.size ws w'
set_option maxHeartbeats 1000000 in
theorem begin0 (w : World) (T0 : DbTab w) (T1 : MaPlaces w) (T2 : EvNames w) (T3 : EvSteps w) :
    Calls Tryz.prog 56 #[.int .u8 0, .int .u8 0, .int .u8 0] w (BegP w) := by
  have SM := hid (small0 w)
  have NW := hid (fun (y : World) (hb : Below w.heap.size w y) => (show Calls Tryz.prog 9 #[.agg #[.int .i64 1, .int .i64 1, .int .i64 1]] y fun e w' => ∃ x, e = .returned (.tuple #[.pointer (some ⟨x, 0, none⟩), .int .i64 0]) ∧ BegP w (.returned (.pointer (some ⟨x, 0, none⟩))) w' from by
    refine (wnew_nat 1 1 1 (by decide) y (T0.at hb) (T2.at hb) (T3.at hb) (T2.at hb).lt (T3.at hb).lt).mono ?_
    rintro e w' ⟨x, rfl, hb2, b1, g1, b2, g2, tb, q, p, sb, ib, mb, r, rv, lg, gs, base, rbase, wd, Z, hf⟩
    obtain ⟨rb, rg, rc, hA⟩ := at_of_nf hf hb2 (T1.at hb) (T2.at hb) (T3.at hb)
    exact ⟨x, rfl, y, _, Z, hb, rfl, hA, hf.id, fun k h1 h2 => ⟨h1, h2⟩, fun k _ => rfl, (T0.at hb).lt, hb2⟩))
  clear T0 T1 T2 T3
  go_enter Tryz.func56, Tryz.ntmps56
  go_wp2_with fail
  refine SM.out.mono ?_
  rintro e w2 ⟨rfl, hb⟩
  have NX := hid (NW.out w2 hb)
  clear hb SM NW
  go_wp2_with fail
  refine NX.out.mono ?_
  rintro e w3 ⟨x, rfl, hB⟩
  have HB := hid hB
  clear hB NX
  go_wp2
  go_ret
  exact HB.out
/-- What stands of Begin's world and the faults told of it. -/
structure Mid (w0 ws : World) (B B2 : K.Bs) (Z : Nat → Prop) (g : Nat) (w1 w3 : World) : Prop where
  b0 : Below w0.heap.size w0 ws
  at' : K.At ws B2 0 w3
  id : Ids Z B.ib 1 (idf 1) [] ((1 : Nat) : Int) (ssOf 1) (plOf 1) w1
  kk : ∀ k, (¬ Z k ∧ k < w1.heap.size) ∨ k = g → B2.K k
  kv : ∀ k, ¬ Z k → k < w1.heap.size → B2.v k = w1.heap[k]?
  gv : ∃ o : Obj, B2.v g = some o ∧ ∀ y : World, y.heap[g]? = some o → y.cell? ⟨g, 0, none⟩ = some (.int .i64 0)
  ib : B2.ib = B.ib
  W : B2.W = B.W
  b2 : ws.heap.size ≤ B2.b2 ∧ ws.heap.size ≤ B2.g2
  tb : 7 < ws.heap.size
  b1 : Below ws.heap.size ws w1
set_option maxHeartbeats 1000000 in
theorem qc10 {w0 ws w1 w3 y : World} {B B2 : K.Bs} {Z : Nat → Prop} {g : Nat} (M : Mid w0 ws B B2 Z g w1 w3) (h : K.At ws B2 10 y) :
    y.cell? ⟨g, 0, none⟩ = some (.int .i64 0) ∧ Calls Tryz.prog 57 #[.pointer (some ⟨B.W, 0, none⟩)] y fun e w' => e = .returned (.slice none 0 0) ∧ Below w0.heap.size w0 w' := by
  obtain ⟨ra, rcc, lg, hrc, hwb, hm, hm2, hlg, hnW, hb0, hlgb, n1, n2, hk⟩ := h
  have hs0 := M.b0.size
  have hs1 := hb0.size
  obtain ⟨o, ho, hoc⟩ := M.gv
  have hT := M.tb
  have hge := M.b2
  have hi : Ids (fun k => Z k ∧ k < y.heap.size) B2.ib 1 (idf 1) [] ((1 : Nat) : Int) (ssOf 1) (plOf 1) y := by
    rw [M.ib]
    exact M.id.rez (fun k h1 h2 => ((hk k (M.kk k (.inl ⟨h1, h2⟩))).2.1).trans (M.kv k h1 h2)) ((hb0.block _ hT).trans (M.b1.block _ hT).symm) (fun k h1 _ h3 => h1 h3.1) (fun k h3 => h3.2) ⟨M.id.hz, by omega⟩
  refine ⟨hoc y (((hk g (M.kk g (.inr rfl))).2.1).trans ho), ?_⟩
  rw [← M.W]
  refine (qcheck10 hwb hrc hm hm2 n1 n2 ⟨by omega, by omega⟩ hi).mono ?_
  rintro e w' ⟨he, hl⟩
  refine ⟨he, (M.b0.trans (hb0.mono hs0)).trans (hl.below (fun k hk => ?_) (by omega))⟩
  simp only [List.mem_cons, List.not_mem_nil, or_false] at hk
  omega
set_option maxHeartbeats 4000000 in
theorem lives23 (w : World) (T0 : DbTab w) (T1 : MaPlaces w) (T2 : EvNames w) (T3 : EvSteps w) :
    Calls Tryz.prog 25 #[] w fun e w' => e = .returned (.bool true) ∧ Below w.heap.size w w' := by
  have BG := hid (begin0 w T0 T1 T2 T3)
  clear T0 T1 T2 T3
  go_enter Tryz.func25, Tryz.ntmps25
  go_wp2_with fail
  refine BG.out.mono ?_
  rintro e w1 ⟨ws, B, Z, hb0, rfl, hA, hI, hK1, hK2, hT, hb1⟩
  obtain ⟨W, hW⟩ : ∃ W, W = B.W := ⟨_, rfl⟩
  rw [← hW]
  have HW := hid hW
  have HA := hid hA
  have LV := hid (show Calls Tryz.prog 8 #[] w1 fun e w' => e = .returned (.bool true) ∧ Below w1.heap.size w1 w' from by
    obtain ⟨r, lg, ra, rn, rcc, bk, s0, s1, s2, s3, s4, yes, hw, _⟩ := hA
    exact lives20 w1 hw.T1 hw.T2 hw.T3 hw.T1.lt hw.T2.lt hw.T3.lt)
  have HI := hid (And.intro hI (And.intro hK1 (And.intro hK2 (And.intro hT (And.intro hb0 hb1)))))
  clear hA hI hK1 hK2 hT hb0 hb1 BG hW
  go_wp2_with fail
  refine LV.out.mono ?_
  rintro e w2 ⟨rfl, hb2⟩
  have A2 := hid (K.At.below 0 (by omega) HA.out hb2)
  have B2 := hid hb2
  clear hb2 LV
  have QC := hid (show Calls Tryz.prog 57 #[.pointer (some ⟨W, 0, none⟩)] w2 (Q0P w2) from by
    obtain ⟨r, lg, ra, rn, rcc, bk, s0, s1, s2, s3, s4, yes, hw, _⟩ := A2.out
    rw [HW.out]
    exact qcheck0 hw.wb hw.mc.c0)
  go_wp2_with fail
  refine QC.out.mono ?_
  rintro e w3 ⟨g, rfl, hg1, hg2, hg3, hb3⟩
  obtain ⟨B', hB'⟩ : ∃ B' : K.Bs, B' = { B with K := fun k => B.K k ∨ k = g, v := fun k => w3.heap[k]? } := ⟨_, rfl⟩
  have M := hid (show Mid w ws B B' Z g w1 w3 from by
    obtain ⟨hI, hK1, hK2, hT, hb0, hb1⟩ := HI.out
    have hA3 := at_add A2.out hb3 g ⟨hg2, hg3⟩
    rw [← hB'] at hA3
    have hge : ws.heap.size ≤ B'.b2 ∧ ws.heap.size ≤ B'.g2 := by
      obtain ⟨r, lg, ra, rn, rcc, bk, s0, s1, s2, s3, s4, yes, hw, _⟩ := id hA3
      exact ⟨hw.ge _ (by simp [K.Bs.l]), hw.ge _ (by simp [K.Bs.l])⟩
    have hs2 := B2.out.size
    have hgl : ∃ o, w3.heap[g]? = some o := ⟨_, Array.getElem?_eq_getElem hg3⟩
    obtain ⟨o, ho⟩ := hgl
    refine ⟨hb0, hA3, hI, fun k hk => ?_, fun k h1 h2 => ?_, ⟨o, by rw [hB']; exact ho, fun y hy => ?_⟩, by rw [hB'], by rw [hB'], hge, hT, hb1⟩
    · rw [hB']
      rcases hk with hk | hk
      · exact .inl (hK1 k hk.1 hk.2)
      · exact .inr hk
    · rw [hB']
      exact (hb3.block k (by omega)).trans (B2.out.block k h2)
    · rw [← hg1]
      exact World.cell?_of_block (hy.trans ho.symm))
  have A3 := hid M.out.at'
  have HW2 := hid (show W = B'.W by rw [M.out.W, HW.out])
  clear hg1 hg2 hg3 hb3 hB' QC A2 B2 HA HI
  go_wp2_with fail
  go_loopw [12] (fun x wr => ∃ i : Nat, i ≤ 10 ∧ x = .int .i64 i ∧ Hid (K.At ws B' i wr)) (fun x _ => 10 - (intOf x).toNat)
  case atStart => exact ⟨0, by omega, rfl, A3⟩
  case round =>
    clear A3
    obtain ⟨i, hi, rfl, A⟩ := hrel
    by_cases hlt : i < 10
    · have ST := hid (K.at_next i hlt A.out)
      rw [← HW2.out] at ST
      clear A
      go_wp2_with fail
      refine ST.out.mono ?_
      rintro e w4 ⟨rfl, h4⟩
      have H4 := hid h4
      clear h4 ST
      go_wp2_with fail
      go_roundw
      case rel => exact ⟨i + 1, by omega, by go_num, H4⟩
      case measure => simp [intOf]; omega
    · obtain rfl : i = 10 := by omega
      have Q10 := hid (qc10 M.out A.out)
      rw [← HW.out] at Q10
      have c0 := Q10.out.1
      have QQ := hid Q10.out.2
      clear A hlt hi M Q10
      go_wp2_with fail
      refine QQ.out.mono ?_
      rintro e w5 ⟨rfl, hb5⟩
      have HB := hid hb5
      clear hb5 QQ c0
      go_wp2
      go_ret
      exact ⟨rfl, HB.out⟩
/-- The names, one by one. -/
theorem names_at (w : World) (E : Nat) (h : w.heap[E]? = some (.cells #[.string ⟨#[97, 119, 97, 107, 101]⟩, .string ⟨#[115, 112, 105, 110]⟩, .string ⟨#[103, 105, 118, 101, 110]⟩, .string ⟨#[108, 111, 115, 116]⟩, .string ⟨#[108, 97, 116, 101]⟩, .string ⟨#[117, 110, 115, 101, 101, 110]⟩, .string ⟨#[107, 101, 112, 116]⟩] 9 (0, 0))) (k : Nat) (hk : k < 7) : w.cell? ⟨E, k, none⟩ = some (.string (nm k)) := by
  refine blk_cell h ?_
  match k, hk with
  | 0, _ => rfl
  | 1, _ => rfl
  | 2, _ => rfl
  | 3, _ => rfl
  | 4, _ => rfl
  | 5, _ => rfl
  | 6, _ => rfl
set_option maxHeartbeats 4000000 in
theorem walk (a0 : Int) (w : World) (w0 : (Lit.int .i64 a0).wf = true) (T0 : DbTab w) (T2 : EvNames w) (T3 : EvSteps w) (T1 : MaPlaces w) :
    Calls Tryz.prog 5 #[.int .i64 a0] w fun e w' => e = .returned (.bool true) ∧ Below w.heap.size w w' := by
  have LV := hid (lives23 w T0 T1 T2 T3)
  clear T0 T1 T2 T3 w0
  go_enter Tryz.func5, Tryz.ntmps5
  go_wp2_with fail
  refine LV.out.mono ?_
  rintro e w2 ⟨rfl, hb⟩
  have B2 := hid hb
  clear hb LV
  go_upto_region 4 with (fail)
  obtain ⟨E, hE⟩ : ∃ E, E = w2.heap.size := ⟨_, rfl⟩
  obtain ⟨w3, hw3⟩ : ∃ w3, w3 = w2.alloc (.cells #[.string ⟨#[97, 119, 97, 107, 101]⟩, .string ⟨#[115, 112, 105, 110]⟩, .string ⟨#[103, 105, 118, 101, 110]⟩, .string ⟨#[108, 111, 115, 116]⟩, .string ⟨#[108, 97, 116, 101]⟩, .string ⟨#[117, 110, 115, 101, 101, 110]⟩, .string ⟨#[107, 101, 112, 116]⟩] 9) := ⟨_, rfl⟩
  have BW := hid (show Below w.heap.size w w3 by rw [hw3]; exact B2.out.trans ((bla w2 _).mono B2.out.size))
  have X3 : w3.heap[E]? = some (.cells #[.string ⟨#[97, 119, 97, 107, 101]⟩, .string ⟨#[115, 112, 105, 110]⟩, .string ⟨#[103, 105, 118, 101, 110]⟩, .string ⟨#[108, 111, 115, 116]⟩, .string ⟨#[108, 97, 116, 101]⟩, .string ⟨#[117, 110, 115, 101, 101, 110]⟩, .string ⟨#[107, 101, 112, 116]⟩] 9 (0, 0)) := by rw [hw3, hE]; exact heap_alloc_new w2 _
  have C := hid (names_at w3 E X3)
  have EL := hid (blk_lt X3)
  rw [← hw3, ← hE]
  clear hw3 hE B2 X3
  by_cases h0 : a0 < 0
  · have e0 : nm a0 = ⟨#[]⟩ := by
      unfold nm
      rw [if_neg (by omega), if_neg (by omega), if_neg (by omega), if_neg (by omega), if_neg (by omega), if_neg (by omega), if_neg (by omega)]
    have QN := hid (fun y => qname a0 y)
    rw [e0] at QN
    have n0 : ¬ 0 ≤ a0 := by omega
    clear e0
    go_wp2_with fail
    go_loopw [24] (fun x wr => ∃ i : Nat, i ≤ 7 ∧ x = .int .i64 i ∧ Hid (Below w3.heap.size w3 wr)) (fun x _ => 7 - (intOf x).toNat)
    case atStart => exact ⟨0, by omega, rfl, hid (Below.refl _ _)⟩
    case round =>
      obtain ⟨i, hi, rfl, BR⟩ := hrel
      by_cases hlt : i < 7
      · have ci : wr.cell? ⟨E, i, none⟩ = some (.string (nm i)) := (BR.out.cell (p := ⟨E, i, none⟩) EL.out).trans (C.out i hlt)
        have QI := hid (qname i wr)
        go_wp2_with fail
        refine QI.out.mono ?_
        rintro e w5 ⟨rfl, hb⟩
        have B5 := hid (BR.out.trans (hb.mono BR.out.size))
        clear hb QI BR ci
        go_wp2_with fail
        go_roundw
        case rel => exact ⟨i + 1, by omega, by go_num, B5⟩
        case measure => simp [intOf]; omega
      · obtain rfl : i = 7 := by omega
        have QF := hid (QN.out wr)
        have B4 := hid (BW.out.trans (BR.out.mono BW.out.size))
        clear BR QN hlt hi
        go_wp2_with fail
        refine QF.out.mono ?_
        rintro e w5 ⟨rfl, hb⟩
        have B5 := hid (B4.out.trans (hb.mono B4.out.size))
        clear hb QF B4
        go_wp2
        go_ret
        exact ⟨rfl, B5.out⟩
  · by_cases h7 : 7 ≤ a0
    · have e0 : nm a0 = ⟨#[]⟩ := by
        unfold nm
        rw [if_neg (by omega), if_neg (by omega), if_neg (by omega), if_neg (by omega), if_neg (by omega), if_neg (by omega), if_neg (by omega)]
      have QN := hid (fun y => qname a0 y)
      rw [e0] at QN
      have n0 : 0 ≤ a0 := by omega
      have n1 : ¬ a0 < 7 := by omega
      clear e0 h0
      go_wp2_with fail
      go_loopw [24] (fun x wr => ∃ i : Nat, i ≤ 7 ∧ x = .int .i64 i ∧ Hid (Below w3.heap.size w3 wr)) (fun x _ => 7 - (intOf x).toNat)
      case atStart => exact ⟨0, by omega, rfl, hid (Below.refl _ _)⟩
      case round =>
        obtain ⟨i, hi, rfl, BR⟩ := hrel
        by_cases hlt : i < 7
        · have ci : wr.cell? ⟨E, i, none⟩ = some (.string (nm i)) := (BR.out.cell (p := ⟨E, i, none⟩) EL.out).trans (C.out i hlt)
          have QI := hid (qname i wr)
          go_wp2_with fail
          refine QI.out.mono ?_
          rintro e w5 ⟨rfl, hb⟩
          have B5 := hid (BR.out.trans (hb.mono BR.out.size))
          clear hb QI BR ci
          go_wp2_with fail
          go_roundw
          case rel => exact ⟨i + 1, by omega, by go_num, B5⟩
          case measure => simp [intOf]; omega
        · obtain rfl : i = 7 := by omega
          have QF := hid (QN.out wr)
          have B4 := hid (BW.out.trans (BR.out.mono BW.out.size))
          clear BR QN hlt hi
          go_wp2_with fail
          refine QF.out.mono ?_
          rintro e w5 ⟨rfl, hb⟩
          have B5 := hid (B4.out.trans (hb.mono B4.out.size))
          clear hb QF B4
          go_wp2
          go_ret
          exact ⟨rfl, B5.out⟩
    · obtain ⟨k, rfl⟩ : ∃ k : Nat, a0 = k := ⟨a0.toNat, by omega⟩
      have hk : k < 7 := by omega
      have hk2 : (k : Int) < 7 := by omega
      have tk : decide ((k : Int) < 7) = true := decide_eq_true hk2
      have ck : w3.cell? ⟨E, k, none⟩ = some (.string (nm k)) := C.out k hk
      have QN := hid (fun y => qname k y)
      clear h0 h7
      go_wp2_with fail
      go_loopw [24] (fun x wr => ∃ i : Nat, i ≤ 7 ∧ x = .int .i64 i ∧ Hid (Below w3.heap.size w3 wr)) (fun x _ => 7 - (intOf x).toNat)
      case atStart => exact ⟨0, by omega, rfl, hid (Below.refl _ _)⟩
      case round =>
        obtain ⟨i, hi, rfl, BR⟩ := hrel
        by_cases hlt : i < 7
        · have ci : wr.cell? ⟨E, i, none⟩ = some (.string (nm i)) := (BR.out.cell (p := ⟨E, i, none⟩) EL.out).trans (C.out i hlt)
          have QI := hid (qname i wr)
          go_wp2_with fail
          refine QI.out.mono ?_
          rintro e w5 ⟨rfl, hb⟩
          have B5 := hid (BR.out.trans (hb.mono BR.out.size))
          clear hb QI BR ci
          go_wp2_with fail
          go_roundw
          case rel => exact ⟨i + 1, by omega, by go_num, B5⟩
          case measure => simp [intOf]; omega
        · obtain rfl : i = 7 := by omega
          have QF := hid (QN.out wr)
          have B4 := hid (BW.out.trans (BR.out.mono BW.out.size))
          clear BR QN hlt hi
          go_wp2_with fail
          refine QF.out.mono ?_
          rintro e w5 ⟨rfl, hb⟩
          have B5 := hid (B4.out.trans (hb.mono B4.out.size))
          clear hb QF B4
          go_wp2
          go_ret
          exact ⟨rfl, B5.out⟩
end Go.Proofs.YtfpkgkjmpcoppaaGreatDoor.quietNames
