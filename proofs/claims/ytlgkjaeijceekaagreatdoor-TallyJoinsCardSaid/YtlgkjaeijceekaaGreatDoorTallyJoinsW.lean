/- The walk of the statement TallyJoins: the law answers true and turns nothing that was there. -/
import Derived.Test.YtlgkjaeijceekaaGreatDoorLives27
import Derived.OpenShut
import Derived.Maps.AppendAt
namespace Go.Proofs.YtlgkjaeijceekaaGreatDoor.tallyJoins
open Go.RowKit
set_option linter.unusedVariables false
set_option linter.unusedSimpArgs false
set_option maxRecDepth 20000
theorem infoEv : (Tryz.prog.info? 46).map (fun i => (i.zero, i.size, i.bytes)) = some (some (.agg #[.int .i64 0, .int .i64 0, .int .i64 0, .int .i64 0, .int .i64 0]), 5, 40) := by kernel_rfl
/-- An append of events that read. -/
theorem wpList_append_rdE {P : Program} {w : World} {ops : Array Oper} {rest : List Oper} {o : Oper} {a : Act} {Q : Exit → Act → World → Prop} (hgd : o.guard = none) (s x : Operand) (t : TypeId)
    (ho : o.op = .call { callee := .builtin .append, args := #[s, x], argTypes := #[t, t] })
    (base : Nat) (e : TypeId) (i : TypeInfo) (z : Value) (bytes : Nat) (ht : P.underlying t = some (.slice e)) (hi : P.info? e = some i) (hz : i.zero = some z)
    (hsize : i.size = 5) (hby : i.bytes = bytes) (hzs : z.cells.size = 5)
    (v : Value) (n : Nat) (xs : List Value) (hs : a.eval s = v) (hown : w.ownsRow base e 5 v n xs)
    (es : List Ev) (vy : Value) (hx : a.eval x = vy) (hr : RdE w vy es)
    (h63 : n + es.length ≤ maxLen) (hbytes : (n + es.length) * bytes ≤ 140737488355328) (hbase : base ≤ w.heap.size)
    (h : ∀ v' w', w'.ownsRow base e 5 v' (n + es.length) (xs ++ fe es) → w.grownBy w' v.ownBlock → wpList P ops Q rest (a.put o.dst v') w') :
    wpList P ops Q (o :: rest) a w := by
  have hr0 := hr
  obtain ⟨ad, c, rfl, hc, hrd⟩ := hr
  rcases hc.2.2 with ⟨rfl, rfl⟩ | ⟨ad', rfl⟩
  · have hy0 : es = [] := List.length_eq_zero_iff.1 (by omega)
    subst hy0
    exact wpList_append_own_none hgd s x t ho base e i 5 ht hi v n xs hs hown hx (h v w (by simpa [fe] using hown) (.refl _ _))
  · exact wpList_append_own w hgd s x t ho base e i z 5 bytes ht hi hz hsize hby hzs (by decide) v n xs hs hown ad' es.length c (fe es) hx (fe_len es) (hr0.news (Below.refl _ _)) (fe_ones es) h63 hbytes hbase (fun v' w' h1 h2 _ => h v' w' h1 h2)
theorem own_lt {w : World} {base sz n : Nat} {t : TypeId} {v : Value} {xs : List Value} (h : w.ownsRow base t sz v n xs) : ∀ q, v.ownBlock = some q → base ≤ q := fun q hq => (World.ownsRow.lt h q hq).1
theorem own_slice {w : World} {base sz n : Nat} {t : TypeId} {v : Value} {xs : List Value} (h : w.ownsRow base t sz v n xs) : ∃ a c, v = .slice a n c := by
  obtain ⟨h0, ⟨h1, h2⟩ | ⟨g, cap, cur, h1, _⟩⟩ := h
  · exact ⟨none, 0, by rw [h1, h2]⟩
  · exact ⟨_, _, h1⟩

set_option maxHeartbeats 4000000 in
theorem walk (a0 : Option Addr) (len0 cap0 : Nat) (z0 : Nat → Nat → Int) (a1 : Option Addr) (len1 cap1 : Nat) (z1 : Nat → Nat → Int) (a2 : Int) (w : World)
    (w0 : IsStructs [.i64, .i64, .i64, .i64, .i64] w a0 len0 cap0 z0) (w1 : IsStructs [.i64, .i64, .i64, .i64, .i64] w a1 len1 cap1 z1) (w2 : (Lit.int .i64 a2).wf = true) (T2 : EvNames w) (T3 : EvSteps w) (T1 : MaPlaces w) :
    Calls Tryz.prog 4 #[.slice a0 len0 cap0, .slice a1 len1 cap1, .int .i64 a2] w fun e w' => e = .returned (.bool true) ∧ Below w.heap.size w w' := by
  have LV := hid (lives27 w T1 T2 T3)
  by_cases hbig : (40 : Int) < len0 ∨ (40 : Int) < len1
  · have LV2 : Hid (∀ w2 : World, Below w.heap.size w w2 → Calls Tryz.prog 8 #[] w2 fun e w' => e = .returned (.bool true) ∧ Below w2.heap.size w2 w') := hid (fun w2 hb => lives27 w2 (T1.at hb) (T2.at hb) (T3.at hb))
    clear T1 T2 T3 w0 w1 w2
    rcases (show (40 : Int) < len0 ∨ ((len0 : Int) ≤ 40 ∧ (40 : Int) < len1) by omega) with h1 | ⟨h1, h2⟩
    all_goals
      clear hbig
      go_enter Tryz.func4, Tryz.ntmps4
      go_wp2_with fail
      refine LV.out.mono ?_
      rintro e w2 ⟨rfl, hb⟩
      have B2 := hid hb
      clear LV
      go_wp2_with fail
      refine (LV2.out w2 hb).mono ?_
      rintro e w3 ⟨rfl, hb3⟩
      have B3 := hid (B2.out.trans (hb3.mono B2.out.size))
      clear hb hb3 B2 LV2
      go_wp2
      go_ret
      exact ⟨rfl, B3.out⟩
  · have h0 : (len0 : Int) ≤ 40 := by omega
    have h1 : (len1 : Int) ≤ 40 := by omega
    have l0 : len0 ≤ 40 := by omega
    have l1 : len1 ≤ 40 := by omega
    obtain ⟨es, hes, re⟩ := w0.rdE
    obtain ⟨fs, hfs, rf⟩ := w1.rdE
    have RE := hid re
    have RF := hid rf
    have HES := hid hes
    have HFS := hid hfs
    obtain ⟨i0, hi, hz0, hz1, hz2⟩ := info_parts infoEv
    have HI := hid (And.intro hi (And.intro hz0 (And.intro hz1 hz2)))
    clear hbig T1 T2 T3 re rf hes hfs w0 w1 w2 hi hz0 hz1 hz2
    go_enter Tryz.func4, Tryz.ntmps4
    go_wp2_with fail
    refine LV.out.mono ?_
    rintro e w2 ⟨rfl, hb⟩
    have B2 := hid hb
    clear LV hb
    have hown : (w2.alloc (.cells #[] 46)).ownsRow w2.heap.size 46 5 (.slice (some ⟨w2.heap.size, 0, none⟩) 0 0) 0 [] := World.ownsRow_made w2 #[] 0 (Nat.le_refl _) (by omega) rfl
    have B3 := (B2.out.alloc B2.out.size (.cells #[] 46))
    have E1 := RE.out _ B3
    have HOW := hid hown
    have hs3 : (w2.alloc (.cells #[] 46)).heap.size = w2.heap.size + 1 := by simp
    clear hown
    go_wp2_with (at_builtin; refine wpList_append_rdE rfl _ _ 27 rfl w2.heap.size 46 i0 _ 40 Tryz.underlying27 HI.out.1 HI.out.2.1 HI.out.2.2.1 HI.out.2.2.2 rfl _ _ _ rfl HOW.out es _ rfl E1 ?c1 ?c2 ?c3 ?_)
    case c1 => rw [HES.out]; simp only [maxLen]; omega
    case c2 => rw [HES.out]; omega
    case c3 => omega
    intro v3 w3 own3 grown3
    have B4 := hid (B3.grown grown3 (by have := B2.out.size; simp; omega) (fun q hq => by simp [Value.ownBlock] at hq; have := B2.out.size; omega))
    have HO3 := hid own3
    have S3 := hid grown3.size
    have E2 := RF.out _ B4.out
    clear own3 grown3 B3 HOW E1
    go_wp2_with (at_builtin; refine wpList_append_rdE rfl _ _ 27 rfl w2.heap.size 46 i0 _ 40 Tryz.underlying27 HI.out.1 HI.out.2.1 HI.out.2.2.1 HI.out.2.2.2 rfl _ _ _ rfl HO3.out fs _ rfl E2 ?d1 ?d2 ?d3 ?_)
    case d1 => rw [HES.out, HFS.out]; simp only [maxLen]; omega
    case d2 => rw [HES.out, HFS.out]; omega
    case d3 => have := S3.out; omega
    intro v4 w4 own4 grown4
    have B5 := hid (B4.out.grown grown4 B4.out.size (fun q hq => by have := own_lt HO3.out q hq; have := B2.out.size; omega))
    have own5 : w4.ownsRow w2.heap.size 46 5 v4 (es ++ fs).length (fe (es ++ fs)) := by
      rw [List.length_append, fe_app]
      simpa [Nat.zero_add] using own4
    have R5 := hid (own_rdE own5)
    have RE5 := hid (RE.out _ B5.out)
    have RF5 := hid (RF.out _ B5.out)
    obtain ⟨va, vc, rfl⟩ := own_slice own5
    have hlen : (es ++ fs).length ≤ 80 := by rw [List.length_append, HES.out, HFS.out]; omega
    clear own4 own5 grown4 B4 HO3 S3 E2 B2 hs3 RE RF HI
    have hle : es.length ≤ 40 := by rw [HES.out]; exact l0
    have hlf : fs.length ≤ 40 := by rw [HFS.out]; exact l1
    have BE := hid (fun j => cntf_range a2 es j)
    have BF := hid (fun j => cntf_range a2 fs j)
    have CJ := hid (fun j => cntf_app a2 es fs j)
    have AJ := hid (anyg_app a2 es fs)
    have OJ := hid (show (ord (es ++ fs)).length = (ord es).length + (ord fs).length by rw [ord_app, List.length_append])
    have LJ := hid (lfold_app a2 es fs)
    have OL := hid (And.intro (ord_len es) (ord_len fs))
    generalize es ++ fs = gs at *
    go_wp2_with fail
    refine (tof_any _ es a2 _ RE5.out (by omega)).mono ?_
    rintro e w5 ⟨G1, L1, rfl, hb⟩
    have RF6 := hid (RF5.out.below hb)
    have RE6 := hid (RE5.out.below hb)
    have R6 := hid (R5.out.below hb)
    have B6 := hid (B5.out.trans (hb.mono B5.out.size))
    clear hb RE5 RF5 R5 B5
    go_wp2_with (refine wpList_store_new rfl 30 (.tmp 8) (.tmp 37) rfl _ (rowc G1 (cntf a2 es) L1) 30 rfl rfl (by kernel_rfl) (by rfl) (rowc_ones _ _ _) ?_)
    have RF7 := hid (RF6.out.below ((Below.refl _ _).alloc (Nat.le_refl _) (.cells (rowc G1 (cntf a2 es) L1) 30)))
    have RE7 := hid (RE6.out.below ((Below.refl _ _).alloc (Nat.le_refl _) (.cells (rowc G1 (cntf a2 es) L1) 30)))
    have R7 := hid (R6.out.below ((Below.refl _ _).alloc (Nat.le_refl _) (.cells (rowc G1 (cntf a2 es) L1) 30)))
    have B7 := hid (B6.out.alloc B6.out.size (.cells (rowc G1 (cntf a2 es) L1) 30))
    have K1 := hid (Deep.blk_alloc_new w5 (.cells (rowc G1 (cntf a2 es) L1) 30))
    clear RE6 RF6 R6 B6
    generalize w5.alloc (.cells (rowc G1 (cntf a2 es) L1) 30) = w6 at *
    generalize w5.heap.size = p1 at *
    refine (tof_any _ fs a2 _ RF7.out (by omega)).mono ?_
    rintro e w7 ⟨G2, L2, rfl, hb⟩
    have RF8 := hid (RF7.out.below hb)
    have RE8 := hid (RE7.out.below hb)
    have R8 := hid (R7.out.below hb)
    have B8 := hid (B7.out.trans (hb.mono B7.out.size))
    have K1' := hid ((hb.block _ (blk_lt K1.out)).trans K1.out)
    clear hb RE7 RF7 R7 B7 K1
    go_wp2_with (refine wpList_store_new rfl 30 (.tmp 10) (.tmp 43) rfl _ (rowc G2 (cntf a2 fs) L2) 30 rfl rfl (by kernel_rfl) (by rfl) (rowc_ones _ _ _) ?_)
    have RF9 := hid (RF8.out.below ((Below.refl _ _).alloc (Nat.le_refl _) (.cells (rowc G2 (cntf a2 fs) L2) 30)))
    have RE9 := hid (RE8.out.below ((Below.refl _ _).alloc (Nat.le_refl _) (.cells (rowc G2 (cntf a2 fs) L2) 30)))
    have R9 := hid (R8.out.below ((Below.refl _ _).alloc (Nat.le_refl _) (.cells (rowc G2 (cntf a2 fs) L2) 30)))
    have B9 := hid (B8.out.alloc B8.out.size (.cells (rowc G2 (cntf a2 fs) L2) 30))
    have K1 := hid ((Below.heap_alloc w7 (.cells (rowc G2 (cntf a2 fs) L2) 30) _ (blk_lt K1'.out)).trans K1'.out)
    have K2 := hid (Deep.blk_alloc_new w7 (.cells (rowc G2 (cntf a2 fs) L2) 30))
    clear RE8 RF8 R8 B8 K1'
    generalize w7.alloc (.cells (rowc G2 (cntf a2 fs) L2) 30) = w8 at *
    generalize w7.heap.size = p2 at *
    refine (tof_any _ gs a2 _ R9.out (by omega)).mono ?_
    rintro e w9 ⟨G3, L3, rfl, hb⟩
    have RFA := hid (RF9.out.below hb)
    have REA := hid (RE9.out.below hb)
    have RA := hid (R9.out.below hb)
    have BA := hid (B9.out.trans (hb.mono B9.out.size))
    have K1' := hid ((hb.block _ (blk_lt K1.out)).trans K1.out)
    have K2' := hid ((hb.block _ (blk_lt K2.out)).trans K2.out)
    clear hb RE9 RF9 R9 B9 K1 K2
    rw [AJ.out]
    clear AJ
    generalize anyg a2 es = x1 at *
    generalize anyg a2 fs = x2 at *
    cases x1 <;> cases x2
    all_goals simp only [Bool.or_false, Bool.or_true, Bool.false_or, Bool.true_or, Bool.or_self]
    all_goals as_aux_lemma =>
      go_wp2_with (refine wpList_store_new rfl 30 (.tmp 12) (.tmp 49) rfl _ (rowc G3 (cntf a2 gs) L3) 30 rfl rfl (by kernel_rfl) (by rfl) (rowc_ones _ _ _) ?_)
      have RFB := hid (RFA.out.below ((Below.refl _ _).alloc (Nat.le_refl _) (.cells (rowc G3 (cntf a2 gs) L3) 30)))
      have REB := hid (REA.out.below ((Below.refl _ _).alloc (Nat.le_refl _) (.cells (rowc G3 (cntf a2 gs) L3) 30)))
      have RB := hid (RA.out.below ((Below.refl _ _).alloc (Nat.le_refl _) (.cells (rowc G3 (cntf a2 gs) L3) 30)))
      have BB := hid (BA.out.alloc BA.out.size (.cells (rowc G3 (cntf a2 gs) L3) 30))
      have K1 := hid ((Below.heap_alloc w9 (.cells (rowc G3 (cntf a2 gs) L3) 30) _ (blk_lt K1'.out)).trans K1'.out)
      have K2 := hid ((Below.heap_alloc w9 (.cells (rowc G3 (cntf a2 gs) L3) 30) _ (blk_lt K2'.out)).trans K2'.out)
      have K3 := hid (Deep.blk_alloc_new w9 (.cells (rowc G3 (cntf a2 gs) L3) 30))
      clear REA RFA RA BA K1' K2'
      generalize w9.alloc (.cells (rowc G3 (cntf a2 gs) L3) 30) = wA at *
      generalize w9.heap.size = p3 at *
      go_loopw [57] (fun i wr => ∃ k : Nat, k ≤ 8 ∧ i = .int .i64 k ∧ Hid (wr.heap = wA.heap) ∧ Hid (Below wA.heap.size wA wr)) (fun i _ => 8 - (intOf i).toNat)
      case atStart => exact ⟨0, by omega, rfl, hid rfl, hid (Below.refl _ _)⟩
      case round =>
        obtain ⟨k, hk, rfl, HE, HB⟩ := hrel
        by_cases hlt : k < 8
        · have y1 := blk_cell (w := wr) ((congrArg (·[p1]?) HE.out).trans K1.out) (rowc_get G1 (cntf a2 es) L1 k hlt)
          have y2 := blk_cell (w := wr) ((congrArg (·[p2]?) HE.out).trans K2.out) (rowc_get G2 (cntf a2 fs) L2 k hlt)
          have y3 := blk_cell (w := wr) ((congrArg (·[p3]?) HE.out).trans K3.out) (rowc_get G3 (cntf a2 gs) L3 k hlt)
          have r1 := BE.out k
          have r2 := BF.out k
          rw [CJ.out k] at y3
          generalize cntf a2 es k = c1 at *
          generalize cntf a2 fs k = c2 at *
          obtain ⟨r11, r12⟩ := r1
          obtain ⟨r21, r22⟩ := r2
          have hk0 : (0 : Int) ≤ k := by omega
          have hk8 : (k : Int) < 8 := by omega
          have hw : IntKind.i64.wrap (c1 + c2) = c1 + c2 := by
            have hb : IntKind.i64.bits = 64 := rfl
            have hs : IntKind.i64.signed = true := rfl
            simp [IntKind.wrap, hb, hs]; split <;> omega
          have hne : (c1 + c2 != c1 + c2) = false := by simp
          go_wp2_with fail
          go_region
          all_goals
            go_wp2
            go_roundw
            case rel => exact ⟨k + 1, by omega, by go_num, hid HE.out, hid (HB.out.trans (Quiet.below ⟨1, rfl⟩ _))⟩
            case measure => simp [intOf]; omega
        · obtain rfl : k = 8 := by omega
          have RFB' := hid (RFB.out.below HB.out)
          have REB' := hid (REB.out.below HB.out)
          have RB' := hid (RB.out.below HB.out)
          have BB' := hid (BB.out.trans (HB.out.mono BB.out.size))
          clear K1 K2 K3 CJ BE BF HE HB RFB REB RB BB
          have RFB := RFB'
          have REB := REB'
          have RB := RB'
          have BB := BB'
          clear RFB' REB' RB' BB'
          go_wp2_with fail
          refine (order_any _ _ _ RB.out (by omega)).mono ?_
          rintro e wB ⟨v1, rfl, ho, hb⟩
          have RFC := hid (RFB.out.below hb)
          have REC := hid (REB.out.below hb)
          have RC := hid (RB.out.below hb)
          have BC := hid (BB.out.trans (hb.mono BB.out.size))
          obtain ⟨oa, oc, rfl⟩ := ho.slice
          clear ho hb RFB REB RB BB
          go_wp2_with fail
          refine (order_any _ _ _ REC.out (by omega)).mono ?_
          rintro e wC ⟨v2, rfl, ho, hb⟩
          have RFD := hid (RFC.out.below hb)
          have RED := hid (REC.out.below hb)
          have RD := hid (RC.out.below hb)
          have BD := hid (BC.out.trans (hb.mono BC.out.size))
          obtain ⟨ob, od, rfl⟩ := ho.slice
          clear ho hb RFC REC RC BC
          go_wp2_with fail
          refine (order_any _ _ _ RFD.out (by omega)).mono ?_
          rintro e wD ⟨v3, rfl, ho, hb⟩
          have RFE := hid (RFD.out.below hb)
          have REE := hid (RED.out.below hb)
          have RE := hid (RD.out.below hb)
          have BE := hid (BD.out.trans (hb.mono BD.out.size))
          obtain ⟨oe, of, rfl⟩ := ho.slice
          clear ho hb RFD RED RD BD
          obtain ⟨q1, q2⟩ := OL.out
          have q3 := OJ.out
          generalize (ord gs).length = n3 at *
          generalize (ord es).length = n1 at *
          generalize (ord fs).length = n2 at *
          clear OL OJ
          subst q3
          have e1 : ((n1 + n2 : Nat) : Int) = (n1 : Int) + (n2 : Int) := by omega
          have e2 : (((n1 + n2 : Nat) : Int) == (n1 : Int) + (n2 : Int)) = true := by simp
          go_wp2_with fail
          refine (longest_any _ _ a2 _ RE.out (by omega)).mono ?_
          rintro e wE ⟨rfl, hb⟩
          have RFF := hid (RFE.out.below hb)
          have REF := hid (REE.out.below hb)
          have BF := hid (BE.out.trans (hb.mono BE.out.size))
          clear hb RFE REE RE BE
          go_wp2_with fail
          refine (longest_any _ _ a2 _ REF.out (by omega)).mono ?_
          rintro e wF ⟨rfl, hb⟩
          have RFG := hid (RFF.out.below hb)
          have BG := hid (BF.out.trans (hb.mono BF.out.size))
          clear hb RFF REF BF
          go_wp2_with fail
          refine (longest_any _ _ a2 _ RFG.out (by omega)).mono ?_
          rintro e wG ⟨rfl, hb⟩
          have BH := hid (BG.out.trans (hb.mono BG.out.size))
          clear hb RFG BG
          obtain ⟨z1, z2⟩ := LJ.out
          generalize (lfold a2 gs).1 = m3 at *
          generalize (lfold a2 es).1 = m1 at *
          generalize (lfold a2 fs).1 = m2 at *
          clear LJ
          rcases (show m1 < m2 ∨ m2 ≤ m1 by omega) with hm | hm
          · have d1 : decide (m2 ≤ m3) = true := decide_eq_true z2
            go_wp2
            go_ret
            exact ⟨rfl, BH.out⟩
          · have d1 : decide (m1 ≤ m3) = true := decide_eq_true z1
            go_wp2
            go_ret
            exact ⟨rfl, BH.out⟩
end Go.Proofs.YtlgkjaeijceekaaGreatDoor.tallyJoins
