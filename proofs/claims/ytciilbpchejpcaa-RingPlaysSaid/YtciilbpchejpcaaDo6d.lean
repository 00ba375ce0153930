/- The contract of layer 6's 'do': an act, of both: PutAll. -/
import Derived.Test.YtciilbpchejpcaaDo6
namespace Go.Proofs.Ytciilbpchejpcaa
set_option linter.unusedVariables false
set_option linter.unusedSimpArgs false
open Go.RowKit

set_option maxRecDepth 100000 in
set_option maxHeartbeats 4000000 in
theorem do6_putall (p : Nat) (xs : List Int) (nx : Int) (hs : Bool) (st : Int) (wv : Value) (K G M : Int) (w : World) (H : Rg w p xs nx hs st) (hw : Stay w p none wv xs) (hx : xs.length ≤ 256) (hM0 : 0 ≤ M) (hM1 : M ≤ 65535) (ys : List Int) (hys : ys = xs ++ (row6L (G.tmod 4096) (M % 300).toNat).take (256 - xs.length))
    (hK0 : 0 ≤ K) (hK1 : K ≤ 255) (k0 : (K % 9 == 0) = false) (k1 : (K % 9 == 1) = false) (k2 : (K % 9 == 2) = false) (k3 : (K % 9 == 3) = false) (k4 : (K % 9 == 4) = true) :
    Calls Try.prog 41 #[.pointer (some ⟨p, 0, none⟩), .agg #[wv, .bool hs, .int .i64 nx, .int .i64 st], .agg #[.int .u8 K, .int .i64 G, .int .u16 M]] w (RDo p wv xs ys hs nx st w) := by
  obtain ⟨wa, wn, wc, rfl⟩ : ∃ a n c, wv = .slice a n c := by obtain ⟨a, c, h, _⟩ := hw.rd; exact ⟨a, _, c, h⟩
  obtain ⟨o1, ho1⟩ : ∃ o, o = Obj.cells #[.slice wa wn wc, .bool hs, .int .i64 nx, .int .i64 st] 54 (0, 0) := ⟨_, rfl⟩
  obtain ⟨o2, ho2⟩ : ∃ o, o = Obj.cells #[.int .u8 K, .int .i64 G, .int .u16 M] 56 (0, 0) := ⟨_, rfl⟩
  obtain ⟨o3, ho3⟩ : ∃ o, o = Obj.cells #[.slice none 0 0, .bool false, .int .i64 0, .int .i64 0] 54 (0, 0) := ⟨_, rfl⟩
  have hb1 := ((((Below.refl w.heap.size w).alloc (Nat.le_refl _) o1).alloc (by simp) o2).alloc (by simp; omega) o3)
  have hplt := H.lt
  have HB1 := hid hb1
  have HG1 := hid (H.below hb1)
  have HW1 := hid (hw.below hb1)
  have HWL := hid (show ∀ (g o n c : Nat), Value.slice wa wn wc = .slice (some ⟨g, o, none⟩) n c → 0 < xs.length → g ≠ w.heap.size + 1 + 1 ∧ none ≠ some g from fun g o n c he h0 => by
    have := (show Reads w (.slice (some ⟨g, o, none⟩) n c) xs from he ▸ hw.rd).lt h0
    exact ⟨by omega, by simp⟩)
  subst ho1 ho2 ho3

  obtain ⟨m, hm⟩ : ∃ m : Nat, m = (M % 300).toNat := ⟨_, rfl⟩
  have hm3 : M % 300 = (m : Int) := by omega
  have hm4 : m < 300 := by omega
  rw [← hm] at hys
  obtain ⟨f, hf⟩ : ∃ f : Int, f = G.tmod 4096 := ⟨_, rfl⟩
  rw [← hf] at hys
  have hf1 : -4096 ≤ f ∧ f ≤ 4096 := by
    have h1 := Int.tmod_lt_of_pos G (b := 4096) (by omega)
    have h2 := Int.lt_tmod_of_pos G (b := 4096) (by omega)
    omega
  have HF := hid hf.symm
  have HYS := hid hys
  have HX := hid hx
  have HMM := hid hm3
  clear H hw hb1 hm hf hx hys
  go_enter Try.func41, Try.ntmps41
  go_wp2_with fail
  rw [HF.out]
  refine (row6 f m (by omega) (by omega) (by omega) _).mono ?_
  rintro e wA ⟨lv, rfl, hoA, hbA⟩
  have hzA := hbA.size
  simp only [World.size_alloc] at hoA hzA
  have HBA := hid hbA
  have HGA := hid (HG1.out.below hbA)
  have HWA := hid (HW1.out.below hbA)
  have HOA := hid hoA
  have HRL := hid (row6_length f m)
  obtain ⟨la, lc, rfl⟩ := hoA.reads_n HRL.out
  obtain ⟨z0, z1, z2, z3⟩ := b1_new w wA K G M _ _ _ _ hbA
  clear hoA hbA HG1 HW1 HWL
  go_wp2_with fail
  refine (refputall_st _ _ xs (row6L f m) hs nx st wA HWA.out.rd HOA.out.reads HX.out (by rw [HRL.out]; omega)).mono ?_
  rintro e wB ⟨rv, tv, rfl, hoB, htB', hbB⟩
  have htB := htB' p (HOA.out.stays (by omega))
  have HLT := hid (show ∀ k, rv.ownBlock = some k → w.heap.size ≤ k from fun k hk => by have := (hoB.lt k hk).1; omega)
  obtain ⟨ra, rn, rc, rfl⟩ := hoB.slice3
  obtain ⟨ta, tn, tc, rfl⟩ : ∃ a n c, tv = .slice a n c := by obtain ⟨a, c, h, _⟩ := htB.rd; exact ⟨a, _, c, h⟩
  obtain ⟨ts, hts⟩ : ∃ ts, ts = (row6L f m).drop (256 - xs.length) := ⟨_, rfl⟩
  have htl : ts.length ≤ 1000 := by rw [hts, List.length_drop, HRL.out]; omega
  have CPA := hid (fun W (h1 : Rg W p xs nx hs st) (h2 : Stay W p none (.slice la m lc) (row6L f m)) => putall_r p xs (row6L f m) _ nx hs st W h1 h2 (by rw [HRL.out]; omega))
  rw [← HYS.out, ← hts] at CPA
  rw [← HYS.out] at hoB
  rw [← hts] at htB
  have hzB := hbB.size
  have HX3 := hid (b3_new w wB K G M _ _ _ _ (.slice ra rn rc) (.bool hs) (.int .i64 nx) (.int .i64 st) (HBA.out.trans (hbB.mono (by simp; omega))))
  have hn2 := (Below.refl wB.heap.size wB).alloc (Nat.le_refl _) (.cells #[.slice ra rn rc, .bool hs, .int .i64 nx, .int .i64 st] 54)
  have HG3 := hid ((HGA.out.below hbB).below hn2)
  have HR3 := hid (hoB.kept (w' := wB.alloc (.cells #[.slice ra rn rc, .bool hs, .int .i64 nx, .int .i64 st] 54)) (fun k hk => hn2.block k (hoB.lt k hk).2))
  have HT3 := hid (htB.below hn2)
  have hoA2 := HOA.out.kept (w' := wB) (fun k hk => hbB.block k (HOA.out.lt k hk).2)
  have HL3 := hid (hoA2.kept (w' := wB.alloc (.cells #[.slice ra rn rc, .bool hs, .int .i64 nx, .int .i64 st] 54)) (fun k hk => hn2.block k (hoA2.lt k hk).2))
  have HLB := hid (show ∀ k, (Value.slice la m lc).ownBlock = some k → w.heap.size + 3 ≤ k ∧ k < wA.heap.size from fun k hk => HOA.out.lt k hk)
  have HO3 := hid (OnlyO.of_below (p := p) (r := none) (((HB1.out.trans (HBA.out.mono (by simp; omega))).trans (hbB.mono (by omega))).trans (hn2.mono (by omega))))
  have hz3 : wB.heap.size < (wB.alloc (.cells #[.slice ra rn rc, .bool hs, .int .i64 nx, .int .i64 st] 54)).heap.size := by simp
  have HTL := hid htl
  clear z0 z1 z2 z3 htB' htB hoB hbB hn2 hoA2 HGA HWA HOA HB1 HBA hts htl HX
  go_wp2_with (refine wpList_store_new rfl 54 (.tmp 13) (.tmp 77) rfl _ #[.slice ra rn rc, .bool hs, .int .i64 nx, .int .i64 st] 54 rfl rfl (by kernel_rfl) (by rfl) (by simp [Value.oneCell']) ?_)
  obtain ⟨V, hVe⟩ : ∃ V, V = wB.heap.size := ⟨_, rfl⟩
  rw [← hVe] at HX3 hzB hz3 ⊢
  clear hVe
  generalize wB.alloc (.cells #[.slice ra rn rc, .bool hs, .int .i64 nx, .int .i64 st] 54) = w3 at *
  obtain ⟨x0, v0, v1, v2, v3, s0, s1, s2, s3, f0, f1, f2, f3⟩ := HX3.out.all
  refine (CPA.out _ HG3.out (HL3.out.stays (by omega))).mono ?_
  rintro e w4 ⟨gv, rfl, ho4, hg4, hx4⟩
  obtain ⟨ga, gn, gc, rfl⟩ := ho4.slice3
  have HX4 := hid (HX3.out.kept hx4 hplt (by omega))
  have HO4 := hid ho4
  have HG4 := hid hg4
  have HT4 := hid (HT3.out.only hx4)
  have HR4 := hid (HR3.out.kept (w' := w4) (fun k hk => hx4.block k (HR3.out.lt k hk).2 (by have := (HR3.out.lt k hk).1; omega) (by simp)))
  have HL4 := hid (HL3.out.kept (w' := w4) (fun k hk => hx4.block k (HL3.out.lt k hk).2 (by have := (HL3.out.lt k hk).1; omega) (by simp)))
  have HO34 := hid (HO3.out.trans hx4 (.inl rfl))
  clear ho4 hg4 hx4 HX3 HG3 HT3 HR3 HL3 HO3 CPA x0 v0 v1 v2 v3 s0 s1 s2 s3 f0 f1 f2 f3
  go_wp2_with fail
  refine (same_any _ _ ts ts true (by simp) _ HO4.out.reads HT4.out.rd (by have := HTL.out; omega) (by have := HTL.out; omega)).mono ?_
  rintro e w5 ⟨rfl, hq5⟩
  have HX5 := hid (HX4.out.kept (OnlyO.quiet hq5) hplt (by omega))
  have HG5 := hid (HG4.out.quiet hq5)
  have HR5 := hid (HR4.out.kept (w' := w5) (fun k hk => by rw [hq5.heap]))
  have HL5 := hid (HL4.out.kept (w' := w5) (fun k hk => by rw [hq5.heap]))
  have HO5 := hid (HO34.out.trans (OnlyO.quiet hq5) (.inl rfl))
  clear hq5 HX4 HG4 HR4 HL4 HO34 HO4 HT4 HTL
  go_wp2_with fail
  go_loopw [87] (fun i wr => ∃ (k : Nat) (zs : List Int), k ≤ m ∧ i = .int .i64 k ∧ zs.length = m ∧ Hid (Owns wr (w.heap.size + 1 + 1 + 1) (.slice la m lc) zs) ∧ Hid (Owns wr wA.heap.size (.slice ra rn rc) ys) ∧ Hid (Rg wr p ys nx hs st) ∧ Hid (B3 wr w.heap.size V K G M (.slice ra rn rc) (.bool hs) (.int .i64 nx) (.int .i64 st)) ∧ Hid (OnlyO p none w wr))
    (fun i _ => m - (intOf i).toNat)
  case atStart => exact ⟨0, _, by omega, rfl, HRL.out, HL5, HR5, HG5, HX5, HO5⟩
  case round =>
    clear HL5 HR5 HG5 HX5 HO5
    obtain ⟨k, zs, hk, rfl, hzl, HOo, HOv, HRg, HX, HOO⟩ := hrel
    have HZL := hid hzl
    clear hzl
    by_cases hlt : k < m
    · obtain ⟨B, rfl, hB1, hB2, hcell, hfr, hset⟩ := HOo.out.step HZL.out k hlt
      have HSET := hid hset
      obtain ⟨z, hz⟩ : ∃ z, z = zs.getD k 0 := ⟨_, rfl⟩
      rw [← hz] at hcell
      have hBA : B < wA.heap.size := (HLB.out B rfl).2
      have hBv := hid (show ∀ q, (Value.slice ra rn rc).ownBlock = some q → q ≠ B from fun q hq => by have := (HOv.out.lt q hq).1; omega)
      have hBp : p ≠ B := by omega
      have hne1 : w.heap.size + 1 ≠ B := by omega
      have hne2 : w.heap.size + 1 + 1 ≠ B := by omega
      have hneV : V ≠ B := by omega
      have hneW : w.heap.size ≤ B := by omega
      clear hz hset
      go_wp2
      go_roundw
      case rel =>
        refine ⟨k + 1, _, by omega, by go_num, by rw [List.length_set]; exact HZL.out, hid (HSET.out _), hid (HOv.out.kept fun q hq => Below.heap_setCell _ _ _ _ (hBv.out q hq)), hid (HRg.out.kept (Below.heap_setCell _ _ _ _ hBp)), hid ⟨by rw [Below.heap_setCell _ _ _ _ hne1]; exact HX.out.act, by rw [Below.heap_setCell _ _ _ _ hne2]; exact HX.out.res, by rw [Below.heap_setCell _ _ _ _ hneV]; exact HX.out.new⟩, hid (HOO.out.beyond ((Below.refl _ _).setCell hneW _))⟩
      case measure => simp [intOf]; omega
    · obtain rfl : k = m := by omega
      obtain ⟨x0, v0, v1, v2, v3, s0, s1, s2, s3, f0, f1, f2, f3⟩ := HX.out.all
      have HX6 := hid (set4_only HOO.out (n := w.heap.size + 1 + 1) (a := .slice ra rn rc) (b := .bool hs) (c := .int .i64 nx) (d := .int .i64 st) (by omega))
      have HG6 := hid (HRg.out.kept (set4_at (n := w.heap.size + 1 + 1) (a := .slice ra rn rc) (b := .bool hs) (c := .int .i64 nx) (d := .int .i64 st) (show p ≠ w.heap.size + 1 + 1 by omega)))
      have HR6 := hid ((HOv.out.kept (fun q hq => set4_at (n := w.heap.size + 1 + 1) (a := .slice ra rn rc) (b := .bool hs) (c := .int .i64 nx) (d := .int .i64 st) (show q ≠ w.heap.size + 1 + 1 by have := (HOv.out.lt q hq).1; omega))).stays (show p < wA.heap.size by omega))
      clear HOo HOv HRg HX HOO
      go_wp2
      refine bodyPost_ret (v := .tuple #[.agg #[.slice ra rn rc, .bool hs, .int .i64 nx, .int .i64 st], .bool true]) (by simp [results, Try.results41, go_sem, s0, s1, s2, s3]) rfl ⟨_, rfl, HG6.out, HR6.out, HX6.out, fun q hq _ g o n c he h0 => by
        have := HLT.out g (by rw [he]; rfl)
        omega⟩
end Go.Proofs.Ytciilbpchejpcaa
