/- The contract of layer 6's 'do': an act, of both: Steal. -/
import Derived.Test.YtciilbpchejpcaaDo6
namespace Go.Proofs.Ytciilbpchejpcaa
set_option linter.unusedVariables false
set_option linter.unusedSimpArgs false
open Go.RowKit

set_option maxRecDepth 100000 in
set_option maxHeartbeats 4000000 in
theorem do6_steal (p : Nat) (xs : List Int) (nx : Int) (hs : Bool) (st : Int) (wv : Value) (K G M : Int) (w : World) (H : Rg w p xs nx hs st) (hw : Stay w p none wv xs) (ys ts : List Int) (b' : Bool) (nx' st' : Int)
    (CR : ∀ W, Reads W wv xs → Calls Try.prog 79 #[.agg #[wv, .bool hs, .int .i64 nx, .int .i64 st]] W (RefSt wv xs ys ts b' nx' st' W))
    (CG : ∀ W, Rg W p xs nx hs st → Calls Try.prog 47 #[.pointer (some ⟨p, 0, none⟩)] W (RTold p ts ys nx' b' st' W))
    (htl : ts.length ≤ 1000) (hK0 : 0 ≤ K) (hK1 : K ≤ 255) (k0 : (K % 9 == 0) = false) (k1 : (K % 9 == 1) = false) (k2 : (K % 9 == 2) = false) (k3 : (K % 9 == 3) = false) (k4 : (K % 9 == 4) = false) (k7 : (K % 9 == 7) = true) :
    Calls Try.prog 41 #[.pointer (some ⟨p, 0, none⟩), .agg #[wv, .bool hs, .int .i64 nx, .int .i64 st], .agg #[.int .u8 K, .int .i64 G, .int .u16 M]] w (RDo p wv xs ys b' nx' st' w) := by
  obtain ⟨wa, wn, wc, rfl⟩ : ∃ a n c, wv = .slice a n c := by obtain ⟨a, c, h, _⟩ := hw.rd; exact ⟨a, _, c, h⟩
  obtain ⟨o1, ho1⟩ : ∃ o, o = Obj.cells #[.slice wa wn wc, .bool hs, .int .i64 nx, .int .i64 st] 54 (0, 0) := ⟨_, rfl⟩
  obtain ⟨o2, ho2⟩ : ∃ o, o = Obj.cells #[.int .u8 K, .int .i64 G, .int .u16 M] 56 (0, 0) := ⟨_, rfl⟩
  obtain ⟨o3, ho3⟩ : ∃ o, o = Obj.cells #[.slice none 0 0, .bool false, .int .i64 0, .int .i64 0] 54 (0, 0) := ⟨_, rfl⟩
  have hb1 := ((((Below.refl w.heap.size w).alloc (Nat.le_refl _) o1).alloc (by simp) o2).alloc (by simp; omega) o3)
  have hplt := H.lt
  have HB1 := hid hb1
  have HG1 := hid (H.below hb1)
  have HW1 := hid (hw.below hb1)
  have HWL := hid (show ∀ (g o n c : Nat), Value.slice wa wn wc = .slice (some ⟨g, o, none⟩) n c → 0 < xs.length → g ≠ w.heap.size + 1 + 1 ∧ none ≠ some g from fun g o n c he h0 => by
    have := (show Reads w (.slice (some ⟨g, o, none⟩) n c) xs from he ▸ hw.rd).lt h0
    exact ⟨by omega, by simp⟩)
  subst ho1 ho2 ho3
  have CRH := hid CR
  have CGH := hid CG
  have HTL := hid htl
  clear H hw hb1 CR CG htl
  go_enter Try.func41, Try.ntmps41
  go_wp2_with fail
  refine (CRH.out _ HW1.out.rd).mono ?_
  rintro e w2 ⟨rv, tv, rfl, hr2', ht2', hbel2⟩
  have hr2 := hr2' p (by simp; omega) HW1.out
  have ht2 := ht2' p (by simp; omega)
  have HAP := hid (apt_of (B := w.heap.size) hr2' HW1.out.rd (by simp; omega))
  have hrq := (hr2' (w.heap.size + 1 + 1) (by simp) ⟨HW1.out.rd, HWL.out⟩).off
  obtain ⟨ra, rn, rc, rfl⟩ : ∃ a n c, rv = .slice a n c := by obtain ⟨a, c, h, _⟩ := hr2.rd; exact ⟨a, _, c, h⟩
  obtain ⟨ta, tn, tc, rfl⟩ : ∃ a n c, tv = .slice a n c := by obtain ⟨a, c, h, _⟩ := ht2.rd; exact ⟨a, _, c, h⟩
  have hz2 := hbel2.size
  simp only [World.size_alloc] at hz2
  have HX3 := hid (b3_new w w2 K G M _ _ _ _ (.slice ra rn rc) (.bool b') (.int .i64 nx') (.int .i64 st') hbel2)
  have hn2 := (Below.refl w2.heap.size w2).alloc (Nat.le_refl _) (.cells #[.slice ra rn rc, .bool b', .int .i64 nx', .int .i64 st'] 54)
  have HG3 := hid ((HG1.out.below hbel2).below hn2)
  have HR3 := hid (hr2.below hn2)
  have HT3 := hid (ht2.below hn2)
  have HO3 := hid (OnlyO.of_below (p := p) (r := none) ((HB1.out.trans (hbel2.mono (by simp; omega))).trans (hn2.mono (by omega))))
  have hz3 : w.heap.size + 3 ≤ (w2.alloc (.cells #[.slice ra rn rc, .bool b', .int .i64 nx', .int .i64 st'] 54)).heap.size := by simp; omega
  have hV : w.heap.size ≤ w2.heap.size := by omega
  have HRQ := hid hrq
  clear hr2' ht2' hrq HWL
  clear HG1 hr2 ht2 hn2 hbel2 HW1 HB1 CRH
  go_wp2_with (refine wpList_store_new rfl 54 (.tmp 18) (.tmp 104) rfl _ #[.slice ra rn rc, .bool b', .int .i64 nx', .int .i64 st'] 54 rfl rfl (by kernel_rfl) (by rfl) (by simp [Value.oneCell']) ?_)
  all_goals
    obtain ⟨V, hVe⟩ : ∃ V, V = w2.heap.size := ⟨_, rfl⟩
    rw [← hVe] at HX3 hV ⊢
    clear hVe hz2
    generalize w2.alloc (.cells #[.slice ra rn rc, .bool b', .int .i64 nx', .int .i64 st'] 54) = w3 at *
    obtain ⟨x0, v0, v1, v2, v3, s0, s1, s2, s3, f0, f1, f2, f3⟩ := HX3.out.all
    skip
    go_region_with (first
      | (go_at_call 25; refine (same_any _ _ ts ts true (by simp) _ HO4.out.reads HT4.out.rd (by have := HTL.out; omega) (by have := HTL.out; omega)).mono ?_; rintro e w5 ⟨rfl, hq5⟩; have HX5 := hid (HX4.out.kept (OnlyO.quiet hq5) hplt hV); obtain ⟨p0, r0, r1, r2, r3, t0, t1, t2, t3, g0, g1, g2, g3⟩ := HX5.out.all; have HQ5 := hid hq5; clear hq5)
      | (go_at_call 47; refine (CGH.out _ HG3.out.drew).mono ?_; rintro e w4 ⟨gv, rfl, ho4, hg4, hx4⟩; obtain ⟨ga, gn, gc, rfl⟩ := ho4.slice3; have hx34 := (OnlyO.quiet (p := p) (r := none) (w := w3) ⟨1, rfl⟩).trans hx4 (.inl rfl); have HX4 := hid (HX3.out.kept hx34 hplt hV); obtain ⟨p0, r0, r1, r2, r3, t0, t1, t2, t3, g0, g1, g2, g3⟩ := HX4.out.all; have HO4 := hid ho4; have HG4 := hid hg4; have HT4 := hid (HT3.out.only hx34); have HR4 := hid (HR3.out.only hx34); have HX34 := hid hx34; clear ho4 hg4 hx4 hx34))
    all_goals
      have hx5 : OnlyO p none w w5 := (HO3.out.trans HX34.out (.inl rfl)).trans (OnlyO.quiet HQ5.out) (.inl rfl)
      have hx6 : OnlyO p none w ((((w5.setCell ⟨w.heap.size + 1 + 1, 0, none⟩ (.slice ra rn rc)).setCell ⟨w.heap.size + 1 + 1, 1, none⟩ (.bool b')).setCell ⟨w.heap.size + 1 + 1, 2, none⟩ (.int .i64 nx')).setCell ⟨w.heap.size + 1 + 1, 3, none⟩ (.int .i64 st')) := set4_only hx5 (by omega)
      have hg6 : Rg ((((w5.setCell ⟨w.heap.size + 1 + 1, 0, none⟩ (.slice ra rn rc)).setCell ⟨w.heap.size + 1 + 1, 1, none⟩ (.bool b')).setCell ⟨w.heap.size + 1 + 1, 2, none⟩ (.int .i64 nx')).setCell ⟨w.heap.size + 1 + 1, 3, none⟩ (.int .i64 st')) p ys nx' b' st' := (HG4.out.quiet HQ5.out).kept (set4_at (by omega))
      have hr6 : Stay ((((w5.setCell ⟨w.heap.size + 1 + 1, 0, none⟩ (.slice ra rn rc)).setCell ⟨w.heap.size + 1 + 1, 1, none⟩ (.bool b')).setCell ⟨w.heap.size + 1 + 1, 2, none⟩ (.int .i64 nx')).setCell ⟨w.heap.size + 1 + 1, 3, none⟩ (.int .i64 st')) p none (.slice ra rn rc) ys := (HR4.out.only (OnlyO.quiet HQ5.out)).at (fun g o n c he h0 => set4_at (HRQ.out g o n c he h0).1) (by simp [World.setCell])
      have HX6 := hid hx6
      have HG6 := hid hg6
      have HR6 := hid hr6
      clear hx5 hx6 hg6 hr6 HX34 HG4 HR4 HT4 HO4 HQ5 HX5
      go_wp2
      refine bodyPost_ret (v := .tuple #[.agg #[.slice ra rn rc, .bool b', .int .i64 nx', .int .i64 st'], .bool true]) (by simp [results, Try.results41, go_sem, t0, t1, t2, t3]) rfl ⟨_, rfl, HG6.out, HR6.out, HX6.out, HAP.out⟩
end Go.Proofs.Ytciilbpchejpcaa
