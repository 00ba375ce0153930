/- The contract of layer 6's 'do': an act, of both: Get; and all its kinds. -/
import Derived.Test.YtciilbpchejpcaaDo6b
import Derived.Test.YtciilbpchejpcaaDo6c
import Derived.Test.YtciilbpchejpcaaDo6d
import Derived.Test.YtciilbpchejpcaaDo6f
namespace Go.Proofs.Ytciilbpchejpcaa
set_option linter.unusedVariables false
set_option linter.unusedSimpArgs false
open Go.RowKit

set_option maxRecDepth 100000 in
set_option maxHeartbeats 4000000 in
theorem do6_get (p : Nat) (xs : List Int) (nx : Int) (hs : Bool) (st : Int) (wv : Value) (K G M : Int) (w : World) (H : Rg w p xs nx hs st) (hw : Stay w p none wv xs) (ys : List Int) (x : Int) (ok b' : Bool) (nx' st' : Int)
    (CR : ∀ W, Reads W wv xs → Calls Try.prog 81 #[.agg #[wv, .bool hs, .int .i64 nx, .int .i64 st]] W (RefGt wv xs ys x ok b' nx' st' W))
    (CG : ∀ W, Rg W p xs nx hs st → Calls Try.prog 48 #[.pointer (some ⟨p, 0, none⟩)] W (GPost p x ok ys nx' b' st' W))
    (hK0 : 0 ≤ K) (hK1 : K ≤ 255) (k0 : (K % 9 == 0) = false) (k1 : (K % 9 == 1) = false) (k2 : (K % 9 == 2) = false) (k3 : (K % 9 == 3) = false) (k4 : (K % 9 == 4) = false) (k7 : (K % 9 == 7) = false) (k8 : (K % 9 == 8) = false) :
    Calls Try.prog 41 #[.pointer (some ⟨p, 0, none⟩), .agg #[wv, .bool hs, .int .i64 nx, .int .i64 st], .agg #[.int .u8 K, .int .i64 G, .int .u16 M]] w (RDo p wv xs ys b' nx' st' w) := by
  obtain ⟨wa, wn, wc, rfl⟩ : ∃ a n c, wv = .slice a n c := by obtain ⟨a, c, h, _⟩ := hw.rd; exact ⟨a, _, c, h⟩
  have hb1 := ((((Below.refl w.heap.size w).alloc (Nat.le_refl _) (.cells #[.slice wa wn wc, .bool hs, .int .i64 nx, .int .i64 st] 54 (0, 0))).alloc (by simp) (.cells #[.int .u8 K, .int .i64 G, .int .u16 M] 56 (0, 0))).alloc (by simp; omega) (.cells #[.slice none 0 0, .bool false, .int .i64 0, .int .i64 0] 54 (0, 0)))
  have hplt := H.lt
  have HB1 := hid hb1
  have HG1 := hid (H.below hb1)
  have HW1 := hid (hw.below hb1)
  have HWL := hid (show ∀ (g o n c : Nat), Value.slice wa wn wc = .slice (some ⟨g, o, none⟩) n c → 0 < xs.length → g ≠ w.heap.size + 1 + 1 ∧ none ≠ some g from fun g o n c he h0 => by
    have := (show Reads w (.slice (some ⟨g, o, none⟩) n c) xs from he ▸ hw.rd).lt h0
    exact ⟨by omega, by simp⟩)
  have CRH := hid CR
  have CGH := hid CG
  clear H hw hb1 CR CG
  go_enter Try.func41, Try.ntmps41
  go_wp2_with fail
  refine (CRH.out _ HW1.out.rd).mono ?_
  rintro e w2 ⟨rv, rfl, hr2', hbel2⟩
  have hr2 := hr2' p (by simp; omega) HW1.out
  have HAP := hid (apt_of (B := w.heap.size) hr2' HW1.out.rd (by simp; omega))
  have hrq := (hr2' (w.heap.size + 1 + 1) (by simp) ⟨HW1.out.rd, HWL.out⟩).off
  obtain ⟨ra, rn, rc, rfl⟩ : ∃ a n c, rv = .slice a n c := by obtain ⟨a, c, h, _⟩ := hr2.rd; exact ⟨a, _, c, h⟩
  have hz2 := hbel2.size
  simp only [World.size_alloc] at hz2
  have HX3 := hid (b3_new w w2 K G M _ _ _ _ (.slice ra rn rc) (.bool b') (.int .i64 nx') (.int .i64 st') hbel2)
  have hn2 := (Below.refl w2.heap.size w2).alloc (Nat.le_refl _) (.cells #[.slice ra rn rc, .bool b', .int .i64 nx', .int .i64 st'] 54)
  have HG3 := hid ((HG1.out.below hbel2).below hn2)
  have HR3 := hid (hr2.below hn2)
  have HO3 := hid (OnlyO.of_below (p := p) (r := none) ((HB1.out.trans (hbel2.mono (by simp; omega))).trans (hn2.mono (by omega))))
  have hz3 : w.heap.size + 3 ≤ (w2.alloc (.cells #[.slice ra rn rc, .bool b', .int .i64 nx', .int .i64 st'] 54)).heap.size := by simp; omega
  have hV : w.heap.size ≤ w2.heap.size := by omega
  have HRQ := hid hrq
  clear hr2' hrq HWL
  clear HG1 hr2 hn2 hbel2 HW1 HB1 CRH
  go_wp2_with (refine wpList_store_new rfl 54 (.tmp 21) (.tmp 127) rfl _ #[.slice ra rn rc, .bool b', .int .i64 nx', .int .i64 st'] 54 rfl rfl (by kernel_rfl) (by rfl) (by simp [Value.oneCell']) ?_)
  obtain ⟨V, hVe⟩ : ∃ V, V = w2.heap.size := ⟨_, rfl⟩
  rw [← hVe] at HX3 hV ⊢
  clear hVe hz2
  generalize w2.alloc (.cells #[.slice ra rn rc, .bool b', .int .i64 nx', .int .i64 st'] 54) = w3 at *
  refine (CGH.out _ HG3.out).mono ?_
  rintro e w4 ⟨rfl, hg4, hx4⟩
  have HX4 := hid (HX3.out.kept hx4 hplt hV)
  obtain ⟨x0, v0, v1, v2, v3, s0, s1, s2, s3, f0, f1, f2, f3⟩ := HX4.out.all
  have hz4 := hx4.size
  have HR4 := hid (HR3.out.only hx4)
  have hx5 := HO3.out.trans hx4 (.inl rfl)
  have HX6 := hid (set4_only hx5 (n := w.heap.size + 1 + 1) (a := .slice ra rn rc) (b := .bool b') (c := .int .i64 nx') (d := .int .i64 st') (by omega))
  have HG6 := hid (hg4.kept (set4_at (n := w.heap.size + 1 + 1) (a := .slice ra rn rc) (b := .bool b') (c := .int .i64 nx') (d := .int .i64 st') (show p ≠ w.heap.size + 1 + 1 by omega)))
  have HR6 := hid (HR4.out.at (w' := (((w4.setCell ⟨w.heap.size + 1 + 1, 0, none⟩ (.slice ra rn rc)).setCell ⟨w.heap.size + 1 + 1, 1, none⟩ (.bool b')).setCell ⟨w.heap.size + 1 + 1, 2, none⟩ (.int .i64 nx')).setCell ⟨w.heap.size + 1 + 1, 3, none⟩ (.int .i64 st')) (fun g o n c he h0 => set4_at (HRQ.out g o n c he h0).1) (by simp [World.setCell]))
  have q1 : (ok == ok) = true := by simp
  have q2 : (x == x) = true := by simp
  clear hx5 hx4 hg4 HR4 HX4 HX3 HG3 HR3 HO3 CGH
  go_wp2
  refine bodyPost_ret (v := .tuple #[.agg #[.slice ra rn rc, .bool b', .int .i64 nx', .int .i64 st'], .bool true]) (by simp [results, Try.results41, go_sem, s0, s1, s2, s3]) rfl ⟨_, rfl, HG6.out, HR6.out, HX6.out, HAP.out⟩
end Go.Proofs.Ytciilbpchejpcaa
