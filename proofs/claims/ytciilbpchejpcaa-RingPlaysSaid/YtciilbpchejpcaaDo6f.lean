/- The contract of layer 6's 'do': an act, of both: a copy goes on; Get. -/
import Derived.Test.YtciilbpchejpcaaDo6
import Derived.Test.YtciilbpchejpcaaDo6e
namespace Go.Proofs.Ytciilbpchejpcaa
set_option linter.unusedVariables false
set_option linter.unusedSimpArgs false
open Go.RowKit

/-- The three boxes of 'do': the ring as a value, the act, the result. -/
structure B4 (W : World) (n : Nat) (K G M : Int) (u0 u1 u2 u3 : Value) : Prop where
  ring : W.heap[n]? = some (.cells #[u0, u1, u2, u3] 54 (0, 0))
  act : W.heap[n + 1]? = some (.cells #[.int .u8 K, .int .i64 G, .int .u16 M] 56 (0, 0))
  res : W.heap[n + 1 + 1]? = some (.cells #[.slice none 0 0, .bool false, .int .i64 0, .int .i64 0] 54 (0, 0))
theorem B4.kept {W W' : World} {n : Nat} {K G M : Int} {u0 u1 u2 u3 : Value} (h : B4 W n K G M u0 u1 u2 u3) (hk : ∀ k, n ≤ k → k < W.heap.size → k < n + 3 → W'.heap[k]? = W.heap[k]?) : B4 W' n K G M u0 u1 u2 u3 :=
  ⟨by rw [hk _ (by omega) (lt_of_blk h.ring) (by omega)]; exact h.ring, by rw [hk _ (by omega) (lt_of_blk h.act) (by omega)]; exact h.act, by rw [hk _ (by omega) (lt_of_blk h.res) (by omega)]; exact h.res⟩
theorem B4.all {W : World} {n : Nat} {K G M : Int} {u0 u1 u2 u3 : Value} (h : B4 W n K G M u0 u1 u2 u3) :
    W.cell? ⟨n + 1, 1, none⟩ = some (.int .i64 G) ∧ W.cell? ⟨n, 0, none⟩ = some u0 ∧ W.cell? ⟨n, 1, none⟩ = some u1 ∧ W.cell? ⟨n, 2, none⟩ = some u2 ∧ W.cell? ⟨n, 3, none⟩ = some u3 ∧
    W.cell? ⟨n + 1 + 1, 0, none⟩ = some (.slice none 0 0) ∧ W.cell? ⟨n + 1 + 1, 1, none⟩ = some (.bool false) ∧ W.cell? ⟨n + 1 + 1, 2, none⟩ = some (.int .i64 0) ∧ W.cell? ⟨n + 1 + 1, 3, none⟩ = some (.int .i64 0) ∧
    W.frozen? ⟨n + 1 + 1, 0, none⟩ = false ∧ W.frozen? ⟨n + 1 + 1, 1, none⟩ = false ∧ W.frozen? ⟨n + 1 + 1, 2, none⟩ = false ∧ W.frozen? ⟨n + 1 + 1, 3, none⟩ = false :=
  ⟨cell_at (i := 1) h.act rfl, cell_at (i := 0) h.ring rfl, cell_at (i := 1) h.ring rfl, cell_at (i := 2) h.ring rfl, cell_at (i := 3) h.ring rfl, cell_at (i := 0) h.res rfl, cell_at (i := 1) h.res rfl, cell_at (i := 2) h.res rfl, cell_at (i := 3) h.res rfl, free_at h.res, free_at h.res, free_at h.res, free_at h.res⟩
theorem b4_new (w : World) (K G M : Int) (u0 u1 u2 u3 : Value) : B4 (((w.alloc (.cells #[u0, u1, u2, u3] 54)).alloc (.cells #[.int .u8 K, .int .i64 G, .int .u16 M] 56)).alloc (.cells #[.slice none 0 0, .bool false, .int .i64 0, .int .i64 0] 54)) w.heap.size K G M u0 u1 u2 u3 := by
  refine ⟨?_, ?_, ?_⟩
  · rw [Below.heap_alloc _ _ _ (by simp; omega), Below.heap_alloc _ _ _ (by simp)]
    exact Deep.blk_alloc_new _ _
  · rw [Below.heap_alloc _ _ _ (by simp)]
    have := Deep.blk_alloc_new (w.alloc (.cells #[u0, u1, u2, u3] 54)) (.cells #[.int .u8 K, .int .i64 G, .int .u16 M] 56)
    simpa using this
  · have := Deep.blk_alloc_new ((w.alloc (.cells #[u0, u1, u2, u3] 54)).alloc (.cells #[.int .u8 K, .int .i64 G, .int .u16 M] 56)) (.cells #[.slice none 0 0, .bool false, .int .i64 0, .int .i64 0] 54)
    simpa using this

theorem OnlyO.far {p q : Nat} {a b c : World} (h : OnlyO p none a b) (k : OnlyO q none b c) (hq : a.heap.size ≤ q) : OnlyO p none a c :=
  ⟨k.os.trans h.os, k.tape.trans h.tape, k.output.trans h.output, Nat.le_trans h.size k.size, fun i hi h1 h2 => (k.block i (Nat.lt_of_lt_of_le hi h.size) (by omega) (by simp)).trans (h.block i hi h1 h2)⟩
/-- An act of a ring, whatever it tells: a ring stands there, and nothing else is turned. -/
def RAny (p : Nat) (w : World) (e : Ending) (w' : World) : Prop := ∃ v xs nx hs st, e = .returned v ∧ Rg w' p xs nx hs st ∧ 0 ≤ st ∧ st ≤ 4 ∧ OnlyO p none w w'
theorem RTold.any {p : Nat} {ys xs : List Int} {nx : Int} {hs : Bool} {st : Int} {w : World} {e : Ending} {w' : World} (h : RTold p ys xs nx hs st w e w') (h0 : 0 ≤ st) (h4 : st ≤ 4) : RAny p w e w' := by
  obtain ⟨v, he, _, hr, ho⟩ := h
  exact ⟨v, _, _, _, _, he, hr, h0, h4, ho⟩
theorem GPost.any {p : Nat} {g : Int} {b : Bool} {xs : List Int} {nx : Int} {hs : Bool} {st : Int} {w : World} {e : Ending} {w' : World} (h : GPost p g b xs nx hs st w e w') (h0 : 0 ≤ st) (h4 : st ≤ 4) : RAny p w e w' :=
  ⟨_, _, _, _, _, h.1, h.2.1, h0, h4, h.2.2⟩
theorem put_ex (p : Nat) (xs : List Int) (nx : Int) (hs : Bool) (st g : Int) (w : World) (H : Rg w p xs nx hs st) (h0 : 0 ≤ st) (h4 : st ≤ 4) : Calls Try.prog 38 #[.pointer (some ⟨p, 0, none⟩), .int .i64 g] w (RAny p w) :=
  (put_r p xs nx hs st g w H).mono fun _ _ h => h.any h0 h4
theorem get_ex (p : Nat) (xs : List Int) (nx : Int) (hs : Bool) (st : Int) (w : World) (H : Rg w p xs nx hs st) (h0 : 0 ≤ st) (h4 : st ≤ 4) : Calls Try.prog 48 #[.pointer (some ⟨p, 0, none⟩)] w (RAny p w) := by
  rcases xs with _ | ⟨x, xs⟩ <;> rcases hs with _ | _
  · exact (get_none p nx st w H).mono fun _ _ h => h.any h0 h4
  · exact (get_last p nx st w H).mono fun _ _ h => h.any (by omega) (by omega)
  · exact (get_row_no p x xs nx st w H).mono fun _ _ h => h.any (by omega) (by omega)
  · rcases Int.lt_or_le st 4 with h | h
    · exact (get_inherit p (x :: xs) nx st w H (by simp) h0 h).mono fun _ _ h => h.any (by omega) (by omega)
    · exact (get_row_yes p x xs nx st w H h).mono fun _ _ h => h.any (by omega) (by omega)
theorem steal_ex (p : Nat) (xs : List Int) (nx : Int) (hs : Bool) (st : Int) (w : World) (H : Rg w p xs nx hs st) (h0 : 0 ≤ st) (h4 : st ≤ 4) : Calls Try.prog 47 #[.pointer (some ⟨p, 0, none⟩)] w (RAny p w) := by
  rcases xs with _ | ⟨x, xs⟩
  · rcases hs with _ | _
    · exact (steal_none p nx st w H).mono fun _ _ h => h.any h0 h4
    · exact (steal_next p nx st w H).mono fun _ _ h => h.any (by omega) (by omega)
  · exact (steal_row p _ nx hs st w H (by simp)).mono fun _ _ h => h.any h0 h4

set_option maxRecDepth 100000 in
set_option maxHeartbeats 4000000 in
theorem do6_copy (p : Nat) (xs : List Int) (nx : Int) (hs : Bool) (st : Int) (wv : Value) (K G M : Int) (w : World) (H : Rg w p xs nx hs st) (hw : Stay w p none wv xs) (h0 : 0 ≤ st) (h4 : st ≤ 4)
    (hK0 : 0 ≤ K) (hK1 : K ≤ 255) (k0 : (K % 9 == 0) = false) (k1 : (K % 9 == 1) = false) (k2 : (K % 9 == 2) = false) (k3 : (K % 9 == 3) = false) (k4 : (K % 9 == 4) = false) (k7 : (K % 9 == 7) = false) (k8 : (K % 9 == 8) = true) :
    Calls Try.prog 41 #[.pointer (some ⟨p, 0, none⟩), .agg #[wv, .bool hs, .int .i64 nx, .int .i64 st], .agg #[.int .u8 K, .int .i64 G, .int .u16 M]] w (RDo p wv xs xs hs nx st w) := by
  obtain ⟨wa, wn, wc, rfl⟩ : ∃ a n c, wv = .slice a n c := by obtain ⟨a, c, h, _⟩ := hw.rd; exact ⟨a, _, c, h⟩
  have hb1 := ((((Below.refl w.heap.size w).alloc (Nat.le_refl _) (.cells #[.slice wa wn wc, .bool hs, .int .i64 nx, .int .i64 st] 54 (0, 0))).alloc (by simp) (.cells #[.int .u8 K, .int .i64 G, .int .u16 M] 56 (0, 0))).alloc (by simp; omega) (.cells #[.slice none 0 0, .bool false, .int .i64 0, .int .i64 0] 54 (0, 0)))
  have hplt := H.lt
  have HB1 := hid hb1
  have HG1 := hid (H.below hb1)
  have HW1 := hid (hw.below hb1)
  have HWL := hid (show ∀ (g o n c : Nat), Value.slice wa wn wc = .slice (some ⟨g, o, none⟩) n c → 0 < xs.length → g < w.heap.size from fun g o n c he h0 => by
    exact (show Reads w (.slice (some ⟨g, o, none⟩) n c) xs from he ▸ hw.rd).lt h0)
  have HX1 := hid (b4_new w K G M (.slice wa wn wc) (.bool hs) (.int .i64 nx) (.int .i64 st))
  clear H hw hb1
  go_enter Try.func41, Try.ntmps41
  go_wp2_with fail
  refine (copy_r p xs nx hs st _ HG1.out).mono ?_
  rintro e wA ⟨q, rfl, hq, hqz, hbA⟩
  simp only [World.size_alloc] at hqz
  have hzA := hbA.size
  simp only [World.size_alloc] at hzA
  have HXA := hid (HX1.out.kept (W' := wA) fun k h1 h2 h3 => hbA.block k h2)
  obtain ⟨x0, z0, z1, z2, z3, s0, s1, s2, s3, f0, f1, f2, f3⟩ := HXA.out.all
  have HGA := hid (HG1.out.below hbA)
  have HWA := hid (HW1.out.below hbA)
  have HOA := hid (OnlyO.of_below (p := p) (r := none) (HB1.out.trans (hbA.mono (by simp; omega))))
  have HQA := hid hq
  clear hq hbA HG1 HW1 HB1 HX1
  have hpq : p ≠ q := by omega
  go_wp2_with fail
  refine (put_ex q _ _ _ _ _ _ HQA.out h0 h4).mono ?_
  rintro e wB ⟨vB, xB, nB, hB, sB, rfl, hqB, h0B, h4B, hoB⟩
  have hzB := hoB.size
  have HXB := hid (HXA.out.kept (W' := wB) fun k h1 h2 h3 => hoB.block k h2 (by omega) (by simp))
  have HGB := hid (HGA.out.only hoB hpq (by simp))
  have HWB := hid (HWA.out.at (w' := wB) (fun g o n c he hl => hoB.block g (by have := HWL.out g o n c he hl; omega) (by have := HWL.out g o n c he hl; omega) (by simp)) hoB.size)
  have HOB := hid (HOA.out.far hoB (by omega))
  have HQB := hid hqB
  clear hqB hoB HXA HGA HWA HOA HQA x0 z0 z1 z2 z3 s0 s1 s2 s3 f0 f1 f2 f3
  obtain ⟨x0, z0, z1, z2, z3, s0, s1, s2, s3, f0, f1, f2, f3⟩ := HXB.out.all
  go_wp2_with fail
  refine (get_ex q _ _ _ _ _ HQB.out h0B h4B).mono ?_
  rintro e wC ⟨vC, xC, nC, hC, sC, rfl, hqC, h0C, h4C, hoC⟩
  have hzC := hoC.size
  have HXC := hid (HXB.out.kept (W' := wC) fun k h1 h2 h3 => hoC.block k h2 (by omega) (by simp))
  have HGC := hid (HGB.out.only hoC hpq (by simp))
  have HWC := hid (HWB.out.at (w' := wC) (fun g o n c he hl => hoC.block g (by have := HWL.out g o n c he hl; omega) (by have := HWL.out g o n c he hl; omega) (by simp)) hoC.size)
  have HOC := hid (HOB.out.far hoC (by omega))
  have HQC := hid hqC
  clear hqC hoC HXB HGB HWB HOB HQB x0 z0 z1 z2 z3 s0 s1 s2 s3 f0 f1 f2 f3
  obtain ⟨x0, z0, z1, z2, z3, s0, s1, s2, s3, f0, f1, f2, f3⟩ := HXC.out.all
  go_wp2_with fail
  refine (steal_ex q _ _ _ _ _ HQC.out h0C h4C).mono ?_
  rintro e wD ⟨vD, xD, nD, hD, sD, rfl, hqD, h0D, h4D, hoD⟩
  have hzD := hoD.size
  have HXD := hid (HXC.out.kept (W' := wD) fun k h1 h2 h3 => hoD.block k h2 (by omega) (by simp))
  have HGD := hid (HGC.out.only hoD hpq (by simp))
  have HWD := hid (HWC.out.at (w' := wD) (fun g o n c he hl => hoD.block g (by have := HWL.out g o n c he hl; omega) (by have := HWL.out g o n c he hl; omega) (by simp)) hoD.size)
  have HOD := hid (HOC.out.far hoD (by omega))
  have HQD := hid hqD
  clear hqD hoD HXC HGC HWC HOC HQC x0 z0 z1 z2 z3 s0 s1 s2 s3 f0 f1 f2 f3
  obtain ⟨x0, z0, z1, z2, z3, s0, s1, s2, s3, f0, f1, f2, f3⟩ := HXD.out.all
  have HX6 := hid (set4_only HOD.out (n := w.heap.size + 1 + 1) (a := .slice wa wn wc) (b := .bool hs) (c := .int .i64 nx) (d := .int .i64 st) (by omega))
  have HG6 := hid (HGD.out.kept (set4_at (n := w.heap.size + 1 + 1) (a := .slice wa wn wc) (b := .bool hs) (c := .int .i64 nx) (d := .int .i64 st) (show p ≠ w.heap.size + 1 + 1 by omega)))
  have HR6 := hid (HWD.out.at (w' := (((wD.setCell ⟨w.heap.size + 1 + 1, 0, none⟩ (.slice wa wn wc)).setCell ⟨w.heap.size + 1 + 1, 1, none⟩ (.bool hs)).setCell ⟨w.heap.size + 1 + 1, 2, none⟩ (.int .i64 nx)).setCell ⟨w.heap.size + 1 + 1, 3, none⟩ (.int .i64 st)) (fun g o n c he hl => set4_at (by have := HWL.out g o n c he hl; omega)) (by simp [World.setCell]))
  clear HXD HGD HWD HOD HQD
  go_wp2
  refine bodyPost_ret (v := .tuple #[.agg #[.slice wa wn wc, .bool hs, .int .i64 nx, .int .i64 st], .bool true]) (by simp [results, Try.results41, go_sem, s0, s1, s2, s3]) rfl ⟨_, rfl, HG6.out, HR6.out, HX6.out, fun q hq ho => ho⟩
end Go.Proofs.Ytciilbpchejpcaa
