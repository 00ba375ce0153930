/- The contract of layer 6's 'do': an act, of both: Put. -/
import Derived.Test.YtciilbpchejpcaaRefF
import Derived.Test.YtciilbpchejpcaaBig
import Derived.Deep.RegionLaw
import Derived.Deep.RegionHeld3
namespace Go.Proofs.Ytciilbpchejpcaa
set_option linter.unusedVariables false
set_option linter.unusedSimpArgs false
open Go.RowKit

/-- A block apart from what the first slice reads is apart from what the second one reads, if it was there before block B. -/
def Apt (B : Nat) (v : Value) (xs : List Int) (v' : Value) (ys : List Int) : Prop :=
  ∀ q, q < B → (∀ g o n c, v = .slice (some ⟨g, o, none⟩) n c → 0 < xs.length → g ≠ q) → ∀ g o n c, v' = .slice (some ⟨g, o, none⟩) n c → 0 < ys.length → g ≠ q
/-- What 'do' hands back: true; the ring and the value both have the new row. -/
def RDo (p : Nat) (v0 : Value) (xs ys : List Int) (b : Bool) (nx st : Int) (w : World) (e : Ending) (w' : World) : Prop :=
  ∃ rv, e = .returned (.tuple #[.agg #[rv, .bool b, .int .i64 nx, .int .i64 st], .bool true]) ∧ Rg w' p ys nx b st ∧ Stay w' p none rv ys ∧ OnlyO p none w w' ∧ Apt w.heap.size v0 xs rv ys
theorem apt_of {B : Nat} {W w2 : World} {v0 rv : Value} {xs ys : List Int} (h : ∀ q, q < W.heap.size → Stay W q none v0 xs → Stay w2 q none rv ys) (hr : Reads W v0 xs) (hB : B ≤ W.heap.size) : Apt B v0 xs rv ys :=
  fun q hq ho g o n c he h0 => ((h q (by omega) ⟨hr, fun g o n c he h0 => ⟨ho g o n c he h0, by simp⟩⟩).off g o n c he h0).1
theorem Rg.drew {w : World} {p : Nat} {xs : List Int} {nx : Int} {hs : Bool} {st : Int} (H : Rg w p xs nx hs st) : Rg w.drew p xs nx hs st := H.quiet ⟨1, rfl⟩
/-- The three blocks of 'do' that are looked at: the act, the result, and the new value. -/
structure B3 (W : World) (n V : Nat) (K G M : Int) (v0 v1 v2 v3 : Value) : Prop where
  act : W.heap[n + 1]? = some (.cells #[.int .u8 K, .int .i64 G, .int .u16 M] 56 (0, 0))
  res : W.heap[n + 1 + 1]? = some (.cells #[.slice none 0 0, .bool false, .int .i64 0, .int .i64 0] 54 (0, 0))
  new : W.heap[V]? = some (.cells #[v0, v1, v2, v3] 54 (0, 0))
theorem lt_of_blk {W : World} {k : Nat} {o : Obj} (h : W.heap[k]? = some o) : k < W.heap.size := by
  rw [Array.getElem?_eq_some_iff] at h; exact h.1
theorem B3.kept {W W' : World} {n V : Nat} {K G M : Int} {v0 v1 v2 v3 : Value} (h : B3 W n V K G M v0 v1 v2 v3) {p : Nat} (ho : OnlyO p none W W') (hp : p < n) (hV : n ≤ V) : B3 W' n V K G M v0 v1 v2 v3 :=
  ⟨by rw [ho.block _ (lt_of_blk h.act) (by omega) (by simp)]; exact h.act, by rw [ho.block _ (lt_of_blk h.res) (by omega) (by simp)]; exact h.res, by rw [ho.block _ (lt_of_blk h.new) (by omega) (by simp)]; exact h.new⟩
theorem B3.all {W : World} {n V : Nat} {K G M : Int} {v0 v1 v2 v3 : Value} (h : B3 W n V K G M v0 v1 v2 v3) :
    W.cell? ⟨n + 1, 1, none⟩ = some (.int .i64 G) ∧ W.cell? ⟨V, 0, none⟩ = some v0 ∧ W.cell? ⟨V, 1, none⟩ = some v1 ∧ W.cell? ⟨V, 2, none⟩ = some v2 ∧ W.cell? ⟨V, 3, none⟩ = some v3 ∧
    W.cell? ⟨n + 1 + 1, 0, none⟩ = some (.slice none 0 0) ∧ W.cell? ⟨n + 1 + 1, 1, none⟩ = some (.bool false) ∧ W.cell? ⟨n + 1 + 1, 2, none⟩ = some (.int .i64 0) ∧ W.cell? ⟨n + 1 + 1, 3, none⟩ = some (.int .i64 0) ∧
    W.frozen? ⟨n + 1 + 1, 0, none⟩ = false ∧ W.frozen? ⟨n + 1 + 1, 1, none⟩ = false ∧ W.frozen? ⟨n + 1 + 1, 2, none⟩ = false ∧ W.frozen? ⟨n + 1 + 1, 3, none⟩ = false :=
  ⟨cell_at (i := 1) h.act rfl, cell_at (i := 0) h.new rfl, cell_at (i := 1) h.new rfl, cell_at (i := 2) h.new rfl, cell_at (i := 3) h.new rfl, cell_at (i := 0) h.res rfl, cell_at (i := 1) h.res rfl, cell_at (i := 2) h.res rfl, cell_at (i := 3) h.res rfl, free_at h.res, free_at h.res, free_at h.res, free_at h.res⟩
theorem b3_new (w w2 : World) (K G M : Int) (u0 u1 u2 u3 v0 v1 v2 v3 : Value) (hb : Below (((w.alloc (.cells #[u0, u1, u2, u3] 54)).alloc (.cells #[.int .u8 K, .int .i64 G, .int .u16 M] 56)).alloc (.cells #[.slice none 0 0, .bool false, .int .i64 0, .int .i64 0] 54)).heap.size (((w.alloc (.cells #[u0, u1, u2, u3] 54)).alloc (.cells #[.int .u8 K, .int .i64 G, .int .u16 M] 56)).alloc (.cells #[.slice none 0 0, .bool false, .int .i64 0, .int .i64 0] 54)) w2) :
    B3 (w2.alloc (.cells #[v0, v1, v2, v3] 54)) w.heap.size w2.heap.size K G M v0 v1 v2 v3 := by
  have hz := hb.size
  simp only [World.size_alloc] at hz
  refine ⟨?_, ?_, Deep.blk_alloc_new _ _⟩
  · rw [Below.heap_alloc _ _ _ (by omega), hb.block _ (by simp), Below.heap_alloc _ _ _ (by simp)]
    have := Deep.blk_alloc_new (w.alloc (.cells #[u0, u1, u2, u3] 54)) (.cells #[.int .u8 K, .int .i64 G, .int .u16 M] 56)
    simpa using this
  · rw [Below.heap_alloc _ _ _ (by omega), hb.block _ (by simp)]
    have := Deep.blk_alloc_new ((w.alloc (.cells #[u0, u1, u2, u3] 54)).alloc (.cells #[.int .u8 K, .int .i64 G, .int .u16 M] 56)) (.cells #[.slice none 0 0, .bool false, .int .i64 0, .int .i64 0] 54)
    simpa using this
theorem b1_new (w w2 : World) (K G M : Int) (u0 u1 u2 u3 : Value) (hb : Below (((w.alloc (.cells #[u0, u1, u2, u3] 54)).alloc (.cells #[.int .u8 K, .int .i64 G, .int .u16 M] 56)).alloc (.cells #[.slice none 0 0, .bool false, .int .i64 0, .int .i64 0] 54)).heap.size (((w.alloc (.cells #[u0, u1, u2, u3] 54)).alloc (.cells #[.int .u8 K, .int .i64 G, .int .u16 M] 56)).alloc (.cells #[.slice none 0 0, .bool false, .int .i64 0, .int .i64 0] 54)) w2) :
    w2.cell? ⟨w.heap.size, 0, none⟩ = some u0 ∧ w2.cell? ⟨w.heap.size, 1, none⟩ = some u1 ∧ w2.cell? ⟨w.heap.size, 2, none⟩ = some u2 ∧ w2.cell? ⟨w.heap.size, 3, none⟩ = some u3 := by
  have h : w2.heap[w.heap.size]? = some (.cells #[u0, u1, u2, u3] 54 (0, 0)) := by
    rw [hb.block _ (by simp; omega), Below.heap_alloc _ _ _ (by simp; omega), Below.heap_alloc _ _ _ (by simp)]
    exact Deep.blk_alloc_new _ _
  exact ⟨cell_at (i := 0) h rfl, cell_at (i := 1) h rfl, cell_at (i := 2) h rfl, cell_at (i := 3) h rfl⟩
theorem set4_only {p : Nat} {w w5 : World} {n : Nat} {a b c d : Value} (h : OnlyO p none w w5) (hn : w.heap.size ≤ n) : OnlyO p none w ((((w5.setCell ⟨n, 0, none⟩ a).setCell ⟨n, 1, none⟩ b).setCell ⟨n, 2, none⟩ c).setCell ⟨n, 3, none⟩ d) :=
  h.beyond (((((Below.refl w.heap.size w5).setCell hn _).setCell hn _).setCell hn _).setCell hn _)
theorem set4_at {w5 : World} {n k : Nat} {a b c d : Value} (h : k ≠ n) : ((((w5.setCell ⟨n, 0, none⟩ a).setCell ⟨n, 1, none⟩ b).setCell ⟨n, 2, none⟩ c).setCell ⟨n, 3, none⟩ d).heap[k]? = w5.heap[k]? := by
  rw [Below.heap_setCell _ _ _ _ h, Below.heap_setCell _ _ _ _ h, Below.heap_setCell _ _ _ _ h, Below.heap_setCell _ _ _ _ h]
theorem Stay.at {w w' : World} {p : Nat} {v : Value} {xs : List Int} (h : Stay w p none v xs) (hp : ∀ g o n c, v = .slice (some ⟨g, o, none⟩) n c → 0 < xs.length → w'.heap[g]? = w.heap[g]?) (hz : w.heap.size ≤ w'.heap.size) : Stay w' p none v xs := by
  refine ⟨?_, h.off⟩
  obtain ⟨ad, c, he, h1, h2⟩ := h.rd
  refine ⟨ad, c, he, h1, fun h0 => ?_⟩
  obtain ⟨g, o, h3, h4, h5⟩ := h2 h0
  refine ⟨g, o, h3, by omega, fun j hj => ?_⟩
  have := h5 j hj
  subst h3
  simp only [World.cell?, hp g o _ _ he h0] at this ⊢
  exact this

set_option maxRecDepth 100000 in
set_option maxHeartbeats 4000000 in
theorem do6_put0 (p : Nat) (xs : List Int) (nx : Int) (hs : Bool) (st : Int) (wv : Value) (K G M : Int) (w : World) (H : Rg w p xs nx hs st) (hw : Stay w p none wv xs) (ys ts : List Int) (b' : Bool) (nx' st' : Int)
    (CR : ∀ W, Reads W wv xs → Calls Try.prog 76 #[.agg #[wv, .bool hs, .int .i64 nx, .int .i64 st], .int .i64 G] W (RefSt wv xs ys ts b' nx' st' W))
    (CG : ∀ W, Rg W p xs nx hs st → Calls Try.prog 38 #[.pointer (some ⟨p, 0, none⟩), .int .i64 G] W (RTold p ts ys nx' b' st' W))
    (htl : ts.length ≤ 1000) (hK0 : 0 ≤ K) (hK1 : K ≤ 255) (k0 : (K % 9 == 0) = true) :
    Calls Try.prog 41 #[.pointer (some ⟨p, 0, none⟩), .agg #[wv, .bool hs, .int .i64 nx, .int .i64 st], .agg #[.int .u8 K, .int .i64 G, .int .u16 M]] w (RDo p wv xs ys b' nx' st' w) := by
  obtain ⟨wa, wn, wc, rfl⟩ : ∃ a n c, wv = .slice a n c := by obtain ⟨a, c, h, _⟩ := hw.rd; exact ⟨a, _, c, h⟩
  obtain ⟨o1, ho1⟩ : ∃ o, o = Obj.cells #[.slice wa wn wc, .bool hs, .int .i64 nx, .int .i64 st] 54 (0, 0) := ⟨_, rfl⟩
  obtain ⟨o2, ho2⟩ : ∃ o, o = Obj.cells #[.int .u8 K, .int .i64 G, .int .u16 M] 56 (0, 0) := ⟨_, rfl⟩
  obtain ⟨o3, ho3⟩ : ∃ o, o = Obj.cells #[.slice none 0 0, .bool false, .int .i64 0, .int .i64 0] 54 (0, 0) := ⟨_, rfl⟩
  have hb1 := ((((Below.refl w.heap.size w).alloc (Nat.le_refl _) o1).alloc (by simp) o2).alloc (by simp; omega) o3)
  have hplt := H.lt
  have HB1 := hid hb1
  have HG1 := hid (H.below hb1)
  have HW1 := hid (hw.below hb1)
  have HWL := hid (show ∀ (g o n c : Nat), Value.slice wa wn wc = .slice (some ⟨g, o, none⟩) n c → 0 < xs.length → g ≠ w.heap.size + 1 + 1 ∧ none ≠ some g from fun g o n c he h0 => by
    have := (show Reads w (.slice (some ⟨g, o, none⟩) n c) xs from he ▸ hw.rd).lt h0
    exact ⟨by omega, by simp⟩)
  subst ho1 ho2 ho3
  have CRH := hid CR
  have CGH := hid CG
  have HTL := hid htl
  clear H hw hb1 CR CG htl
  go_enter Try.func41, Try.ntmps41
  go_wp2_with fail
  refine (CRH.out _ HW1.out.rd).mono ?_
  rintro e w2 ⟨rv, tv, rfl, hr2', ht2', hbel2⟩
  have hr2 := hr2' p (by simp; omega) HW1.out
  have ht2 := ht2' p (by simp; omega)
  have HAP := hid (apt_of (B := w.heap.size) hr2' HW1.out.rd (by simp; omega))
  have hrq := (hr2' (w.heap.size + 1 + 1) (by simp) ⟨HW1.out.rd, HWL.out⟩).off
  obtain ⟨ra, rn, rc, rfl⟩ : ∃ a n c, rv = .slice a n c := by obtain ⟨a, c, h, _⟩ := hr2.rd; exact ⟨a, _, c, h⟩
  obtain ⟨ta, tn, tc, rfl⟩ : ∃ a n c, tv = .slice a n c := by obtain ⟨a, c, h, _⟩ := ht2.rd; exact ⟨a, _, c, h⟩
  have hz2 := hbel2.size
  simp only [World.size_alloc] at hz2
  have HX3 := hid (b3_new w w2 K G M _ _ _ _ (.slice ra rn rc) (.bool b') (.int .i64 nx') (.int .i64 st') hbel2)
  have hn2 := (Below.refl w2.heap.size w2).alloc (Nat.le_refl _) (.cells #[.slice ra rn rc, .bool b', .int .i64 nx', .int .i64 st'] 54)
  have HG3 := hid ((HG1.out.below hbel2).below hn2)
  have HR3 := hid (hr2.below hn2)
  have HT3 := hid (ht2.below hn2)
  have HO3 := hid (OnlyO.of_below (p := p) (r := none) ((HB1.out.trans (hbel2.mono (by simp; omega))).trans (hn2.mono (by omega))))
  have hz3 : w.heap.size + 3 ≤ (w2.alloc (.cells #[.slice ra rn rc, .bool b', .int .i64 nx', .int .i64 st'] 54)).heap.size := by simp; omega
  have hV : w.heap.size ≤ w2.heap.size := by omega
  have HRQ := hid hrq
  clear hr2' ht2' hrq HWL
  clear HG1 hr2 ht2 hn2 hbel2 HW1 HB1 CRH
  go_wp2_with (refine wpList_store_new rfl 54 (.tmp 8) (.tmp 37) rfl _ #[.slice ra rn rc, .bool b', .int .i64 nx', .int .i64 st'] 54 rfl rfl (by kernel_rfl) (by rfl) (by simp [Value.oneCell']) ?_)
  all_goals
    obtain ⟨V, hVe⟩ : ∃ V, V = w2.heap.size := ⟨_, rfl⟩
    rw [← hVe] at HX3 hV ⊢
    clear hVe hz2
    generalize w2.alloc (.cells #[.slice ra rn rc, .bool b', .int .i64 nx', .int .i64 st'] 54) = w3 at *
    obtain ⟨x0, v0, v1, v2, v3, s0, s1, s2, s3, f0, f1, f2, f3⟩ := HX3.out.all
    skip
    go_region_with (first
      | (go_at_call 25; refine (same_any _ _ ts ts true (by simp) _ HO4.out.reads HT4.out.rd (by have := HTL.out; omega) (by have := HTL.out; omega)).mono ?_; rintro e w5 ⟨rfl, hq5⟩; have HX5 := hid (HX4.out.kept (OnlyO.quiet hq5) hplt hV); obtain ⟨p0, r0, r1, r2, r3, t0, t1, t2, t3, g0, g1, g2, g3⟩ := HX5.out.all; have HQ5 := hid hq5; clear hq5)
      | (go_at_call 38; refine (CGH.out _ HG3.out.drew).mono ?_; rintro e w4 ⟨gv, rfl, ho4, hg4, hx4⟩; obtain ⟨ga, gn, gc, rfl⟩ := ho4.slice3; have hx34 := (OnlyO.quiet (p := p) (r := none) (w := w3) ⟨1, rfl⟩).trans hx4 (.inl rfl); have HX4 := hid (HX3.out.kept hx34 hplt hV); obtain ⟨p0, r0, r1, r2, r3, t0, t1, t2, t3, g0, g1, g2, g3⟩ := HX4.out.all; have HO4 := hid ho4; have HG4 := hid hg4; have HT4 := hid (HT3.out.only hx34); have HR4 := hid (HR3.out.only hx34); have HX34 := hid hx34; clear ho4 hg4 hx4 hx34))
    all_goals
      have hx5 : OnlyO p none w w5 := (HO3.out.trans HX34.out (.inl rfl)).trans (OnlyO.quiet HQ5.out) (.inl rfl)
      have hx6 : OnlyO p none w ((((w5.setCell ⟨w.heap.size + 1 + 1, 0, none⟩ (.slice ra rn rc)).setCell ⟨w.heap.size + 1 + 1, 1, none⟩ (.bool b')).setCell ⟨w.heap.size + 1 + 1, 2, none⟩ (.int .i64 nx')).setCell ⟨w.heap.size + 1 + 1, 3, none⟩ (.int .i64 st')) := set4_only hx5 (by omega)
      have hg6 : Rg ((((w5.setCell ⟨w.heap.size + 1 + 1, 0, none⟩ (.slice ra rn rc)).setCell ⟨w.heap.size + 1 + 1, 1, none⟩ (.bool b')).setCell ⟨w.heap.size + 1 + 1, 2, none⟩ (.int .i64 nx')).setCell ⟨w.heap.size + 1 + 1, 3, none⟩ (.int .i64 st')) p ys nx' b' st' := (HG4.out.quiet HQ5.out).kept (set4_at (by omega))
      have hr6 : Stay ((((w5.setCell ⟨w.heap.size + 1 + 1, 0, none⟩ (.slice ra rn rc)).setCell ⟨w.heap.size + 1 + 1, 1, none⟩ (.bool b')).setCell ⟨w.heap.size + 1 + 1, 2, none⟩ (.int .i64 nx')).setCell ⟨w.heap.size + 1 + 1, 3, none⟩ (.int .i64 st')) p none (.slice ra rn rc) ys := (HR4.out.only (OnlyO.quiet HQ5.out)).at (fun g o n c he h0 => set4_at (HRQ.out g o n c he h0).1) (by simp [World.setCell])
      have HX6 := hid hx6
      have HG6 := hid hg6
      have HR6 := hid hr6
      clear hx5 hx6 hg6 hr6 HX34 HG4 HR4 HT4 HO4 HQ5 HX5
      go_wp2
      refine bodyPost_ret (v := .tuple #[.agg #[.slice ra rn rc, .bool b', .int .i64 nx', .int .i64 st'], .bool true]) (by simp [results, Try.results41, go_sem, t0, t1, t2, t3]) rfl ⟨_, rfl, HG6.out, HR6.out, HX6.out, HAP.out⟩

set_option maxRecDepth 100000 in
set_option maxHeartbeats 4000000 in
theorem do6_put1 (p : Nat) (xs : List Int) (nx : Int) (hs : Bool) (st : Int) (wv : Value) (K G M : Int) (w : World) (H : Rg w p xs nx hs st) (hw : Stay w p none wv xs) (ys ts : List Int) (b' : Bool) (nx' st' : Int)
    (CR : ∀ W, Reads W wv xs → Calls Try.prog 76 #[.agg #[wv, .bool hs, .int .i64 nx, .int .i64 st], .int .i64 G] W (RefSt wv xs ys ts b' nx' st' W))
    (CG : ∀ W, Rg W p xs nx hs st → Calls Try.prog 38 #[.pointer (some ⟨p, 0, none⟩), .int .i64 G] W (RTold p ts ys nx' b' st' W))
    (htl : ts.length ≤ 1000) (hK0 : 0 ≤ K) (hK1 : K ≤ 255) (k0 : (K % 9 == 0) = false) (k1 : (K % 9 == 1) = true) :
    Calls Try.prog 41 #[.pointer (some ⟨p, 0, none⟩), .agg #[wv, .bool hs, .int .i64 nx, .int .i64 st], .agg #[.int .u8 K, .int .i64 G, .int .u16 M]] w (RDo p wv xs ys b' nx' st' w) := by
  obtain ⟨wa, wn, wc, rfl⟩ : ∃ a n c, wv = .slice a n c := by obtain ⟨a, c, h, _⟩ := hw.rd; exact ⟨a, _, c, h⟩
  obtain ⟨o1, ho1⟩ : ∃ o, o = Obj.cells #[.slice wa wn wc, .bool hs, .int .i64 nx, .int .i64 st] 54 (0, 0) := ⟨_, rfl⟩
  obtain ⟨o2, ho2⟩ : ∃ o, o = Obj.cells #[.int .u8 K, .int .i64 G, .int .u16 M] 56 (0, 0) := ⟨_, rfl⟩
  obtain ⟨o3, ho3⟩ : ∃ o, o = Obj.cells #[.slice none 0 0, .bool false, .int .i64 0, .int .i64 0] 54 (0, 0) := ⟨_, rfl⟩
  have hb1 := ((((Below.refl w.heap.size w).alloc (Nat.le_refl _) o1).alloc (by simp) o2).alloc (by simp; omega) o3)
  have hplt := H.lt
  have HB1 := hid hb1
  have HG1 := hid (H.below hb1)
  have HW1 := hid (hw.below hb1)
  have HWL := hid (show ∀ (g o n c : Nat), Value.slice wa wn wc = .slice (some ⟨g, o, none⟩) n c → 0 < xs.length → g ≠ w.heap.size + 1 + 1 ∧ none ≠ some g from fun g o n c he h0 => by
    have := (show Reads w (.slice (some ⟨g, o, none⟩) n c) xs from he ▸ hw.rd).lt h0
    exact ⟨by omega, by simp⟩)
  subst ho1 ho2 ho3
  have CRH := hid CR
  have CGH := hid CG
  have HTL := hid htl
  clear H hw hb1 CR CG htl
  go_enter Try.func41, Try.ntmps41
  go_wp2_with fail
  refine (CRH.out _ HW1.out.rd).mono ?_
  rintro e w2 ⟨rv, tv, rfl, hr2', ht2', hbel2⟩
  have hr2 := hr2' p (by simp; omega) HW1.out
  have ht2 := ht2' p (by simp; omega)
  have HAP := hid (apt_of (B := w.heap.size) hr2' HW1.out.rd (by simp; omega))
  have hrq := (hr2' (w.heap.size + 1 + 1) (by simp) ⟨HW1.out.rd, HWL.out⟩).off
  obtain ⟨ra, rn, rc, rfl⟩ : ∃ a n c, rv = .slice a n c := by obtain ⟨a, c, h, _⟩ := hr2.rd; exact ⟨a, _, c, h⟩
  obtain ⟨ta, tn, tc, rfl⟩ : ∃ a n c, tv = .slice a n c := by obtain ⟨a, c, h, _⟩ := ht2.rd; exact ⟨a, _, c, h⟩
  have hz2 := hbel2.size
  simp only [World.size_alloc] at hz2
  have HX3 := hid (b3_new w w2 K G M _ _ _ _ (.slice ra rn rc) (.bool b') (.int .i64 nx') (.int .i64 st') hbel2)
  have hn2 := (Below.refl w2.heap.size w2).alloc (Nat.le_refl _) (.cells #[.slice ra rn rc, .bool b', .int .i64 nx', .int .i64 st'] 54)
  have HG3 := hid ((HG1.out.below hbel2).below hn2)
  have HR3 := hid (hr2.below hn2)
  have HT3 := hid (ht2.below hn2)
  have HO3 := hid (OnlyO.of_below (p := p) (r := none) ((HB1.out.trans (hbel2.mono (by simp; omega))).trans (hn2.mono (by omega))))
  have hz3 : w.heap.size + 3 ≤ (w2.alloc (.cells #[.slice ra rn rc, .bool b', .int .i64 nx', .int .i64 st'] 54)).heap.size := by simp; omega
  have hV : w.heap.size ≤ w2.heap.size := by omega
  have HRQ := hid hrq
  clear hr2' ht2' hrq HWL
  clear HG1 hr2 ht2 hn2 hbel2 HW1 HB1 CRH
  go_wp2_with (refine wpList_store_new rfl 54 (.tmp 8) (.tmp 37) rfl _ #[.slice ra rn rc, .bool b', .int .i64 nx', .int .i64 st'] 54 rfl rfl (by kernel_rfl) (by rfl) (by simp [Value.oneCell']) ?_)
  all_goals
    obtain ⟨V, hVe⟩ : ∃ V, V = w2.heap.size := ⟨_, rfl⟩
    rw [← hVe] at HX3 hV ⊢
    clear hVe hz2
    generalize w2.alloc (.cells #[.slice ra rn rc, .bool b', .int .i64 nx', .int .i64 st'] 54) = w3 at *
    obtain ⟨x0, v0, v1, v2, v3, s0, s1, s2, s3, f0, f1, f2, f3⟩ := HX3.out.all
    skip
    go_region_with (first
      | (go_at_call 25; refine (same_any _ _ ts ts true (by simp) _ HO4.out.reads HT4.out.rd (by have := HTL.out; omega) (by have := HTL.out; omega)).mono ?_; rintro e w5 ⟨rfl, hq5⟩; have HX5 := hid (HX4.out.kept (OnlyO.quiet hq5) hplt hV); obtain ⟨p0, r0, r1, r2, r3, t0, t1, t2, t3, g0, g1, g2, g3⟩ := HX5.out.all; have HQ5 := hid hq5; clear hq5)
      | (go_at_call 38; refine (CGH.out _ HG3.out.drew).mono ?_; rintro e w4 ⟨gv, rfl, ho4, hg4, hx4⟩; obtain ⟨ga, gn, gc, rfl⟩ := ho4.slice3; have hx34 := (OnlyO.quiet (p := p) (r := none) (w := w3) ⟨1, rfl⟩).trans hx4 (.inl rfl); have HX4 := hid (HX3.out.kept hx34 hplt hV); obtain ⟨p0, r0, r1, r2, r3, t0, t1, t2, t3, g0, g1, g2, g3⟩ := HX4.out.all; have HO4 := hid ho4; have HG4 := hid hg4; have HT4 := hid (HT3.out.only hx34); have HR4 := hid (HR3.out.only hx34); have HX34 := hid hx34; clear ho4 hg4 hx4 hx34))
    all_goals
      have hx5 : OnlyO p none w w5 := (HO3.out.trans HX34.out (.inl rfl)).trans (OnlyO.quiet HQ5.out) (.inl rfl)
      have hx6 : OnlyO p none w ((((w5.setCell ⟨w.heap.size + 1 + 1, 0, none⟩ (.slice ra rn rc)).setCell ⟨w.heap.size + 1 + 1, 1, none⟩ (.bool b')).setCell ⟨w.heap.size + 1 + 1, 2, none⟩ (.int .i64 nx')).setCell ⟨w.heap.size + 1 + 1, 3, none⟩ (.int .i64 st')) := set4_only hx5 (by omega)
      have hg6 : Rg ((((w5.setCell ⟨w.heap.size + 1 + 1, 0, none⟩ (.slice ra rn rc)).setCell ⟨w.heap.size + 1 + 1, 1, none⟩ (.bool b')).setCell ⟨w.heap.size + 1 + 1, 2, none⟩ (.int .i64 nx')).setCell ⟨w.heap.size + 1 + 1, 3, none⟩ (.int .i64 st')) p ys nx' b' st' := (HG4.out.quiet HQ5.out).kept (set4_at (by omega))
      have hr6 : Stay ((((w5.setCell ⟨w.heap.size + 1 + 1, 0, none⟩ (.slice ra rn rc)).setCell ⟨w.heap.size + 1 + 1, 1, none⟩ (.bool b')).setCell ⟨w.heap.size + 1 + 1, 2, none⟩ (.int .i64 nx')).setCell ⟨w.heap.size + 1 + 1, 3, none⟩ (.int .i64 st')) p none (.slice ra rn rc) ys := (HR4.out.only (OnlyO.quiet HQ5.out)).at (fun g o n c he h0 => set4_at (HRQ.out g o n c he h0).1) (by simp [World.setCell])
      have HX6 := hid hx6
      have HG6 := hid hg6
      have HR6 := hid hr6
      clear hx5 hx6 hg6 hr6 HX34 HG4 HR4 HT4 HO4 HQ5 HX5
      go_wp2
      refine bodyPost_ret (v := .tuple #[.agg #[.slice ra rn rc, .bool b', .int .i64 nx', .int .i64 st'], .bool true]) (by simp [results, Try.results41, go_sem, t0, t1, t2, t3]) rfl ⟨_, rfl, HG6.out, HR6.out, HX6.out, HAP.out⟩
end Go.Proofs.Ytciilbpchejpcaa
