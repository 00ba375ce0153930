/- A new world of any config, as it is told. -/
import Derived.Test.YtfpkgkjmpcoppaaGreatDoorWgE
import Derived.Test.YtfpkgkjmpcoppaaGreatDoorIdsD
import Derived.Test.YtfpkgkjmpcoppaaGreatDoorWoZ
namespace Go.Proofs.YtfpkgkjmpcoppaaGreatDoor
open Go.RowKit
set_option linter.unusedVariables false
set_option linter.unusedSimpArgs false
set_option maxRecDepth 20000
/-- A machine that holds processor 0, at the scheduler. -/
@[reducible] def mS (rv : Value) : Array Value := #[.int .i64 1, .int .i64 0, .int .i64 (-1), .int .i64 (-1), .int .i64 (-1), .int .i64 (-1), .int .i64 0, .bool false, .bool false, rv, .int .i64 0, .int .i64 0, .int .i64 0, .int .i64 0, .int .i64 0, .int .i64 0, .int .u64 0, .int .i64 0]
set_option maxHeartbeats 8000000 in
theorem from_01 (w : World) (p o base : Nat) (v : Value) (xs : List Value) (hc : w.cell? ⟨p, o, none⟩ = some v) (h : Lg w base v 1 xs) (h1 : ∀ u ∈ xs, u.oneCell' = true) :
    Calls Tryz.prog 44 #[.pointer (some ⟨p, o, none⟩), .int .i64 0] w (EvsP 1 w) := by
  have hcs := fun g => h.own.cells (g := g)
  obtain ⟨hl, ⟨e, h2⟩ | ⟨gq, cap, cur, e, _, hg, hcap, hcm, _⟩⟩ := h.own
  · exact absurd h2 (by omega)
  subst e
  have hpl := cell_lt hc
  have hgl := blk_lt hg
  have hcc : (cap : Int) ≤ 9223372036854775807 := by unfold maxLen at hcm; omega
  have h2c : (1 : Int) ≤ (cap : Int) := by omega
  have LN := hid (fun (y : World) (hq : Quiet w y) => (len_b y p o _ 1 cap (by obtain ⟨n, rfl⟩ := hq; exact hc)))
  have CL := hid (fun (y : World) (hb : Below w.heap.size w y) => (clone_ev ⟨gq, 0, none⟩ 1 cap xs y (by omega) hl (fun j u hj => by
    have := hcs gq rfl j u hj
    exact (hb.cell (p := (⟨gq, 0, none⟩ : Addr).add j) (cell_lt this)).trans this) h1).mono (R' := EvsP 1 w) (fun e w' ⟨a, c, he, hb'⟩ => ⟨a, c, he, hb.trans (hb'.mono hb.size)⟩))
  clear hl hg hcs h h1 hgl
  go_enter Tryz.func44, Tryz.ntmps44
  go_wp2_with fail
  go_region_with (first
    | (go_at_call 79; refine (LN.out _ ⟨1, rfl⟩).mono ?_; rintro e y ⟨rfl, rfl⟩)
    | (go_at_call 78; refine (CL.out _ (Quiet.below ⟨1, rfl⟩ _)).mono ?_; rintro e y5 ⟨a5, c5, rfl, hb5⟩))
  all_goals
    have HB5 := hid hb5
    clear hb5
    go_wp2
    go_ret
    exact ⟨_, _, rfl, HB5.out⟩
set_option maxHeartbeats 4000000 in
theorem gevents {w : World} {W : Nat} {lg : Value} {base : Nat} {xs : List Value} (h : w.cell? ⟨W, 15, none⟩ = some lg) (hg : Lg w base lg 1 xs) (h1 : ∀ u ∈ xs, u.oneCell' = true) :
    Calls Tryz.prog 12 #[.pointer (some ⟨W, 0, none⟩)] w (EvsP 1 w) := by
  have FR := hid (from_01 w W 15 base lg xs h hg h1)
  clear h hg h1
  go_enter Tryz.func12, Tryz.ntmps12
  go_wp2_with fail
  refine FR.out.mono ?_
  rintro e w2 ⟨a, c, rfl, hb⟩
  have HB := hid hb
  clear hb FR
  go_wp2
  go_ret
  exact ⟨_, _, rfl, HB.out⟩
set_option maxHeartbeats 4000000 in
theorem mcopy_S (a : Option Addr) (c : Nat) (w : World) (h : RcOK a c) :
    Calls Tryz.prog 47 #[.agg (mS (.slice a 0 c))] w fun e w' => ∃ a' n' c', e = .returned (.agg (mS (.slice a' n' c'))) ∧ Below w.heap.size w w' := by
  have HB := hid (((Below.refl w.heap.size w).alloc (Nat.le_refl _) (.cells (mS (.slice a 0 c)) 43)).alloc (by simp) (.cells mZ 43))
  have HR := hid (fun (w : World) => (show Reads w (.slice a 0 c) [] from ⟨a, c, rfl, ⟨by simp, h.1, h.2⟩, fun h => absurd h (by simp)⟩))
  clear h
  go_enter Tryz.func47, Tryz.ntmps47
  go_wp2_with fail
  refine (clone_int _ [] _ (by simp) (HR.out _)).mono ?_
  rintro e w2 ⟨v2, rfl, ho2, hb2⟩
  simp only [World.size_alloc] at ho2 hb2
  have hz2 := hb2.size
  simp only [World.size_alloc] at hz2
  have n2 : w2.heap[w.heap.size]? = some (.cells (mS (.slice a 0 c)) 43 (0, 0)) := by
    rw [hb2.block _ (by omega)]
    exact alloc2_old w _ _
  have r2 : w2.heap[w.heap.size + 1]? = some (.cells mZ 43 (0, 0)) := by
    rw [hb2.block _ (by omega)]
    exact alloc2_new w _ _
  obtain ⟨va, vn, vc, rfl⟩ := ho2.slice3
  have HW := hid (HB.out.trans (hb2.mono (by omega)))
  have j9 : w2.cell? ⟨w.heap.size, 9, none⟩ = some (.slice a 0 c) := blk_cell n2 rfl
  have e9 : w2.frozen? ⟨w.heap.size, 9, none⟩ = false := blk_free n2
  have N3 := hid (blk_set (.slice va vn vc) n2 (show (mS (.slice a 0 c)).setIfInBounds 9 (.slice va vn vc) = mS (.slice va vn vc) from rfl))
  have R3 := hid ((Below.heap_setCell w2 ⟨w.heap.size, 9, none⟩ (.slice va vn vc) (w.heap.size + 1) (by simp)).trans r2)
  clear ho2 hb2 n2 r2 HR HB
  go_wp2_with (first
    | (refine wpList_load_known (by rfl) 43 (.tmp 1) rfl w.heap.size rfl 43 (mS (.slice va vn vc)) (0, 0) _ N3.out Tryz.underlying43 rfl (by kernel_rfl) ?_)
    | (refine wpList_store_row rfl 43 (.tmp 2) (.tmp 7) rfl (w.heap.size + 1) (mS (.slice va vn vc)) rfl rfl 43 _ R3.out (by kernel_rfl) (by rfl) (by simp [mS, Value.oneCell']) ?_))
  refine bodyPost_ret (v := .agg (mS (.slice va vn vc))) (results_cell_row rfl _ _ (w.heap.size + 1) 43 (mS (.slice va vn vc)) (0, 0) _ (by rfl) (set_row_heap _ _ _ _ _ _ R3.out) Tryz.underlying43 rfl (by kernel_rfl)) rfl ⟨va, vn, vc, rfl, ?_⟩
  exact row_below (HW.out.setCell (Nat.le_refl _) _) (by omega) _
set_option maxHeartbeats 8000000 in
theorem gmach {w : World} {W mb M : Nat} {cs : Array Value} (h : w.cell? ⟨W, 14, none⟩ = some (.slice (some ⟨mb, 0, none⟩) M M)) (hM : 0 < M) (hm : w.heap[mb]? = some (.cells cs 101 (0, 0))) (hj : ∀ j, j < 20 → cs[j]? = (mf 1 0)[j]?) :
    Calls Tryz.prog 14 #[.pointer (some ⟨W, 0, none⟩), .int .i64 0] w fun e w' => ∃ a' n' c', e = .returned (.agg (mS (.slice a' n' c'))) ∧ Below w.heap.size w w' := by
  have B0 := hid (bla w (.cells mZ 43))
  have Z0 := hid (heap_alloc_new w (.cells mZ 43))
  have a14 := (cell_alloc_lt (.cells mZ 43) (cell_lt h) h)
  have k0 := cell_alloc_lt (.cells mZ 43) (blk_lt hm) (blk_cell hm (hj 0 (by decide)))
  have k1 := cell_alloc_lt (.cells mZ 43) (blk_lt hm) (blk_cell hm (hj 1 (by decide)))
  have k2 := cell_alloc_lt (.cells mZ 43) (blk_lt hm) (blk_cell hm (hj 2 (by decide)))
  have k3 := cell_alloc_lt (.cells mZ 43) (blk_lt hm) (blk_cell hm (hj 3 (by decide)))
  have k4 := cell_alloc_lt (.cells mZ 43) (blk_lt hm) (blk_cell hm (hj 4 (by decide)))
  have k5 := cell_alloc_lt (.cells mZ 43) (blk_lt hm) (blk_cell hm (hj 5 (by decide)))
  have k6 := cell_alloc_lt (.cells mZ 43) (blk_lt hm) (blk_cell hm (hj 6 (by decide)))
  have k7 := cell_alloc_lt (.cells mZ 43) (blk_lt hm) (blk_cell hm (hj 7 (by decide)))
  have k8 := cell_alloc_lt (.cells mZ 43) (blk_lt hm) (blk_cell hm (hj 8 (by decide)))
  have k9 := cell_alloc_lt (.cells mZ 43) (blk_lt hm) (blk_cell hm (hj 9 (by decide)))
  have k10 := cell_alloc_lt (.cells mZ 43) (blk_lt hm) (blk_cell hm (hj 10 (by decide)))
  have k11 := cell_alloc_lt (.cells mZ 43) (blk_lt hm) (blk_cell hm (hj 11 (by decide)))
  have k12 := cell_alloc_lt (.cells mZ 43) (blk_lt hm) (blk_cell hm (hj 12 (by decide)))
  have k13 := cell_alloc_lt (.cells mZ 43) (blk_lt hm) (blk_cell hm (hj 13 (by decide)))
  have k14 := cell_alloc_lt (.cells mZ 43) (blk_lt hm) (blk_cell hm (hj 14 (by decide)))
  have k15 := cell_alloc_lt (.cells mZ 43) (blk_lt hm) (blk_cell hm (hj 15 (by decide)))
  have k16 := cell_alloc_lt (.cells mZ 43) (blk_lt hm) (blk_cell hm (hj 16 (by decide)))
  have k17 := cell_alloc_lt (.cells mZ 43) (blk_lt hm) (blk_cell hm (hj 17 (by decide)))
  have hM2 : (0 : Int) < (M : Int) := by omega
  clear h hm hj hM
  go_enter Tryz.func14, Tryz.ntmps14
  go_wp2_with fail
  refine (mcopy_S none 0 _ ⟨Nat.zero_le _, .inl ⟨rfl, rfl⟩⟩).mono ?_
  rintro e w2 ⟨a', n', c', rfl, hb⟩
  have X2 := hid ((hb.block _ (by simp)).trans Z0.out)
  have B2 := hid (B0.out.trans (hb.mono B0.out.size))
  clear hb k0 k1 k2 k3 k4 k5 k6 k7 k8 k9 k10 k11 k12 k13 k14 k15 k16 k17 a14
  go_wp2_with (refine wpList_store_row rfl 43 (.tmp 4) (.tmp 25) rfl w.heap.size (mS (.slice a' n' c')) rfl rfl 43 _ X2.out (by kernel_rfl) (by rfl) (by simp [mS, Value.oneCell']) ?_)
  refine bodyPost_ret (v := .agg (mS (.slice a' n' c'))) (results_cell_row rfl _ _ w.heap.size 43 (mS (.slice a' n' c')) (0, 0) _ (by rfl) (set_row_heap _ _ _ _ _ _ X2.out) Tryz.underlying43 rfl (by kernel_rfl)) rfl ⟨_, _, _, rfl, ?_⟩
  exact row_below B2.out (by omega) _
theorem thas_out0 (f n g : Int) (w : World) (h0 : 0 ≤ g) (h1 : n ≤ g) : Calls Tryz.prog 77 #[.agg #[.int .i64 f, .int .i64 n], .int .i64 g] w fun e w' => e = .returned (.bool false) ∧ Below w.heap.size w w' := by
  have t1 : decide (0 ≤ g) = true := decide_eq_true h0
  have t2 : decide (g < n) = false := decide_eq_false (by omega)
  go_enter Tryz.func77, Tryz.ntmps77
  go_wp2
  go_ret
  exact ⟨rfl, (Below.refl _ _).alloc (Nat.le_refl _) _⟩
set_option maxHeartbeats 4000000 in
theorem tofg (b g : Nat) (xs : List Int) (c : Nat) (f n j v : Int) (w : World) (hm : Mem w b g xs c) (hc : c < 1000000) (hf : 0 ≤ f) (j0 : 0 ≤ j) (j1 : j < n) (hl : f + j < xs.length) (hx : xs.length ≤ 100000) (hv : xs.getD (f + j).toNat 0 = v) (hv7 : v < 7) :
    Calls Tryz.prog 43 #[.agg #[.int .i64 f, .int .i64 n], .pointer (some ⟨b, 0, none⟩), .int .i64 j] w fun e w' => e = .returned (.int .u64 v) ∧ Mem w' b g xs (c + 1) ∧ Only b g w w' := by
  have hwr : IntKind.i64.wrap (f + j) = f + j := IntWalk.i64_in _ (by omega)
  have B0 := hid (bla w (.cells #[.int .i64 f, .int .i64 n] 84))
  have BX := hid (heap_alloc_new w (.cells #[.int .i64 f, .int .i64 n] 84))
  have TH := hid (fun y : World => thas_in0 f n j y j0 j1)
  have LD := hid (fun (y : World) (hy : Mem y b g xs c) => load_in b g xs c (f + j) y hy (by omega) (by omega) (by omega))
  rw [hv] at LD
  have HM := hid hm
  clear hm hc hf j0 j1 hl hx hv
  go_enter Tryz.func43, Tryz.ntmps43
  go_wp2_with fail
  refine (TH.out _).mono ?_
  rintro e w2 ⟨rfl, hb⟩
  have B2 := hid (B0.out.trans (hb.mono B0.out.size))
  have X2 := (hb.block _ (by simp)).trans BX.out
  have c0 : w2.cell? ⟨w.heap.size, 0, none⟩ = some (.int .i64 f) := by simp [World.cell?, X2]
  have M2 := hid (HM.out.below B2.out HM.out.sb HM.out.sg)
  clear hb X2
  go_wp2_with fail
  refine (LD.out _ M2.out).mono ?_
  rintro e w3 ⟨rfl, hm3, ho3⟩
  have M3 := hid hm3
  have O3 := hid ((Only.of_below B2.out).trans ho3)
  clear hm3 ho3 c0 M2
  go_wp2
  go_ret
  exact ⟨rfl, M3.out, O3.out⟩
theorem tofg_out (b : Nat) (f n j : Int) (w : World) (j0 : 0 ≤ j) (j1 : n ≤ j) :
    Calls Tryz.prog 43 #[.agg #[.int .i64 f, .int .i64 n], .pointer (some ⟨b, 0, none⟩), .int .i64 j] w fun e w' => e = .returned (.int .u64 0) ∧ Below w.heap.size w w' := by
  have B0 := hid (bla w (.cells #[.int .i64 f, .int .i64 n] 84))
  have TH := hid (fun y : World => thas_out0 f n j y j0 j1)
  clear j0 j1
  go_enter Tryz.func43, Tryz.ntmps43
  go_wp2_with fail
  refine (TH.out _).mono ?_
  rintro e w2 ⟨rfl, hb⟩
  have B2 := hid (B0.out.trans (hb.mono B0.out.size))
  clear hb
  go_wp2
  go_ret
  exact ⟨rfl, B2.out⟩
section
variable {w : World} {P M : Nat} {G sp nt fr : Int} {W b1 b2 tb q sb ib mb : Nat} {rv lv : Value}
/-- The world's block. -/
abbrev WH (w : World) (W P M : Nat) (G sp nt fr : Int) (b1 b2 : Nat) (rv : Value) (tb q sb ib mb : Nat) (lv : Value) : Prop := w.heap[W]? = some (.cells (wcR P M G sp nt fr b1 b2 rv tb q sb ib mb lv) 95 (0, 0))
set_option maxHeartbeats 4000000 in
theorem gstat (h : WH w W P M G sp nt fr b1 b2 rv tb q sb ib mb lv) {g2 : Nat} {xs : List Int} {c : Nat} {j v : Int} (hm : Mem w b2 g2 xs c) (hc : c < 1000000) (hf : 0 ≤ fr) (j0 : 0 ≤ j) (j1 : j < G) (hl : fr + j < xs.length) (hx : xs.length ≤ 100000) (hv : xs.getD (fr + j).toNat 0 = v) (hv7 : v < 7) :
    Calls Tryz.prog 11 #[.pointer (some ⟨W, 0, none⟩), .int .i64 j] w fun e w' => e = .returned (.int .u64 v) ∧ Mem w' b2 g2 xs (c + 1) ∧ Only b2 g2 w w' := by
  have a4 := blk_cell (i := 4) h rfl
  have a7 := blk_cell (i := 7) h rfl
  have a8 := blk_cell (i := 8) h rfl
  have TS := hid (fun (y : World) (hq : Quiet w y) => (tofg b2 g2 xs c fr G j v y (hm.quiet hq) hc hf j0 j1 hl hx hv hv7).mono (R' := fun e w' => e = .returned (.int .u64 v) ∧ Mem w' b2 g2 xs (c + 1) ∧ Only b2 g2 w w') fun e w' hx => ⟨hx.1, hx.2.1, (Only.of_quiet hq).trans hx.2.2⟩)
  clear h hm hc hf j0 j1 hl hx hv hv7
  go_enter Tryz.func11, Tryz.ntmps11
  go_wp2_with fail
  go_region_with (go_at_call 43; refine (TS.out _ ⟨_, rfl⟩).mono ?_; rintro e w5 ⟨rfl, h5, o5⟩)
  all_goals
    have H5 := hid h5
    have O5 := hid o5
    clear h5 o5
    go_wp2
    go_ret
    exact ⟨rfl, H5.out, O5.out⟩
set_option maxHeartbeats 4000000 in
theorem gstat_out (h : WH w W P M G sp nt fr b1 b2 rv tb q sb ib mb lv) {j : Int} (j0 : 0 ≤ j) (j1 : G ≤ j) :
    Calls Tryz.prog 11 #[.pointer (some ⟨W, 0, none⟩), .int .i64 j] w fun e w' => e = .returned (.int .u64 0) ∧ Below w.heap.size w w' := by
  have a4 := blk_cell (i := 4) h rfl
  have a7 := blk_cell (i := 7) h rfl
  have a8 := blk_cell (i := 8) h rfl
  have TS := hid (fun (y : World) (hq : Quiet w y) => (tofg_out b2 fr G j y j0 j1).mono (R' := fun e w' => e = .returned (.int .u64 0) ∧ Below w.heap.size w w') fun e w' hx => ⟨hx.1, (hq.below _).trans (hx.2.mono (hq.below w.heap.size).size)⟩)
  clear h j0 j1
  go_enter Tryz.func11, Tryz.ntmps11
  go_wp2_with fail
  go_region_with (go_at_call 43; refine (TS.out _ ⟨_, rfl⟩).mono ?_; rintro e w5 ⟨rfl, h5⟩)
  all_goals
    have H5 := hid h5
    clear h5
    go_wp2
    go_ret
    exact ⟨rfl, H5.out⟩
set_option maxHeartbeats 4000000 in
theorem gspin (h : WH w W P M G sp nt fr b1 b2 rv tb q sb ib mb lv) {g2 : Nat} {xs : List Int} {c : Nat} {v : Int} (hm : Mem w b2 g2 xs c) (hc : c < 1000000) (j0 : 0 ≤ sp) (hl : sp < xs.length) (hv : xs.getD sp.toNat 0 = v) :
    Calls Tryz.prog 15 #[.pointer (some ⟨W, 0, none⟩)] w fun e w' => e = .returned (.int .u64 v) ∧ Mem w' b2 g2 xs (c + 1) ∧ Only b2 g2 w w' := by
  have a4 := blk_cell (i := 4) h rfl
  have a5 := blk_cell (i := 5) h rfl
  have TS := hid (fun (y : World) (hq : Quiet w y) => (load_in b2 g2 xs c sp y (hm.quiet hq) (by omega) j0 hl).mono (R' := fun e w' => e = .returned (.int .u64 v) ∧ Mem w' b2 g2 xs (c + 1) ∧ Only b2 g2 w w') fun e w' hx => ⟨by rw [hx.1, hv], hx.2.1, (Only.of_quiet hq).trans hx.2.2⟩)
  clear h hm hc j0 hl hv
  go_enter Tryz.func15, Tryz.ntmps15
  go_wp2_with fail
  go_region_with (go_at_call 48; refine (TS.out _ ⟨_, rfl⟩).mono ?_; rintro e w5 ⟨rfl, h5, o5⟩)
  all_goals
    have H5 := hid h5
    have O5 := hid o5
    clear h5 o5
    go_wp2
    go_ret
    exact ⟨rfl, H5.out, O5.out⟩
theorem gconfig (h : WH w W P M G sp nt fr b1 b2 rv tb q sb ib mb lv) :
    Calls Tryz.prog 10 #[.pointer (some ⟨W, 0, none⟩)] w fun e w' => e = .returned (.agg #[.int .i64 (P : Int), .int .i64 (M : Int), .int .i64 G]) ∧ Below w.heap.size w w' := by
  have a0 := cell_alloc_lt (.cells #[.int .i64 0, .int .i64 0, .int .i64 0] 24) (blk_lt h) (blk_cell (i := 0) h rfl)
  have a1 := cell_alloc_lt (.cells #[.int .i64 0, .int .i64 0, .int .i64 0] 24) (blk_lt h) (blk_cell (i := 1) h rfl)
  have a2 := cell_alloc_lt (.cells #[.int .i64 0, .int .i64 0, .int .i64 0] 24) (blk_lt h) (blk_cell (i := 2) h rfl)
  have B0 := hid (bla w (.cells #[.int .i64 0, .int .i64 0, .int .i64 0] 24))
  have X0 := hid (heap_alloc_new w (.cells #[.int .i64 0, .int .i64 0, .int .i64 0] 24))
  clear h
  go_enter Tryz.func10, Tryz.ntmps10
  go_wp2_with (refine wpList_store_row rfl 24 _ _ rfl w.heap.size #[.int .i64 (P : Int), .int .i64 (M : Int), .int .i64 G] rfl rfl 24 _ X0.out (by kernel_rfl) (by rfl) (by simp [Value.oneCell']) ?_)
  refine bodyPost_ret (v := .agg #[.int .i64 (P : Int), .int .i64 (M : Int), .int .i64 G]) (results_cell_row rfl _ _ w.heap.size 24 #[.int .i64 (P : Int), .int .i64 (M : Int), .int .i64 G] (0, 0) _ (by rfl) (set_row_heap _ _ _ _ _ _ X0.out) Tryz.underlying24 rfl (by kernel_rfl)) rfl ⟨rfl, ?_⟩
  exact row_below B0.out (by omega) _
theorem gglobal (h : WH w W P M G sp nt fr b1 b2 rv tb q sb ib mb lv) {p : Nat} {r : Option Nat} {xs : List Int} (hq : Qu w q p P r xs) :
    Calls Tryz.prog 13 #[.pointer (some ⟨W, 0, none⟩)] w (ClonePost xs w) := by
  have a11 := blk_cell (i := 11) h rfl
  have QL := hid (qlist q p P r xs w hq)
  clear h hq
  go_enter Tryz.func13, Tryz.ntmps13
  go_wp2_with fail
  refine QL.out.mono ?_
  rintro e w2 ⟨v, rfl, ho, hb⟩
  have HO := hid ho
  have HB := hid hb
  clear ho hb QL
  go_wp2
  go_ret
  exact ⟨_, rfl, HO.out, HB.out⟩
theorem gidle (h : WH w W P M G sp nt fr b1 b2 rv tb q sb ib mb lv) {Z : Nat → Prop} {f : Nat → Bool} {ss : List Int} {pl : Int} (hi : Ids Z ib P f [] M ss pl w) (hP : 0 < P) (hs : ss.length ≤ 1000) :
    Calls Tryz.prog 16 #[.pointer (some ⟨W, 0, none⟩)] w fun e w' => e = .returned (.pointer (some ⟨w.heap.size, 0, none⟩)) ∧ Ids (· < w.heap.size) w.heap.size P f [] M ss pl w' ∧ Below w.heap.size w w' := by
  have a13 := blk_cell (i := 13) h rfl
  have IC := hid (icopy hi hP (by simp) hs)
  clear h hi hP hs
  go_enter Tryz.func16, Tryz.ntmps16
  go_wp2_with fail
  refine IC.out.mono ?_
  rintro e w2 ⟨rfl, h2, hb⟩
  have H2 := hid h2
  have HB := hid hb
  clear h2 hb IC
  go_wp2
  go_ret
  exact ⟨rfl, H2.out, HB.out⟩
end
end Go.Proofs.YtfpkgkjmpcoppaaGreatDoor
