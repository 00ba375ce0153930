/- A new world of one, behind no step and behind ten: is it quiet, and what is wrong with it. -/
import Derived.Test.YtfpkgkjmpcoppaaGreatDoorWhE
import Derived.Test.YtfpkgkjmpcoppaaGreatDoorGK
import Derived.Test.YtfpkgkjmpcoppaaGreatDoorIdsD
import Derived.Test.YtfpkgkjmpcoppaaGreatDoorWoZ
namespace Go.Proofs.YtfpkgkjmpcoppaaGreatDoor
open Go.RowKit
set_option linter.unusedVariables false
set_option linter.unusedSimpArgs false
set_option maxRecDepth 20000
theorem lg_base {w : World} {base base' n : Nat} {v : Value} {xs : List Value} (h : Lg w base v n xs) (hb : ∀ k, v.ownBlock = some k → base' ≤ k) : Lg w base' v n xs := by
  obtain ⟨h0, h1 | ⟨q, cap, cur, h1, h2, h3⟩⟩ := h.own
  · exact ⟨h0, .inl h1⟩
  · exact ⟨h0, .inr ⟨q, cap, cur, h1, hb q (by rw [h1]; rfl), h3⟩⟩
set_option maxHeartbeats 1000000 in
theorem at_of_nf {w0 w : World} {W b1 g1 b2 g2 tb q p sb ib mb : Nat} {r : Option Nat} {rv lg : Value} {gs : List Nat} {base rbase wd : Nat} {Z : Nat → Prop} (h : Nf 1 1 1 W b1 g1 b2 g2 tb q p sb ib mb r rv lg gs base rbase wd w0.heap.size Z w) (hb : Below w0.heap.size w0 w) (T1 : MaPlaces w0) (T2 : EvNames w0) (T3 : EvSteps w0) :
    ∃ rb rg rc, K.At w0 ⟨W, b1, g1, b2, g2, rb, tb, rg, q, p, sb, ib, mb, rc, (fun k => ¬ Z k ∧ k < w.heap.size), fun k => w.heap[k]?⟩ 0 w := by
  obtain ⟨rg, rfl⟩ := List.length_eq_one_iff.1 h.gl
  have hrg := h.rgs.rg rg (by simp)
  have ho := h.own
  obtain ⟨_, ⟨e1, e2⟩ | ⟨rb, rc, cur, rfl, hrb, hcur, _⟩⟩ := id ho
  · omega
  have hrbl := blk_lt hcur
  have hcell := ho.cells (g := rb) rfl 0 (pg rg) rfl
  have nd := h.nd
  have hlo := h.lo
  have hWr := h.rb
  have hrl := hrg.1.lt
  have nrr : rb ≠ rg := fun e => hrg.2.2 (by rw [e]; rfl)
  have hW := h.hW
  have hwd : wd = 9 := by have := h.hwd; omega
  obtain ⟨cs, c1, c2, c3⟩ := h.mc
  have c4 : ∀ j, j < 20 → cs[j]? = (mf 1 0)[j]? := fun j hj => by have := c3 0 (by decide) j hj; simpa using this
  have m1 := h.m1
  have m2 := h.m2
  subst hwd
  have es : (List.replicate 9 (0 : Int)).set (2 * (((1 : Nat) : Int) + 2) + 1 + ((1 : Nat) : Int) + 0).toNat 1 = [0, 0, 0, 0, 0, 0, 0, 0, 1] := by decide
  rw [es] at m1 m2
  have hsW := blk_lt hW
  have hL : ∀ k ∈ [W, b1, g1, b2, g2, tb, q, p, mb], w0.heap.size ≤ k ∧ k < w.heap.size := fun k hk => by have := hlo k hk; omega
  have hB : ∀ k ∈ [W, b1, g1, b2, g2, rb, tb, rg, q, p, mb], k ∈ [W, b1, g1, b2, g2, tb, q, p, mb] ∨ k = rb ∨ k = rg := fun k hk => by
    simp only [List.mem_cons, List.not_mem_nil, or_false] at hk ⊢
    omega
  have hg0 : w0.heap.size ≤ rb ∧ w0.heap.size ≤ rg := by have := (hlo W (by simp)).1; omega
  refine ⟨rb, rg, rc, r, lg, none, 0, 0, 0, 0, 0, 0, 0, 0, false, ?_, ?_, ?_, ?_, hrg.1⟩
  · exact {
      wb := ⟨hW⟩
      mc := ⟨blk_cell c1 (c4 0 (by decide)), blk_cell c1 (c4 1 (by decide)), blk_cell c1 (c4 2 (by decide)), blk_cell c1 (c4 3 (by decide)), blk_cell c1 (c4 4 (by decide)), blk_cell c1 (c4 5 (by decide)), blk_cell c1 (c4 6 (by decide)), blk_cell c1 (c4 7 (by decide)), blk_cell c1 (c4 8 (by decide)), blk_cell c1 (c4 9 (by decide)), blk_cell c1 (c4 10 (by decide)), blk_cell c1 (c4 11 (by decide)), blk_cell c1 (c4 12 (by decide)), blk_cell c1 (c4 13 (by decide)), blk_cell c1 (c4 14 (by decide)), blk_cell c1 (c4 15 (by decide)), blk_cell c1 (c4 16 (by decide)), blk_cell c1 (c4 17 (by decide)), blk_cell c1 (c4 18 (by decide)), blk_cell c1 (c4 19 (by decide)), fun i => blk_free c1⟩
      m1 := m1
      m2 := m2
      l1 := rfl
      l2 := rfl
      c1 := by decide
      c2 := by decide
      tl := blk_lt h.tu
      qu := h.qu
      lgr := lg_base h.lgr (fun k hk => (h.al k hk).2.1)
      n1 := by decide
      T1 := T1.at hb
      T2 := T2.at hb
      T3 := T3.at hb
      U1 := T1.lt
      U2 := T2.lt
      U3 := T3.lt
      bl := hb
      nd := nd_of_nodup (by
        have hL' := hL
        show ([W, b1, g1, b2, g2, rb, tb, rg, q, p, mb] : List Nat).Nodup
        simp only [List.nodup_cons, List.mem_cons, List.not_mem_nil, or_false, not_or, List.nodup_nil, and_true, not_false_eq_true] at nd ⊢
        have b0 := (hlo W (by simp)).2
        have b1' := (hlo b1 (by simp)).2
        have b2' := (hlo g1 (by simp)).2
        have b3' := (hlo b2 (by simp)).2
        have b4' := (hlo g2 (by simp)).2
        have b5' := (hlo tb (by simp)).2
        have b6' := (hlo q (by simp)).2
        have b7' := (hlo p (by simp)).2
        have b8' := (hlo mb (by simp)).2
        have hg2 := hrg.2.1
        obtain ⟨⟨w1, w2, w3, w4, w5, w6, w7, w8⟩, ⟨b11, b12, b13, b14, b15, b16, b17⟩, ⟨g11, g12, g13, g14, g15, g16⟩, ⟨b21, b22, b23, b24, b25⟩, ⟨g21, g22, g23, g24⟩, ⟨t1, t2, t3⟩, ⟨q1, q2⟩, p1⟩ := nd
        exact ⟨⟨w1, w2, w3, w4, by omega, w5, by omega, w6, w7, w8⟩, ⟨b11, b12, b13, by omega, b14, by omega, b15, b16, b17⟩, ⟨g11, g12, by omega, g13, by omega, g14, g15, g16⟩, ⟨b21, by omega, b22, by omega, b23, b24, b25⟩, ⟨by omega, g21, by omega, g22, g23, g24⟩, ⟨by omega, nrr, by omega, by omega, by omega⟩, ⟨by omega, t1, t2, t3⟩, ⟨by omega, by omega, by omega⟩, ⟨q1, q2⟩, p1⟩) 11 rfl
      ge := fun k hk => by
        rcases hB k hk with h' | h' | h'
        · exact (hL k h').1
        · rw [h']; exact hg0.1
        · rw [h']; exact hg0.2
      al := fun k hk => by
        rcases hB k hk with h' | h' | h'
        · exact (hL k h').2
        · rw [h']; exact hrbl
        · rw [h']; exact hrl
      ro := fun k hk => by
        obtain ⟨a1, a2, a3, a4⟩ := h.ar k hk
        refine ⟨fun e => ?_, a2⟩
        rcases hB k e with h' | h' | h'
        · exact a1 h'
        · exact a4 (by rw [h']; rfl)
        · exact a3 (by rw [h']; simp)
      lo := fun k hk => by
        obtain ⟨a1, a2, a3, a4, a5⟩ := h.al k hk
        refine ⟨fun e => ?_, a5⟩
        rcases hB k e with h' | h' | h'
        · exact a1 h'
        · exact a4 (by rw [h']; rfl)
        · exact a3 (by rw [h']; simp)
      kz := fun k hk => rfl
      kn := fun k hk => by
        have az := h.az k
        refine ⟨hk.2, fun e => hk.1 ?_, fun e => hk.1 (az (by simp [e])), fun e => hk.1 (az (by simp [e]))⟩
        rcases hB k e with h' | h' | h'
        · exact az (.inl h')
        · exact az (.inr (.inr (.inl (by rw [h']; rfl))))
        · exact az (.inr (.inl (by rw [h']; simp))) }
  · exact blk_cell h.tu (by simp [madeCells])
  · exact blk_free h.tu
  · simpa [Addr.add, pg] using hcell
section
variable {w : World} {P M : Nat} {G sp nt fr : Int} {W b1 b2 tb q sb ib mb : Nat} {rv lv : Value}
/-- The world's block. -/
abbrev WH (w : World) (W P M : Nat) (G sp nt fr : Int) (b1 b2 : Nat) (rv : Value) (tb q sb ib mb : Nat) (lv : Value) : Prop := w.heap[W]? = some (.cells (wcR P M G sp nt fr b1 b2 rv tb q sb ib mb lv) 95 (0, 0))
set_option maxHeartbeats 4000000 in
theorem gspin (h : WH w W P M G sp nt fr b1 b2 rv tb q sb ib mb lv) {g2 : Nat} {xs : List Int} {c : Nat} {v : Int} (hm : Mem w b2 g2 xs c) (hc : c < 1000000) (j0 : 0 ≤ sp) (hl : sp < xs.length) (hv : xs.getD sp.toNat 0 = v) :
    Calls Tryz.prog 15 #[.pointer (some ⟨W, 0, none⟩)] w fun e w' => e = .returned (.int .u64 v) ∧ Mem w' b2 g2 xs (c + 1) ∧ Only b2 g2 w w' := by
  have a4 := blk_cell (i := 4) h rfl
  have a5 := blk_cell (i := 5) h rfl
  have TS := hid (fun (y : World) (hq : Quiet w y) => (load_in b2 g2 xs c sp y (hm.quiet hq) (by omega) j0 hl).mono (R' := fun e w' => e = .returned (.int .u64 v) ∧ Mem w' b2 g2 xs (c + 1) ∧ Only b2 g2 w w') fun e w' hx => ⟨by rw [hx.1, hv], hx.2.1, (Only.of_quiet hq).trans hx.2.2⟩)
  clear h hm hc j0 hl hv
  go_enter Tryz.func15, Tryz.ntmps15
  go_wp2_with fail
  go_region_with (go_at_call 48; refine (TS.out _ ⟨_, rfl⟩).mono ?_; rintro e w5 ⟨rfl, h5, o5⟩)
  all_goals
    have H5 := hid h5
    have O5 := hid o5
    clear h5 o5
    go_wp2
    go_ret
    exact ⟨rfl, H5.out, O5.out⟩
theorem gconfig (h : WH w W P M G sp nt fr b1 b2 rv tb q sb ib mb lv) :
    Calls Tryz.prog 10 #[.pointer (some ⟨W, 0, none⟩)] w fun e w' => e = .returned (.agg #[.int .i64 (P : Int), .int .i64 (M : Int), .int .i64 G]) ∧ Below w.heap.size w w' := by
  have a0 := cell_alloc_lt (.cells #[.int .i64 0, .int .i64 0, .int .i64 0] 24) (blk_lt h) (blk_cell (i := 0) h rfl)
  have a1 := cell_alloc_lt (.cells #[.int .i64 0, .int .i64 0, .int .i64 0] 24) (blk_lt h) (blk_cell (i := 1) h rfl)
  have a2 := cell_alloc_lt (.cells #[.int .i64 0, .int .i64 0, .int .i64 0] 24) (blk_lt h) (blk_cell (i := 2) h rfl)
  have B0 := hid (bla w (.cells #[.int .i64 0, .int .i64 0, .int .i64 0] 24))
  have X0 := hid (heap_alloc_new w (.cells #[.int .i64 0, .int .i64 0, .int .i64 0] 24))
  clear h
  go_enter Tryz.func10, Tryz.ntmps10
  go_wp2_with (refine wpList_store_row rfl 24 _ _ rfl w.heap.size #[.int .i64 (P : Int), .int .i64 (M : Int), .int .i64 G] rfl rfl 24 _ X0.out (by kernel_rfl) (by rfl) (by simp [Value.oneCell']) ?_)
  refine bodyPost_ret (v := .agg #[.int .i64 (P : Int), .int .i64 (M : Int), .int .i64 G]) (results_cell_row rfl _ _ w.heap.size 24 #[.int .i64 (P : Int), .int .i64 (M : Int), .int .i64 G] (0, 0) _ (by rfl) (set_row_heap _ _ _ _ _ _ X0.out) Tryz.underlying24 rfl (by kernel_rfl)) rfl ⟨rfl, ?_⟩
  exact row_below B0.out (by omega) _
theorem gidle (h : WH w W P M G sp nt fr b1 b2 rv tb q sb ib mb lv) {Z : Nat → Prop} {f : Nat → Bool} {ss : List Int} {pl : Int} (hi : Ids Z ib P f [] M ss pl w) (hP : 0 < P) (hs : ss.length ≤ 1000) :
    Calls Tryz.prog 16 #[.pointer (some ⟨W, 0, none⟩)] w fun e w' => e = .returned (.pointer (some ⟨w.heap.size, 0, none⟩)) ∧ Ids (· < w.heap.size) w.heap.size P f [] M ss pl w' ∧ Below w.heap.size w w' := by
  have a13 := blk_cell (i := 13) h rfl
  have IC := hid (icopy hi hP (by simp) hs)
  clear h hi hP hs
  go_enter Tryz.func16, Tryz.ntmps16
  go_wp2_with fail
  refine IC.out.mono ?_
  rintro e w2 ⟨rfl, h2, hb⟩
  have H2 := hid h2
  have HB := hid hb
  clear h2 hb IC
  go_wp2
  go_ret
  exact ⟨rfl, H2.out, HB.out⟩
end
section
variable {w w' : World} {W b1 b2 rb tb q sb ib mb rc : Nat} {lg : Value}
set_option maxHeartbeats 2000000 in
theorem quiet_no (h : Wb w W b1 b2 rb tb q sb ib mb rc lg) (hc : w.cell? ⟨mb, 0, none⟩ = some (.int .i64 1)) :
    Calls Tryz.prog 90 #[.pointer (some ⟨W, 0, none⟩)] w fun e w' => e = .returned (.bool false) ∧ Below w.heap.size w w' := by
  have a14 := h.c14
  have AS := hid (asleep_no h 1 hc (by decide))
  clear h
  go_enter Tryz.func90, Tryz.ntmps90
  go_wp2_with fail
  go_loopw [9] (fun x wr => x = .int .i64 0 ∧ wr = w) (fun _ _ => 0)
  case atStart => exact ⟨rfl, rfl⟩
  case round =>
    obtain ⟨rfl, rfl⟩ := hrel
    go_wp2_with fail
    refine AS.out.mono ?_
    rintro e w2 ⟨rfl, hq⟩
    have HQ := hid (hq.below wr.heap.size)
    clear hq AS
    go_wp2
    go_ret
    exact ⟨rfl, HQ.out⟩
set_option maxHeartbeats 2000000 in
theorem quiet_yes (h : Wb w W b1 b2 rb tb q sb ib mb rc lg) (hc : w.cell? ⟨mb, 0, none⟩ = some (.int .i64 0)) :
    Calls Tryz.prog 90 #[.pointer (some ⟨W, 0, none⟩)] w fun e w' => e = .returned (.bool true) ∧ w' = w := by
  have a14 := h.c14
  clear h
  go_enter Tryz.func90, Tryz.ntmps90
  go_wp2_with fail
  go_loopw [9] (fun x wr => (x = .int .i64 0 ∨ x = .int .i64 1) ∧ w = wr) (fun x _ => 1 - (intOf x).toNat)
  case atStart => exact ⟨.inl rfl, rfl⟩
  case round =>
    obtain ⟨rfl | rfl, rfl⟩ := hrel
    · go_wp2_with fail
      go_roundw
      case rel => exact ⟨.inr (by go_num), trivial⟩
      case measure => simp [intOf]
    · go_wp2
      go_ret
      exact ⟨rfl, rfl⟩
end
end Go.Proofs.YtfpkgkjmpcoppaaGreatDoor
