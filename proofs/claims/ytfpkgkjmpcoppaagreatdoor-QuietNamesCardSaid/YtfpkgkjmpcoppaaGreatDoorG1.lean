/- What other texts are built of: WgS, WgT, WgK, WgN. -/
import Derived.Test.YtfpkgkjmpcoppaaGreatDoorWoJ
import Derived.IntWalk
import Derived.Test.YtfpkgkjmpcoppaaGreatDoorWoK
import Derived.Test.YtfpkgkjmpcoppaaGreatDoorWoR2
import Derived.Deep.AppendLies
/-! A world of any config: an event is seen: the status is set in a memory of any length. -/
namespace Go.Proofs.YtfpkgkjmpcoppaaGreatDoor
open Go.RowKit
set_option linter.unusedVariables false
set_option linter.unusedSimpArgs false
set_option maxRecDepth 20000
set_option maxHeartbeats 4000000 in
theorem tsetg (b g : Nat) (xs : List Int) (c : Nat) (f n j s : Int) (w : World) (hm : Mem w b g xs c) (hc : c < 1000000) (hf : 0 ≤ f) (j0 : 0 ≤ j) (j1 : j < n) (hl : f + j < xs.length) (hx : xs.length ≤ 100000) (h0 : 0 ≤ s) (h7 : s < 7) :
    Calls Tryz.prog 115 #[.agg #[.int .i64 f, .int .i64 n], .pointer (some ⟨b, 0, none⟩), .int .i64 j, .int .u64 s] w fun e w' => e = .returned (.bool true) ∧ Mem w' b g (xs.set (f + j).toNat s) (c + 1) ∧ Only b g w w' := by
  have hwr : IntKind.i64.wrap (f + j) = f + j := IntWalk.i64_in _ (by omega)
  have HM := hid hm
  have hb0 : Below w.heap.size w (w.alloc (.cells #[.int .i64 f, .int .i64 n] 84)) := (Below.refl _ _).alloc (Nat.le_refl _) _
  have B0 := hid hb0
  have HL := hid hl
  have HC := hid hc
  have TH := hid (fun y : World => thas_in0 f n j y j0 j1)
  have BX := hid (heap_alloc_new w (.cells #[.int .i64 f, .int .i64 n] 84))
  have t7 : s < 7 := h7
  have ST := hid (fun (y : World) (hy : Mem y b g xs c) => store_in b g xs c (f + j) s y hy (by omega) (by omega) (by omega))
  clear hm hl hc hb0 hx hf j0 j1
  go_enter Tryz.func115, Tryz.ntmps115
  go_wp2_with fail
  refine (TH.out _).mono ?_
  rintro e w2 ⟨rfl, hb⟩
  have B2 := hid (B0.out.trans (hb.mono B0.out.size))
  have X2 := (hb.block _ (by simp)).trans BX.out
  have c0 : w2.cell? ⟨w.heap.size, 0, none⟩ = some (.int .i64 f) := by simp [World.cell?, X2]
  have M2 := hid (HM.out.below B2.out HM.out.sb HM.out.sg)
  clear hb X2
  go_wp2_with fail
  refine (ST.out _ M2.out).mono ?_
  rintro e w3 ⟨rfl, hm3, ho3⟩
  have M3 := hid hm3
  have O3 := hid ((Only.of_below B2.out).trans ho3)
  clear hm3 ho3
  go_wp2
  go_ret
  exact ⟨rfl, M3.out, O3.out⟩
set_option maxHeartbeats 4000000 in
theorem see1g {W pw pe pt b g : Nat} {w : World} {k m p x s f n j : Int} {xs : List Int} {c : Nat} (a7 : w.cell? ⟨W, 7, none⟩ = some (.int .i64 f)) (a8 : w.cell? ⟨W, 8, none⟩ = some (.int .i64 n)) (hs : Sb w W pw pe pt k j m p x s) (hm : Mem w b g xs c) (hc : c < 1000000) (hf : 0 ≤ f) (j0 : 0 ≤ j) (j1 : j < n) (hl : f + j < xs.length) (hx : xs.length ≤ 100000) (h0 : 0 ≤ s) (h7 : s < 7) :
    Calls Tryz.prog 114 #[.pointer (some ⟨b, 0, none⟩), .pointer (some ⟨pw, 0, none⟩), .pointer (some ⟨pe, 0, none⟩), .pointer (some ⟨pt, 0, none⟩)] w fun e w' => e = .returned (.tuple #[]) ∧ Mem w' b g (xs.set (f + j).toNat s) (c + 1) ∧ Only b g w w' := by
  have d0 : w.cell? ⟨pw, 0, none⟩ = some (.pointer (some ⟨W, 0, none⟩)) := blk_cell hs.a rfl
  have d1 : w.cell? ⟨pe, 1, none⟩ = some (.int .i64 j) := blk_cell hs.b rfl
  have d2 : w.cell? ⟨pt, 0, none⟩ = some (.int .u64 s) := blk_cell hs.c rfl
  have TS := hid (fun (y : World) (hq : Quiet w y) => (tsetg b g xs c f n j s y (hm.quiet hq) hc hf j0 j1 hl hx h0 h7).mono (R' := fun e w' => e = .returned (.bool true) ∧ Mem w' b g (xs.set (f + j).toNat s) (c + 1) ∧ Only b g w w') fun e w' hx => ⟨hx.1, hx.2.1, (Only.of_quiet hq).trans hx.2.2⟩)
  clear hs hm hc hl h0 h7 hf j0 j1 hx
  go_enter Tryz.func114, Tryz.ntmps114
  go_wp2_with fail
  go_region_with (go_at_call 115; refine (TS.out _ ⟨_, rfl⟩).mono ?_; rintro e w5 ⟨rfl, h5, o5⟩)
  all_goals
    have H5 := hid h5
    have O5 := hid o5
    clear h5 o5
    go_wp2
    go_end0
    exact ⟨rfl, H5.out, O5.out⟩
end Go.Proofs.YtfpkgkjmpcoppaaGreatDoor
/-! A world of any config: an event is seen in both memories. -/
namespace Go.Proofs.YtfpkgkjmpcoppaaGreatDoor
open Go.RowKit
set_option linter.unusedVariables false
set_option linter.unusedSimpArgs false
set_option maxRecDepth 20000
/-- The world's block: its memories, and where its statuses lie. -/
structure Wg (w : World) (W b1 b2 : Nat) (f n : Int) (cs : Array Value) : Prop where
  h : w.heap[W]? = some (.cells cs 95 (0, 0))
  e3 : cs[3]? = some (.pointer (some ⟨b1, 0, none⟩))
  e4 : cs[4]? = some (.pointer (some ⟨b2, 0, none⟩))
  e7 : cs[7]? = some (.int .i64 f)
  e8 : cs[8]? = some (.int .i64 n)
theorem Wg.kept {w w' : World} {W b1 b2 : Nat} {f n : Int} {cs : Array Value} (h : Wg w W b1 b2 f n cs) (e : w'.heap[W]? = w.heap[W]?) : Wg w' W b1 b2 f n cs := ⟨e.trans h.h, h.e3, h.e4, h.e7, h.e8⟩
def BothG (b1 g1 b2 g2 : Nat) (xs ys : List Int) (c d : Nat) (i s : Int) (w w' : World) : Prop := Mem w' b1 g1 (xs.set i.toNat s) (c + 1) ∧ Mem w' b2 g2 (ys.set i.toNat s) (d + 1) ∧ OnL [b1, g1, b2, g2] w w'
set_option maxHeartbeats 4000000 in
theorem both_seeg {w : World} {cs : Array Value} {W b1 b2 pw pe pt g1 g2 : Nat} {k m p x s f n j : Int} {xs ys : List Int} {c d : Nat} (h : Wg w W b1 b2 f n cs) (hs : Sb w W pw pe pt k j m p x s) (hm1 : Mem w b1 g1 xs c) (hm2 : Mem w b2 g2 ys d) (hc : c < 1000000) (hd : d < 1000000)
    (hf : 0 ≤ f) (j0 : 0 ≤ j) (j1 : j < n) (hl : f + j < xs.length) (hl2 : f + j < ys.length) (hx : xs.length ≤ 100000) (hx2 : ys.length ≤ 100000) (h0 : 0 ≤ s) (h7 : s < 7)
    (ne : b1 ≠ b2 ∧ b1 ≠ g2 ∧ g1 ≠ b2 ∧ g1 ≠ g2 ∧ W ≠ b1 ∧ W ≠ g1) (np : pw ≠ b1 ∧ pw ≠ g1 ∧ pe ≠ b1 ∧ pe ≠ g1 ∧ pt ≠ b1 ∧ pt ≠ g1) :
    Calls Tryz.prog 113 #[.pointer (some ⟨W, 0, none⟩), .func (.func 114) #[] #[.pointer (some ⟨pw, 0, none⟩), .pointer (some ⟨pe, 0, none⟩), .pointer (some ⟨pt, 0, none⟩)]] w fun e w' => e = .returned (.tuple #[]) ∧ BothG b1 g1 b2 g2 xs ys c d (f + j) s w w' := by
  have a3 : w.cell? ⟨W, 3, none⟩ = some (.pointer (some ⟨b1, 0, none⟩)) := blk_cell h.h h.e3
  have S1 := hid (see1g (blk_cell h.h h.e7) (blk_cell h.h h.e8) hs hm1 hc hf j0 j1 hl hx h0 h7)
  have S2 := hid (fun (y : World) (ho : Only b1 g1 w y) => (show y.cell? ⟨W, 4, none⟩ = some (.pointer (some ⟨b2, 0, none⟩)) ∧ Calls Tryz.prog 114 #[.pointer (some ⟨b2, 0, none⟩), .pointer (some ⟨pw, 0, none⟩), .pointer (some ⟨pe, 0, none⟩), .pointer (some ⟨pt, 0, none⟩)] y fun e w' => e = .returned (.tuple #[]) ∧ Mem w' b2 g2 (ys.set (f + j).toNat s) (d + 1) ∧ Only b2 g2 y w' from by
    have hy := h.kept (w' := y) (ho.block _ (blk_lt h.h) ne.2.2.2.2.1 ne.2.2.2.2.2)
    exact ⟨blk_cell hy.h hy.e4, see1g (blk_cell hy.h hy.e7) (blk_cell hy.h hy.e8) (hs.kept (ho.block _ (blk_lt hs.a) np.1 np.2.1) (ho.block _ (blk_lt hs.b) np.2.2.1 np.2.2.2.1) (ho.block _ (blk_lt hs.c) np.2.2.2.2.1 np.2.2.2.2.2)) (hm2.other ho (Ne.symm ne.1) (Ne.symm ne.2.2.1) (Ne.symm ne.2.1) (Ne.symm ne.2.2.2.1)) hd hf j0 j1 hl2 hx2 h0 h7⟩))
  have NE := hid ne
  clear h hs hm1 hm2 hc hd hl hl2 h0 h7 ne np hf j0 j1 hx hx2
  go_enter Tryz.func113, Tryz.ntmps113
  go_wp2_with fail
  refine S1.out.mono ?_
  rintro e w2 ⟨rfl, hm, ho⟩
  have M2 := hid hm
  have O2 := hid ho
  have HW2 := hid (S2.out w2 ho)
  have a4 := HW2.out.1
  clear hm ho a3
  go_wp2_with fail
  refine HW2.out.2.mono ?_
  rintro e w3 ⟨rfl, hm, ho⟩
  have FIN := hid (show BothG b1 g1 b2 g2 xs ys c d (f + j) s w w3 from ⟨M2.out.other ho NE.out.1 NE.out.2.1 NE.out.2.2.1 NE.out.2.2.2.1, hm, (OnL.of_only O2.out (by simp) (by simp)).trans (OnL.of_only ho (by simp) (by simp))⟩)
  clear hm ho
  go_wp2
  go_end0
  exact ⟨rfl, FIN.out⟩
end Go.Proofs.YtfpkgkjmpcoppaaGreatDoor
/-! A world of any config: see. -/
namespace Go.Proofs.YtfpkgkjmpcoppaaGreatDoor
open Go.RowKit
set_option linter.unusedVariables false
set_option linter.unusedSimpArgs false
set_option maxRecDepth 20000
section
variable {w w' : World} {W b1 b2 : Nat} {f n : Int} {cs : Array Value} {lg : Value}
/-- What see leaves. -/
def SeeG (W b1 g1 b2 g2 base : Nat) (f n : Int) (cs : Array Value) (lg : Value) (ln : Nat) (evs : List Value) (xs ys : List Int) (c d : Nat) (i s k j m p x : Int) (w w' : World) : Prop :=
  ∃ lg', Wg w' W b1 b2 f n (cs.setIfInBounds 15 lg') ∧ Lg w' base lg' (ln + 1) (evs ++ [.int .i64 k, .int .i64 j, .int .i64 m, .int .i64 p, .int .i64 x]) ∧ Mem w' b1 g1 (xs.set i.toNat s) (c + 1) ∧ Mem w' b2 g2 (ys.set i.toNat s) (d + 1) ∧
    lg'.ownBlock ≠ some W ∧ (∀ q, lg'.ownBlock = some q → lg.ownBlock = some q ∨ w.heap.size ≤ q) ∧ OnL (W :: b1 :: g1 :: b2 :: g2 :: lg.ownBlock.toList) w w'
set_option maxHeartbeats 8000000 in
theorem see_gen {g1 g2 base ln c d : Nat} {j m p x : Int} {evs : List Value} {xs ys : List Int} (k : Nat) (hk : k < 8) (h : Wg w W b1 b2 f n cs) (e15 : cs[15]? = some lg) (hr : evRight k j m p x = true) (hg : Lg w base lg ln evs) (hn : ln < 1000) (hb : base ≤ w.heap.size) (hm1 : Mem w b1 g1 xs c) (hm2 : Mem w b2 g2 ys d) (hc : c < 1000000) (hd : d < 1000000) (hf : 0 ≤ f) (j0 : 0 ≤ j) (j1 : j < n) (hl : f + j < xs.length) (hl2 : f + j < ys.length) (hx : xs.length ≤ 100000) (hx2 : ys.length ≤ 100000) (T2 : EvNames w) (T3 : EvSteps w)
    (ne : b1 ≠ b2 ∧ b1 ≠ g2 ∧ g1 ≠ b2 ∧ g1 ≠ g2 ∧ W ≠ b1 ∧ W ≠ g1 ∧ W ≠ b2 ∧ W ≠ g2) (nl : ∀ q, lg.ownBlock = some q → q ≠ W ∧ q ≠ b1 ∧ q ≠ g1 ∧ q ≠ b2 ∧ q ≠ g2) :
    Calls Tryz.prog 76 #[.pointer (some ⟨W, 0, none⟩), .agg #[.int .i64 k, .int .i64 j, .int .i64 m, .int .i64 p, .int .i64 x]] w fun e w' => e = .returned (.tuple #[]) ∧ SeeG W b1 g1 b2 g2 base f n cs lg ln evs xs ys c d (f + j) (evStep1 k) k j m p x w w' := by
  obtain ⟨s, hs⟩ : ∃ s, s = evStep1 k := ⟨_, rfl⟩
  obtain ⟨s', hs'⟩ : ∃ s', s' = evStep0 k := ⟨_, rfl⟩
  have hs07 : 0 ≤ s ∧ s < 7 := by
    rw [hs]
    match k, hk with
    | 0, _ | 1, _ | 2, _ | 3, _ | 4, _ | 5, _ | 6, _ | 7, _ => decide
  have hmf : ∀ (fn : Fn) (first cap : Array Value) (w : World), (Instr.makeFunc fn first cap).run Tryz.prog w = .ok (.func fn first cap) w := fun _ _ _ _ => rfl
  obtain ⟨wa, hwa⟩ : ∃ wa, wa = (w.alloc (.cells #[.pointer (some ⟨W, 0, none⟩)] 25)).alloc (.cells #[.int .i64 k, .int .i64 j, .int .i64 m, .int .i64 p, .int .i64 x] 147) := ⟨_, rfl⟩
  have ba : Below w.heap.size w wa := by rw [hwa]; exact ((Below.refl _ _).alloc (Nat.le_refl _) _).alloc (by simp) _
  have X0 := hid (show wa.heap[w.heap.size]? = some (.cells #[.pointer (some ⟨W, 0, none⟩)] 25 (0, 0)) by
    rw [hwa, Below.heap_alloc _ _ _ (by simp)]; exact heap_alloc_new w _)
  have X1 := hid (show wa.heap[w.heap.size + 1]? = some (.cells #[.int .i64 k, .int .i64 j, .int .i64 m, .int .i64 p, .int .i64 x] 147 (0, 0)) by
    have := heap_alloc_new (w.alloc (.cells #[.pointer (some ⟨W, 0, none⟩)] 25)) (.cells #[.int .i64 k, .int .i64 j, .int .i64 m, .int .i64 p, .int .i64 x] 147)
    rw [World.size_alloc, ← hwa] at this; exact this)
  have BA := hid ba
  have ES := hid (esteps_in k j m p x wa (T2.at ba) (T3.at ba) hk)
  rw [← hs, ← hs'] at ES
  rw [← hs]
  have HW := hid h
  have HG := hid hg
  have H1 := hid hm1
  have H2 := hid hm2
  have NE := hid ne
  have NL := hid nl
  have HR := hid hr
  have HB := hid hb
  have HL := hid (And.intro hl hl2)
  have HJ := hid (And.intro hf (And.intro j0 (And.intro j1 (And.intro hx hx2))))
  have E15 := hid e15
  have HC := hid (And.intro hc hd)
  have HS := hid hs07
  have HN := hid hn
  have d1 : wa.cell? ⟨w.heap.size + 1, 0, none⟩ = some (.int .i64 k) := blk_cell X1.out rfl
  have d2 : wa.cell? ⟨w.heap.size + 1, 1, none⟩ = some (.int .i64 j) := blk_cell X1.out rfl
  have d3 : wa.cell? ⟨w.heap.size + 1, 2, none⟩ = some (.int .i64 m) := blk_cell X1.out rfl
  have d4 : wa.cell? ⟨w.heap.size + 1, 3, none⟩ = some (.int .i64 p) := blk_cell X1.out rfl
  have d5 : wa.cell? ⟨w.heap.size + 1, 4, none⟩ = some (.int .i64 x) := blk_cell X1.out rfl
  clear h hg hm1 hm2 ne nl hr hb hl hl2 hc hd hs07 hn ba T2 T3 hs hs' hk hf j0 j1 hx hx2 e15
  go_enter Tryz.func76, Tryz.ntmps76
  go_upto_region 1 with (fail)
  rw [← hwa]
  clear hwa
  go_wp2_with fail
  refine ES.out.mono ?_
  rintro e w2 ⟨rfl, hb2⟩
  have B2 := hid (BA.out.trans (hb2.mono BA.out.size))
  have Y0 := hid ((hb2.block _ (blk_lt X0.out)).trans X0.out)
  have Y1 := hid ((hb2.block _ (blk_lt X1.out)).trans X1.out)
  clear hb2 d1 d2 d3 d4 d5 ES X0 X1 BA
  obtain ⟨pt, hpt⟩ : ∃ pt, pt = w2.heap.size := ⟨_, rfl⟩
  obtain ⟨w3, hw3⟩ : ∃ w3, w3 = w2.alloc (.cells #[.int .u64 s] 31) := ⟨_, rfl⟩
  have b3 : Below w2.heap.size w2 w3 := by rw [hw3]; exact (Below.refl _ _).alloc (Nat.le_refl _) _
  have Z := hid (show Sb w3 W w.heap.size (w.heap.size + 1) pt k j m p x s from ⟨(b3.block _ (blk_lt Y0.out)).trans Y0.out, (b3.block _ (blk_lt Y1.out)).trans Y1.out, by rw [hw3, hpt]; exact heap_alloc_new _ _⟩)
  have B3 := hid (B2.out.trans (b3.mono B2.out.size))
  have PT := hid (show w.heap.size ≤ pt by rw [hpt]; exact B2.out.size)
  have W3 := hid (HW.out.kept (w' := w3) (B3.out.block _ (blk_lt HW.out.h)))
  have d0 : w3.cell? ⟨w.heap.size, 0, none⟩ = some (.pointer (some ⟨W, 0, none⟩)) := blk_cell Z.out.a rfl
  have BS := hid (both_seeg W3.out Z.out (H1.out.below B3.out H1.out.sb H1.out.sg) (H2.out.below B3.out H2.out.sb H2.out.sg) HC.out.1 HC.out.2 HJ.out.1 HJ.out.2.1 HJ.out.2.2.1 HL.out.1 HL.out.2 HJ.out.2.2.2.1 HJ.out.2.2.2.2 HS.out.1 HS.out.2 (by have := NE.out; omega) (by
    have := H1.out.sb; have := H1.out.sg; have := PT.out
    omega))
  clear b3
  go_upto_region 2 with (fail)
  rw [← hw3, ← hpt]
  clear hw3 hpt
  go_wp2_with fail
  refine BS.out.mono ?_
  rintro e w4 ⟨rfl, hm1, hm2, ho⟩
  have M1 := hid hm1
  have M2 := hid hm2
  have O4 := hid ho
  have Z4 := hid (Z.out.kept (w' := w4) (ho.block _ (blk_lt Z.out.a) (by have := H1.out.sb; have := H1.out.sg; have := H2.out.sb; have := H2.out.sg; simp; omega)) (ho.block _ (blk_lt Z.out.b) (by have := H1.out.sb; have := H1.out.sg; have := H2.out.sb; have := H2.out.sg; simp; omega)) (ho.block _ (blk_lt Z.out.c) (by have := H1.out.sb; have := H1.out.sg; have := H2.out.sb; have := H2.out.sg; have := PT.out; simp; omega)))
  have W4 := hid (W3.out.kept (w' := w4) (ho.block _ (blk_lt W3.out.h) (by have := NE.out; simp; omega)))
  have G4 := hid ((HG.out.kept (w' := w3) (fun b hb => B3.out.block b (HG.out.lt b hb).2)).kept (w' := w4) (fun b hb => ho.block b (by have := (HG.out.lt b hb).2; have := B3.out.size; omega) (by have := NL.out b hb; simp; omega)))
  clear hm1 hm2 ho BS d0
  have d0 : w4.cell? ⟨w.heap.size, 0, none⟩ = some (.pointer (some ⟨W, 0, none⟩)) := blk_cell Z4.out.a rfl
  have d1 : w4.cell? ⟨w.heap.size + 1, 0, none⟩ = some (.int .i64 k) := blk_cell Z4.out.b rfl
  have d2 : w4.cell? ⟨w.heap.size + 1, 1, none⟩ = some (.int .i64 j) := blk_cell Z4.out.b rfl
  have d3 : w4.cell? ⟨w.heap.size + 1, 2, none⟩ = some (.int .i64 m) := blk_cell Z4.out.b rfl
  have d4 : w4.cell? ⟨w.heap.size + 1, 3, none⟩ = some (.int .i64 p) := blk_cell Z4.out.b rfl
  have d5 : w4.cell? ⟨w.heap.size + 1, 4, none⟩ = some (.int .i64 x) := blk_cell Z4.out.b rfl
  have SZ := hid (Nat.le_trans B3.out.size O4.out.size)
  have LA := hid (fun (y : World) (hq : Quiet w4 y) => (log_add y W 15 base lg ln evs k j m p x HR.out (blk_cell (W4.out.kept (w' := y) (by obtain ⟨n, rfl⟩ := hq; rfl)).h E15.out) (blk_free (W4.out.kept (w' := y) (by obtain ⟨n, rfl⟩ := hq; rfl)).h) (G4.out.kept (fun b hb => by obtain ⟨n, rfl⟩ := hq; rfl)) (fun e => (NL.out W e).1 rfl) (by have := HB.out; have := SZ.out; obtain ⟨n, rfl⟩ := hq; simp; omega) (by have := HN.out; omega)).mono (R' := fun e w' => e = .returned (.bool true) ∧ SeeG W b1 g1 b2 g2 base f n cs lg ln evs xs ys c d (f + j) s k j m p x w w') fun e w5 hx => by
    obtain ⟨he, v', w6, rfl, hlg, hvW, hvo, ho1, ho2, ho3, hsz, hblk⟩ := hx
    have e0 : ∀ b : Nat, y.heap[b]? = w4.heap[b]? := fun b => by obtain ⟨n, rfl⟩ := hq; rfl
    have es : y.heap.size = w4.heap.size := by obtain ⟨n, rfl⟩ := hq; rfl
    have eo : y.os = w4.os ∧ y.tape = w4.tape ∧ y.output = w4.output := by obtain ⟨n, rfl⟩ := hq; exact ⟨rfl, rfl, rfl⟩
    have kb : ∀ b : Nat, b < w4.heap.size → b ≠ W → lg.ownBlock ≠ some b → (w6.setCell ⟨W, 15, none⟩ v').heap[b]? = w4.heap[b]? := fun b h1 h2 h3 => (Below.heap_setCell _ _ _ _ h2).trans ((hblk b (by omega) h3).trans (e0 b))
    refine ⟨he, v', ⟨?_, ?_, ?_, ?_, ?_⟩, hlg, M1.out.blocks (kb b1 M1.out.sb (by have := NE.out; omega) (fun e => (NL.out b1 e).2.1 rfl)) (kb g1 M1.out.sg (by have := NE.out; omega) (fun e => (NL.out g1 e).2.2.1 rfl)), M2.out.blocks (kb b2 M2.out.sb (by have := NE.out; omega) (fun e => (NL.out b2 e).2.2.2.1 rfl)) (kb g2 M2.out.sg (by have := NE.out; omega) (fun e => (NL.out g2 e).2.2.2.2 rfl)), hvW, fun b hb => ?_, ?_⟩
    · exact blk_set v' ((hblk W (by have := blk_lt W4.out.h; omega) (fun e => (NL.out W e).1 rfl)).trans ((e0 W).trans W4.out.h)) rfl
    · rw [Array.getElem?_setIfInBounds_ne (by decide)]; exact W4.out.e3
    · rw [Array.getElem?_setIfInBounds_ne (by decide)]; exact W4.out.e4
    · rw [Array.getElem?_setIfInBounds_ne (by decide)]; exact W4.out.e7
    · rw [Array.getElem?_setIfInBounds_ne (by decide)]; exact W4.out.e8
    · rcases hvo b hb with h | h
      · exact .inl h
      · exact .inr (by have := SZ.out; omega)
    · have o1 : OnL (W :: b1 :: g1 :: b2 :: g2 :: lg.ownBlock.toList) w w4 := (OnL.of_below B3.out).trans (O4.out.mono (by simp))
      exact o1.trans ⟨ho1.trans eo.1, ho2.trans eo.2.1, ho3.trans eo.2.2, by simp [World.setCell]; omega, fun b hb hn => kb b hb (fun e => hn (by simp [e])) (fun e => hn (by simp [e]))⟩)
  clear Z4 W4 G4 M1 M2 O4
  go_wp2_with fail
  go_region_with (go_at_call 116; refine (LA.out _ ⟨_, rfl⟩).mono ?_; rintro e w7 ⟨rfl, h7⟩)
  all_goals
    have H7 := hid h7
    clear h7
    go_wp2
    go_end0
    exact ⟨rfl, H7.out⟩
end
end Go.Proofs.YtfpkgkjmpcoppaaGreatDoor
/-! timer.New, source.New of any number that may be: a pointer, and new memory. -/
namespace Go.Proofs.YtfpkgkjmpcoppaaGreatDoor
open Go.RowKit
set_option linter.unusedVariables false
set_option linter.unusedSimpArgs false
set_option maxRecDepth 20000
/-- So many heaps were made. -/
structure Tn (w : World) (vr : Value) (i : Nat) (wr : World) : Prop where
  bl : Below w.heap.size w wr
  box : wr.heap[w.heap.size + 1]? = some (.cells #[vr, .map (some w.heap.size), .int .u64 0] 181 (0, 0))
  own : ∃ xs, wr.ownsRow (w.heap.size + 2) 182 1 vr i xs
section
variable {w : World} {vr : Value} {i : Nat} {wr w4 : World}
theorem Tn.ge (h : Tn w vr i wr) : ∀ q, vr.ownBlock = some q → w.heap.size + 2 ≤ q := by
  obtain ⟨xs, ho⟩ := h.own
  exact fun q hq => (ho.lt q hq).1
theorem Tn.step (h : Tn w vr i wr) {gg cap : Nat} {ys : List Value}
    (hown : w4.ownsRow (w.heap.size + 2) 182 1 (.slice (some ⟨gg, 0, none⟩) (i + 1) cap) (i + 1) ys)
    (hgrow : ((wr.alloc (.cells #[.slice none 0 0] 185)).alloc (.cells #[.pointer (some ⟨wr.heap.size, 0, none⟩)] 182)).grownBy w4 vr.ownBlock) :
    w4.cell? ⟨w.heap.size + 1, 0, none⟩ = some vr ∧ w4.frozen? ⟨w.heap.size + 1, 0, none⟩ = false ∧ Tn w (.slice (some ⟨gg, 0, none⟩) (i + 1) cap) (i + 1) (w4.setCell ⟨w.heap.size + 1, 0, none⟩ (.slice (some ⟨gg, 0, none⟩) (i + 1) cap)) := by
  have hge := h.ge
  have htl := blk_lt h.box
  have hs := h.bl.size
  have e : ∀ k, k < wr.heap.size → vr.ownBlock ≠ some k → w4.heap[k]? = wr.heap[k]? := fun k hk hv => by
    rw [hgrow.block k (by simp; omega) (fun e => hv e.symm), Below.heap_alloc _ _ _ (by simp; omega), Below.heap_alloc _ _ _ hk]
  have hs4 := hgrow.size
  simp only [World.size_alloc] at hs4
  have e2 := (e (w.heap.size + 1) htl (fun hv => by have := hge _ hv; omega)).trans h.box
  have hgg := (hown.lt gg rfl).1
  refine ⟨blk_cell e2 rfl, blk_free e2, ⟨⟨hgrow.os.trans h.bl.os, hgrow.tape.trans h.bl.tape, hgrow.output.trans h.bl.output, by simp [World.setCell]; omega, fun k hk => ?_⟩, blk_set _ e2 rfl, ⟨ys, ownsRow_setCell_other hown (a := ⟨w.heap.size + 1, 0, none⟩) (by simp [Value.ownBlock]; omega) _⟩⟩⟩
  exact (Below.heap_setCell _ _ _ _ (by show k ≠ w.heap.size + 1; omega)).trans ((e k (by omega) (fun hv => by have := hge _ hv; omega)).trans (h.bl.block k hk))
theorem Tn.start (w : World) : Tn w (.slice none 0 0) 0 ((w.alloc (.map #[] 0)).alloc (.cells #[.slice none 0 0, .map (some w.heap.size), .int .u64 0] 181)) := by
  have h1 := Deep.blk_alloc_new (w.alloc (.map #[] 0)) (.cells #[.slice none 0 0, .map (some w.heap.size), .int .u64 0] 181)
  rw [World.size_alloc] at h1
  exact ⟨((Below.refl _ _).alloc (Nat.le_refl _) _).alloc (by simp) _, h1, [], World.ownsRow_nil _ _ _ _⟩
end
set_option maxHeartbeats 8000000 in
theorem tnew_g (n : Nat) (hn : 1 ≤ n) (hn2 : n ≤ 64) (w : World) : Calls Tryz.prog 69 #[.int .i64 n] w (PtrB w) := by
  have mk : ∀ T (w : World), (Instr.makeMap T none).run Tryz.prog w = .ok (.map (some w.heap.size)) (w.alloc (.map #[] 0)) := fun T w => rfl
  have S0 := hid (Tn.start w)
  go_enter Tryz.func69, Tryz.ntmps69
  go_wp2_with fail
  clear mk
  obtain ⟨t, ht⟩ : ∃ x, x = w.heap.size + 1 := ⟨_, rfl⟩
  have HT := hid ht
  rw [← ht]
  clear ht
  go_loopw [10] (fun x wr => ∃ (i : Nat) (vr : Value), i ≤ n ∧ x = .int .i64 i ∧ Hid (Tn w vr i wr)) (fun x _ => n - (intOf x).toNat)
  case atStart => exact ⟨0, _, Nat.zero_le _, rfl, S0⟩
  case round =>
    clear S0
    obtain ⟨i, vr, hi, rfl, F⟩ := hrel
    by_cases hlt : i < n
    · have tlt : decide ((i : Int) < (n : Int)) = true := decide_eq_true (by omega)
      obtain ⟨i0, h0, hz0, hz1, hz2⟩ := info_parts infoHpp
      have c0 : wr.cell? ⟨t, 0, none⟩ = some vr := by rw [HT.out]; exact blk_cell F.out.box rfl
      obtain ⟨xs, ho⟩ := F.out.own
      have OWN := hid ((ho.alloc (.cells #[.slice none 0 0] 185)).alloc (.cells #[.pointer (some ⟨wr.heap.size, 0, none⟩)] 182))
      have NB := hid (show ((wr.alloc (.cells #[.slice none 0 0] 185)).alloc (.cells #[.pointer (some ⟨wr.heap.size, 0, none⟩)] 182)).heap[wr.heap.size + 1]? = some (.cells #[.pointer (some ⟨wr.heap.size, 0, none⟩)] 182 (0, 0)) by
        have := Deep.blk_alloc_new (wr.alloc (.cells #[.slice none 0 0] 185)) (.cells #[.pointer (some ⟨wr.heap.size, 0, none⟩)] 182)
        rw [World.size_alloc] at this
        exact this)
      have B1 := hid (show i + 1 ≤ maxLen by unfold maxLen; omega)
      have B2 := hid (show (i + 1) * 8 ≤ 140737488355328 by omega)
      have B3 := hid (show w.heap.size + 2 ≤ ((wr.alloc (.cells #[.slice none 0 0] 185)).alloc (.cells #[.pointer (some ⟨wr.heap.size, 0, none⟩)] 182)).heap.size by
        have h1 := blk_lt F.out.box
        simp; omega)
      clear ho
      go_wp2_with (at_builtin; refine wpList_append_lies _ rfl _ _ 179 rfl (w.heap.size + 2) 182 i0 (.pointer none) 1 8 Tryz.underlying179 h0 hz0 hz1 hz2 rfl (by decide) vr i _ rfl OWN.out ⟨wr.heap.size + 1, 0, none⟩ 1 1 [.pointer (some ⟨wr.heap.size, 0, none⟩)] rfl rfl (World.news_of_block (cs := #[.pointer (some ⟨wr.heap.size, 0, none⟩)]) (t := 182) (fr := (0, 0)) NB.out) (by simp [Value.oneCell']) (by omega) B1.out B2.out B3.out (wr.heap.size + 2) (by simp) ?_; intro gg cap w4 hown hgrow hat hl4; obtain ⟨y0, f0, F4⟩ := F.out.step hown hgrow; have F4 := hid F4; rw [← HT.out] at y0 f0 F4; clear hown hgrow hat hl4 c0)
      go_roundw
      case rel => exact ⟨i + 1, _, by omega, by go_num, F4⟩
      case measure => simp [intOf]; omega
    · obtain rfl : i = n := by omega
      have tlt : decide ((i : Int) < (i : Int)) = false := decide_eq_false (by omega)
      have B := hid F.out.bl
      go_wp2
      go_ret
      exact ⟨t, rfl, B.out⟩
set_option maxHeartbeats 2000000 in
theorem snew_g (n : Nat) (hn : 1 ≤ n) (hn2 : n ≤ 64) (w : World) : Calls Tryz.prog 40 #[.int .i64 n] w (PtrB w) := by
  have TN := hid (fun y => tnew_g n hn hn2 y)
  go_enter Tryz.func40, Tryz.ntmps40
  go_wp2_with fail
  refine (TN.out _).mono ?_
  rintro e w2 ⟨t, rfl, hb⟩
  have B2 := hid hb
  clear hb TN
  go_wp2_with fail
  refine (pnew_b _).mono ?_
  rintro e w3 ⟨p, rfl, hb⟩
  have hs := B2.out.size
  have B3 := hid (B2.out.trans (hb.mono B2.out.size))
  have hs3 := B3.out.size
  clear hb
  go_wp2
  go_ret
  exact ⟨_, rfl, B3.out.alloc hs3 _⟩
end Go.Proofs.YtfpkgkjmpcoppaaGreatDoor
