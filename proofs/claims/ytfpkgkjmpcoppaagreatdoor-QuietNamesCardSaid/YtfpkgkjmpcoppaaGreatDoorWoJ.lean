/- A world of one: an event is seen: the status, in both memories; the log. -/
import Derived.Test.YtfpkgkjmpcoppaaGreatDoorWoD
import Derived.Test.YtfpkgkjmpcoppaaGreatDoorPre2
namespace Go.Proofs.YtfpkgkjmpcoppaaGreatDoor
open Go.RowKit
set_option linter.unusedVariables false
set_option linter.unusedSimpArgs false
set_option maxRecDepth 20000
section
variable {w w' : World} {W b1 b2 rb tb q sb ib mb rc : Nat} {lg : Value}
theorem thas_in0 (f n g : Int) (w : World) (h0 : 0 ≤ g) (h1 : g < n) : Calls Tryz.prog 77 #[.agg #[.int .i64 f, .int .i64 n], .int .i64 g] w fun e w' => e = .returned (.bool true) ∧ Below w.heap.size w w' := by
  have t1 : decide (0 ≤ g) = true := decide_eq_true h0
  have t2 : decide (g < n) = true := decide_eq_true h1
  go_enter Tryz.func77, Tryz.ntmps77
  go_wp2
  go_ret
  exact ⟨rfl, (Below.refl _ _).alloc (Nat.le_refl _) _⟩
set_option maxHeartbeats 4000000 in
theorem tset0 (b g : Nat) (xs : List Int) (c : Nat) (s : Int) (w : World) (hm : Mem w b g xs c) (hc : c < 1000000) (hl : xs.length = 9) (h0 : 0 ≤ s) (h7 : s < 7) :
    Calls Tryz.prog 115 #[.agg #[.int .i64 8, .int .i64 1], .pointer (some ⟨b, 0, none⟩), .int .i64 0, .int .u64 s] w fun e w' => e = .returned (.bool true) ∧ Mem w' b g (xs.set 8 s) (c + 1) ∧ Only b g w w' := by
  have HM := hid hm
  have hb0 : Below w.heap.size w (w.alloc (.cells #[.int .i64 8, .int .i64 1] 84)) := (Below.refl _ _).alloc (Nat.le_refl _) _
  have B0 := hid hb0
  have HL := hid hl
  have HC := hid hc
  have BX := hid (heap_alloc_new w (.cells #[.int .i64 8, .int .i64 1] 84))
  have t7 : s < 7 := h7
  clear hm hl hc hb0
  go_enter Tryz.func115, Tryz.ntmps115
  go_wp2_with fail
  refine (thas_in0 8 1 0 _ (by omega) (by omega)).mono ?_
  rintro e w2 ⟨rfl, hb⟩
  have B2 := hid (B0.out.trans (hb.mono B0.out.size))
  have X2 := (hb.block _ (by simp)).trans BX.out
  have c0 : w2.cell? ⟨w.heap.size, 0, none⟩ = some (.int .i64 8) := by simp [World.cell?, X2]
  have M2 := hid (HM.out.below B2.out HM.out.sb HM.out.sg)
  clear hb X2
  go_wp2_with fail
  refine (store_in b g xs c 8 s _ M2.out (by have := HC.out; omega) (by omega) (by have := HL.out; omega)).mono ?_
  rintro e w3 ⟨rfl, hm3, ho3⟩
  have M3 := hid hm3
  have O3 := hid ((Only.of_below B2.out).trans ho3)
  clear hm3 ho3
  go_wp2
  go_ret
  exact ⟨rfl, M3.out, O3.out⟩
/-- The boxes of see's closure: the world, the event, the status to be. -/
structure Sb (w : World) (W pw pe pt : Nat) (k g m p x s : Int) : Prop where
  a : w.heap[pw]? = some (.cells #[.pointer (some ⟨W, 0, none⟩)] 25 (0, 0))
  b : w.heap[pe]? = some (.cells #[.int .i64 k, .int .i64 g, .int .i64 m, .int .i64 p, .int .i64 x] 147 (0, 0))
  c : w.heap[pt]? = some (.cells #[.int .u64 s] 31 (0, 0))
theorem Sb.kept {W pw pe pt : Nat} {k g m p x s : Int} (h : Sb w W pw pe pt k g m p x s) (e1 : w'.heap[pw]? = w.heap[pw]?) (e2 : w'.heap[pe]? = w.heap[pe]?) (e3 : w'.heap[pt]? = w.heap[pt]?) : Sb w' W pw pe pt k g m p x s := ⟨e1.trans h.a, e2.trans h.b, e3.trans h.c⟩
set_option maxHeartbeats 4000000 in
theorem see1 {pw pe pt b g : Nat} {k m p x s : Int} {xs : List Int} {c : Nat} (h : Wb w W b1 b2 rb tb q sb ib mb rc lg) (hs : Sb w W pw pe pt k 0 m p x s) (hm : Mem w b g xs c) (hc : c < 1000000) (hl : xs.length = 9) (h0 : 0 ≤ s) (h7 : s < 7) :
    Calls Tryz.prog 114 #[.pointer (some ⟨b, 0, none⟩), .pointer (some ⟨pw, 0, none⟩), .pointer (some ⟨pe, 0, none⟩), .pointer (some ⟨pt, 0, none⟩)] w fun e w' => e = .returned (.tuple #[]) ∧ Mem w' b g (xs.set 8 s) (c + 1) ∧ Only b g w w' := by
  have d0 : w.cell? ⟨pw, 0, none⟩ = some (.pointer (some ⟨W, 0, none⟩)) := blk_cell hs.a rfl
  have d1 : w.cell? ⟨pe, 1, none⟩ = some (.int .i64 0) := blk_cell hs.b rfl
  have d2 : w.cell? ⟨pt, 0, none⟩ = some (.int .u64 s) := blk_cell hs.c rfl
  have a7 := h.c7
  have a8 := h.c8
  have TS := hid (fun (y : World) (hq : Quiet w y) => (tset0 b g xs c s y (hm.quiet hq) hc hl h0 h7).mono (R' := fun e w' => e = .returned (.bool true) ∧ Mem w' b g (xs.set 8 s) (c + 1) ∧ Only b g w w') fun e w' hx => ⟨hx.1, hx.2.1, (Only.of_quiet hq).trans hx.2.2⟩)
  clear h hs hm hc hl h0 h7
  go_enter Tryz.func114, Tryz.ntmps114
  go_wp2_with fail
  go_region_with (go_at_call 115; refine (TS.out _ ⟨_, rfl⟩).mono ?_; rintro e w5 ⟨rfl, h5, o5⟩)
  all_goals
    have H5 := hid h5
    have O5 := hid o5
    clear h5 o5
    go_wp2
    go_end0
    exact ⟨rfl, H5.out, O5.out⟩
/-- What both leave. -/
def BothP (b1 g1 b2 g2 : Nat) (xs ys : List Int) (c d : Nat) (s : Int) (w w' : World) : Prop := Mem w' b1 g1 (xs.set 8 s) (c + 1) ∧ Mem w' b2 g2 (ys.set 8 s) (d + 1) ∧ OnL [b1, g1, b2, g2] w w'
set_option maxHeartbeats 4000000 in
theorem both_see {pw pe pt g1 g2 : Nat} {k m p x s : Int} {xs ys : List Int} {c d : Nat} (h : Wb w W b1 b2 rb tb q sb ib mb rc lg) (hs : Sb w W pw pe pt k 0 m p x s) (hm1 : Mem w b1 g1 xs c) (hm2 : Mem w b2 g2 ys d) (hc : c < 1000000) (hd : d < 1000000) (hl : xs.length = 9) (hl2 : ys.length = 9) (h0 : 0 ≤ s) (h7 : s < 7)
    (ne : b1 ≠ b2 ∧ b1 ≠ g2 ∧ g1 ≠ b2 ∧ g1 ≠ g2 ∧ W ≠ b1 ∧ W ≠ g1) (np : pw ≠ b1 ∧ pw ≠ g1 ∧ pe ≠ b1 ∧ pe ≠ g1 ∧ pt ≠ b1 ∧ pt ≠ g1) :
    Calls Tryz.prog 113 #[.pointer (some ⟨W, 0, none⟩), .func (.func 114) #[] #[.pointer (some ⟨pw, 0, none⟩), .pointer (some ⟨pe, 0, none⟩), .pointer (some ⟨pt, 0, none⟩)]] w fun e w' => e = .returned (.tuple #[]) ∧ BothP b1 g1 b2 g2 xs ys c d s w w' := by
  have a3 := h.c3
  have S1 := hid (see1 h hs hm1 hc hl h0 h7)
  have S2 := hid (fun (y : World) (ho : Only b1 g1 w y) => (show Wb y W b1 b2 rb tb q sb ib mb rc lg ∧ Calls Tryz.prog 114 #[.pointer (some ⟨b2, 0, none⟩), .pointer (some ⟨pw, 0, none⟩), .pointer (some ⟨pe, 0, none⟩), .pointer (some ⟨pt, 0, none⟩)] y fun e w' => e = .returned (.tuple #[]) ∧ Mem w' b2 g2 (ys.set 8 s) (d + 1) ∧ Only b2 g2 y w' from by
    have hy := h.kept (w' := y) (ho.block _ h.lt ne.2.2.2.2.1 ne.2.2.2.2.2)
    exact ⟨hy, see1 hy (hs.kept (ho.block _ (blk_lt hs.a) np.1 np.2.1) (ho.block _ (blk_lt hs.b) np.2.2.1 np.2.2.2.1) (ho.block _ (blk_lt hs.c) np.2.2.2.2.1 np.2.2.2.2.2)) (hm2.other ho (Ne.symm ne.1) (Ne.symm ne.2.2.1) (Ne.symm ne.2.1) (Ne.symm ne.2.2.2.1)) hd hl2 h0 h7⟩))
  have NE := hid ne
  clear h hs hm1 hm2 hc hd hl hl2 h0 h7 ne np
  go_enter Tryz.func113, Tryz.ntmps113
  go_wp2_with fail
  refine S1.out.mono ?_
  rintro e w2 ⟨rfl, hm, ho⟩
  have M2 := hid hm
  have O2 := hid ho
  have HW2 := hid (S2.out w2 ho)
  have a4 := HW2.out.1.c4
  clear hm ho a3
  go_wp2_with fail
  refine HW2.out.2.mono ?_
  rintro e w3 ⟨rfl, hm, ho⟩
  have FIN := hid (show BothP b1 g1 b2 g2 xs ys c d s w w3 from ⟨M2.out.other ho NE.out.1 NE.out.2.1 NE.out.2.2.1 NE.out.2.2.2.1, hm, (OnL.of_only O2.out (by simp) (by simp)).trans (OnL.of_only ho (by simp) (by simp))⟩)
  clear hm ho
  go_wp2
  go_end0
  exact ⟨rfl, FIN.out⟩
end
end Go.Proofs.YtfpkgkjmpcoppaaGreatDoor
