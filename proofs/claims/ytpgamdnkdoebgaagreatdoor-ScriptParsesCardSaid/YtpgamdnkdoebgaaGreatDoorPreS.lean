/- What other texts are built of: ScL, ScQ, ScV, ScX. -/
import Derived.Test.YtpgamdnkdoebgaaGreatDoorScR
import Derived.Deep.CutBlock
import Derived.Test.YtpgamdnkdoebgaaGreatDoorLives20
import Derived.Test.YtpgamdnkdoebgaaGreatDoorPreG
/-! script.Parse: it ends, and what it answers. -/
namespace Go.Proofs.YtpgamdnkdoebgaaGreatDoor
open Go.RowKit
set_option linter.unusedVariables false
set_option linter.unusedSimpArgs false
set_option maxRecDepth 20000
/-- What a script reads as. -/
def SpP (w : World) (s : ByteArray) (e : Ending) (w' : World) : Prop :=
  ∃ n v, EndS s (cfM s) (cfG s) n ∧ e = .returned (.tuple #[.agg #[.int .i64 (cfP s), .int .i64 (cfM s), .int .i64 (cfG s)], v]) ∧ RdS w' v (goS s (cfM s) (cfG s) n).2 ∧ Below w.heap.size w w'
theorem SpP.mk {w w1 : World} {p g off cb base i n : Nat} {s : ByteArray} {L : List Sp} {v : Value} (h : Pz w p g off cb base s (cfP s) (cfM s) (cfG s) i L v w1) (hn : EndS s (cfM s) (cfG s) n) (hg : goS s (cfM s) (cfG s) n = (i, L)) :
    (((w1.setCell ⟨w.heap.size, 0, none⟩ (.int .i64 (cfP s))).setCell ⟨w.heap.size, 1, none⟩ (.int .i64 (cfM s))).setCell ⟨w.heap.size, 2, none⟩ (.int .i64 (cfG s))).heap[w.heap.size]? = some (.cells #[.int .i64 (cfP s), .int .i64 (cfM s), .int .i64 (cfG s)] 25 (0, 0)) ∧
    SpP w s (.returned (.tuple #[.agg #[.int .i64 (cfP s), .int .i64 (cfM s), .int .i64 (cfG s)], v])) (((w1.setCell ⟨w.heap.size, 0, none⟩ (.int .i64 (cfP s))).setCell ⟨w.heap.size, 1, none⟩ (.int .i64 (cfM s))).setCell ⟨w.heap.size, 2, none⟩ (.int .i64 (cfG s))) := by
  have h1 := h.hp
  have h2 := h.hc
  have h3 := h.hb
  have e0 := heap_setCell_same w1 _ 0 _ _ (.int .i64 (cfP s)) h.rb
  have e1 := heap_setCell_same _ _ 1 _ _ (.int .i64 (cfM s)) e0
  have e2 := heap_setCell_same _ _ 2 _ _ (.int .i64 (cfG s)) e1
  simp only [List.setIfInBounds_toArray, List.set_cons_succ, List.set_cons_zero] at e2
  have ho : ∀ (j : Nat) (x : Value) (y : World), O1 w.heap.size y (y.setCell ⟨w.heap.size, j, none⟩ x) := fun j x y => ⟨rfl, rfl, rfl, by simp [World.setCell], fun k hk hn => heap_setCell_other y _ _ _ (by simpa using hn)⟩
  have hO := ((ho 0 (.int .i64 (cfP s)) w1).trans (ho 1 (.int .i64 (cfM s)) _)).trans (ho 2 (.int .i64 (cfG s)) _)
  refine ⟨e2, n, v, hn, rfl, ?_, h.bl.trans (hO.below (Nat.le_refl _) h.size)⟩
  rw [hg]
  refine own_rdS (base := base) (t := 34) ?_
  exact h.ow.kept (row := some w.heap.size) ⟨hO.os, hO.tape, hO.output, hO.size, fun k hk hn => hO.block k hk (fun e => hn (by rw [e]))⟩ (by
    rcases hv : v.ownBlock with _ | q
    · exact .inl rfl
    · have := (World.ownsRow.lt h.ow q hv).1
      exact .inr (by simp; omega))
theorem goS_succ {s : ByteArray} {M G : Int} {n i : Nat} {L : List Sp} (h : goS s M G n = (i, L)) : goS s M G (n + 1) = ((stepS s M G i).2.2, L ++ List.replicate (min (stepS s M G i).2.1.toNat (2000 - L.length)) (stepS s M G i).1) := by
  simp only [goS, h]
set_option maxHeartbeats 16000000 in
theorem sparse (w : World) (g off : Nat) (s : ByteArray) (a : Option Addr) (c : Nat) (h1 : s.size ≤ c) (h2 : c ≤ maxLen) (h : 0 < s.size → a = some ⟨g, off, none⟩ ∧ g < w.heap.size ∧ Lib.Bytes w g off s) (hs : s.size ≤ 100000) : Calls Tryz.prog 7 #[.slice a s.size c] w (SpP w s) := by
  have A0 := atB_rng s 0
  have A1 := atB_rng s 1
  have A2 := atB_rng s 2
  have hP1 : 1 ≤ cfP s := by unfold cfP; omega
  have hM1 : 1 ≤ cfM s := by unfold cfM cfP; omega
  have hG1 : 1 ≤ cfG s := by unfold cfG; omega
  have hb0 : Below w.heap.size w ((w.alloc (.cells #[.int .i64 0, .int .i64 0, .int .i64 0] 25)).alloc (.cells #[.slice a s.size c] 61)) := ((Below.refl _ _).alloc (Nat.le_refl _) _).alloc (by simp) _
  have LF := hid (show Lf ((w.alloc (.cells #[.int .i64 0, .int .i64 0, .int .i64 0] 25)).alloc (.cells #[.slice a s.size c] 61)) (w.heap.size + 1) g off s 0 from
    ⟨a, c, by have := heap_alloc_new (w.alloc (.cells #[.int .i64 0, .int .i64 0, .int .i64 0] 25)) (.cells #[.slice a s.size c] 61); rw [World.size_alloc] at this; exact this, by omega, h2, fun hi => ⟨(h hi).1, by have := (h hi).2.1; omega, by simp; have := (h hi).2.1; omega, fun j hj => (hb0.cell (p := ⟨g, off + j, none⟩) (h hi).2.1).trans ((h hi).2.2 j hj)⟩⟩)
  have RB := hid (show ((w.alloc (.cells #[.int .i64 0, .int .i64 0, .int .i64 0] 25)).alloc (.cells #[.slice a s.size c] 61)).heap[w.heap.size]? = some (.cells #[.int .i64 0, .int .i64 0, .int .i64 0] 25 (0, 0)) by rw [Below.heap_alloc _ _ _ (by simp)]; exact heap_alloc_new _ _)
  have HB := hid hb0
  have HSZ := hid (show ((w.alloc (.cells #[.int .i64 0, .int .i64 0, .int .i64 0] 25)).alloc (.cells #[.slice a s.size c] 61)).heap.size = w.heap.size + 2 by simp)
  have CF := hid (sconfig _ _ _ _ _ LF.out hs)
  have GL := hid (fun hi => (h hi).2.1)
  have MK := hid (fun (i n : Nat) (cb base : Nat) (L : List Sp) (v : Value) (w1 : World) (h : Pz w (w.heap.size + 1) g off cb base s (cfP s) (cfM s) (cfG s) i L v w1) hn hg => SpP.mk (n := n) h hn hg)
  have ST := hid (fun w1 i (h : Lf w1 (w.heap.size + 1) g off s i) (hg : 0 < s.size → g < w1.heap.size) => sstep w1 (w.heap.size + 1) g off s i (cfP s) (cfM s) (cfG s) h hg hs hM1 hG1)
  clear h hb0
  generalize hP : cfP s = P at *
  generalize hM : cfM s = M at *
  generalize hG : cfG s = G at *
  have HPM := hid (And.intro hP (And.intro hM hG))
  clear hP hM hG A0 A1 A2
  obtain ⟨i0, hi, hz0, hz1, hz2⟩ := info_parts infoSt
  have HI := hid (And.intro hi (And.intro hz0 (And.intro hz1 hz2)))
  clear hi hz0 hz1 hz2
  go_enter Tryz.func7, Tryz.ntmps7
  go_upto_region 2 with (fail)
  generalize ((w.alloc (.cells #[.int .i64 0, .int .i64 0, .int .i64 0] 25)).alloc (.cells #[.slice a s.size c] 61)) = W0 at *
  go_wp2_with fail
  refine CF.out.mono ?_
  rintro e w2 ⟨rfl, hl, ho⟩
  have Z0 := hid (show Pz w (w.heap.size + 1) g off w2.heap.size (w2.heap.size + 1) s P M G 3 [] (.slice none 0 0) (w2.alloc (.cells #[.int .i64 P, .int .i64 M, .int .i64 G] 25)) from by
    have hz := HSZ.out
    have ho5 := ho.size
    refine ⟨hl.below ((Below.refl _ _).alloc (Nat.le_refl _) _), heap_alloc_new _ _, ?_, World.ownsRow_nil _ _ _ _, (HB.out.trans (ho.below (by omega) (by omega))).alloc (by omega) _, rfl, by omega, by omega, by simp, GL.out⟩
    rw [Below.heap_alloc _ _ _ (by omega), ho.block _ (by omega) (by omega)]
    exact RB.out)
  clear hl ho CF LF RB HB
  generalize hcb : w2.heap.size = cb at *
  generalize hw3 : w2.alloc (.cells #[.int .i64 P, .int .i64 M, .int .i64 G] 25) = w3 at *
  have HW3 := hid hw3
  have HCB := hid hcb
  clear hw3 hcb
  go_wp2_with fail
  rw [HCB.out, HW3.out]
  go_loopw [6] (fun v6 wr => ∃ (n i : Nat) (L : List Sp) (a3 : Option Addr) (m c3 : Nat), .slice a3 m c3 = v6 ∧ Hid (L.length = m) ∧ Hid (goS s M G n = (i, L)) ∧ Hid (∀ j, j < n → onS s (goS s M G j)) ∧ Hid (Pz w (w.heap.size + 1) g off cb (cb + 1) s P M G i L (.slice a3 m c3) wr)) (fun _ wr => leftN (w.heap.size + 1) wr)
  case atStart => exact ⟨0, 3, [], none, 0, 0, rfl, hid rfl, hid rfl, hid (fun j hj => by omega), Z0⟩
  case round =>
    obtain ⟨n, i, L, a3, m, c3, rfl, LN, GO, ON, Z⟩ := hrel
    obtain ⟨lf0, a1, c1, q1, qf⟩ := Z.out.lf.left
    have HLF := hid lf0
    obtain ⟨⟨k0, k1, k2⟩, _⟩ := cells3 Z.out.cf
    have LE := goS_len s M G n
    rw [GO.out] at LE
    simp only [LN.out] at LE
    have hm63 : (m : Int) ≤ 2000 := by omega
    have hm0 : (0 : Int) ≤ m := by omega
    clear lf0
    by_cases hon : i < s.size ∧ m < 2000
    · obtain ⟨hi, hm2⟩ := hon
      have hm3 : (m : Int) < 2000 := by omega
      have hl0 : (0 : Int) < ((s.size - i : Nat) : Int) := by omega
      have HI1 := hid hi
      have STC : Calls Tryz.prog 22 #[.pointer (some ⟨w.heap.size + 1, 0, none⟩), .agg #[.int .i64 P, .int .i64 M, .int .i64 G]] wr (StP (w.heap.size + 1) g off s M G i wr) := ST.out wr i Z.out.lf (fun h => by have := GL.out h; have := Z.out.size; omega)
      have GS := goS_succ GO.out
      have TM := stepS_times s M G i
      have NX := (stepS_next s M G i).1
      unfold StP spV at STC
      rcases hst : stepS s M G i with ⟨⟨x0, x1, x2, x3, x4⟩, t, j⟩
      rw [hst] at STC GS TM NX
      simp only at STC GS TM NX
      have STC := hid STC
      have GS := hid GS
      clear hst
      generalize s.size - i = ln at q1 hl0
      obtain ⟨T, hT⟩ : ∃ T : Nat, T = min t.toNat (2000 - m) := ⟨_, rfl⟩
      have HT := hid hT
      have hw : IntKind.i64.wrap (2000 - (m : Int)) = 2000 - m := by
        have hb : IntKind.i64.bits = 64 := rfl
        have hs : IntKind.i64.signed = true := rfl
        simp [IntKind.wrap, hb, hs]; split <;> omega
      have hmin : min t (2000 - (m : Int)) = (T : Int) := by omega
      have hT0 : T ≤ 2000 - m := by omega
      have HJ0 := hid hi
      clear hT
      go_wp2_with fail
      refine STC.out.mono ?_
      rintro e w4 ⟨rfl, hl, ho⟩
      have Z4 := hid (Z.out.next hl ho)
      have J := hid (Z4.out.box (x0, x1, x2, x3, x4))
      simp only at J
      clear hl ho STC k0 k1 k2 q1
      go_upto_region 6 with (fail)
      generalize hsb : w4.heap.size = sb at *
      generalize hw5 : w4.alloc (.cells #[.int .u8 x0, .int .u8 x1, .int .i64 x2, .int .i64 x3, .int .i64 x4] 34) = w5 at *
      clear hsb hw5 Z4
      go_wp2_with fail
      go_loopw [6, 36] (fun v6 v36 wr => ∃ (k mm : Nat) (a4 : Option Addr) (c4 : Nat), k ≤ T ∧ Hid (mm = m + k) ∧ .slice a4 mm c4 = v6 ∧ v36 = .int .i64 k ∧ Hid ((L ++ List.replicate k (x0, x1, x2, x3, x4)).length = mm) ∧ Hid (Pj w (w.heap.size + 1) g off cb (cb + 1) s P M G j (L ++ List.replicate k (x0, x1, x2, x3, x4)) (.slice a4 mm c4) sb (x0, x1, x2, x3, x4) wr)) (fun _ v36 _ => T - (intOf v36).toNat)
      case atStart => exact ⟨0, m, a3, c3, Nat.zero_le _, hid rfl, rfl, rfl, hid (by simp [LN.out]), hid (by simpa using J.out)⟩
      case round =>
        obtain ⟨k, mm, a4, c4, hk, hmm, rfl, rfl, LK, JK⟩ := hrel
        by_cases hkT : k < T
        · have hk2 : (k : Int) < (T : Int) := by omega
          have hmx : mm + 1 ≤ 2000 := by have := hmm.out; omega
          obtain ⟨⟨b0, b1, b2, b3, b4⟩, _⟩ := cells5 JK.out.bx
          have J2 := hid (JK.out.alloc (.cells #[.int .u8 x0, .int .u8 x1, .int .i64 x2, .int .i64 x3, .int .i64 x4] 34))
          have OW := hid (show (wr.alloc (.cells #[.int .u8 x0, .int .u8 x1, .int .i64 x2, .int .i64 x3, .int .i64 x4] 34)).ownsRow (cb + 1) 34 5 (.slice a4 mm c4) mm (ft (L ++ List.replicate k (x0, x1, x2, x3, x4))) by have h := J2.out.z.ow; rw [LK.out] at h; exact h)
          have NW := hid (news_st wr (x0, x1, x2, x3, x4) 34)
          simp only at NW b0 b1 b2 b3 b4
          clear JK
          go_wp2_with (at_builtin; refine wpList_append_own_at _ rfl _ _ 26 rfl (cb + 1) 34 i0 _ 5 32 Tryz.underlying26 HI.out.1 HI.out.2.1 HI.out.2.2.1 HI.out.2.2.2 rfl (by decide) _ _ _ rfl OW.out ⟨wr.heap.size, 0, none⟩ 1 1 (ft [(x0, x1, x2, x3, x4)]) rfl rfl NW.out (ft_ones _) (by unfold maxLen; omega) (by omega) (by have := J2.out.z.bs; exact this) ?_)
          intro v' w8 hown hgrow _ hxo
          obtain ⟨a', cap', rfl⟩ := own_sliceS hown
          have RP := hid (show L ++ List.replicate (k + 1) ((x0, x1, x2, x3, x4) : Sp) = (L ++ List.replicate k (x0, x1, x2, x3, x4)) ++ [(x0, x1, x2, x3, x4)] by rw [List.replicate_succ', List.append_assoc])
          have LK2 := hid (show (L ++ List.replicate (k + 1) ((x0, x1, x2, x3, x4) : Sp)).length = mm + 1 by rw [RP.out, List.length_append, LK.out]; rfl)
          have J3 := hid (J2.out.grow (L' := L ++ List.replicate (k + 1) (x0, x1, x2, x3, x4)) (v' := .slice a' (mm + 1) cap') (by rw [LK2.out, RP.out, ft_app]; exact hown) hgrow (by simpa using hxo))
          clear hown hgrow hxo J2 OW NW b0 b1 b2 b3 b4
          go_wp2_with fail
          go_roundw
          case rel => exact ⟨k + 1, mm + 1, _, _, by omega, hid (by have := hmm.out; omega), rfl, by go_num, LK2, J3⟩
          case measure => simp [intOf]; omega
        · obtain rfl : k = T := by omega
          go_wp2_with fail
          refine ⟨⟨n + 1, j, L ++ List.replicate k (x0, x1, x2, x3, x4), a4, mm, c4, rfl, LK, hid ?_, hid ?_, hid JK.out.z⟩, ?_⟩
          · rw [GS.out, LN.out, ← HT.out]
          · intro q hq
            rcases Nat.lt_or_ge q n with h | h
            · exact ON.out q h
            · obtain rfl : q = n := by omega
              rw [GO.out]
              exact ⟨HJ0.out, by show L.length < 2000; rw [LN.out]; exact hm2⟩
          · rw [JK.out.z.lf.left.1, HLF.out]
            have := HJ0.out
            omega
    · have EN := hid (show EndS s M G n from ⟨ON.out, by rw [GO.out]; intro h; exact hon ⟨h.1, by have := h.2; simp only [LN.out] at this; exact this⟩⟩)
      obtain ⟨FB, FS⟩ := MK.out i n cb (cb + 1) L _ wr Z.out EN.out GO.out
      obtain ⟨⟨e0, e1, e2⟩, _⟩ := cells3 FB
      obtain ⟨⟨d0, d1, d2⟩, f0, f1, f2⟩ := cells3 Z.out.rb
      have FS := hid FS
      clear FB MK EN
      by_cases hi : i < s.size
      · have hm3 : ¬ (m : Int) < 2000 := by intro h; exact hon ⟨hi, by omega⟩
        have hl0 : (0 : Int) < ((s.size - i : Nat) : Int) := by omega
        generalize s.size - i = ln at q1 hl0
        clear hon
        go_wp2
        exact bodyPost_ret (by simp [results, Tryz.results7, go_sem, e0, e1, e2]) rfl FS.out
      · rw [show s.size - i = 0 by omega] at q1
        clear hon
        go_wp2
        exact bodyPost_ret (by simp [results, Tryz.results7, go_sem, e0, e1, e2]) rfl FS.out
end Go.Proofs.YtpgamdnkdoebgaaGreatDoor
/-! hostlerref21.Parse: it ends, and what it answers (written by wip/tools/gensc.py). -/
namespace Go.Proofs.YtpgamdnkdoebgaaGreatDoor
open Go.RowKit
set_option linter.unusedVariables false
set_option linter.unusedSimpArgs false
set_option maxRecDepth 20000
theorem infoSr : (Tryz.prog.info? 33).map (fun i => (i.zero, i.size, i.bytes)) = some (some (.agg #[.int .u8 0, .int .u8 0, .int .i64 0, .int .i64 0, .int .i64 0]), 5, 32) := by kernel_rfl
/-- A row of steps, and the box of the next one. -/
structure Rq (w0 : World) (Q X : Nat) (pk : Array Value) (L : List Sp) (v : Value) (m : Nat) (y : World) : Prop where
  ow : y.ownsRow Q 33 5 v m (ft L)
  bl : Below Q w0 y
  bx : y.heap[X]? = some (.cells pk 33 (0, 0))
  ne : v.ownBlock ≠ some X
  qx : Q ≤ X
section
variable {w0 y y' : World} {Q X m : Nat} {pk : Array Value} {L : List Sp} {v : Value}
theorem Rq.new (hw : y.ownsRow Q 33 5 v m (ft L)) (hb : Below Q w0 y) (hq : Q ≤ y.heap.size) (pk : Array Value) : Rq w0 Q y.heap.size pk L v m (y.alloc (.cells pk 33)) :=
  ⟨hw.alloc _, hb.alloc hq _, heap_alloc_new _ _, fun e => by have := (World.ownsRow.lt hw _ e).2; omega, hq⟩
theorem Rq.size (h : Rq w0 Q X pk L v m y) : X < y.heap.size := (Array.getElem?_eq_some_iff.1 h.bx).1
theorem Rq.alloc (h : Rq w0 Q X pk L v m y) (o : Obj) : Rq w0 Q X pk L v m (y.alloc o) := by
  have h1 := h.size
  have h2 := h.qx
  exact ⟨h.ow.alloc _, h.bl.alloc (by omega) _, (Below.heap_alloc _ _ _ h1).trans h.bx, h.ne, h2⟩
theorem Rq.set (h : Rq w0 Q X pk L v m y) (j : Nat) (x : Value) (pk' : Array Value) (hx : pk.setIfInBounds j x = pk') : Rq w0 Q X pk' L v m (y.setCell ⟨X, j, none⟩ x) := by
  have h1 := h.size
  have h2 := h.qx
  have hg : y.grownBy (y.setCell ⟨X, j, none⟩ x) (some X) := ⟨rfl, rfl, rfl, by simp [World.setCell], fun k hk hn => heap_setCell_other y _ _ _ (by simpa using fun e => hn (by rw [e]))⟩
  refine ⟨h.ow.kept hg (.inr h.ne), h.bl.grown hg (by omega) (fun k hk => by simp at hk; omega), ?_, h.ne, h2⟩
  rw [heap_setCell_same y _ j _ _ _ h.bx, hx]
theorem Rq.grow (h : Rq w0 Q X pk L v m y) {L' : List Sp} {v' : Value} {m' : Nat} (ho : y'.ownsRow Q 33 5 v' m' (ft L')) (hg : y.grownBy y' v.ownBlock) (hx : v'.ownBlock = v.ownBlock ∨ v'.ownBlock = some y.heap.size) : Rq w0 Q X pk L' v' m' y' := by
  have h1 := h.size
  have h2 := h.qx
  refine ⟨ho, h.bl.grown hg (by omega) (fun k hk => (World.ownsRow.lt h.ow k hk).1), (hg.block _ h1 (fun e => h.ne e.symm)).trans h.bx, ?_, h2⟩
  rcases hx with e | e
  · rw [e]; exact h.ne
  · rw [e]; simp; omega
end
theorem goS_one {s : ByteArray} {M G : Int} {n i j : Nat} {L : List Sp} {x : Sp} (h : goS s M G n = (i, L)) (hl : L.length < 2000) (hs : stepS s M G i = (x, 1, j)) : goS s M G (n + 1) = (j, L ++ [x]) := by
  rw [goS_succ h, hs]
  simp only [show min (1 : Int).toNat (2000 - L.length) = 1 by simp; omega, List.replicate_one]
/-- What the document's script reads as. -/
def RqP (w : World) (s : ByteArray) (e : Ending) (w' : World) : Prop :=
  ∃ n v, EndS s (cfM s) (cfG s) n ∧ e = .returned (.tuple #[.int .i64 (cfP s), .int .i64 (cfM s), .int .i64 (cfG s), v]) ∧ RdS w' v (goS s (cfM s) (cfG s) n).2 ∧ Below w.heap.size w w'
theorem RqP.mk {w w1 : World} {i n m Q : Nat} {s : ByteArray} {L : List Sp} {v : Value} (hn : EndS s (cfM s) (cfG s) n) (hg : goS s (cfM s) (cfG s) n = (i, L)) (hl : L.length = m) (hw : w1.ownsRow Q 33 5 v m (ft L)) (hb : Below Q w w1) (hQ : Q = w.heap.size) :
    RqP w s (.returned (.tuple #[.int .i64 (cfP s), .int .i64 (cfM s), .int .i64 (cfG s), v])) w1 := by
  subst hQ
  exact ⟨n, v, hn, rfl, by rw [hg]; exact own_rdS (by rw [hl]; exact hw), hb⟩
set_option maxHeartbeats 32000000 in
theorem rparse (w : World) (s : ByteArray) (hs : s.size ≤ 100000) : Calls Tryz.prog 8 #[.string s] w (RqP w s) := by
  have A0 := atB_rng s 0
  have A1 := atB_rng s 1
  have A2 := atB_rng s 2
  have AA := hid (fun i => atB_rng s i)
  have C0 := hid (rat_any s 0 hs w)
  have C1 := hid (rat_any s 1 hs w)
  have C2 := hid (rat_any s 2 hs w)
  have AT := hid (fun (w : World) (i : Nat) => rat_any s i hs w)
  obtain ⟨Q, hQ⟩ : ∃ Q, Q = w.heap.size := ⟨_, rfl⟩
  have MK := hid (fun (i n m : Nat) (L : List Sp) (v : Value) (w1 : World) hn hg hl hw hb => RqP.mk (w := w) (w1 := w1) (i := i) (n := n) (m := m) (L := L) (v := v) (s := s) hn hg hl hw hb hQ)
  have hQ0 : Q ≤ w.heap.size := by omega
  clear hQ
  have hP : 1 + atB s 0 % 4 = cfP s := rfl
  have hM : cfP s + atB s 1 % 4 = cfM s := rfl
  have hG : 1 + atB s 2 % 32 = cfG s := rfl
  generalize cfP s = P at *
  generalize cfM s = M at *
  generalize cfG s = G at *
  simp only [Int.natCast_zero, Int.natCast_one, Int.cast_ofNat_Int] at C0 C1 C2
  generalize atB s 0 = z0 at *
  generalize atB s 1 = z1 at *
  generalize atB s 2 = z2 at *
  have hP1 : 1 ≤ P ∧ P ≤ 4 := by omega
  have hM1 : 1 ≤ M ∧ M ≤ 7 := by omega
  have hG1 : 1 ≤ G ∧ G ≤ 32 := by omega
  have t0 : z0.tmod 4 = z0 % 4 := Int.tmod_eq_emod_of_nonneg (by omega)
  have t1 : z1.tmod 4 = z1 % 4 := Int.tmod_eq_emod_of_nonneg (by omega)
  have t2 : z2.tmod 32 = z2 % 32 := Int.tmod_eq_emod_of_nonneg (by omega)
  have hwr : ∀ x : Int, 0 ≤ x → x ≤ 1000000 → IntKind.i64.wrap x = x := fun x h1 h2 => by
    have hb : IntKind.i64.bits = 64 := rfl
    have hs : IntKind.i64.signed = true := rfl
    simp [IntKind.wrap, hb, hs]; split <;> omega
  have wP := hwr P (by omega) (by omega)
  have wM := hwr M (by omega) (by omega)
  have wG := hwr G (by omega) (by omega)
  have HW := hid hwr
  clear hwr
  obtain ⟨i0, hi, hz0, hz1, hz2⟩ := info_parts infoSr
  have HI := hid (And.intro hi (And.intro hz0 (And.intro hz1 hz2)))
  clear hi hz0 hz1 hz2
  have hM0 : ¬ M = 0 := by omega
  have hG0 : ¬ G = 0 := by omega
  go_enter Tryz.func8, Tryz.ntmps8
  go_wp2_with (go_at_call 23; first
    | (with_reducible refine C0.out.mono ?_; rintro e y ⟨rfl, rfl⟩)
    | (with_reducible refine C1.out.mono ?_; rintro e y ⟨rfl, rfl⟩)
    | (with_reducible refine C2.out.mono ?_; rintro e y ⟨rfl, rfl⟩))
  clear C0 C1 C2 hP hM hG t0 t1 t2 A0 A1 A2 wP wM wG
  go_loopw [9, 10] (fun v9 v10 wr => ∃ (n i : Nat) (L : List Sp) (a3 : Option Addr) (m c3 : Nat), v10 = .int .i64 i ∧ .slice a3 m c3 = v9 ∧ Hid (L.length = m) ∧ Hid (goS s M G n = (i, L)) ∧ Hid (∀ j, j < n → onS s (goS s M G j)) ∧ Hid (wr.ownsRow Q 33 5 (.slice a3 m c3) m (ft L)) ∧ Hid (Below Q y wr) ∧ Q ≤ wr.heap.size) (fun _ v10 _ => s.size - (intOf v10).toNat)
  case atStart => exact ⟨0, 3, [], none, 0, 0, rfl, rfl, hid rfl, hid rfl, hid (fun j hj => by omega), hid (World.ownsRow_nil _ _ _ _), hid (Below.refl _ _), hQ0⟩
  case round =>
    obtain ⟨n, i, L, a3, m, c3, rfl, rfl, LN, GO, ON, OW, BR, hsr⟩ := hrel
    have LE := goS_len s M G n
    rw [GO.out] at LE
    simp only [LN.out] at LE
    have hm0 : (0 : Int) ≤ m := by omega
    by_cases hon : i < s.size ∧ m < 2000
    · obtain ⟨hi, hm2⟩ := hon
      have HI1 := hid hi
      have HS := hid hs
      have hi2 : (i : Int) < (s.size : Int) := by omega
      have hi3 : (0 : Int) ≤ (i : Int) := by omega
      have hm3 : (m : Int) < 2000 := by omega
      have w1 := HW.out ((i : Int) + 1) (by omega) (by omega)
      have w2 := HW.out ((i : Int) + 1 + 1) (by omega) (by omega)
      have w3 := HW.out ((i : Int) + 1 + 2) (by omega) (by omega)
      have ONs := hid (show ∀ j, j < n + 1 → onS s (goS s M G j) from fun q hq => by
        rcases Nat.lt_or_ge q n with h | h
        · exact ON.out q h
        · obtain rfl : q = n := by omega
          rw [GO.out]
          exact ⟨hi, by show L.length < 2000; rw [LN.out]; exact hm2⟩)
      have GS := hid (fun (x : Sp) (j : Nat) (h : stepS s M G i = (x, 1, j)) => goS_one GO.out (by rw [LN.out]; exact hm2) h)
      have GT := hid (goS_succ GO.out)
      have T0 := hid (fun w => AT.out w i)
      have T1 := hid (fun w => AT.out w (i + 1))
      have T2 := hid (fun w => AT.out w (i + 2))
      have B0 := AA.out i
      have B1 := AA.out (i + 1)
      have B2 := AA.out (i + 2)
      simp only [Int.natCast_add, Int.natCast_one, show ((2 : Nat) : Int) = 1 + 1 from rfl, ← Int.add_assoc] at T1 T2
      obtain ⟨SS, hSS⟩ : ∃ SS, SS = stepS s M G i := ⟨_, rfl⟩
      have HSS := hid hSS.symm
      unfold stepS at hSS
      simp only at hSS
      generalize atB s i = k at *
      generalize atB s (i + 1) = a at *
      generalize atB s (i + 2) = x at *
      have hk16 : 0 ≤ k / 16 := by omega
      have hkm0 : 0 ≤ k / 16 % M := Int.emod_nonneg _ (by omega)
      have d0 : k.tdiv 16 = k / 16 := Int.tdiv_eq_ediv_of_nonneg (by omega)
      have d1 : k.tmod 16 = k % 16 := Int.tmod_eq_emod_of_nonneg (by omega)
      have d2 : (k / 16).tmod M = k / 16 % M := Int.tmod_eq_emod_of_nonneg (by omega)
      have d3 : a.tmod 8 = a % 8 := Int.tmod_eq_emod_of_nonneg (by omega)
      have d4 : a.tmod 64 = a % 64 := Int.tmod_eq_emod_of_nonneg (by omega)
      have d5 : x.tmod G = x % G := Int.tmod_eq_emod_of_nonneg (by omega)
      have R0 := hid (Rq.new OW.out BR.out hsr #[.int .u8 0, .int .u8 0, .int .i64 (k / 16 % M), .int .i64 0, .int .i64 0])
      clear hi ON hs
      rcases (show (k % 16 = 10 ∨ k % 16 = 11) ∨ k % 16 = 12 ∨ k % 16 = 13 ∨ k % 16 = 14 ∨ k % 16 = 15 ∨ (k % 16 ≠ 10 ∧ k % 16 ≠ 11 ∧ k % 16 ≠ 12 ∧ k % 16 ≠ 13 ∧ k % 16 ≠ 14 ∧ k % 16 ≠ 15) by omega) with r | r | r | r | r | ⟨r1, r2, r3, r4, r5, r6⟩
      · rw [if_pos r] at hSS
        have a8 : 0 ≤ a % 8 ∧ a % 8 ≤ 7 := by omega
        have aw : IntKind.u8.wrap (a % 8) = a % 8 := by
          have hb : IntKind.u8.bits = 8 := rfl
          have hs : IntKind.u8.signed = false := rfl
          simp [IntKind.wrap, hb, hs]; omega
        have TR : Hid (((k % 16 == 10) = true ∨ ((k % 16 == 10) = false ∧ (k % 16 == 11) = true))) := hid (by rcases r with e | e <;> simp [e])
        clear r
        by_cases a7 : a % 8 = 7
        · rw [if_pos a7] at hSS
          have a7b : (a % 8 == 7) = true := by simpa using a7
          clear a7
          rcases TR.out with t1 | ⟨t1, t2⟩
          all_goals
            have HX : Hid (stepS s M G i = ((0, a % 8, k / 16 % M, x, 0), 1, i + 3)) := hid (HSS.out.trans hSS)
            clear hSS HSS
            go_upto_region 12 with (go_at_call 23; first
              | (with_reducible refine (T0.out _).mono ?_; rintro e y9 ⟨rfl, hy9⟩; subst y9)
              | (with_reducible refine (T1.out _).mono ?_; rintro e y9 ⟨rfl, hy9⟩; subst y9)
              | (with_reducible refine (T2.out _).mono ?_; rintro e y9 ⟨rfl, hy9⟩; subst y9))
            generalize hX : wr.heap.size = X at *
            generalize wr.alloc (.cells #[.int .u8 0, .int .u8 0, .int .i64 (k / 16 % M), .int .i64 0, .int .i64 0] 33) = y1 at *
            clear hX OW BR hk16 hkm0 d0 d2
            obtain ⟨⟨b0, b1, b2, b3, b4⟩, g0, g1, g2, g3, g4⟩ := cells5 R0.out.bx
            have R1 := hid ((R0.out.set 1 (.int .u8 (a % 8)) _ rfl).set 3 (.int .i64 x) _ rfl)
            simp only [List.setIfInBounds_toArray, List.set_cons_succ, List.set_cons_zero] at R1
            go_upto_region 17 with (go_at_call 23; first
              | (with_reducible refine (T0.out _).mono ?_; rintro e y9 ⟨rfl, hy9⟩; subst y9)
              | (with_reducible refine (T1.out _).mono ?_; rintro e y9 ⟨rfl, hy9⟩; subst y9)
              | (with_reducible refine (T2.out _).mono ?_; rintro e y9 ⟨rfl, hy9⟩; subst y9))
            clear b0 b1 b2 b3 b4 g0 g1 g2 g3 g4
            generalize (y1.setCell ⟨X, 1, none⟩ (.int .u8 (a % 8))).setCell ⟨X, 3, none⟩ (.int .i64 x) = y2 at *
            clear R0
            obtain ⟨⟨b0, b1, b2, b3, b4⟩, g0, g1, g2, g3, g4⟩ := cells5 R1.out.bx
            go_upto_region 36 with (go_at_call 23; first
              | (with_reducible refine (T0.out _).mono ?_; rintro e y9 ⟨rfl, hy9⟩; subst y9)
              | (with_reducible refine (T1.out _).mono ?_; rintro e y9 ⟨rfl, hy9⟩; subst y9)
              | (with_reducible refine (T2.out _).mono ?_; rintro e y9 ⟨rfl, hy9⟩; subst y9))
            have RA := hid (R1.out.alloc (.cells #[.int .u8 (0), .int .u8 (a % 8), .int .i64 (k / 16 % M), .int .i64 (x), .int .i64 (0)] 33))
            have NW := hid (news_st y2 ((0, a % 8, k / 16 % M, x, 0) : Sp) 33)
            simp only at NW
            clear R1
            go_wp2_with (at_builtin; refine wpList_append_own_at _ rfl _ _ 29 rfl Q 33 i0 _ 5 32 Tryz.underlying29 HI.out.1 HI.out.2.1 HI.out.2.2.1 HI.out.2.2.2 rfl (by decide) _ _ _ rfl RA.out.ow ⟨y2.heap.size, 0, none⟩ 1 1 (ft [((0, a % 8, k / 16 % M, x, 0) : Sp)]) rfl rfl NW.out (ft_ones _) (by unfold maxLen; omega) (by omega) (by have := RA.out.size; have := RA.out.qx; omega) ?_)
            intro v' w8 hown hgrow _ hxo
            obtain ⟨a', cap', rfl⟩ := own_sliceS hown
            have R9 := hid (RA.out.grow (L' := L ++ [((0, a % 8, k / 16 % M, x, 0) : Sp)]) (by rw [ft_app]; exact hown) hgrow (by simpa using hxo))
            have GS2 := hid (GS.out ((0, a % 8, k / 16 % M, x, 0) : Sp) (i + 3) HX.out)
            clear hown hgrow hxo RA NW
            have hs9 : Q ≤ w8.heap.size := by have := R9.out.size; have := R9.out.qx; omega
            go_wp2_with fail
            go_roundw
            case rel => exact ⟨n + 1, i + 3, L ++ [((0, a % 8, k / 16 % M, x, 0) : Sp)], a', m + 1, cap', by go_num, rfl, hid (by rw [List.length_append, LN.out]; rfl), GS2, ONs, hid R9.out.ow, hid R9.out.bl, hs9⟩
            case measure => have := HI1.out; simp [intOf]; omega
        · rw [if_neg a7] at hSS
          have a7b : (a % 8 == 7) = false := by simpa using a7
          clear a7
          rcases TR.out with t1 | ⟨t1, t2⟩
          all_goals
            have HX : Hid (stepS s M G i = ((0, a % 8, k / 16 % M, x % G, 0), 1, i + 3)) := hid (HSS.out.trans hSS)
            clear hSS HSS
            go_upto_region 12 with (go_at_call 23; first
              | (with_reducible refine (T0.out _).mono ?_; rintro e y9 ⟨rfl, hy9⟩; subst y9)
              | (with_reducible refine (T1.out _).mono ?_; rintro e y9 ⟨rfl, hy9⟩; subst y9)
              | (with_reducible refine (T2.out _).mono ?_; rintro e y9 ⟨rfl, hy9⟩; subst y9))
            generalize hX : wr.heap.size = X at *
            generalize wr.alloc (.cells #[.int .u8 0, .int .u8 0, .int .i64 (k / 16 % M), .int .i64 0, .int .i64 0] 33) = y1 at *
            clear hX OW BR hk16 hkm0 d0 d2
            obtain ⟨⟨b0, b1, b2, b3, b4⟩, g0, g1, g2, g3, g4⟩ := cells5 R0.out.bx
            have R1 := hid ((R0.out.set 1 (.int .u8 (a % 8)) _ rfl).set 3 (.int .i64 x) _ rfl)
            simp only [List.setIfInBounds_toArray, List.set_cons_succ, List.set_cons_zero] at R1
            go_upto_region 17 with (go_at_call 23; first
              | (with_reducible refine (T0.out _).mono ?_; rintro e y9 ⟨rfl, hy9⟩; subst y9)
              | (with_reducible refine (T1.out _).mono ?_; rintro e y9 ⟨rfl, hy9⟩; subst y9)
              | (with_reducible refine (T2.out _).mono ?_; rintro e y9 ⟨rfl, hy9⟩; subst y9))
            clear b0 b1 b2 b3 b4 g0 g1 g2 g3 g4
            generalize (y1.setCell ⟨X, 1, none⟩ (.int .u8 (a % 8))).setCell ⟨X, 3, none⟩ (.int .i64 x) = y2 at *
            clear R0
            obtain ⟨⟨b0, b1, b2, b3, b4⟩, g0, g1, g2, g3, g4⟩ := cells5 R1.out.bx
            have R2 := hid (R1.out.set 3 (.int .i64 (x % G)) _ rfl)
            simp only [List.setIfInBounds_toArray, List.set_cons_succ, List.set_cons_zero] at R2
            go_upto_region 36 with (go_at_call 23; first
              | (with_reducible refine (T0.out _).mono ?_; rintro e y9 ⟨rfl, hy9⟩; subst y9)
              | (with_reducible refine (T1.out _).mono ?_; rintro e y9 ⟨rfl, hy9⟩; subst y9)
              | (with_reducible refine (T2.out _).mono ?_; rintro e y9 ⟨rfl, hy9⟩; subst y9))
            clear b0 b1 b2 b3 b4 g0 g1 g2 g3 g4
            generalize y2.setCell ⟨X, 3, none⟩ (.int .i64 (x % G)) = y3 at *
            clear R1
            obtain ⟨⟨b0, b1, b2, b3, b4⟩, g0, g1, g2, g3, g4⟩ := cells5 R2.out.bx
            have RA := hid (R2.out.alloc (.cells #[.int .u8 (0), .int .u8 (a % 8), .int .i64 (k / 16 % M), .int .i64 (x % G), .int .i64 (0)] 33))
            have NW := hid (news_st y3 ((0, a % 8, k / 16 % M, x % G, 0) : Sp) 33)
            simp only at NW
            clear R2
            go_wp2_with (at_builtin; refine wpList_append_own_at _ rfl _ _ 29 rfl Q 33 i0 _ 5 32 Tryz.underlying29 HI.out.1 HI.out.2.1 HI.out.2.2.1 HI.out.2.2.2 rfl (by decide) _ _ _ rfl RA.out.ow ⟨y3.heap.size, 0, none⟩ 1 1 (ft [((0, a % 8, k / 16 % M, x % G, 0) : Sp)]) rfl rfl NW.out (ft_ones _) (by unfold maxLen; omega) (by omega) (by have := RA.out.size; have := RA.out.qx; omega) ?_)
            intro v' w8 hown hgrow _ hxo
            obtain ⟨a', cap', rfl⟩ := own_sliceS hown
            have R9 := hid (RA.out.grow (L' := L ++ [((0, a % 8, k / 16 % M, x % G, 0) : Sp)]) (by rw [ft_app]; exact hown) hgrow (by simpa using hxo))
            have GS2 := hid (GS.out ((0, a % 8, k / 16 % M, x % G, 0) : Sp) (i + 3) HX.out)
            clear hown hgrow hxo RA NW
            have hs9 : Q ≤ w8.heap.size := by have := R9.out.size; have := R9.out.qx; omega
            go_wp2_with fail
            go_roundw
            case rel => exact ⟨n + 1, i + 3, L ++ [((0, a % 8, k / 16 % M, x % G, 0) : Sp)], a', m + 1, cap', by go_num, rfl, hid (by rw [List.length_append, LN.out]; rfl), GS2, ONs, hid R9.out.ow, hid R9.out.bl, hs9⟩
            case measure => have := HI1.out; simp [intOf]; omega
      · rw [if_neg (by omega), if_pos r] at hSS
        have n10 : (k % 16 == 10) = false := by simpa using (show ¬ k % 16 = 10 by omega)
        have n11 : (k % 16 == 11) = false := by simpa using (show ¬ k % 16 = 11 by omega)
        have n12 : (k % 16 == 12) = true := by simpa using (show k % 16 = 12 by omega)
        clear r
        have HX : Hid (stepS s M G i = ((0, 6, k / 16 % M, 0, a - 4), 1, i + 2)) := hid (HSS.out.trans hSS)
        clear hSS HSS
        go_upto_region 12 with (go_at_call 23; first
          | (with_reducible refine (T0.out _).mono ?_; rintro e y9 ⟨rfl, hy9⟩; subst y9)
          | (with_reducible refine (T1.out _).mono ?_; rintro e y9 ⟨rfl, hy9⟩; subst y9)
          | (with_reducible refine (T2.out _).mono ?_; rintro e y9 ⟨rfl, hy9⟩; subst y9))
        generalize hX : wr.heap.size = X at *
        generalize wr.alloc (.cells #[.int .u8 0, .int .u8 0, .int .i64 (k / 16 % M), .int .i64 0, .int .i64 0] 33) = y1 at *
        clear hX OW BR hk16 hkm0 d0 d2
        obtain ⟨⟨b0, b1, b2, b3, b4⟩, g0, g1, g2, g3, g4⟩ := cells5 R0.out.bx
        have R1 := hid ((R0.out.set 1 (.int .u8 6) _ rfl).set 4 (.int .i64 (a - 4)) _ rfl)
        simp only [List.setIfInBounds_toArray, List.set_cons_succ, List.set_cons_zero] at R1
        go_upto_region 36 with (go_at_call 23; first
          | (with_reducible refine (T0.out _).mono ?_; rintro e y9 ⟨rfl, hy9⟩; subst y9)
          | (with_reducible refine (T1.out _).mono ?_; rintro e y9 ⟨rfl, hy9⟩; subst y9)
          | (with_reducible refine (T2.out _).mono ?_; rintro e y9 ⟨rfl, hy9⟩; subst y9))
        clear b0 b1 b2 b3 b4 g0 g1 g2 g3 g4
        generalize (y1.setCell ⟨X, 1, none⟩ (.int .u8 6)).setCell ⟨X, 4, none⟩ (.int .i64 (a - 4)) = y2 at *
        clear R0
        obtain ⟨⟨b0, b1, b2, b3, b4⟩, g0, g1, g2, g3, g4⟩ := cells5 R1.out.bx
        have RA := hid (R1.out.alloc (.cells #[.int .u8 (0), .int .u8 (6), .int .i64 (k / 16 % M), .int .i64 (0), .int .i64 (a - 4)] 33))
        have NW := hid (news_st y2 ((0, 6, k / 16 % M, 0, a - 4) : Sp) 33)
        simp only at NW
        clear R1
        go_wp2_with (at_builtin; refine wpList_append_own_at _ rfl _ _ 29 rfl Q 33 i0 _ 5 32 Tryz.underlying29 HI.out.1 HI.out.2.1 HI.out.2.2.1 HI.out.2.2.2 rfl (by decide) _ _ _ rfl RA.out.ow ⟨y2.heap.size, 0, none⟩ 1 1 (ft [((0, 6, k / 16 % M, 0, a - 4) : Sp)]) rfl rfl NW.out (ft_ones _) (by unfold maxLen; omega) (by omega) (by have := RA.out.size; have := RA.out.qx; omega) ?_)
        intro v' w8 hown hgrow _ hxo
        obtain ⟨a', cap', rfl⟩ := own_sliceS hown
        have R9 := hid (RA.out.grow (L' := L ++ [((0, 6, k / 16 % M, 0, a - 4) : Sp)]) (by rw [ft_app]; exact hown) hgrow (by simpa using hxo))
        have GS2 := hid (GS.out ((0, 6, k / 16 % M, 0, a - 4) : Sp) (i + 2) HX.out)
        clear hown hgrow hxo RA NW
        have hs9 : Q ≤ w8.heap.size := by have := R9.out.size; have := R9.out.qx; omega
        go_wp2_with fail
        go_roundw
        case rel => exact ⟨n + 1, i + 2, L ++ [((0, 6, k / 16 % M, 0, a - 4) : Sp)], a', m + 1, cap', by go_num, rfl, hid (by rw [List.length_append, LN.out]; rfl), GS2, ONs, hid R9.out.ow, hid R9.out.bl, hs9⟩
        case measure => have := HI1.out; simp [intOf]; omega
      · rw [if_neg (by omega), if_neg (by omega), if_pos r] at hSS
        have n10 : (k % 16 == 10) = false := by simpa using (show ¬ k % 16 = 10 by omega)
        have n11 : (k % 16 == 11) = false := by simpa using (show ¬ k % 16 = 11 by omega)
        have n12 : (k % 16 == 12) = false := by simpa using (show ¬ k % 16 = 12 by omega)
        have n13 : (k % 16 == 13) = true := by simpa using (show k % 16 = 13 by omega)
        clear r
        have HX : Hid (stepS s M G i = ((1, 0, 0, 0, a), 1, i + 2)) := hid (HSS.out.trans hSS)
        clear hSS HSS
        go_upto_region 12 with (go_at_call 23; first
          | (with_reducible refine (T0.out _).mono ?_; rintro e y9 ⟨rfl, hy9⟩; subst y9)
          | (with_reducible refine (T1.out _).mono ?_; rintro e y9 ⟨rfl, hy9⟩; subst y9)
          | (with_reducible refine (T2.out _).mono ?_; rintro e y9 ⟨rfl, hy9⟩; subst y9))
        generalize hX : wr.heap.size = X at *
        generalize wr.alloc (.cells #[.int .u8 0, .int .u8 0, .int .i64 (k / 16 % M), .int .i64 0, .int .i64 0] 33) = y1 at *
        clear hX OW BR hk16 hkm0 d0 d2
        obtain ⟨⟨b0, b1, b2, b3, b4⟩, g0, g1, g2, g3, g4⟩ := cells5 R0.out.bx
        have R1 := hid (((((R0.out.set 0 (.int .u8 1) _ rfl).set 1 (.int .u8 0) _ rfl).set 2 (.int .i64 0) _ rfl).set 3 (.int .i64 0) _ rfl).set 4 (.int .i64 a) _ rfl)
        simp only [List.setIfInBounds_toArray, List.set_cons_succ, List.set_cons_zero] at R1
        go_upto_region 36 with (go_at_call 23; first
          | (with_reducible refine (T0.out _).mono ?_; rintro e y9 ⟨rfl, hy9⟩; subst y9)
          | (with_reducible refine (T1.out _).mono ?_; rintro e y9 ⟨rfl, hy9⟩; subst y9)
          | (with_reducible refine (T2.out _).mono ?_; rintro e y9 ⟨rfl, hy9⟩; subst y9))
        clear b0 b1 b2 b3 b4 g0 g1 g2 g3 g4
        generalize ((((y1.setCell ⟨X, 0, none⟩ (.int .u8 1)).setCell ⟨X, 1, none⟩ (.int .u8 0)).setCell ⟨X, 2, none⟩ (.int .i64 0)).setCell ⟨X, 3, none⟩ (.int .i64 0)).setCell ⟨X, 4, none⟩ (.int .i64 a) = y2 at *
        clear R0
        obtain ⟨⟨b0, b1, b2, b3, b4⟩, g0, g1, g2, g3, g4⟩ := cells5 R1.out.bx
        have RA := hid (R1.out.alloc (.cells #[.int .u8 (1), .int .u8 (0), .int .i64 (0), .int .i64 (0), .int .i64 (a)] 33))
        have NW := hid (news_st y2 ((1, 0, 0, 0, a) : Sp) 33)
        simp only at NW
        clear R1
        go_wp2_with (at_builtin; refine wpList_append_own_at _ rfl _ _ 29 rfl Q 33 i0 _ 5 32 Tryz.underlying29 HI.out.1 HI.out.2.1 HI.out.2.2.1 HI.out.2.2.2 rfl (by decide) _ _ _ rfl RA.out.ow ⟨y2.heap.size, 0, none⟩ 1 1 (ft [((1, 0, 0, 0, a) : Sp)]) rfl rfl NW.out (ft_ones _) (by unfold maxLen; omega) (by omega) (by have := RA.out.size; have := RA.out.qx; omega) ?_)
        intro v' w8 hown hgrow _ hxo
        obtain ⟨a', cap', rfl⟩ := own_sliceS hown
        have R9 := hid (RA.out.grow (L' := L ++ [((1, 0, 0, 0, a) : Sp)]) (by rw [ft_app]; exact hown) hgrow (by simpa using hxo))
        have GS2 := hid (GS.out ((1, 0, 0, 0, a) : Sp) (i + 2) HX.out)
        clear hown hgrow hxo RA NW
        have hs9 : Q ≤ w8.heap.size := by have := R9.out.size; have := R9.out.qx; omega
        go_wp2_with fail
        go_roundw
        case rel => exact ⟨n + 1, i + 2, L ++ [((1, 0, 0, 0, a) : Sp)], a', m + 1, cap', by go_num, rfl, hid (by rw [List.length_append, LN.out]; rfl), GS2, ONs, hid R9.out.ow, hid R9.out.bl, hs9⟩
        case measure => have := HI1.out; simp [intOf]; omega
      · rw [if_neg (by omega), if_neg (by omega), if_neg (by omega), if_pos r] at hSS
        have n10 : (k % 16 == 10) = false := by simpa using (show ¬ k % 16 = 10 by omega)
        have n11 : (k % 16 == 11) = false := by simpa using (show ¬ k % 16 = 11 by omega)
        have n12 : (k % 16 == 12) = false := by simpa using (show ¬ k % 16 = 12 by omega)
        have n13 : (k % 16 == 13) = false := by simpa using (show ¬ k % 16 = 13 by omega)
        have n14 : (k % 16 == 14) = true := by simpa using (show k % 16 = 14 by omega)
        clear r
        have HX : Hid (stepS s M G i = ((2, 0, k / 16, 0, 0), 1, i + 1)) := hid (HSS.out.trans hSS)
        clear hSS HSS
        go_upto_region 12 with (go_at_call 23; first
          | (with_reducible refine (T0.out _).mono ?_; rintro e y9 ⟨rfl, hy9⟩; subst y9)
          | (with_reducible refine (T1.out _).mono ?_; rintro e y9 ⟨rfl, hy9⟩; subst y9)
          | (with_reducible refine (T2.out _).mono ?_; rintro e y9 ⟨rfl, hy9⟩; subst y9))
        generalize hX : wr.heap.size = X at *
        generalize wr.alloc (.cells #[.int .u8 0, .int .u8 0, .int .i64 (k / 16 % M), .int .i64 0, .int .i64 0] 33) = y1 at *
        clear hX OW BR hk16 hkm0 d0 d2
        obtain ⟨⟨b0, b1, b2, b3, b4⟩, g0, g1, g2, g3, g4⟩ := cells5 R0.out.bx
        have R1 := hid (((((R0.out.set 0 (.int .u8 2) _ rfl).set 1 (.int .u8 0) _ rfl).set 2 (.int .i64 (k / 16)) _ rfl).set 3 (.int .i64 0) _ rfl).set 4 (.int .i64 0) _ rfl)
        simp only [List.setIfInBounds_toArray, List.set_cons_succ, List.set_cons_zero] at R1
        go_upto_region 36 with (go_at_call 23; first
          | (with_reducible refine (T0.out _).mono ?_; rintro e y9 ⟨rfl, hy9⟩; subst y9)
          | (with_reducible refine (T1.out _).mono ?_; rintro e y9 ⟨rfl, hy9⟩; subst y9)
          | (with_reducible refine (T2.out _).mono ?_; rintro e y9 ⟨rfl, hy9⟩; subst y9))
        clear b0 b1 b2 b3 b4 g0 g1 g2 g3 g4
        generalize ((((y1.setCell ⟨X, 0, none⟩ (.int .u8 2)).setCell ⟨X, 1, none⟩ (.int .u8 0)).setCell ⟨X, 2, none⟩ (.int .i64 (k / 16))).setCell ⟨X, 3, none⟩ (.int .i64 0)).setCell ⟨X, 4, none⟩ (.int .i64 0) = y2 at *
        clear R0
        obtain ⟨⟨b0, b1, b2, b3, b4⟩, g0, g1, g2, g3, g4⟩ := cells5 R1.out.bx
        have RA := hid (R1.out.alloc (.cells #[.int .u8 (2), .int .u8 (0), .int .i64 (k / 16), .int .i64 (0), .int .i64 (0)] 33))
        have NW := hid (news_st y2 ((2, 0, k / 16, 0, 0) : Sp) 33)
        simp only at NW
        clear R1
        go_wp2_with (at_builtin; refine wpList_append_own_at _ rfl _ _ 29 rfl Q 33 i0 _ 5 32 Tryz.underlying29 HI.out.1 HI.out.2.1 HI.out.2.2.1 HI.out.2.2.2 rfl (by decide) _ _ _ rfl RA.out.ow ⟨y2.heap.size, 0, none⟩ 1 1 (ft [((2, 0, k / 16, 0, 0) : Sp)]) rfl rfl NW.out (ft_ones _) (by unfold maxLen; omega) (by omega) (by have := RA.out.size; have := RA.out.qx; omega) ?_)
        intro v' w8 hown hgrow _ hxo
        obtain ⟨a', cap', rfl⟩ := own_sliceS hown
        have R9 := hid (RA.out.grow (L' := L ++ [((2, 0, k / 16, 0, 0) : Sp)]) (by rw [ft_app]; exact hown) hgrow (by simpa using hxo))
        have GS2 := hid (GS.out ((2, 0, k / 16, 0, 0) : Sp) (i + 1) HX.out)
        clear hown hgrow hxo RA NW
        have hs9 : Q ≤ w8.heap.size := by have := R9.out.size; have := R9.out.qx; omega
        go_wp2_with fail
        go_roundw
        case rel => exact ⟨n + 1, i + 1, L ++ [((2, 0, k / 16, 0, 0) : Sp)], a', m + 1, cap', by go_num, rfl, hid (by rw [List.length_append, LN.out]; rfl), GS2, ONs, hid R9.out.ow, hid R9.out.bl, hs9⟩
        case measure => have := HI1.out; simp [intOf]; omega
      · rw [if_neg (by omega), if_neg (by omega), if_neg (by omega), if_neg (by omega), if_pos r] at hSS
        have n10 : (k % 16 == 10) = false := by simpa using (show ¬ k % 16 = 10 by omega)
        have n11 : (k % 16 == 11) = false := by simpa using (show ¬ k % 16 = 11 by omega)
        have n12 : (k % 16 == 12) = false := by simpa using (show ¬ k % 16 = 12 by omega)
        have n13 : (k % 16 == 13) = false := by simpa using (show ¬ k % 16 = 13 by omega)
        have n14 : (k % 16 == 14) = false := by simpa using (show ¬ k % 16 = 14 by omega)
        have n15 : (k % 16 == 15) = true := by simpa using (show k % 16 = 15 by omega)
        clear r
        obtain ⟨T, hT, hT2⟩ : ∃ T : Nat, a % 64 = (T : Int) ∧ T ≤ 63 := ⟨(a % 64).toNat, by omega, by omega⟩
        rw [hT] at hSS
        have HX : Hid (stepS s M G i = ((0, 0, k / 16 % M, 0, 0), (T : Int), i + 2)) := hid (HSS.out.trans hSS)
        clear hSS HSS
        go_upto_region 12 with (go_at_call 23; first
          | (with_reducible refine (T0.out _).mono ?_; rintro e y9 ⟨rfl, hy9⟩; subst y9)
          | (with_reducible refine (T1.out _).mono ?_; rintro e y9 ⟨rfl, hy9⟩; subst y9)
          | (with_reducible refine (T2.out _).mono ?_; rintro e y9 ⟨rfl, hy9⟩; subst y9))
        generalize hX : wr.heap.size = X at *
        generalize wr.alloc (.cells #[.int .u8 0, .int .u8 0, .int .i64 (k / 16 % M), .int .i64 0, .int .i64 0] 33) = y1 at *
        clear hX OW BR hk16 hkm0 d0 d2
        obtain ⟨⟨b0, b1, b2, b3, b4⟩, g0, g1, g2, g3, g4⟩ := cells5 R0.out.bx
        clear b0 b1 b2 b3 b4 g0 g1 g2 g3 g4
        rw [HX.out] at GT
        have GT := hid (show goS s M G (n + 1) = (i + 2, L ++ List.replicate (min T (2000 - m)) ((0, 0, k / 16 % M, 0, 0) : Sp)) by have h := GT.out; simp only [LN.out, Int.toNat_natCast] at h; exact h)
        go_wp2_with (go_at_call 23; first
          | (with_reducible refine (T0.out _).mono ?_; rintro e y9 ⟨rfl, hy9⟩; subst y9)
          | (with_reducible refine (T1.out _).mono ?_; rintro e y9 ⟨rfl, hy9⟩; subst y9)
          | (with_reducible refine (T2.out _).mono ?_; rintro e y9 ⟨rfl, hy9⟩; subst y9))
        go_loopw [9, 100] (fun v9 v100 wr => ∃ (q mm : Nat) (a4 : Option Addr) (c4 : Nat), q ≤ T ∧ mm ≤ 2000 ∧ Hid (mm = m + min q (2000 - m)) ∧ .slice a4 mm c4 = v9 ∧ v100 = .int .i64 q ∧ Hid (Rq y Q X #[.int .u8 0, .int .u8 0, .int .i64 (k / 16 % M), .int .i64 0, .int .i64 0] (L ++ List.replicate (min q (2000 - m)) ((0, 0, k / 16 % M, 0, 0) : Sp)) (.slice a4 mm c4) mm wr)) (fun _ v100 _ => T - (intOf v100).toNat)
        case atStart => exact ⟨0, m, a3, c3, Nat.zero_le _, by omega, hid (by simp), rfl, rfl, hid (by simpa using R0.out)⟩
        case round =>
          obtain ⟨q, mm, a4, c4, hq, hmm, HM, rfl, rfl, RQ⟩ := hrel
          by_cases hqT : q < T
          · have hq2 : (q : Int) < (T : Int) := by omega
            by_cases hm9 : mm < 2000
            · have hm8 : (mm : Int) < 2000 := by omega
              obtain ⟨⟨b0, b1, b2, b3, b4⟩, g0, g1, g2, g3, g4⟩ := cells5 RQ.out.bx
              have RA := hid (RQ.out.alloc (.cells #[.int .u8 0, .int .u8 0, .int .i64 (k / 16 % M), .int .i64 0, .int .i64 0] 33))
              have NW := hid (news_st wr ((0, 0, k / 16 % M, 0, 0) : Sp) 33)
              simp only at NW
              have RP := hid (show min (q + 1) (2000 - m) = min q (2000 - m) + 1 by have := HM.out; omega)
              go_wp2_with (at_builtin; refine wpList_append_own_at _ rfl _ _ 29 rfl Q 33 i0 _ 5 32 Tryz.underlying29 HI.out.1 HI.out.2.1 HI.out.2.2.1 HI.out.2.2.2 rfl (by decide) _ _ _ rfl RA.out.ow ⟨wr.heap.size, 0, none⟩ 1 1 (ft [((0, 0, k / 16 % M, 0, 0) : Sp)]) rfl rfl NW.out (ft_ones _) (by unfold maxLen; omega) (by omega) (by have := RA.out.size; have := RA.out.qx; omega) ?_)
              intro v' w8 hown hgrow _ hxo
              obtain ⟨a', cap', rfl⟩ := own_sliceS hown
              have R9 := hid (RA.out.grow (L' := L ++ List.replicate (min (q + 1) (2000 - m)) ((0, 0, k / 16 % M, 0, 0) : Sp)) (by rw [RP.out, List.replicate_succ', ← List.append_assoc, ft_app]; exact hown) hgrow (by simpa using hxo))
              clear hown hgrow hxo RA NW b0 b1 b2 b3 b4 g0 g1 g2 g3 g4
              go_wp2_with fail
              go_roundw
              case rel => exact ⟨q + 1, mm + 1, a', cap', by omega, by omega, hid (by rw [RP.out]; have := HM.out; omega), rfl, by go_num, R9⟩
              case measure => simp [intOf]; omega
            · have hm8 : ¬ (mm : Int) < 2000 := by omega
              have RP := hid (show min (q + 1) (2000 - m) = min q (2000 - m) by have := HM.out; omega)
              go_wp2_with fail
              go_roundw
              case rel => exact ⟨q + 1, mm, a4, c4, by omega, by omega, hid (by rw [RP.out]; exact HM.out), rfl, by go_num, hid (by rw [RP.out]; exact RQ.out)⟩
              case measure => simp [intOf]; omega
          · obtain rfl : q = T := by omega
            have hq2 : ¬ (q : Int) < (q : Int) := by omega
            have hs9 : Q ≤ wr.heap.size := by have := RQ.out.size; have := RQ.out.qx; omega
            go_wp2_with fail
            have RL := hid (show (∃ (n' i' : Nat) (L' : List Sp) (a3' : Option Addr) (m' c3' : Nat), Value.int .i64 ((i : Int) + 1 + 1) = .int .i64 i' ∧ .slice a3' m' c3' = Value.slice a4 mm c4 ∧ Hid (L'.length = m') ∧ Hid (goS s M G n' = (i', L')) ∧ Hid (∀ j, j < n' → onS s (goS s M G j)) ∧ Hid (wr.ownsRow Q 33 5 (.slice a3' m' c3') m' (ft L')) ∧ Hid (Below Q y wr) ∧ Q ≤ wr.heap.size) from ⟨n + 1, i + 2, _, a4, mm, c4, by go_num, rfl, hid (by rw [List.length_append, LN.out, List.length_replicate]; exact HM.out.symm), GT, ONs, hid RQ.out.ow, hid RQ.out.bl, hs9⟩)
            refine ⟨RL.out, ?_⟩
            have := HI1.out
            simp [intOf]; omega
      · rw [if_neg (by omega), if_neg (by omega), if_neg (by omega), if_neg (by omega), if_neg (by omega)] at hSS
        have n10 : (k % 16 == 10) = false := by simpa using (show ¬ k % 16 = 10 by omega)
        have n11 : (k % 16 == 11) = false := by simpa using (show ¬ k % 16 = 11 by omega)
        have n12 : (k % 16 == 12) = false := by simpa using (show ¬ k % 16 = 12 by omega)
        have n13 : (k % 16 == 13) = false := by simpa using (show ¬ k % 16 = 13 by omega)
        have n14 : (k % 16 == 14) = false := by simpa using (show ¬ k % 16 = 14 by omega)
        have n15 : (k % 16 == 15) = false := by simpa using (show ¬ k % 16 = 15 by omega)
        clear r1 r2 r3 r4 r5 r6
        have HX : Hid (stepS s M G i = ((0, 0, k / 16 % M, 0, 0), 1, i + 1)) := hid (HSS.out.trans hSS)
        clear hSS HSS
        go_upto_region 12 with (go_at_call 23; first
          | (with_reducible refine (T0.out _).mono ?_; rintro e y9 ⟨rfl, hy9⟩; subst y9)
          | (with_reducible refine (T1.out _).mono ?_; rintro e y9 ⟨rfl, hy9⟩; subst y9)
          | (with_reducible refine (T2.out _).mono ?_; rintro e y9 ⟨rfl, hy9⟩; subst y9))
        generalize hX : wr.heap.size = X at *
        generalize wr.alloc (.cells #[.int .u8 0, .int .u8 0, .int .i64 (k / 16 % M), .int .i64 0, .int .i64 0] 33) = y1 at *
        clear hX OW BR hk16 hkm0 d0 d2
        obtain ⟨⟨b0, b1, b2, b3, b4⟩, g0, g1, g2, g3, g4⟩ := cells5 R0.out.bx
        go_upto_region 36 with (go_at_call 23; first
          | (with_reducible refine (T0.out _).mono ?_; rintro e y9 ⟨rfl, hy9⟩; subst y9)
          | (with_reducible refine (T1.out _).mono ?_; rintro e y9 ⟨rfl, hy9⟩; subst y9)
          | (with_reducible refine (T2.out _).mono ?_; rintro e y9 ⟨rfl, hy9⟩; subst y9))
        have RA := hid (R0.out.alloc (.cells #[.int .u8 (0), .int .u8 (0), .int .i64 (k / 16 % M), .int .i64 (0), .int .i64 (0)] 33))
        have NW := hid (news_st y1 ((0, 0, k / 16 % M, 0, 0) : Sp) 33)
        simp only at NW
        clear R0
        go_wp2_with (at_builtin; refine wpList_append_own_at _ rfl _ _ 29 rfl Q 33 i0 _ 5 32 Tryz.underlying29 HI.out.1 HI.out.2.1 HI.out.2.2.1 HI.out.2.2.2 rfl (by decide) _ _ _ rfl RA.out.ow ⟨y1.heap.size, 0, none⟩ 1 1 (ft [((0, 0, k / 16 % M, 0, 0) : Sp)]) rfl rfl NW.out (ft_ones _) (by unfold maxLen; omega) (by omega) (by have := RA.out.size; have := RA.out.qx; omega) ?_)
        intro v' w8 hown hgrow _ hxo
        obtain ⟨a', cap', rfl⟩ := own_sliceS hown
        have R9 := hid (RA.out.grow (L' := L ++ [((0, 0, k / 16 % M, 0, 0) : Sp)]) (by rw [ft_app]; exact hown) hgrow (by simpa using hxo))
        have GS2 := hid (GS.out ((0, 0, k / 16 % M, 0, 0) : Sp) (i + 1) HX.out)
        clear hown hgrow hxo RA NW
        have hs9 : Q ≤ w8.heap.size := by have := R9.out.size; have := R9.out.qx; omega
        go_wp2_with fail
        go_roundw
        case rel => exact ⟨n + 1, i + 1, L ++ [((0, 0, k / 16 % M, 0, 0) : Sp)], a', m + 1, cap', by go_num, rfl, hid (by rw [List.length_append, LN.out]; rfl), GS2, ONs, hid R9.out.ow, hid R9.out.bl, hs9⟩
        case measure => have := HI1.out; simp [intOf]; omega
    · have EN := hid (show EndS s M G n from ⟨ON.out, by rw [GO.out]; intro h; exact hon ⟨h.1, by have := h.2; simp only [LN.out] at this; exact this⟩⟩)
      have FS := hid (MK.out i n m L _ wr EN.out GO.out LN.out OW.out BR.out)
      by_cases hi : i < s.size
      · have hm3 : ¬ (m : Int) < 2000 := by intro h; exact hon ⟨hi, by omega⟩
        have hi2 : (i : Int) < (s.size : Int) := by omega
        clear hon
        go_wp2
        exact bodyPost_ret (by simp [results, Tryz.results8, go_sem]) rfl FS.out
      · have hi2 : ¬ (i : Int) < (s.size : Int) := by omega
        clear hon
        go_wp2
        exact bodyPost_ret (by simp [results, Tryz.results8, go_sem]) rfl FS.out
end Go.Proofs.YtpgamdnkdoebgaaGreatDoor
/-! What a script of nothing reads as, and its text; hostlerlaw21.lives answers true. -/
namespace Go.Proofs.YtpgamdnkdoebgaaGreatDoor
open Go.RowKit
set_option linter.unusedVariables false
set_option linter.unusedSimpArgs false
set_option maxRecDepth 20000
/-- A slice that reads as these events is answered. -/
def EvsR (es : List Ev) (w : World) (e : Ending) (w' : World) : Prop := ∃ v, e = .returned v ∧ RdE w' v es ∧ Below w.heap.size w w'
set_option maxHeartbeats 4000000 in
theorem clone_evR (ad : Addr) (es : List Ev) (c : Nat) (w : World) (hn : es.length < 1000) (hc : ∀ j u, (fe es)[j]? = some u → w.cell? (ad.add j) = some u) :
    Calls Tryz.prog 116 #[.slice (some ad) es.length c] w (EvsR es w) := by
  obtain ⟨i0, hi, hz0, hz1, hz2⟩ := info_parts infoEv
  obtain ⟨us, hus⟩ : ∃ us, us = fe es := ⟨_, rfl⟩
  obtain ⟨n, hnn⟩ : ∃ n, n = es.length := ⟨_, rfl⟩
  have hl : us.length = n * 5 := by rw [hus, hnn, fe_len]
  have h1 : ∀ u ∈ us, u.oneCell' = true := by rw [hus]; exact fe_ones es
  have RE := hid (fun (w1 : World) (base : Nat) (v : Value) (h : w1.ownsRow base 56 5 v (0 + n) ([] ++ us)) => (show RdE w1 v es from own_rdE (by rw [hnn, hus, Nat.zero_add, List.nil_append] at h; exact h)))
  rw [← hus] at hc
  rw [← hnn] at hn ⊢
  clear hus hnn
  have hnil := fun (w : World) => Lib.run_eql_slice_nil (P := Tryz.prog) w 40 56 (some ad) n c 0 0 Tryz.underlying40
  simp only [Option.isNone_some] at hnil
  have hown : (w.alloc (.cells #[] 56)).ownsRow w.heap.size 56 5 (.slice (some ⟨w.heap.size, 0, none⟩) 0 0) 0 [] := World.ownsRow_made w #[] 0 (Nat.le_refl _) (by omega) rfl
  have HN := hid (fun j u (hj : us[j]? = some u) => (show (w.alloc (.cells #[] 56)).cell? (ad.add j) = some u from by
    have := hc j u hj
    rw [← this]
    exact World.cell?_of_block (Below.heap_alloc _ _ _ (cell_lt this))))
  have H1 := hid h1
  have HL := hid hl
  have HNN := hid hn
  clear hc h1 hl hn
  go_enter Tryz.func116, Tryz.ntmps116
  go_wp2_with (at_builtin; refine wpList_append_own _ rfl _ _ 40 rfl w.heap.size 56 i0 _ 5 40 Tryz.underlying40 hi hz0 hz1 hz2 rfl (by decide) _ _ _ rfl hown ad n c us rfl ?c0 ?c1 ?c2 ?c3 ?c4 ?c5 ?_)
  case c0 => exact HL.out
  case c1 => exact HN.out
  case c2 => exact H1.out
  case c3 => have := HNN.out; unfold maxLen; omega
  case c4 => have := HNN.out; omega
  case c5 => simp
  intro v' w1 hown' hgrow hne
  have hbel : Below w.heap.size w w1 := ((Below.refl w.heap.size w).alloc (Nat.le_refl _) (.cells #[] 56)).grown hgrow (by simp) (fun k hk => by simp [Value.ownBlock] at hk; omega)
  have RR := hid (RE.out w1 _ v' (by simpa using hown'))
  obtain ⟨_, ⟨e, _⟩ | ⟨gq, cap, cur, e, _⟩⟩ := hown'
  · exact absurd e hne
  subst e
  have HB := hid hbel
  clear hown hgrow hnil hne hbel HN H1 HL RE
  go_wp2
  go_ret
  exact ⟨_, rfl, RR.out, HB.out⟩
set_option maxHeartbeats 8000000 in
theorem from_0R (w : World) (p o base : Nat) (v : Value) (es : List Ev) (n : Nat) (hn : n = es.length) (h0 : 0 < n) (h9 : n < 1000) (hc : w.cell? ⟨p, o, none⟩ = some v) (h : Lg w base v n (fe es)) :
    Calls Tryz.prog 71 #[.pointer (some ⟨p, o, none⟩), .int .i64 0] w (EvsR es w) := by
  have hcs := fun g => h.own.cells (g := g)
  obtain ⟨hl, ⟨e, h2⟩ | ⟨gq, cap, cur, e, _, hg, hcap, hcm, _⟩⟩ := h.own
  · exact absurd h2 (by omega)
  subst e
  have hpl := cell_lt hc
  have hgl := blk_lt hg
  have hcc : (cap : Int) ≤ 9223372036854775807 := by unfold maxLen at hcm; omega
  have h2c : (n : Int) ≤ (cap : Int) := by omega
  have h2d : (0 : Int) ≤ (n : Int) := by omega
  have LN := hid (fun (y : World) (hq : Quiet w y) => (len_b y p o _ n cap (by obtain ⟨n, rfl⟩ := hq; exact hc)))
  have CL := hid (fun (y : World) (hb : Below w.heap.size w y) => (clone_evR ⟨gq, 0, none⟩ es cap y (by omega) (fun j u hj => by
    have := hcs gq rfl j u hj
    exact (hb.cell (p := (⟨gq, 0, none⟩ : Addr).add j) (cell_lt this)).trans this)).mono (R' := EvsR es w) (fun e w' ⟨v, he, hr, hb'⟩ => ⟨v, he, hr, hb.trans (hb'.mono hb.size)⟩))
  rw [← hn] at CL
  clear hl hg hcs h hgl hn
  go_enter Tryz.func71, Tryz.ntmps71
  go_wp2_with fail
  go_region_with (first
    | (go_at_call 117; refine (LN.out _ ⟨1, rfl⟩).mono ?_; rintro e y ⟨rfl, rfl⟩)
    | (go_at_call 116; refine (CL.out _ (Quiet.below ⟨1, rfl⟩ _)).mono ?_; rintro e y5 ⟨v5, rfl, hr5, hb5⟩))
  all_goals
    have HB5 := hid hb5
    have HR5 := hid hr5
    clear hb5 hr5
    go_wp2
    go_ret
    exact ⟨_, rfl, HR5.out, HB5.out⟩
set_option maxHeartbeats 4000000 in
theorem weventsR {w : World} {W b1 b2 rb tb q sb ib mb rc : Nat} {lg : Value} (h : Wb w W b1 b2 rb tb q sb ib mb rc lg) {base : Nat} {es : List Ev} {n : Nat} (hn : n = es.length) (h0 : 0 < n) (h9 : n < 1000) (hg : Lg w base lg n (fe es)) :
    Calls Tryz.prog 39 #[.pointer (some ⟨W, 0, none⟩)] w (EvsR es w) := by
  have FR := hid (from_0R w W 15 base lg es n hn h0 h9 h.c15 hg)
  clear h hg
  go_enter Tryz.func39, Tryz.ntmps39
  go_wp2_with fail
  refine FR.out.mono ?_
  rintro e w2 ⟨v, rfl, hr, hb⟩
  have HB := hid hb
  have HR := hid hr
  clear hb hr FR
  go_wp2
  go_ret
  exact ⟨_, rfl, HR.out, HB.out⟩
end Go.Proofs.YtpgamdnkdoebgaaGreatDoor
/-! hostlerlaw21.lives: a script of nothing. -/
namespace Go.Proofs.YtpgamdnkdoebgaaGreatDoor
open Go.RowKit
set_option linter.unusedVariables false
set_option linter.unusedSimpArgs false
set_option maxRecDepth 20000
/-- What a script of nothing reads as. -/
def SpN (w : World) (e : Ending) (w' : World) : Prop := ∃ a c, e = .returned (.tuple #[.agg #[.int .i64 1, .int .i64 1, .int .i64 1], .slice a 0 c]) ∧ Below w.heap.size w w'
theorem sparse_nil (w : World) : Calls Tryz.prog 7 #[.slice none 0 0] w (SpN w) := by
  refine (sparse w 0 0 ⟨#[]⟩ none 0 (by decide) (by unfold maxLen; omega) (fun h => absurd h (by decide)) (by decide)).mono ?_
  rintro e w' ⟨n, v, hn, rfl, hr, hb⟩
  have h0 : EndS ⟨#[]⟩ (cfM ⟨#[]⟩) (cfG ⟨#[]⟩) 0 := ⟨fun j hj => by omega, fun h => absurd h.1 (by simp [goS]; decide)⟩
  obtain rfl := hn.unique h0
  obtain ⟨a, c, rfl, _⟩ := hr
  exact ⟨a, c, rfl, hb⟩
set_option maxHeartbeats 4000000 in
theorem wrun_nil (w : World) (W : Nat) (a : Option Addr) (c : Nat) : Calls Tryz.prog 74 #[.pointer (some ⟨W, 0, none⟩), .slice a 0 c] w fun e w' => e = .returned (.int .i64 0) ∧ w' = w := by
  go_enter Tryz.func74, Tryz.ntmps74
  go_wp2_with fail
  go_loopw [5, 10] (fun v5 v10 wr => v5 = .int .i64 0 ∧ v10 = .int .i64 0 ∧ wr = w) (fun _ _ _ => 0)
  case atStart => exact ⟨rfl, rfl, rfl⟩
  case round =>
    obtain ⟨rfl, rfl, rfl⟩ := hrel
    go_wp2
    go_ret
    exact ⟨rfl, rfl⟩
/-- A world behind a script of nothing. -/
def RunN (w : World) (e : Ending) (w' : World) : Prop := ∃ W, e = .returned (.pointer (some ⟨W, 0, none⟩)) ∧ Below w.heap.size w w' ∧ Calls Tryz.prog 39 #[.pointer (some ⟨W, 0, none⟩)] w' (EvsR [(0, 0, -1, -1, 0)] w')
set_option maxHeartbeats 8000000 in
theorem srun_nil (w : World) (T1 : MaPlaces w) (T2 : EvNames w) (T3 : EvSteps w) (U1 : 0 < w.heap.size) (U2 : 3 < w.heap.size) (U3 : 2 < w.heap.size) :
    Calls Tryz.prog 41 #[.slice none 0 0] w (RunN w) := by
  have P0 := hid (sparse_nil w)
  have NW := hid (fun w2 (hb : Below w.heap.size w w2) => (wnew_1 w2 (T1.at hb) (T2.at hb) (T3.at hb) (by have := hb.size; omega) (by have := hb.size; omega) (by have := hb.size; omega)))
  have RN := hid wrun_nil
  clear T1 T2 T3 U1 U2 U3
  go_enter Tryz.func41, Tryz.ntmps41
  go_wp2_with fail
  refine P0.out.mono ?_
  rintro e w2 ⟨a, c, rfl, hb2⟩
  have B2 := hid hb2
  have NW2 := hid (NW.out _ (hb2.alloc hb2.size (.cells #[.int .i64 1, .int .i64 1, .int .i64 1] 25)))
  clear hb2 P0 NW
  go_wp2_with fail
  refine NW2.out.mono ?_
  rintro e w3 ⟨B, rfl, hA⟩
  obtain ⟨r, lg, ra, rn, rcc, bk, s0, s1, s2, s3, s4, yes, hw, _⟩ := hA
  have EV := hid (weventsR hw.wb (n := 1) (es := [(0, 0, -1, -1, 0)]) rfl (by omega) (by omega) hw.lgr)
  have B3 := hid ((B2.out.alloc B2.out.size (.cells #[.int .i64 1, .int .i64 1, .int .i64 1] 25)).trans (hw.bl.mono (by have := B2.out.size; simp; omega)))
  clear hw NW2 B2
  generalize B.W = W at *
  have R1 := hid (RN.out w3 W a c)
  clear RN
  go_wp2_with fail
  refine R1.out.mono ?_
  rintro e w4 ⟨rfl, rfl⟩
  clear R1
  go_wp2
  go_ret
  exact ⟨W, rfl, B3.out, EV.out⟩
/-- The text of a script of nothing. -/
theorem text_one : allR [((0, 0, -1, -1, 0) : Ev)] = true ∧ textE [((0, 0, -1, -1, 0) : Ev)] = ⟨#[43, 48]⟩ := ⟨by kernel_rfl, by kernel_rfl⟩
set_option maxHeartbeats 8000000 in
theorem stext_nil (w : World) (T1 : MaPlaces w) (T2 : EvNames w) (T3 : EvSteps w) (R : GlRunes w) (T : PwTab w) (U1 : 0 < w.heap.size) (U2 : 3 < w.heap.size) (U3 : 2 < w.heap.size) :
    Calls Tryz.prog 20 #[.slice none 0 0] w fun e w' => e = .returned (.string ⟨#[43, 48]⟩) ∧ Below w.heap.size w w' := by
  have RN := hid (srun_nil w T1 T2 T3 U1 U2 U3)
  have PR := hid (fun w2 (hb : Below w.heap.size w w2) v (hr : RdE w2 v [(0, 0, -1, -1, 0)]) => (show Calls Tryz.prog 40 #[v] w2 fun e w' => e = .returned (.tuple #[.string ⟨#[43, 48]⟩, .int .i64 0]) ∧ Below w2.heap.size w2 w' from by
    have h := print_any v [(0, 0, -1, -1, 0)] w2 (R.at hb) (T.at hb) hr (fun e he => by simp at he; subst he; unfold fitE; simp) (by simp)
    rw [if_pos text_one.1, if_pos text_one.1, text_one.2] at h
    exact h))
  clear T1 T2 T3 R T U1 U2 U3
  go_enter Tryz.func20, Tryz.ntmps20
  go_wp2_with fail
  refine RN.out.mono ?_
  rintro e w2 ⟨W, rfl, hb, ev⟩
  have EV := hid ev
  have B2 := hid hb
  clear ev hb RN
  go_wp2_with fail
  refine EV.out.mono ?_
  rintro e w3 ⟨v, rfl, hr, hb⟩
  have B3 := hid (B2.out.trans (hb.mono B2.out.size))
  have P3 := hid (PR.out w3 B3.out v hr)
  clear hr hb EV B2 PR
  go_wp2_with fail
  refine P3.out.mono ?_
  rintro e w4 ⟨rfl, hb⟩
  have B4 := hid (B3.out.trans (hb.mono B3.out.size))
  clear hb P3 B3
  go_wp2
  go_ret
  exact ⟨rfl, B4.out⟩
/-- Are two configs one? -/
theorem equalIn_cf (a b c a' b' c' : Int) (w : World) : (Op.equalIn 10000 25 (.agg #[.int .i64 a, .int .i64 b, .int .i64 c]) (.agg #[.int .i64 a', .int .i64 b', .int .i64 c'])).run Tryz.prog w = .ok (decide ((a, b, c) = (a', b', c'))) w := by
  have u1 := Tryz.underlying3
  have hS : Tryz.prog.underlying 25 = some (.struct (Tryz.prog.fieldsOf 25)) := by kernel_rfl
  have hp : Tryz.prog.stoodInHeld 25 = false := by kernel_rfl
  rw [show (10000 : Nat) = 9999 + 1 from rfl, run_equalIn_agg w 9999 25 _ _ hS hp]
  simp only [Program.fieldsOf, Tryz.underlying25]
  go_simp
  by_cases h1 : a = a' <;> by_cases h2 : b = b' <;> by_cases h3 : c = c' <;> simp [h1, h2, h3]
set_option maxHeartbeats 8000000 in
theorem lives21 (w : World) (T1 : MaPlaces w) (T2 : EvNames w) (T3 : EvSteps w) (R : GlRunes w) (T : PwTab w) (U1 : 0 < w.heap.size) (U2 : 3 < w.heap.size) (U3 : 2 < w.heap.size) :
    Calls Tryz.prog 6 #[] w fun e w' => e = .returned (.bool true) ∧ Below w.heap.size w w' := by
  have P0 := hid (sparse_nil w)
  have L2 := hid (fun w2 (hb : Below w.heap.size w w2) => lives20 w2 (T1.at hb) (T2.at hb) (T3.at hb) (by have := hb.size; omega) (by have := hb.size; omega) (by have := hb.size; omega))
  have TX := hid (fun w2 (hb : Below w.heap.size w w2) => stext_nil w2 (T1.at hb) (T2.at hb) (T3.at hb) (R.at hb) (T.at hb) (by have := hb.size; omega) (by have := hb.size; omega) (by have := hb.size; omega))
  have EQ := equalIn_cf
  clear T1 T2 T3 R T U1 U2 U3
  go_enter Tryz.func6, Tryz.ntmps6
  go_wp2_with fail
  refine P0.out.mono ?_
  rintro e w2 ⟨a, c, rfl, hb2⟩
  have B2 := hid (hb2.alloc hb2.size (.cells #[.int .i64 1, .int .i64 1, .int .i64 1] 25))
  have X2 := hid (heap_alloc_new w2 (.cells #[.int .i64 1, .int .i64 1, .int .i64 1] 25))
  have S2 := hid (show w2.heap.size < (w2.alloc (.cells #[.int .i64 1, .int .i64 1, .int .i64 1] 25)).heap.size by simp)
  clear hb2 P0
  go_upto_region 1 with (fail)
  refine (L2.out _ B2.out).mono ?_
  rintro e w3 ⟨rfl, hb3⟩
  have X3 := hid ((hb3.block _ S2.out).trans X2.out)
  have B3 := hid (B2.out.trans (hb3.mono B2.out.size))
  obtain ⟨⟨c0, c1, c2⟩, _⟩ := cells3 X3.out
  have T3 := hid (TX.out _ B3.out)
  clear hb3 X3 X2 S2 B2 TX L2
  go_wp2_with fail
  refine T3.out.mono ?_
  rintro e w4 ⟨rfl, hb4⟩
  have B4 := hid (B3.out.trans (hb4.mono B3.out.size))
  clear hb4 T3 B3
  go_wp2
  go_ret
  exact ⟨rfl, B4.out⟩
end Go.Proofs.YtpgamdnkdoebgaaGreatDoor
