/- The walk of the statement CellPlays: the law answers true and turns nothing that was there. -/
import Derived.Test.YtdbionbdcjpmaaaLives01
import Derived.Test.YtdbionbdcjpmaaaStructs
import Derived.Test.YtdbionbdcjpmaaaDo01d
import Derived.Test.YtdbionbdcjpmaaaRef01n
import Derived.Deep.QuietTactic
import Derived.BigQuiet
namespace Go.Proofs.Ytdbionbdcjpmaaa.cellPlays
open Go.RowKit
set_option linter.unusedVariables false
set_option linter.unusedSimpArgs false

theorem Mem.quiet' {w : World} {b g : Nat} {xs : List Int} {c : Nat} (h : Mem w b g xs c) {w' : World} (q : Quiet w w') : Mem w' b g xs c :=
  h.kept (by rw [q.heap]) (by rw [q.heap])
structure Cs (w : World) (b g base B k : Nat) (a : Option Addr) (cw : Nat) (xs : List Int) (c : Nat) (wr : World) : Prop where
  m : Mem wr b g xs c
  box : wr.heap[B]? = some (.cells #[.slice a k cw, .int .i64 c] 28 (0, 0))
  off : Offs wr base 30 (.slice a k cw) (vals xs)
  ow : ∀ q, (Value.slice a k cw).ownBlock = some q → q ≠ B
  bl : Below w.heap.size w wr
  hb : w.heap.size ≤ b
  hg : w.heap.size ≤ g
  lb : b < base
  lg : g < base
  lB : base ≤ B
  sz : B < wr.heap.size
  len : xs.length = k
variable {w wr : World} {b g base B k : Nat} {a : Option Addr} {cw : Nat} {xs : List Int} {c : Nat}
theorem Cs.below (h : Cs w b g base B k a cw xs c wr) {w' : World} (hb : Below wr.heap.size wr w') : Cs w b g base B k a cw xs c w' :=
  ⟨h.m.below hb h.m.sb h.m.sg, (hb.block _ h.sz).trans h.box, h.off.kept (fun q hq => hb.block q (h.off.lt q hq).2), h.ow, h.bl.trans (hb.mono h.bl.size), h.hb, h.hg, h.lb, h.lg, h.lB, by have := hb.size; have := h.sz; omega, h.len⟩
/-- One act was done, and the document's memory is laid anew. -/
theorem Cs.act (h : Cs w b g base B k a cw xs c wr) {w' : World} {a2 : Option Addr} {c2 k2 : Nat} {xs2 : List Int} (ho : Only b g wr w') (hm : Mem w' b g xs2 k2) (hof : Offs w' base 30 (.slice a2 k c2) (vals xs2)) (hl : xs2.length = k)
    (hw : ∀ q, (Value.slice a2 k c2).ownBlock = some q → (Value.slice a k cw).ownBlock = some q ∨ wr.heap.size ≤ q) :
    Cs w b g base B k a2 c2 xs2 k2 ((w'.setCell ⟨B, 0, none⟩ (.slice a2 k c2)).setCell ⟨B, 1, none⟩ (.int .i64 k2)) ∧ w'.heap[B]? = some (.cells #[.slice a k cw, .int .i64 c] 28 (0, 0)) := by
  have h1 := h.lb
  have h2 := h.lg
  have h3 := h.hb
  have h4 := h.hg
  have h5 := ho.size
  have h6 := h.sz
  have h7 := h.lB
  have h8 := h.bl.size
  have hB : w'.heap[B]? = some (.cells #[.slice a k cw, .int .i64 c] 28 (0, 0)) := (ho.block _ h6 (by omega) (by omega)).trans h.box
  have kp : ∀ q, q ≠ B → ((w'.setCell ⟨B, 0, none⟩ (.slice a2 k c2)).setCell ⟨B, 1, none⟩ (.int .i64 k2)).heap[q]? = w'.heap[q]? := fun q hq => by
    rw [Below.heap_setCell _ _ _ _ hq, Below.heap_setCell _ _ _ _ hq]
  have hne : ∀ q, (Value.slice a2 k c2).ownBlock = some q → q ≠ B := fun q hq => by
    rcases hw q hq with e | e
    · exact h.ow q e
    · omega
  exact ⟨⟨hm.kept (kp b (by omega)) (kp g (by omega)), by simp [World.setCell, Array.getElem?_modify, hB], hof.kept (fun q hq => kp q (hne q hq)), hne, ((h.bl.trans (ho.below h3 h4 h8)).setCell (by show w.heap.size ≤ B; omega) _).setCell (by show w.heap.size ≤ B; omega) _, h3, h4, h1, h2, h7, by simp [World.setCell]; omega, hl⟩, hB⟩

set_option maxRecDepth 100000 in
set_option maxHeartbeats 8000000 in
theorem walk (a0 : Int) (a1 : Option Addr) (len1 cap1 : Nat) (z1 : Nat → Nat → Int) (w : World) (w0 : (Lit.int .i64 a0).wf = true) (w1 : IsStructs [.u8, .i64, .u64, .u64, .i64] w a1 len1 cap1 z1) :
    Calls Try.prog 3 #[.int .i64 a0, .slice a1 len1 cap1] w fun e w' => e = .returned (.bool true) ∧ Below w.heap.size w w' := by
  have HA := hid w0
  clear w0
  by_cases hlen : (60 : Int) < len1
  · go_enter Try.func3, Try.ntmps3
    go_wp2_with fail
    refine (lives1 _).mono ?_
    rintro e w2 ⟨rfl, hb1⟩
    go_wp2_with fail
    refine (lives1 _).mono ?_
    rintro e w3 ⟨rfl, hb2⟩
    go_wp2
    go_ret
    exact ⟨rfl, hb1.trans (hb2.mono hb1.size)⟩
  by_cases hbig : 100 < a0
  · go_enter Try.func3, Try.ntmps3
    go_wp2_with fail
    refine (lives1 _).mono ?_
    rintro e w2 ⟨rfl, hb1⟩
    go_wp2_with fail
    refine (lives1 _).mono ?_
    rintro e w3 ⟨rfl, hb2⟩
    go_wp2
    go_ret
    exact ⟨rfl, hb1.trans (hb2.mono hb1.size)⟩
  have hlen' : len1 ≤ 60 := by omega
  have hbig' : a0 ≤ 100 := by omega
  have W1 := hid w1
  clear w1
  obtain ⟨k, hk⟩ : ∃ k : Nat, (k : Int) = max a0 0 := ⟨(max a0 0).toNat, by omega⟩
  have HK := hid hk
  have hk100 : k ≤ 100 := by omega
  clear hk
  go_enter Try.func3, Try.ntmps3
  go_wp2_with fail
  refine (lives1 _).mono ?_
  rintro e w2 ⟨rfl, hb1⟩
  go_wp2_with fail
  refine (new_ex a0 k (by have := HK.out; omega) _).mono ?_
  rintro e w3 ⟨b, g, rfl, hm, hb, hg, hb3⟩
  go_wp2_with fail
  refine (rnew a0 k HK.out hbig' _).mono ?_
  rintro e w4 ⟨c0, rfl, ho4, hb4⟩
  have S0 : Hid (Cs w b g w3.heap.size w4.heap.size k (some ⟨w3.heap.size + 1, 0, none⟩) c0 (List.replicate k 0) 0 (w4.alloc (.cells #[.slice (some ⟨w3.heap.size + 1, 0, none⟩) k c0, .int .i64 0] 28))) := by
    have hs1 := hb1.size
    have hs3 := hb3.size
    have hs4 := hb4.size
    have h34 : Below w.heap.size w w4 := (hb1.trans (hb3.mono hs1)).trans (hb4.mono (by omega))
    refine ⟨(hm.below hb4 hm.sb hm.sg).below ((Below.refl _ _).alloc (Nat.le_refl _) _) (by have := hm.sb; omega) (by have := hm.sg; omega), Deep.blk_alloc_new _ _, ho4.alloc _, fun q hq e => by have := (ho4.lt q hq).2; omega, h34.alloc h34.size _, by omega, by omega, hm.sb, hm.sg, hs4, by simp, by simp⟩
  clear hb1 hm hb hg hb3 ho4 hb4
  go_wp2_with fail
  generalize hB : w4.heap.size = B at *
  generalize w4.alloc (.cells #[.slice (some ⟨w3.heap.size + 1, 0, none⟩) k c0, .int .i64 0] 28) = w5 at *
  generalize hbs : w3.heap.size = base at *
  clear hB hbs
  go_loopw [31] (fun i wr => ∃ (q c cw : Nat) (a : Option Addr) (xs : List Int), q ≤ len1 ∧ i = .int .i64 q ∧ c ≤ 2 * q ∧ Hid (Cs w b g base B k a cw xs c wr))
    (fun i _ => len1 - (intOf i).toNat)
  case atStart => exact ⟨0, 0, c0, _, _, by omega, rfl, by omega, S0⟩
  case round =>
    clear S0
    obtain ⟨q, c, cw, a, xs, hq, rfl, hc, S⟩ := hrel
    by_cases hlt : q < len1
    · obtain ⟨bx, off, rfl, hcell⟩ := W1.out.open (by omega) (by simp)
      obtain ⟨h0, hw0⟩ := hcell _ S.out.bl q hlt 0 .u8 rfl
      obtain ⟨h1, hw1⟩ := hcell _ S.out.bl q hlt 1 .i64 rfl
      obtain ⟨h2, hw2⟩ := hcell _ S.out.bl q hlt 2 .u64 rfl
      obtain ⟨h3, hw3⟩ := hcell _ S.out.bl q hlt 3 .u64 rfl
      obtain ⟨h4, hw4⟩ := hcell _ S.out.bl q hlt 4 .i64 rfl
      have hr8 := bounds_u8 hw0
      obtain ⟨kd, hkd⟩ : ∃ x, x = z1 q 0 := ⟨_, rfl⟩
      obtain ⟨i, hi⟩ : ∃ x, x = z1 q 1 := ⟨_, rfl⟩
      obtain ⟨X, hX⟩ : ∃ x, x = z1 q 2 := ⟨_, rfl⟩
      obtain ⟨Y, hY⟩ : ∃ x, x = z1 q 3 := ⟨_, rfl⟩
      obtain ⟨D, hD⟩ : ∃ x, x = z1 q 4 := ⟨_, rfl⟩
      rw [← hkd] at h0 hr8
      rw [← hi] at h1
      rw [← hX] at h2
      rw [← hY] at h3
      rw [← hD] at h4
      simp only [List.length_cons, List.length_nil, Nat.reduceAdd, Nat.add_zero] at h0 h1 h2 h3 h4
      rw [← Nat.add_assoc] at h1 h2 h3 h4
      have kd0 := hr8.1
      have kd1 := hr8.2
      clear hkd hi hX hY hD hcell hw0 hw1 hw2 hw3 hw4 hr8
      have SA := hid (S.out.below ((Below.refl _ _).alloc (Nat.le_refl _) (.cells #[.int .u8 kd, .int .i64 i, .int .u64 X, .int .u64 Y, .int .i64 D] 32)))
      have B0 := cell_blk1 (i := 0) SA.out.box rfl
      have B1 := cell_blk1 (i := 1) SA.out.box rfl
      have DA := hid (do_any kd i X Y D c base k cw b g a xs _ SA.out.off SA.out.m SA.out.lb SA.out.lg (by have := SA.out.sz; have := SA.out.lB; omega) (by have := SA.out.len; omega) (by omega) kd0 kd1)
      go_wp2_with fail
      refine (DA.out).mono ?_
      rintro e w6 ⟨xs2, k2, hl2, hk2, a2, c2, rfl, hw2, ho2, hm2, hon2⟩
      obtain ⟨hC, hbx⟩ := SA.out.act hon2 hm2 ho2 (by rw [hl2]; exact SA.out.len) hw2
      have C7 := hid hC
      have r0 := cell_blk1 (i := 0) hbx rfl
      have r1 := cell_blk1 (i := 1) hbx rfl
      have r2 : w6.frozen? ⟨B, 0, none⟩ = false := by simp [World.frozen?, hbx]
      have r3 : w6.frozen? ⟨B, 1, none⟩ = false := by simp [World.frozen?, hbx]
      clear hC hbx hw2 ho2 hm2 hon2 SA DA B0 B1 S h0 h1 h2 h3 h4 hl2
      go_upto_region 9 with (fail)
      clear r0 r1 r2 r3
      generalize (w6.setCell ⟨B, 0, none⟩ (.slice a2 k c2)).setCell ⟨B, 1, none⟩ (.int .i64 (k2 : Nat)) = w7 at *
      have b0 := cell_blk1 (i := 0) C7.out.box rfl
      have b1 := cell_blk1 (i := 1) C7.out.box rfl
      have kk : ((k : Int) != k) = false := by simp
      have cc : ((k2 : Int) != k2) = false := by simp
      have hk2' : (k2 : Int) ≤ 1000 := by omega
      have LN := hid (fun (y : World) (hq : Quiet w7 y) => (show Calls Try.prog 10 #[.pointer (some ⟨b, 0, none⟩)] y fun e w' => e = .returned (.int .i64 k) ∧ y = w' by have := len_any b g xs2 k2 y (Mem.quiet' C7.out.m hq); rw [C7.out.len] at this; exact this))
      have CN := hid (fun (y : World) (hq : Quiet w7 y) => count_any b g xs2 k2 y (Mem.quiet' C7.out.m hq))
      go_quiet (first
        | (go_at_call 10; exact quiet_call0 (LN.out _ ⟨_, rfl⟩))
        | (go_at_call 11; exact quiet_call0 (CN.out _ ⟨_, rfl⟩)))
      have C8 := hid (C7.out.below (Quiet.below (w' := w7.drewN nq) ⟨nq, rfl⟩ _))
      clear LN CN b0 b1 C7 kk cc
      generalize w7.drewN nq = w8 at *
      have CP := hid (copy_any b g xs2 k2 w8 C8.out.m)
      go_wp2_with fail
      refine (CP.out).mono ?_
      rintro e w9 ⟨b2, g2, rfl, hm9, h91, h92, hb9⟩
      have M9 := hid hm9
      have B9 := hid hb9
      have C9 := hid (C8.out.below hb9)
      have b0 := cell_blk1 (i := 0) C9.out.box rfl
      have b1 := cell_blk1 (i := 1) C9.out.box rfl
      clear CP hm9 hb9
      go_wp2_with fail
      clear b0 b1
      go_loopw [64] (fun i wr => ∃ (j c3 : Nat), j ≤ k ∧ i = .int .i64 j ∧ c3 ≤ k2 + j ∧ Hid (Mem wr b2 g2 xs2 c3) ∧ Hid (Below w8.heap.size w8 wr))
        (fun i _ => k - (intOf i).toNat)
      case atStart => exact ⟨0, k2, by omega, rfl, by omega, M9, B9⟩
      case round =>
        obtain ⟨j, c3, hj, rfl, hc3, MR, BR⟩ := hrel
        by_cases hjk : j < k
        · have hjx : j < xs2.length := by rw [C8.out.len]; exact hjk
          obtain ⟨⟨gr, rr, rfl, e8, e9⟩, e10, hcr, hcrm⟩ := C8.out.off.pos' (by rw [vals_len]; omega)
          clear e8 e9 e10
          unfold maxLen at hcrm
          have CR := C8.out.below BR.out
          have hcq := CR.off.at' j _ (vals_get xs2 j hjx)
          obtain ⟨v, hv⟩ : ∃ v, v = xs2.getD j 0 := ⟨_, rfl⟩
          have LD := hid (load_in b2 g2 xs2 c3 j wr MR.out (by omega) (by omega) (by omega))
          simp only [Int.toNat_natCast] at LD
          rw [← hv] at hcq LD
          have vv : (v != v) = false := by simp
          clear hv CR hjx
          go_wp2_with fail
          refine (LD.out).mono ?_
          rintro e w10 ⟨rfl, hm10, ho10⟩
          have M10 := hid hm10
          have B10 := hid (BR.out.trans (ho10.below h91 h92 BR.out.size))
          clear LD hm10 ho10 hcq MR BR
          go_wp2
          go_roundw
          case rel => exact ⟨j + 1, c3 + 1, by omega, by go_num, by omega, M10, B10⟩
          case measure => simp [intOf]; omega
        · have CE := hid (C8.out.below BR.out)
          clear C8 C9 M9 B9 MR BR
          go_wp2
          go_roundw
          case rel => exact ⟨q + 1, k2, _, _, _, by omega, by go_num, by omega, CE⟩
          case measure => simp [intOf]; omega
    · obtain rfl : q = len1 := by omega
      have LE := hid (show Calls Try.prog 10 #[.pointer (some ⟨b, 0, none⟩)] wr fun e w' => e = .returned (.int .i64 k) ∧ wr = w' by have := len_any b g xs c wr S.out.m; rw [S.out.len] at this; exact this)
      have BE := hid S.out.bl
      have hk0 := HK.out
      by_cases ha : a0 ≤ 0
      · have kz : ((k : Int) == 0) = true := beq_iff_eq.2 (by omega)
        clear hk0
        go_wp2_with fail
        refine (LE.out).mono ?_
        rintro e w' ⟨rfl, rfl⟩
        go_wp2
        go_ret
        exact ⟨rfl, BE.out⟩
      · have ka : ((k : Int) == a0) = true := beq_iff_eq.2 (by omega)
        have ha' : 0 < a0 := by omega
        clear hk0 ha
        go_wp2_with fail
        refine (LE.out).mono ?_
        rintro e w' ⟨rfl, rfl⟩
        go_wp2
        go_ret
        exact ⟨rfl, BE.out⟩
end Go.Proofs.Ytdbionbdcjpmaaa.cellPlays
