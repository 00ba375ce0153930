/- The contract of layer 5's 'do': an act, of both. -/
import Derived.Test.YtciilbpchejpcaaStay
import Derived.Test.YtciilbpchejpcaaRef5
import Derived.Test.YtciilbpchejpcaaLives05
namespace Go.Proofs.Ytciilbpchejpcaa
set_option linter.unusedVariables false
set_option linter.unusedSimpArgs false
open Go.RowKit

/-- What 'do' hands back: true; the batch and the row both read as the new numbers. -/
theorem Stay.rest {w : World} {p : Nat} {r : Option Nat} {v v2 : Value} {xs ys : List Int} (h : Stay w p r v xs) (hr : ∀ W, Reads W v xs → Reads W v2 ys) (hg : ∀ g o n c, v2 = .slice (some ⟨g, o, none⟩) n c → 0 < ys.length → ∃ o' n' c', v = .slice (some ⟨g, o', none⟩) n' c') (hl : ys.length ≤ xs.length) : Stay w p r v2 ys :=
  ⟨hr _ h.rd, fun g o n c he h0 => by
    obtain ⟨o', n', c', hv⟩ := hg g o n c he h0
    exact h.off g o' n' c' hv (by omega)⟩
def DoPost (p : Nat) (r : Option Nat) (zs : List Int) (w : World) (e : Ending) (w' : World) : Prop :=
  ∃ v' r', e = .returned (.tuple #[v', .bool true]) ∧ Bat w' p r' zs ∧ OnlyO p r w w' ∧ (r' = r ∨ ∀ k, r' = some k → w.heap.size ≤ k) ∧ Stay w' p r' v' zs

set_option maxRecDepth 100000 in
set_option maxHeartbeats 4000000 in
theorem do_put (p : Nat) (r : Option Nat) (xs : List Int) (wv : Value) (K : Int) (A : Option Addr) (L C : Nat) (ys : List Int) (N : Int) (w : World) (hb : Bat w p r xs) (hw : Stay w p r wv xs) (hy : Stay w p r (.slice A L C) ys) (hyl : ys.length = L) (hL : L ≤ 40) (hxl : xs.length ≤ 10000) (hK0 : 0 ≤ K) (hK1 : K ≤ 255) (k2 : (K % 7 == 2) = false) (k3 : (K % 7 == 3) = false) (k4 : (K % 7 == 4) = false) (k5 : (K % 7 == 5) = false) (k6 : (K % 7 == 6) = false) :
    Calls Try.prog 31 #[.pointer (some ⟨p, 0, none⟩), wv, .agg #[.int .u8 K, .slice A L C, .int .i64 N]] w (DoPost p r (xs ++ ys) w) := by
  obtain ⟨n, hn⟩ : ∃ n, n = xs.length := ⟨_, rfl⟩
  obtain ⟨wa, wc, rfl⟩ : ∃ a c, wv = .slice a n c := by obtain ⟨a, c, h, _⟩ := hw.rd; exact ⟨a, c, by rw [hn]; exact h⟩
  have hplt := hb.lt
  have hrlt := hb.rlt
  have HB := hid hb
  have HW := hid hw
  have HY := hid hy
  have HYL := hid hyl
  have HN := hid hn
  have HRL := hid hrlt
  rw [← hn] at hxl
  obtain ⟨i0, hi, hz0, hz1, hz2⟩ := info_parts infoInt
  have HI := hid hi
  have HZ0 := hid hz0
  have HZ1 := hid hz1
  have HZ2 := hid hz2
  have hb1 : Below w.heap.size w ((w.alloc (.cells #[.int .u8 K, .slice A L C, .int .i64 N] 36)).alloc (.cells #[] 3)) := ((Below.refl w.heap.size w).alloc (Nat.le_refl _) _).alloc (by simp) _
  have HM := hid (show ((w.alloc (.cells #[.int .u8 K, .slice A L C, .int .i64 N] 36)).alloc (.cells #[] 3)).ownsRow (w.heap.size + 1) 3 1 (.slice (some ⟨w.heap.size + 1, 0, none⟩) 0 0) 0 [] by
    have := World.ownsRow_made (base := w.heap.size + 1) (e := 3) (size := 1) (w.alloc (.cells #[.int .u8 K, .slice A L C, .int .i64 N] 36)) #[] 0 (by simp) (by omega) rfl
    simpa using this)
  have HRD := hid (hy.below hb1).rd
  have B1 := hid (show 0 + ys.length ≤ maxLen by unfold maxLen; omega)
  have B2 := hid (show (0 + ys.length) * 8 ≤ 140737488355328 by omega)
  have B3 := hid (show w.heap.size + 1 ≤ ((w.alloc (.cells #[.int .u8 K, .slice A L C, .int .i64 N] 36)).alloc (.cells #[] 3)).heap.size by simp)
  have HB1 := hid hb1
  clear hb hw hy hyl hn hrlt hi hz0 hz1 hz2 hb1
  go_enter Try.func31, Try.ntmps31
  go_wp2_with (with_reducible refine wpList_append_reads rfl (.tmp 23) (.tmp 25) 22 rfl (w.heap.size + 1) 3 i0 (.int .i64 0) 8 Try.underlying22 HI.out HZ0.out HZ1.out HZ2.out (by decide) (.slice (some ⟨w.heap.size + 1, 0, none⟩) 0 0) 0 [] rfl HM.out ys (.slice A L C) rfl HRD.out B1.out B2.out B3.out ?_)
  intro v8 w2 hown8 hgr8 hat8
  have hbw2 : Below w.heap.size w w2 := HB1.out.grown hgr8 (by simp; omega) (fun q hq => by simp [Value.ownBlock] at hq; omega)
  have HO8 := hid (show Owns w2 (w.heap.size + 1) v8 ys by
    unfold Owns
    simpa using hown8)
  obtain ⟨a8, c8, rfl⟩ := HO8.out.reads_n HYL.out
  have HBX := hid (show w2.heap[w.heap.size]? = some (.cells #[.int .u8 K, .slice A L C, .int .i64 N] 36 (0, 0)) by
    rw [hgr8.block w.heap.size (by simp; omega) (fun e => by simp [Value.ownBlock] at e)]
    rw [Below.heap_alloc _ _ _ (by simp)]
    exact Deep.blk_alloc_new _ _)
  have y0 : w2.cell? ⟨w.heap.size, 0, none⟩ = some (.int .u8 K) := by simp [World.cell?, HBX.out]
  have y1 : w2.cell? ⟨w.heap.size, 1, none⟩ = some (.slice A L C) := by simp [World.cell?, HBX.out]
  have y2 : w2.cell? ⟨w.heap.size, 2, none⟩ = some (.int .i64 N) := by simp [World.cell?, HBX.out]
  have HX2 := hid (OnlyO.of_below (p := p) (r := r) hbw2)
  have HB2 := hid (HB.out.below hbw2)
  have HW2 := hid (HW.out.below hbw2)
  have HY2 := hid (HY.out.below hbw2)
  have hz2 := hbw2.size
  have hz2' : w.heap.size + 2 ≤ w2.heap.size := by have := hgr8.size; simp only [World.size_alloc] at this; omega
  clear hown8 hgr8 hat8 HM HRD B1 B2 B3 HB1
  have hPl : (xs ++ ys).length ≤ 1000000 := by have := HYL.out; have := HN.out; rw [List.length_append]; omega
  have HPL := hid hPl
  clear hPl
  go_wp2_with fail
  refine (put_any p r xs ys _ _ HB2.out HO8.out.reads HPL.out).mono ?_
  rintro e w3 ⟨rfl, r3, hb3, ho3, hr3⟩
  have HX3 := hid (HX2.out.trans ho3 (.inl rfl))
  have HW3 := hid (HW2.out.step ho3 hr3)
  have HY3 := hid (HY2.out.step ho3 hr3)
  have HO83 := hid (HO8.out.kept (w' := w3) (fun q hq => ho3.block q (HO8.out.lt q hq).2 (by have := (HO8.out.lt q hq).1; omega) (fun e => by have := HRL.out q e.symm; have := (HO8.out.lt q hq).1; omega)))
  have hbx : w3.heap[w.heap.size]? = some (.cells #[.int .u8 K, .slice A L C, .int .i64 N] 36 (0, 0)) := by
    rw [ho3.block w.heap.size (by omega) (by omega) (fun e => by have := HRL.out _ e.symm; omega)]; exact HBX.out
  have x1 : w3.cell? ⟨w.heap.size, 1, none⟩ = some (.slice A L C) := by simp [World.cell?, hbx]
  have HB3 := hid hb3
  have HR3 := hid (show r3 = r ∨ ∀ k, r3 = some k → w2.heap.size ≤ k from hr3)
  have hz3 := ho3.size
  clear hb3 hr3 ho3 hbx
  go_wp2_with fail
  refine (join_any _ _ xs ys _ HW3.out.rd HY3.out.rd (by have := HN.out; omega) (by have := HYL.out; omega)).mono ?_
  rintro e w4 ⟨v4, rfl, ho4, hbel4⟩
  have HOo := hid (HO83.out.kept (w' := w4) (fun q hq => hbel4.block q (HO83.out.lt q hq).2))
  obtain ⟨B4, hB4e⟩ : ∃ B, B = w3.heap.size := ⟨_, rfl⟩
  rw [← hB4e] at ho4
  have HOv := hid ho4
  obtain ⟨va, vn, vc, rfl⟩ := ho4.slice3
  have HBn := hid (HB3.out.below hbel4)
  have HX4 := hid (HX3.out.beyond (hbel4.mono (by omega)))
  have hB4 : B4 ≤ w4.heap.size := by have := hbel4.size; omega
  have HRW := hid (show r3 = r ∨ ∀ k, r3 = some k → w.heap.size ≤ k by rcases HR3.out with h | h; exact .inl h; exact .inr fun k hk => by have := h k hk; omega)
  have HB8 := hid (show ∀ B, (Value.slice a8 L c8).ownBlock = some B → B < w2.heap.size ∧ B < B4 from fun B hB => ⟨(HO8.out.lt B hB).2, by have := (HO8.out.lt B hB).2; omega⟩)
  have hpB : p < B4 := by omega
  have hrB : ∀ q, r3 = some q → q < B4 := fun q hq => by have := HB3.out.rlt q hq; omega
  have HRB := hid hrB
  clear ho4 hbel4 hB4e hrB x1

  go_wp2_with fail
  go_loopw [155] (fun i wr => ∃ (k : Nat) (zs : List Int), k ≤ L ∧ i = .int .i64 k ∧ zs.length = L ∧ Hid (Owns wr (w.heap.size + 1) (.slice a8 L c8) zs) ∧ Hid (Owns wr B4 (.slice va vn vc) (xs ++ ys)) ∧ Hid (Bat wr p r3 (xs ++ ys)) ∧ Hid (OnlyO p r w wr) ∧ B4 ≤ wr.heap.size)
    (fun i _ => L - (intOf i).toNat)
  case atStart => exact ⟨0, ys, by omega, rfl, HYL.out, HOo, HOv, HBn, HX4, hB4⟩
  case round =>
    clear HOo HOv HBn HX4 hB4
    obtain ⟨k, zs, hk, rfl, hzl, HOo, HOv, HBn, HX4, hB4⟩ := hrel
    have HZL := hid hzl
    clear hzl
    by_cases hlt : k < L
    · obtain ⟨B, rfl, hB1, hB2, hcell, hfr, hset⟩ := HOo.out.step HZL.out k hlt
      have HSET := hid hset
      obtain ⟨z, hz⟩ : ∃ z, z = zs.getD k 0 := ⟨_, rfl⟩
      rw [← hz] at hcell
      have hBv : ∀ q, (Value.slice va vn vc).ownBlock = some q → q ≠ B := fun q hq => by have := (HOv.out.lt q hq).1; have := HB8.out B rfl; omega
      have HBV := hid hBv
      have hBp : p ≠ B := by omega
      have hBr := hid (fun q (hq : r3 = some q) => (by rcases HR3.out with h | h; · rw [h] at hq; have := HRL.out q hq; omega
                                                       · have := h q hq; have := HB8.out B rfl; omega : q ≠ B))
      clear hz hset hBv
      go_wp2
      go_roundw
      case rel =>
        refine ⟨k + 1, _, by omega, by go_num, by rw [List.length_set]; exact HZL.out, hid (HSET.out _), hid (HOv.out.kept fun q hq => Below.heap_setCell _ _ _ _ (HBV.out q hq)), hid (HBn.out.kept (Below.heap_setCell _ _ _ _ hBp) (fun q hq => Below.heap_setCell _ _ _ _ (hBr.out q hq))), hid (HX4.out.beyond ((Below.refl _ _).setCell (by simp; omega) _)), by simp [World.setCell]; omega⟩
      case measure => simp [intOf]; omega
    · obtain rfl : k = L := by omega
      have FIN : Hid (DoPost p r ((xs ++ ys)) w (.returned (.tuple #[.slice va vn vc, .bool true])) wr) := ⟨_, r3, rfl, HBn.out, HX4.out, HRW.out, HOv.out.stay hpB HRB.out⟩
      clear HOo HOv HBn HX4
      go_wp2
      go_ret2
      exact FIN.out

set_option maxRecDepth 100000 in
set_option maxHeartbeats 4000000 in
theorem do_front (p : Nat) (r : Option Nat) (xs : List Int) (wv : Value) (K : Int) (A : Option Addr) (L C : Nat) (ys : List Int) (N : Int) (w : World) (hb : Bat w p r xs) (hw : Stay w p r wv xs) (hy : Stay w p r (.slice A L C) ys) (hyl : ys.length = L) (hL : L ≤ 40) (hxl : xs.length ≤ 10000) (hK0 : 0 ≤ K) (hK1 : K ≤ 255) (k2 : (K % 7 == 2) = true) :
    Calls Try.prog 31 #[.pointer (some ⟨p, 0, none⟩), wv, .agg #[.int .u8 K, .slice A L C, .int .i64 N]] w (DoPost p r (ys ++ xs) w) := by
  obtain ⟨n, hn⟩ : ∃ n, n = xs.length := ⟨_, rfl⟩
  obtain ⟨wa, wc, rfl⟩ : ∃ a c, wv = .slice a n c := by obtain ⟨a, c, h, _⟩ := hw.rd; exact ⟨a, c, by rw [hn]; exact h⟩
  have hplt := hb.lt
  have hrlt := hb.rlt
  have HB := hid hb
  have HW := hid hw
  have HY := hid hy
  have HYL := hid hyl
  have HN := hid hn
  have HRL := hid hrlt
  rw [← hn] at hxl
  obtain ⟨i0, hi, hz0, hz1, hz2⟩ := info_parts infoInt
  have HI := hid hi
  have HZ0 := hid hz0
  have HZ1 := hid hz1
  have HZ2 := hid hz2
  have hb1 : Below w.heap.size w ((w.alloc (.cells #[.int .u8 K, .slice A L C, .int .i64 N] 36)).alloc (.cells #[] 3)) := ((Below.refl w.heap.size w).alloc (Nat.le_refl _) _).alloc (by simp) _
  have HM := hid (show ((w.alloc (.cells #[.int .u8 K, .slice A L C, .int .i64 N] 36)).alloc (.cells #[] 3)).ownsRow (w.heap.size + 1) 3 1 (.slice (some ⟨w.heap.size + 1, 0, none⟩) 0 0) 0 [] by
    have := World.ownsRow_made (base := w.heap.size + 1) (e := 3) (size := 1) (w.alloc (.cells #[.int .u8 K, .slice A L C, .int .i64 N] 36)) #[] 0 (by simp) (by omega) rfl
    simpa using this)
  have HRD := hid (hy.below hb1).rd
  have B1 := hid (show 0 + ys.length ≤ maxLen by unfold maxLen; omega)
  have B2 := hid (show (0 + ys.length) * 8 ≤ 140737488355328 by omega)
  have B3 := hid (show w.heap.size + 1 ≤ ((w.alloc (.cells #[.int .u8 K, .slice A L C, .int .i64 N] 36)).alloc (.cells #[] 3)).heap.size by simp)
  have HB1 := hid hb1
  clear hb hw hy hyl hn hrlt hi hz0 hz1 hz2 hb1
  go_enter Try.func31, Try.ntmps31
  go_wp2_with (with_reducible refine wpList_append_reads rfl (.tmp 23) (.tmp 25) 22 rfl (w.heap.size + 1) 3 i0 (.int .i64 0) 8 Try.underlying22 HI.out HZ0.out HZ1.out HZ2.out (by decide) (.slice (some ⟨w.heap.size + 1, 0, none⟩) 0 0) 0 [] rfl HM.out ys (.slice A L C) rfl HRD.out B1.out B2.out B3.out ?_)
  intro v8 w2 hown8 hgr8 hat8
  have hbw2 : Below w.heap.size w w2 := HB1.out.grown hgr8 (by simp; omega) (fun q hq => by simp [Value.ownBlock] at hq; omega)
  have HO8 := hid (show Owns w2 (w.heap.size + 1) v8 ys by
    unfold Owns
    simpa using hown8)
  obtain ⟨a8, c8, rfl⟩ := HO8.out.reads_n HYL.out
  have HBX := hid (show w2.heap[w.heap.size]? = some (.cells #[.int .u8 K, .slice A L C, .int .i64 N] 36 (0, 0)) by
    rw [hgr8.block w.heap.size (by simp; omega) (fun e => by simp [Value.ownBlock] at e)]
    rw [Below.heap_alloc _ _ _ (by simp)]
    exact Deep.blk_alloc_new _ _)
  have y0 : w2.cell? ⟨w.heap.size, 0, none⟩ = some (.int .u8 K) := by simp [World.cell?, HBX.out]
  have y1 : w2.cell? ⟨w.heap.size, 1, none⟩ = some (.slice A L C) := by simp [World.cell?, HBX.out]
  have y2 : w2.cell? ⟨w.heap.size, 2, none⟩ = some (.int .i64 N) := by simp [World.cell?, HBX.out]
  have HX2 := hid (OnlyO.of_below (p := p) (r := r) hbw2)
  have HB2 := hid (HB.out.below hbw2)
  have HW2 := hid (HW.out.below hbw2)
  have HY2 := hid (HY.out.below hbw2)
  have hz2 := hbw2.size
  have hz2' : w.heap.size + 2 ≤ w2.heap.size := by have := hgr8.size; simp only [World.size_alloc] at this; omega
  clear hown8 hgr8 hat8 HM HRD B1 B2 B3 HB1
  have hPl : (ys ++ xs).length ≤ 1000000 := by have := HYL.out; have := HN.out; rw [List.length_append]; omega
  have HPL := hid hPl
  clear hPl
  go_wp2_with fail
  refine (front_any p r xs ys _ _ HB2.out (fun w' ho => ((HO8.out.stay (by omega) (fun q hq => by have := HRL.out q hq; omega)).only ho).rd) (by have := HYL.out; have := HN.out; omega)).mono ?_
  rintro e w3 ⟨rfl, r3, hb3, ho3, hr3⟩
  have HX3 := hid (HX2.out.trans ho3 (.inl rfl))
  have HW3 := hid (HW2.out.step ho3 hr3)
  have HY3 := hid (HY2.out.step ho3 hr3)
  have HO83 := hid (HO8.out.kept (w' := w3) (fun q hq => ho3.block q (HO8.out.lt q hq).2 (by have := (HO8.out.lt q hq).1; omega) (fun e => by have := HRL.out q e.symm; have := (HO8.out.lt q hq).1; omega)))
  have hbx : w3.heap[w.heap.size]? = some (.cells #[.int .u8 K, .slice A L C, .int .i64 N] 36 (0, 0)) := by
    rw [ho3.block w.heap.size (by omega) (by omega) (fun e => by have := HRL.out _ e.symm; omega)]; exact HBX.out
  have x1 : w3.cell? ⟨w.heap.size, 1, none⟩ = some (.slice A L C) := by simp [World.cell?, hbx]
  have HB3 := hid hb3
  have HR3 := hid (show r3 = r ∨ ∀ k, r3 = some k → w2.heap.size ≤ k from hr3)
  have hz3 := ho3.size
  clear hb3 hr3 ho3 hbx
  go_wp2_with fail
  refine (join_any _ _ ys xs _ HY3.out.rd HW3.out.rd (by have := HYL.out; omega) (by have := HN.out; omega)).mono ?_
  rintro e w4 ⟨v4, rfl, ho4, hbel4⟩
  have HOo := hid (HO83.out.kept (w' := w4) (fun q hq => hbel4.block q (HO83.out.lt q hq).2))
  obtain ⟨B4, hB4e⟩ : ∃ B, B = w3.heap.size := ⟨_, rfl⟩
  rw [← hB4e] at ho4
  have HOv := hid ho4
  obtain ⟨va, vn, vc, rfl⟩ := ho4.slice3
  have HBn := hid (HB3.out.below hbel4)
  have HX4 := hid (HX3.out.beyond (hbel4.mono (by omega)))
  have hB4 : B4 ≤ w4.heap.size := by have := hbel4.size; omega
  have HRW := hid (show r3 = r ∨ ∀ k, r3 = some k → w.heap.size ≤ k by rcases HR3.out with h | h; exact .inl h; exact .inr fun k hk => by have := h k hk; omega)
  have HB8 := hid (show ∀ B, (Value.slice a8 L c8).ownBlock = some B → B < w2.heap.size ∧ B < B4 from fun B hB => ⟨(HO8.out.lt B hB).2, by have := (HO8.out.lt B hB).2; omega⟩)
  have hpB : p < B4 := by omega
  have hrB : ∀ q, r3 = some q → q < B4 := fun q hq => by have := HB3.out.rlt q hq; omega
  have HRB := hid hrB
  clear ho4 hbel4 hB4e hrB x1

  go_wp2_with fail
  go_loopw [155] (fun i wr => ∃ (k : Nat) (zs : List Int), k ≤ L ∧ i = .int .i64 k ∧ zs.length = L ∧ Hid (Owns wr (w.heap.size + 1) (.slice a8 L c8) zs) ∧ Hid (Owns wr B4 (.slice va vn vc) (ys ++ xs)) ∧ Hid (Bat wr p r3 (ys ++ xs)) ∧ Hid (OnlyO p r w wr) ∧ B4 ≤ wr.heap.size)
    (fun i _ => L - (intOf i).toNat)
  case atStart => exact ⟨0, ys, by omega, rfl, HYL.out, HOo, HOv, HBn, HX4, hB4⟩
  case round =>
    clear HOo HOv HBn HX4 hB4
    obtain ⟨k, zs, hk, rfl, hzl, HOo, HOv, HBn, HX4, hB4⟩ := hrel
    have HZL := hid hzl
    clear hzl
    by_cases hlt : k < L
    · obtain ⟨B, rfl, hB1, hB2, hcell, hfr, hset⟩ := HOo.out.step HZL.out k hlt
      have HSET := hid hset
      obtain ⟨z, hz⟩ : ∃ z, z = zs.getD k 0 := ⟨_, rfl⟩
      rw [← hz] at hcell
      have hBv : ∀ q, (Value.slice va vn vc).ownBlock = some q → q ≠ B := fun q hq => by have := (HOv.out.lt q hq).1; have := HB8.out B rfl; omega
      have HBV := hid hBv
      have hBp : p ≠ B := by omega
      have hBr := hid (fun q (hq : r3 = some q) => (by rcases HR3.out with h | h; · rw [h] at hq; have := HRL.out q hq; omega
                                                       · have := h q hq; have := HB8.out B rfl; omega : q ≠ B))
      clear hz hset hBv
      go_wp2
      go_roundw
      case rel =>
        refine ⟨k + 1, _, by omega, by go_num, by rw [List.length_set]; exact HZL.out, hid (HSET.out _), hid (HOv.out.kept fun q hq => Below.heap_setCell _ _ _ _ (HBV.out q hq)), hid (HBn.out.kept (Below.heap_setCell _ _ _ _ hBp) (fun q hq => Below.heap_setCell _ _ _ _ (hBr.out q hq))), hid (HX4.out.beyond ((Below.refl _ _).setCell (by simp; omega) _)), by simp [World.setCell]; omega⟩
      case measure => simp [intOf]; omega
    · obtain rfl : k = L := by omega
      have FIN : Hid (DoPost p r ((ys ++ xs)) w (.returned (.tuple #[.slice va vn vc, .bool true])) wr) := ⟨_, r3, rfl, HBn.out, HX4.out, HRW.out, HOv.out.stay hpB HRB.out⟩
      clear HOo HOv HBn HX4
      go_wp2
      go_ret2
      exact FIN.out

set_option maxRecDepth 100000 in
set_option maxHeartbeats 4000000 in
theorem do_take0 (p : Nat) (r : Option Nat) (wv : Value) (K : Int) (A : Option Addr) (L C : Nat) (ys : List Int) (N : Int) (w : World) (hb : Bat w p r ([] : List Int)) (hw : Stay w p r wv ([] : List Int)) (hy : Stay w p r (.slice A L C) ys) (hyl : ys.length = L) (hL : L ≤ 40) (hxl : ([] : List Int).length ≤ 10000) (hK0 : 0 ≤ K) (hK1 : K ≤ 255) (k2 : (K % 7 == 2) = false) (k3 : (K % 7 == 3) = true) :
    Calls Try.prog 31 #[.pointer (some ⟨p, 0, none⟩), wv, .agg #[.int .u8 K, .slice A L C, .int .i64 N]] w (DoPost p r [] w) := by
  obtain ⟨n, hn⟩ : ∃ n, n = ([] : List Int).length := ⟨_, rfl⟩
  obtain ⟨wa, wc, rfl⟩ : ∃ a c, wv = .slice a n c := by obtain ⟨a, c, h, _⟩ := hw.rd; exact ⟨a, c, by rw [hn]; exact h⟩
  have hplt := hb.lt
  have hrlt := hb.rlt
  have HB := hid hb
  have HW := hid hw
  have HY := hid hy
  have HYL := hid hyl
  have HN := hid hn
  have HRL := hid hrlt
  rw [← hn] at hxl
  obtain ⟨i0, hi, hz0, hz1, hz2⟩ := info_parts infoInt
  have HI := hid hi
  have HZ0 := hid hz0
  have HZ1 := hid hz1
  have HZ2 := hid hz2
  have hb1 : Below w.heap.size w ((w.alloc (.cells #[.int .u8 K, .slice A L C, .int .i64 N] 36)).alloc (.cells #[] 3)) := ((Below.refl w.heap.size w).alloc (Nat.le_refl _) _).alloc (by simp) _
  have HM := hid (show ((w.alloc (.cells #[.int .u8 K, .slice A L C, .int .i64 N] 36)).alloc (.cells #[] 3)).ownsRow (w.heap.size + 1) 3 1 (.slice (some ⟨w.heap.size + 1, 0, none⟩) 0 0) 0 [] by
    have := World.ownsRow_made (base := w.heap.size + 1) (e := 3) (size := 1) (w.alloc (.cells #[.int .u8 K, .slice A L C, .int .i64 N] 36)) #[] 0 (by simp) (by omega) rfl
    simpa using this)
  have HRD := hid (hy.below hb1).rd
  have B1 := hid (show 0 + ys.length ≤ maxLen by unfold maxLen; omega)
  have B2 := hid (show (0 + ys.length) * 8 ≤ 140737488355328 by omega)
  have B3 := hid (show w.heap.size + 1 ≤ ((w.alloc (.cells #[.int .u8 K, .slice A L C, .int .i64 N] 36)).alloc (.cells #[] 3)).heap.size by simp)
  have HB1 := hid hb1
  clear hb hw hy hyl hn hrlt hi hz0 hz1 hz2 hb1
  go_enter Try.func31, Try.ntmps31
  go_wp2_with (with_reducible refine wpList_append_reads rfl (.tmp 23) (.tmp 25) 22 rfl (w.heap.size + 1) 3 i0 (.int .i64 0) 8 Try.underlying22 HI.out HZ0.out HZ1.out HZ2.out (by decide) (.slice (some ⟨w.heap.size + 1, 0, none⟩) 0 0) 0 [] rfl HM.out ys (.slice A L C) rfl HRD.out B1.out B2.out B3.out ?_)
  intro v8 w2 hown8 hgr8 hat8
  have hbw2 : Below w.heap.size w w2 := HB1.out.grown hgr8 (by simp; omega) (fun q hq => by simp [Value.ownBlock] at hq; omega)
  have HO8 := hid (show Owns w2 (w.heap.size + 1) v8 ys by
    unfold Owns
    simpa using hown8)
  obtain ⟨a8, c8, rfl⟩ := HO8.out.reads_n HYL.out
  have HBX := hid (show w2.heap[w.heap.size]? = some (.cells #[.int .u8 K, .slice A L C, .int .i64 N] 36 (0, 0)) by
    rw [hgr8.block w.heap.size (by simp; omega) (fun e => by simp [Value.ownBlock] at e)]
    rw [Below.heap_alloc _ _ _ (by simp)]
    exact Deep.blk_alloc_new _ _)
  have y0 : w2.cell? ⟨w.heap.size, 0, none⟩ = some (.int .u8 K) := by simp [World.cell?, HBX.out]
  have y1 : w2.cell? ⟨w.heap.size, 1, none⟩ = some (.slice A L C) := by simp [World.cell?, HBX.out]
  have y2 : w2.cell? ⟨w.heap.size, 2, none⟩ = some (.int .i64 N) := by simp [World.cell?, HBX.out]
  have HX2 := hid (OnlyO.of_below (p := p) (r := r) hbw2)
  have HB2 := hid (HB.out.below hbw2)
  have HW2 := hid (HW.out.below hbw2)
  have HY2 := hid (HY.out.below hbw2)
  have hz2 := hbw2.size
  have hz2' : w.heap.size + 2 ≤ w2.heap.size := by have := hgr8.size; simp only [World.size_alloc] at this; omega
  clear hown8 hgr8 hat8 HM HRD B1 B2 B3 HB1
  have hn0 : n = 0 := HN.out
  subst hn0
  have HK1 := hid (show ((0 : Nat) : Int) = min (max (1 : Int) 0) (([] : List Int).length : Int) by decide)
  go_wp2_with fail
  refine (rtake_any _ ([] : List Int) 1 0 HK1.out _ HW2.out.rd (by have := HN.out; omega)).mono ?_
  rintro e w3 ⟨v1, v2, rfl, ho1, hrest, hrb, hbel3⟩
  have HV1 := hid ho1
  have HW3 := hid ((HW2.out.below hbel3).rest hrest hrb (by simp))
  have HB3 := hid (HB2.out.below hbel3)
  have HX3 := hid (HX2.out.trans (OnlyO.of_below (p := p) (r := r) hbel3) (.inl rfl))
  have hz3 := hbel3.size
  have hbx3 : w3.heap[w.heap.size]? = some (.cells #[.int .u8 K, .slice A L C, .int .i64 N] 36 (0, 0)) := by
    rw [hbel3.block w.heap.size (by omega)]; exact HBX.out
  have HBX3 := hid hbx3
  have x2 : w3.cell? ⟨w.heap.size, 2, none⟩ = some (.int .i64 N) := by simp [World.cell?, hbx3]
  clear ho1 hrest hrb hbel3 hbx3 y0 y1 y2
  obtain ⟨va, vc, rfl⟩ := HV1.out.reads_n (show (([] : List Int).take 0).length = 0 from rfl)
  obtain ⟨ra, rm, rc, rfl⟩ : ∃ a m c, v2 = .slice a m c := by obtain ⟨a, c, h, _⟩ := HW3.out.rd; exact ⟨a, _, c, h⟩
  go_wp2_with fail
  refine (take_nil p r _ HB3.out).mono ?_
  rintro e w4 ⟨rfl, hq4⟩
  have HB4 := hid (HB3.out.quiet hq4)
  have FIN : Hid (DoPost p r [] w (.returned (.tuple #[.slice ra rm rc, .bool true])) w4) := ⟨_, r, rfl, HB4.out, HX3.out.trans (OnlyO.quiet (r := r) hq4) (.inl rfl), .inl rfl, HW3.out.only (OnlyO.quiet hq4)⟩
  clear hq4
  go_wp2
  go_ret2
  exact FIN.out

set_option maxRecDepth 100000 in
set_option maxHeartbeats 4000000 in
theorem do_take1 (p : Nat) (r : Option Nat) (x : Int) (xt : List Int) (wv : Value) (K : Int) (A : Option Addr) (L C : Nat) (ys : List Int) (N : Int) (w : World) (hb : Bat w p r (x :: xt)) (hw : Stay w p r wv (x :: xt)) (hy : Stay w p r (.slice A L C) ys) (hyl : ys.length = L) (hL : L ≤ 40) (hxl : (x :: xt).length ≤ 10000) (hK0 : 0 ≤ K) (hK1 : K ≤ 255) (k2 : (K % 7 == 2) = false) (k3 : (K % 7 == 3) = true) :
    Calls Try.prog 31 #[.pointer (some ⟨p, 0, none⟩), wv, .agg #[.int .u8 K, .slice A L C, .int .i64 N]] w (DoPost p r xt w) := by
  obtain ⟨n, hn⟩ : ∃ n, n = (x :: xt).length := ⟨_, rfl⟩
  obtain ⟨wa, wc, rfl⟩ : ∃ a c, wv = .slice a n c := by obtain ⟨a, c, h, _⟩ := hw.rd; exact ⟨a, c, by rw [hn]; exact h⟩
  have hplt := hb.lt
  have hrlt := hb.rlt
  have HB := hid hb
  have HW := hid hw
  have HY := hid hy
  have HYL := hid hyl
  have HN := hid hn
  have HRL := hid hrlt
  rw [← hn] at hxl
  obtain ⟨i0, hi, hz0, hz1, hz2⟩ := info_parts infoInt
  have HI := hid hi
  have HZ0 := hid hz0
  have HZ1 := hid hz1
  have HZ2 := hid hz2
  have hb1 : Below w.heap.size w ((w.alloc (.cells #[.int .u8 K, .slice A L C, .int .i64 N] 36)).alloc (.cells #[] 3)) := ((Below.refl w.heap.size w).alloc (Nat.le_refl _) _).alloc (by simp) _
  have HM := hid (show ((w.alloc (.cells #[.int .u8 K, .slice A L C, .int .i64 N] 36)).alloc (.cells #[] 3)).ownsRow (w.heap.size + 1) 3 1 (.slice (some ⟨w.heap.size + 1, 0, none⟩) 0 0) 0 [] by
    have := World.ownsRow_made (base := w.heap.size + 1) (e := 3) (size := 1) (w.alloc (.cells #[.int .u8 K, .slice A L C, .int .i64 N] 36)) #[] 0 (by simp) (by omega) rfl
    simpa using this)
  have HRD := hid (hy.below hb1).rd
  have B1 := hid (show 0 + ys.length ≤ maxLen by unfold maxLen; omega)
  have B2 := hid (show (0 + ys.length) * 8 ≤ 140737488355328 by omega)
  have B3 := hid (show w.heap.size + 1 ≤ ((w.alloc (.cells #[.int .u8 K, .slice A L C, .int .i64 N] 36)).alloc (.cells #[] 3)).heap.size by simp)
  have HB1 := hid hb1
  clear hb hw hy hyl hn hrlt hi hz0 hz1 hz2 hb1
  go_enter Try.func31, Try.ntmps31
  go_wp2_with (with_reducible refine wpList_append_reads rfl (.tmp 23) (.tmp 25) 22 rfl (w.heap.size + 1) 3 i0 (.int .i64 0) 8 Try.underlying22 HI.out HZ0.out HZ1.out HZ2.out (by decide) (.slice (some ⟨w.heap.size + 1, 0, none⟩) 0 0) 0 [] rfl HM.out ys (.slice A L C) rfl HRD.out B1.out B2.out B3.out ?_)
  intro v8 w2 hown8 hgr8 hat8
  have hbw2 : Below w.heap.size w w2 := HB1.out.grown hgr8 (by simp; omega) (fun q hq => by simp [Value.ownBlock] at hq; omega)
  have HO8 := hid (show Owns w2 (w.heap.size + 1) v8 ys by
    unfold Owns
    simpa using hown8)
  obtain ⟨a8, c8, rfl⟩ := HO8.out.reads_n HYL.out
  have HBX := hid (show w2.heap[w.heap.size]? = some (.cells #[.int .u8 K, .slice A L C, .int .i64 N] 36 (0, 0)) by
    rw [hgr8.block w.heap.size (by simp; omega) (fun e => by simp [Value.ownBlock] at e)]
    rw [Below.heap_alloc _ _ _ (by simp)]
    exact Deep.blk_alloc_new _ _)
  have y0 : w2.cell? ⟨w.heap.size, 0, none⟩ = some (.int .u8 K) := by simp [World.cell?, HBX.out]
  have y1 : w2.cell? ⟨w.heap.size, 1, none⟩ = some (.slice A L C) := by simp [World.cell?, HBX.out]
  have y2 : w2.cell? ⟨w.heap.size, 2, none⟩ = some (.int .i64 N) := by simp [World.cell?, HBX.out]
  have HX2 := hid (OnlyO.of_below (p := p) (r := r) hbw2)
  have HB2 := hid (HB.out.below hbw2)
  have HW2 := hid (HW.out.below hbw2)
  have HY2 := hid (HY.out.below hbw2)
  have hz2 := hbw2.size
  have hz2' : w.heap.size + 2 ≤ w2.heap.size := by have := hgr8.size; simp only [World.size_alloc] at this; omega
  clear hown8 hgr8 hat8 HM HRD B1 B2 B3 HB1
  have hn1 : 1 ≤ n := by have := HN.out; simp at this; omega
  have HK1 := hid (show ((1 : Nat) : Int) = min (max (1 : Int) 0) ((x :: xt).length : Int) by simp; omega)
  go_wp2_with fail
  refine (rtake_any _ (x :: xt) 1 1 HK1.out _ HW2.out.rd (by have := HN.out; omega)).mono ?_
  rintro e w3 ⟨v1, v2, rfl, ho1, hrest, hrb, hbel3⟩
  have HV1 := hid ho1
  have HW3 := hid ((HW2.out.below hbel3).rest hrest hrb (by simp))
  have HB3 := hid (HB2.out.below hbel3)
  have HX3 := hid (HX2.out.trans (OnlyO.of_below (p := p) (r := r) hbel3) (.inl rfl))
  have hz3 := hbel3.size
  have hbx3 : w3.heap[w.heap.size]? = some (.cells #[.int .u8 K, .slice A L C, .int .i64 N] 36 (0, 0)) := by
    rw [hbel3.block w.heap.size (by omega)]; exact HBX.out
  have HBX3 := hid hbx3
  have x2 : w3.cell? ⟨w.heap.size, 2, none⟩ = some (.int .i64 N) := by simp [World.cell?, hbx3]
  clear ho1 hrest hrb hbel3 hbx3 y0 y1 y2
  obtain ⟨va, vc, rfl⟩ := HV1.out.reads_n (show ((x :: xt).take 1).length = 1 from rfl)
  obtain ⟨ra, rm, rc, rfl⟩ : ∃ a m c, v2 = .slice a m c := by obtain ⟨a, c, h, _⟩ := HW3.out.rd; exact ⟨a, _, c, h⟩
  have HS1 := hid (HV1.out.stay (p := p) (r := r) (by omega) (fun q hq => by have := HRL.out q hq; omega))
  go_wp2_with fail
  refine (take_cons p r x xt _ HB3.out).mono ?_
  rintro e w4 ⟨rfl, r4, hb4, ho4, hr4⟩
  obtain ⟨a1, c1, he1, _, hrd⟩ := (HS1.out.step ho4 hr4).rd
  simp only [Value.slice.injEq] at he1
  obtain ⟨g, o, h2, h3, h4⟩ := hrd (by simp)
  have hva : va = some ⟨g, o, none⟩ := by rw [he1.1, h2]
  clear he1 h2
  subst hva
  have hc1 := h4 0 (by simp)
  simp at hc1
  have FIN : Hid (DoPost p r xt w (.returned (.tuple #[.slice ra rm rc, .bool true])) w4) := ⟨_, r4, rfl, hb4, HX3.out.trans ho4 (.inl rfl), by rcases hr4 with h | h; exact .inl h; exact .inr fun k hk => by (have := h k hk; omega), HW3.out.step ho4 hr4⟩
  clear hrd h4 hb4 ho4 hr4
  go_wp2
  go_ret2
  exact FIN.out

set_option maxRecDepth 100000 in
set_option maxHeartbeats 4000000 in
theorem do_most (p : Nat) (r : Option Nat) (xs : List Int) (wv : Value) (K : Int) (A : Option Addr) (L C : Nat) (ys : List Int) (N : Int) (w : World) (hb : Bat w p r xs) (hw : Stay w p r wv xs) (hy : Stay w p r (.slice A L C) ys) (hyl : ys.length = L) (hL : L ≤ 40) (hxl : xs.length ≤ 10000) (hK0 : 0 ≤ K) (hK1 : K ≤ 255) (k2 : (K % 7 == 2) = false) (k3 : (K % 7 == 3) = false) (k4 : (K % 7 == 4) = true) (k : Nat) (hkk : (k : Int) = min (max N 0) (xs.length : Int)) :
    Calls Try.prog 31 #[.pointer (some ⟨p, 0, none⟩), wv, .agg #[.int .u8 K, .slice A L C, .int .i64 N]] w (DoPost p r (xs.drop k) w) := by
  obtain ⟨n, hn⟩ : ∃ n, n = xs.length := ⟨_, rfl⟩
  obtain ⟨wa, wc, rfl⟩ : ∃ a c, wv = .slice a n c := by obtain ⟨a, c, h, _⟩ := hw.rd; exact ⟨a, c, by rw [hn]; exact h⟩
  have hplt := hb.lt
  have hrlt := hb.rlt
  have HB := hid hb
  have HW := hid hw
  have HY := hid hy
  have HYL := hid hyl
  have HN := hid hn
  have HRL := hid hrlt
  rw [← hn] at hxl
  obtain ⟨i0, hi, hz0, hz1, hz2⟩ := info_parts infoInt
  have HI := hid hi
  have HZ0 := hid hz0
  have HZ1 := hid hz1
  have HZ2 := hid hz2
  have hb1 : Below w.heap.size w ((w.alloc (.cells #[.int .u8 K, .slice A L C, .int .i64 N] 36)).alloc (.cells #[] 3)) := ((Below.refl w.heap.size w).alloc (Nat.le_refl _) _).alloc (by simp) _
  have HM := hid (show ((w.alloc (.cells #[.int .u8 K, .slice A L C, .int .i64 N] 36)).alloc (.cells #[] 3)).ownsRow (w.heap.size + 1) 3 1 (.slice (some ⟨w.heap.size + 1, 0, none⟩) 0 0) 0 [] by
    have := World.ownsRow_made (base := w.heap.size + 1) (e := 3) (size := 1) (w.alloc (.cells #[.int .u8 K, .slice A L C, .int .i64 N] 36)) #[] 0 (by simp) (by omega) rfl
    simpa using this)
  have HRD := hid (hy.below hb1).rd
  have B1 := hid (show 0 + ys.length ≤ maxLen by unfold maxLen; omega)
  have B2 := hid (show (0 + ys.length) * 8 ≤ 140737488355328 by omega)
  have B3 := hid (show w.heap.size + 1 ≤ ((w.alloc (.cells #[.int .u8 K, .slice A L C, .int .i64 N] 36)).alloc (.cells #[] 3)).heap.size by simp)
  have HB1 := hid hb1
  clear hb hw hy hyl hn hrlt hi hz0 hz1 hz2 hb1
  go_enter Try.func31, Try.ntmps31
  go_wp2_with (with_reducible refine wpList_append_reads rfl (.tmp 23) (.tmp 25) 22 rfl (w.heap.size + 1) 3 i0 (.int .i64 0) 8 Try.underlying22 HI.out HZ0.out HZ1.out HZ2.out (by decide) (.slice (some ⟨w.heap.size + 1, 0, none⟩) 0 0) 0 [] rfl HM.out ys (.slice A L C) rfl HRD.out B1.out B2.out B3.out ?_)
  intro v8 w2 hown8 hgr8 hat8
  have hbw2 : Below w.heap.size w w2 := HB1.out.grown hgr8 (by simp; omega) (fun q hq => by simp [Value.ownBlock] at hq; omega)
  have HO8 := hid (show Owns w2 (w.heap.size + 1) v8 ys by
    unfold Owns
    simpa using hown8)
  obtain ⟨a8, c8, rfl⟩ := HO8.out.reads_n HYL.out
  have HBX := hid (show w2.heap[w.heap.size]? = some (.cells #[.int .u8 K, .slice A L C, .int .i64 N] 36 (0, 0)) by
    rw [hgr8.block w.heap.size (by simp; omega) (fun e => by simp [Value.ownBlock] at e)]
    rw [Below.heap_alloc _ _ _ (by simp)]
    exact Deep.blk_alloc_new _ _)
  have y0 : w2.cell? ⟨w.heap.size, 0, none⟩ = some (.int .u8 K) := by simp [World.cell?, HBX.out]
  have y1 : w2.cell? ⟨w.heap.size, 1, none⟩ = some (.slice A L C) := by simp [World.cell?, HBX.out]
  have y2 : w2.cell? ⟨w.heap.size, 2, none⟩ = some (.int .i64 N) := by simp [World.cell?, HBX.out]
  have HX2 := hid (OnlyO.of_below (p := p) (r := r) hbw2)
  have HB2 := hid (HB.out.below hbw2)
  have HW2 := hid (HW.out.below hbw2)
  have HY2 := hid (HY.out.below hbw2)
  have hz2 := hbw2.size
  have hz2' : w.heap.size + 2 ≤ w2.heap.size := by have := hgr8.size; simp only [World.size_alloc] at this; omega
  clear hown8 hgr8 hat8 HM HRD B1 B2 B3 HB1
  have HK1 := hid hkk
  have hkn : k ≤ n := by have := HN.out; omega
  clear hkk
  go_wp2_with fail
  refine (rtake_any _ xs N k HK1.out _ HW2.out.rd (by have := HN.out; omega)).mono ?_
  rintro e w3 ⟨v1, v2, rfl, ho1, hrest, hrb, hbel3⟩
  have HV1 := hid ho1
  have HW3 := hid ((HW2.out.below hbel3).rest hrest hrb (by simp))
  have HB3 := hid (HB2.out.below hbel3)
  have HX3 := hid (HX2.out.trans (OnlyO.of_below (p := p) (r := r) hbel3) (.inl rfl))
  have hz3 := hbel3.size
  have hbx3 : w3.heap[w.heap.size]? = some (.cells #[.int .u8 K, .slice A L C, .int .i64 N] 36 (0, 0)) := by
    rw [hbel3.block w.heap.size (by omega)]; exact HBX.out
  have HBX3 := hid hbx3
  have x2 : w3.cell? ⟨w.heap.size, 2, none⟩ = some (.int .i64 N) := by simp [World.cell?, hbx3]
  clear ho1 hrest hrb hbel3 hbx3 y0 y1 y2
  have hlt : (xs.take k).length = k := by have := HN.out; rw [List.length_take]; omega
  have HLT := hid hlt
  obtain ⟨va, vc, rfl⟩ := HV1.out.reads_n hlt
  obtain ⟨ra, rm, rc, rfl⟩ : ∃ a m c, v2 = .slice a m c := by obtain ⟨a, c, h, _⟩ := HW3.out.rd; exact ⟨a, _, c, h⟩
  have HS1 := hid (HV1.out.stay (p := p) (r := r) (by omega) (fun q hq => by have := HRL.out q hq; omega))
  clear hlt
  go_wp2_with fail
  refine (most_any p r xs N k HK1.out _ HB3.out).mono ?_
  rintro e w4 ⟨v4, r4, rfl, ho4, hb4, hx4, hr4, hne4⟩
  obtain ⟨ga, gc, rfl⟩ := ho4.reads_n HLT.out
  have HV4 := hid ho4
  have HB4 := hid hb4
  have HX4 := hid hx4
  have HR4 := hid (show r4 = r ∨ ∀ k, r4 = some k → w3.heap.size ≤ k from hr4)
  have HNE := hid hne4
  have HRD1 := hid (HS1.out.step hx4 hr4).rd
  have hz4 := hx4.size
  clear ho4 hb4 hx4 hr4 hne4 x2
  go_wp2_with fail
  refine (same_any _ _ (xs.take k) (xs.take k) true (by simp) _ HV4.out.reads HRD1.out (by have := HLT.out; omega) (by have := HLT.out; omega)).mono ?_
  rintro e w5 ⟨rfl, hq5⟩
  obtain ⟨S3, hS3⟩ : ∃ S, S = w3.heap.size := ⟨_, rfl⟩
  rw [← hS3] at HV4
  have HO5 := hid (HV4.out.kept (w' := w5) (fun q _ => by rw [hq5.heap]))
  have HB5 := hid (HB4.out.quiet hq5)
  have HX5 := hid (HX4.out.trans (OnlyO.quiet (r := r) hq5) (.inl rfl))
  have hS5 : S3 ≤ w5.heap.size := by rw [hq5.heap]; omega
  have hS3' : w2.heap.size ≤ S3 := by omega
  have HS3 := hid hS3
  clear hq5 HV4 HB4 HX4 hS3
  go_wp2_with fail
  go_loopw [100] (fun i wr => ∃ (j : Nat) (zs : List Int), j ≤ k ∧ i = .int .i64 j ∧ zs.length = k ∧ Hid (Owns wr S3 (.slice ga k gc) zs) ∧ Hid (Bat wr p r4 (xs.drop k)) ∧ Hid (OnlyO p r w3 wr) ∧ S3 ≤ wr.heap.size)
    (fun i _ => k - (intOf i).toNat)
  case atStart => exact ⟨0, _, by omega, rfl, HLT.out, HO5, HB5, HX5, hS5⟩
  case round =>
    clear HO5 HB5 HX5 hS5
    obtain ⟨j, zs, hj, rfl, hzl, HO5, HB5, HX5, hS5⟩ := hrel
    have HZL := hid hzl
    clear hzl
    by_cases hlt : j < k
    · obtain ⟨B, rfl, hB1, hB2, hcell, hfr, hset⟩ := HO5.out.step HZL.out j hlt
      have HSET := hid hset
      obtain ⟨z, hz⟩ : ∃ z, z = zs.getD j 0 := ⟨_, rfl⟩
      rw [← hz] at hcell
      have hBp : p ≠ B := by omega
      have hBr := hid (fun q (hq : r4 = some q) => (fun e => (HNE.out B rfl).2 (by rw [hq, e]) : q ≠ B))
      clear hz hset
      go_wp2
      go_roundw
      case rel =>
        refine ⟨j + 1, _, by omega, by go_num, by rw [List.length_set]; exact HZL.out, hid (HSET.out _), hid (HB5.out.kept (Below.heap_setCell _ _ _ _ hBp) (fun q hq => Below.heap_setCell _ _ _ _ (hBr.out q hq))), hid (HX5.out.beyond ((Below.refl _ _).setCell (by simp; have := HS3.out; omega) _)), by simp [World.setCell]; omega⟩
      case measure => simp [intOf]; omega
    · obtain rfl : j = k := by omega
      have FIN : Hid (DoPost p r (xs.drop j) w (.returned (.tuple #[.slice ra rm rc, .bool true])) wr) := ⟨_, r4, rfl, HB5.out, HX3.out.trans HX5.out (.inl rfl), by rcases HR4.out with h | h; exact .inl h; exact .inr fun q hq => by (have := h q hq; have := HS3.out; omega), HW3.out.step HX5.out HR4.out⟩
      clear HO5 HB5 HX5
      go_wp2
      go_ret2
      exact FIN.out

set_option maxRecDepth 100000 in
set_option maxHeartbeats 4000000 in
theorem do_half (p : Nat) (r : Option Nat) (xs : List Int) (wv : Value) (K : Int) (A : Option Addr) (L C : Nat) (ys : List Int) (N : Int) (w : World) (hb : Bat w p r xs) (hw : Stay w p r wv xs) (hy : Stay w p r (.slice A L C) ys) (hyl : ys.length = L) (hL : L ≤ 40) (hxl : xs.length ≤ 10000) (hK0 : 0 ≤ K) (hK1 : K ≤ 255) (k2 : (K % 7 == 2) = false) (k3 : (K % 7 == 3) = false) (k4 : (K % 7 == 4) = false) (k5 : (K % 7 == 5) = true) :
    Calls Try.prog 31 #[.pointer (some ⟨p, 0, none⟩), wv, .agg #[.int .u8 K, .slice A L C, .int .i64 N]] w (DoPost p r (xs.drop ((xs.length + 1) / 2)) w) := by
  obtain ⟨n, hn⟩ : ∃ n, n = xs.length := ⟨_, rfl⟩
  obtain ⟨wa, wc, rfl⟩ : ∃ a c, wv = .slice a n c := by obtain ⟨a, c, h, _⟩ := hw.rd; exact ⟨a, c, by rw [hn]; exact h⟩
  have hplt := hb.lt
  have hrlt := hb.rlt
  have HB := hid hb
  have HW := hid hw
  have HY := hid hy
  have HYL := hid hyl
  have HN := hid hn
  have HRL := hid hrlt
  rw [← hn] at hxl
  obtain ⟨i0, hi, hz0, hz1, hz2⟩ := info_parts infoInt
  have HI := hid hi
  have HZ0 := hid hz0
  have HZ1 := hid hz1
  have HZ2 := hid hz2
  have hb1 : Below w.heap.size w ((w.alloc (.cells #[.int .u8 K, .slice A L C, .int .i64 N] 36)).alloc (.cells #[] 3)) := ((Below.refl w.heap.size w).alloc (Nat.le_refl _) _).alloc (by simp) _
  have HM := hid (show ((w.alloc (.cells #[.int .u8 K, .slice A L C, .int .i64 N] 36)).alloc (.cells #[] 3)).ownsRow (w.heap.size + 1) 3 1 (.slice (some ⟨w.heap.size + 1, 0, none⟩) 0 0) 0 [] by
    have := World.ownsRow_made (base := w.heap.size + 1) (e := 3) (size := 1) (w.alloc (.cells #[.int .u8 K, .slice A L C, .int .i64 N] 36)) #[] 0 (by simp) (by omega) rfl
    simpa using this)
  have HRD := hid (hy.below hb1).rd
  have B1 := hid (show 0 + ys.length ≤ maxLen by unfold maxLen; omega)
  have B2 := hid (show (0 + ys.length) * 8 ≤ 140737488355328 by omega)
  have B3 := hid (show w.heap.size + 1 ≤ ((w.alloc (.cells #[.int .u8 K, .slice A L C, .int .i64 N] 36)).alloc (.cells #[] 3)).heap.size by simp)
  have HB1 := hid hb1
  clear hb hw hy hyl hn hrlt hi hz0 hz1 hz2 hb1
  go_enter Try.func31, Try.ntmps31
  go_wp2_with (with_reducible refine wpList_append_reads rfl (.tmp 23) (.tmp 25) 22 rfl (w.heap.size + 1) 3 i0 (.int .i64 0) 8 Try.underlying22 HI.out HZ0.out HZ1.out HZ2.out (by decide) (.slice (some ⟨w.heap.size + 1, 0, none⟩) 0 0) 0 [] rfl HM.out ys (.slice A L C) rfl HRD.out B1.out B2.out B3.out ?_)
  intro v8 w2 hown8 hgr8 hat8
  have hbw2 : Below w.heap.size w w2 := HB1.out.grown hgr8 (by simp; omega) (fun q hq => by simp [Value.ownBlock] at hq; omega)
  have HO8 := hid (show Owns w2 (w.heap.size + 1) v8 ys by
    unfold Owns
    simpa using hown8)
  obtain ⟨a8, c8, rfl⟩ := HO8.out.reads_n HYL.out
  have HBX := hid (show w2.heap[w.heap.size]? = some (.cells #[.int .u8 K, .slice A L C, .int .i64 N] 36 (0, 0)) by
    rw [hgr8.block w.heap.size (by simp; omega) (fun e => by simp [Value.ownBlock] at e)]
    rw [Below.heap_alloc _ _ _ (by simp)]
    exact Deep.blk_alloc_new _ _)
  have y0 : w2.cell? ⟨w.heap.size, 0, none⟩ = some (.int .u8 K) := by simp [World.cell?, HBX.out]
  have y1 : w2.cell? ⟨w.heap.size, 1, none⟩ = some (.slice A L C) := by simp [World.cell?, HBX.out]
  have y2 : w2.cell? ⟨w.heap.size, 2, none⟩ = some (.int .i64 N) := by simp [World.cell?, HBX.out]
  have HX2 := hid (OnlyO.of_below (p := p) (r := r) hbw2)
  have HB2 := hid (HB.out.below hbw2)
  have HW2 := hid (HW.out.below hbw2)
  have HY2 := hid (HY.out.below hbw2)
  have hz2 := hbw2.size
  have hz2' : w.heap.size + 2 ≤ w2.heap.size := by have := hgr8.size; simp only [World.size_alloc] at this; omega
  clear hown8 hgr8 hat8 HM HRD B1 B2 B3 HB1
  obtain ⟨k, hk⟩ : ∃ k : Nat, k = (xs.length + 1) / 2 := ⟨_, rfl⟩
  have HK2 := hid hk
  have HK1 := hid (show (k : Int) = min (max ((n : Int) - (n : Int) / 2) 0) (xs.length : Int) by have := HN.out; omega)
  have hkn : k ≤ n := by have := HN.out; omega
  clear hk
  go_wp2_with fail
  refine (rtake_any _ xs ((n : Int) - (n : Int) / 2) k HK1.out _ HW2.out.rd (by have := HN.out; omega)).mono ?_
  rintro e w3 ⟨v1, v2, rfl, ho1, hrest, hrb, hbel3⟩
  have HV1 := hid ho1
  have HW3 := hid ((HW2.out.below hbel3).rest hrest hrb (by simp))
  have HB3 := hid (HB2.out.below hbel3)
  have HX3 := hid (HX2.out.trans (OnlyO.of_below (p := p) (r := r) hbel3) (.inl rfl))
  have hz3 := hbel3.size
  have hbx3 : w3.heap[w.heap.size]? = some (.cells #[.int .u8 K, .slice A L C, .int .i64 N] 36 (0, 0)) := by
    rw [hbel3.block w.heap.size (by omega)]; exact HBX.out
  have HBX3 := hid hbx3
  have x2 : w3.cell? ⟨w.heap.size, 2, none⟩ = some (.int .i64 N) := by simp [World.cell?, hbx3]
  clear ho1 hrest hrb hbel3 hbx3 y0 y1 y2
  have hlt : (xs.take k).length = k := by have := HN.out; rw [List.length_take]; omega
  have HLT := hid hlt
  obtain ⟨va, vc, rfl⟩ := HV1.out.reads_n hlt
  obtain ⟨ra, rm, rc, rfl⟩ : ∃ a m c, v2 = .slice a m c := by obtain ⟨a, c, h, _⟩ := HW3.out.rd; exact ⟨a, _, c, h⟩
  have HS1 := hid (HV1.out.stay (p := p) (r := r) (by omega) (fun q hq => by have := HRL.out q hq; omega))
  clear hlt x2
  go_wp2_with fail
  refine (half_any p r xs _ HB3.out).mono ?_
  rintro e w4 ⟨p2, r2, r4, rfl, hb42, hb41, ho4, hr4, hp4, hr42, hne4⟩
  rw [← HK2.out] at hb42 hb41
  have HH4 := hid hb42
  have HB4 := hid hb41
  have HX4 := hid ho4
  have HR4 := hid (show r4 = r ∨ ∀ k, r4 = some k → w3.heap.size ≤ k from hr4)
  have HRD1 := hid (HS1.out.step ho4 hr4).rd
  have HSP : Hid (Sep p r4 p2 r2) := ⟨by have := HB3.out.lt; omega, hne4, fun e => by have := (hr42 _ e).1; have := HB3.out.lt; omega, fun j hj e => (hr42 _ e).2 hj⟩
  have hz4 := ho4.size
  have hp24 : w3.heap.size ≤ p2 := by omega
  have HR42 := hid (fun q (hq : r2 = some q) => ((hr42 q hq).1 : w3.heap.size ≤ q))
  clear hb42 hb41 ho4 hr4 hr42 hne4
  go_wp2_with fail
  refine (list_any p2 r2 _ _ HH4.out).mono ?_
  rintro e w5 ⟨v5, rfl, hv5, hbel5⟩
  have HV5 := hid hv5.reads
  have HH5 := hid (HH4.out.below hbel5)
  have HB5 := hid (HB4.out.below hbel5)
  have HX5 := hid (HX4.out.trans (OnlyO.of_below (p := p) (r := r) hbel5) (.inl rfl))
  have HRD5 := hid (HRD1.out.of_below hbel5)
  have hz5 := hbel5.size
  clear hv5 hbel5
  go_wp2_with fail
  refine (same_any _ _ (xs.take k) (xs.take k) true (by simp) _ HV5.out HRD5.out (by have := HLT.out; omega) (by have := HLT.out; omega)).mono ?_
  rintro e w6 ⟨rfl, hq6⟩
  have HH6 := hid (HH5.out.quiet hq6)
  have HB6 := hid (HB5.out.quiet hq6)
  have HX6 := hid (HX5.out.trans (OnlyO.quiet (r := r) hq6) (.inl rfl))
  have hz6 : w5.heap.size ≤ w6.heap.size := by rw [hq6.heap]; omega
  clear hq6
  go_wp2_with fail
  have hba := (Below.refl w6.heap.size w6).alloc (Nat.le_refl _) (.cells (([7, 7, 7] : List Int).map (Value.int .i64)).toArray 3)
  have HB7 := hid (HB6.out.below hba)
  have HH7 := hid (HH6.out.below hba)
  have hz7 := hba.size
  have HX7 := hid (HX6.out.trans (OnlyO.of_below (p := p) (r := r) hba) (.inl rfl))
  clear hba
  refine (put_any p2 r2 (xs.take k) [7, 7, 7] _ _ HH7.out (reads_built w6 [7, 7, 7] _ rfl (by unfold maxLen; simp)) (by have := HLT.out; rw [List.length_append]; simp only [List.length_cons, List.length_nil]; omega)).mono ?_
  rintro e w8 ⟨rfl, r8, hb8, ho8, hr8⟩
  have HH8 := hid hb8
  have HB8 := hid (HB7.out.keep HSP.out ho8)
  have HSP8 := hid (HSP.out.symm.left HB7.out hr8)
  have HR8 := hid (fresh_ge' HR42.out hr8 (by omega))
  have HX8 := hid (HX7.out.beyond (ho8.below hp24 HR42.out (by omega)))
  have hz8 := ho8.size
  have H1 := hid (show ((1 : Nat) : Int) = min (max (1 : Int) 0) ((xs.take k ++ [7, 7, 7]).length : Int) by simp; omega)
  clear hb8 ho8 hr8
  go_wp2_with fail
  refine (most_any p2 r8 (xs.take k ++ [7, 7, 7]) 1 1 H1.out _ HH8.out).mono ?_
  rintro e w9 ⟨v9, r9, rfl, hv9, hb9, ho9, hr9, hne9⟩
  obtain ⟨v9a, v9m, v9c, rfl⟩ := hv9.slice3
  have HX9 := hid (HX8.out.beyond (ho9.below hp24 HR8.out (by omega)))
  have FIN : Hid (DoPost p r (xs.drop ((xs.length + 1) / 2)) w (.returned (.tuple #[.slice ra rm rc, .bool true])) w9) := by
    rw [← HK2.out]
    exact ⟨_, r4, rfl, HB8.out.keep HSP8.out.symm ho9, HX3.out.trans HX9.out (.inl rfl), by rcases HR4.out with h | h; exact .inl h; exact .inr fun q hq => by (have := h q hq; omega), HW3.out.step HX9.out HR4.out⟩
  clear hv9 hb9 ho9 hr9 hne9
  go_wp2
  go_ret2
  exact FIN.out

set_option maxRecDepth 100000 in
set_option maxHeartbeats 4000000 in
theorem do_copy (p : Nat) (r : Option Nat) (xs : List Int) (wv : Value) (K : Int) (A : Option Addr) (L C : Nat) (ys : List Int) (N : Int) (w : World) (hb : Bat w p r xs) (hw : Stay w p r wv xs) (hy : Stay w p r (.slice A L C) ys) (hyl : ys.length = L) (hL : L ≤ 40) (hxl : xs.length ≤ 10000) (hK0 : 0 ≤ K) (hK1 : K ≤ 255) (k2 : (K % 7 == 2) = false) (k3 : (K % 7 == 3) = false) (k4 : (K % 7 == 4) = false) (k5 : (K % 7 == 5) = false) (k6 : (K % 7 == 6) = true) :
    Calls Try.prog 31 #[.pointer (some ⟨p, 0, none⟩), wv, .agg #[.int .u8 K, .slice A L C, .int .i64 N]] w (DoPost p r xs w) := by
  obtain ⟨n, hn⟩ : ∃ n, n = xs.length := ⟨_, rfl⟩
  obtain ⟨wa, wc, rfl⟩ : ∃ a c, wv = .slice a n c := by obtain ⟨a, c, h, _⟩ := hw.rd; exact ⟨a, c, by rw [hn]; exact h⟩
  have hplt := hb.lt
  have hrlt := hb.rlt
  have HB := hid hb
  have HW := hid hw
  have HY := hid hy
  have HYL := hid hyl
  have HN := hid hn
  have HRL := hid hrlt
  rw [← hn] at hxl
  obtain ⟨i0, hi, hz0, hz1, hz2⟩ := info_parts infoInt
  have HI := hid hi
  have HZ0 := hid hz0
  have HZ1 := hid hz1
  have HZ2 := hid hz2
  have hb1 : Below w.heap.size w ((w.alloc (.cells #[.int .u8 K, .slice A L C, .int .i64 N] 36)).alloc (.cells #[] 3)) := ((Below.refl w.heap.size w).alloc (Nat.le_refl _) _).alloc (by simp) _
  have HM := hid (show ((w.alloc (.cells #[.int .u8 K, .slice A L C, .int .i64 N] 36)).alloc (.cells #[] 3)).ownsRow (w.heap.size + 1) 3 1 (.slice (some ⟨w.heap.size + 1, 0, none⟩) 0 0) 0 [] by
    have := World.ownsRow_made (base := w.heap.size + 1) (e := 3) (size := 1) (w.alloc (.cells #[.int .u8 K, .slice A L C, .int .i64 N] 36)) #[] 0 (by simp) (by omega) rfl
    simpa using this)
  have HRD := hid (hy.below hb1).rd
  have B1 := hid (show 0 + ys.length ≤ maxLen by unfold maxLen; omega)
  have B2 := hid (show (0 + ys.length) * 8 ≤ 140737488355328 by omega)
  have B3 := hid (show w.heap.size + 1 ≤ ((w.alloc (.cells #[.int .u8 K, .slice A L C, .int .i64 N] 36)).alloc (.cells #[] 3)).heap.size by simp)
  have HB1 := hid hb1
  clear hb hw hy hyl hn hrlt hi hz0 hz1 hz2 hb1
  go_enter Try.func31, Try.ntmps31
  go_wp2_with (with_reducible refine wpList_append_reads rfl (.tmp 23) (.tmp 25) 22 rfl (w.heap.size + 1) 3 i0 (.int .i64 0) 8 Try.underlying22 HI.out HZ0.out HZ1.out HZ2.out (by decide) (.slice (some ⟨w.heap.size + 1, 0, none⟩) 0 0) 0 [] rfl HM.out ys (.slice A L C) rfl HRD.out B1.out B2.out B3.out ?_)
  intro v8 w2 hown8 hgr8 hat8
  have hbw2 : Below w.heap.size w w2 := HB1.out.grown hgr8 (by simp; omega) (fun q hq => by simp [Value.ownBlock] at hq; omega)
  have HO8 := hid (show Owns w2 (w.heap.size + 1) v8 ys by
    unfold Owns
    simpa using hown8)
  obtain ⟨a8, c8, rfl⟩ := HO8.out.reads_n HYL.out
  have HBX := hid (show w2.heap[w.heap.size]? = some (.cells #[.int .u8 K, .slice A L C, .int .i64 N] 36 (0, 0)) by
    rw [hgr8.block w.heap.size (by simp; omega) (fun e => by simp [Value.ownBlock] at e)]
    rw [Below.heap_alloc _ _ _ (by simp)]
    exact Deep.blk_alloc_new _ _)
  have y0 : w2.cell? ⟨w.heap.size, 0, none⟩ = some (.int .u8 K) := by simp [World.cell?, HBX.out]
  have y1 : w2.cell? ⟨w.heap.size, 1, none⟩ = some (.slice A L C) := by simp [World.cell?, HBX.out]
  have y2 : w2.cell? ⟨w.heap.size, 2, none⟩ = some (.int .i64 N) := by simp [World.cell?, HBX.out]
  have HX2 := hid (OnlyO.of_below (p := p) (r := r) hbw2)
  have HB2 := hid (HB.out.below hbw2)
  have HW2 := hid (HW.out.below hbw2)
  have HY2 := hid (HY.out.below hbw2)
  have hz2 := hbw2.size
  have hz2' : w.heap.size + 2 ≤ w2.heap.size := by have := hgr8.size; simp only [World.size_alloc] at this; omega
  clear hown8 hgr8 hat8 HM HRD B1 B2 B3 HB1
  go_wp2_with fail
  refine (bcopy_any p r xs _ HB2.out).mono ?_
  rintro e w4 ⟨q, s, rfl, hb4, hq4, hs4, hbel4⟩
  have HC4 := hid hb4
  have HSP := hid (Sep.fresh HB2.out hq4 hs4)
  have HB4 := hid (HB2.out.below hbel4)
  have HW4 := hid (HW2.out.below hbel4)
  have HX4 := hid (HX2.out.trans (OnlyO.of_below (p := p) (r := r) hbel4) (.inl rfl))
  have hz4 := hbel4.size
  have hq4' : w2.heap.size ≤ q := hq4
  have HRS := hid (fun j (hj : s = some j) => (hs4 j hj : w2.heap.size ≤ j))
  clear hb4 hs4 hbel4 y0 y1 y2 hq4
  go_wp2_with fail
  have hba := (Below.refl w4.heap.size w4).alloc (Nat.le_refl _) (.cells (([9] : List Int).map (Value.int .i64)).toArray 3)
  have HB7 := hid (HB4.out.below hba)
  have HH7 := hid (HC4.out.below hba)
  have HW7 := hid (HW4.out.below hba)
  have hz7 := hba.size
  have HX7 := hid (HX4.out.trans (OnlyO.of_below (p := p) (r := r) hba) (.inl rfl))
  clear hba
  refine (put_any q s xs [9] _ _ HH7.out (reads_built w4 [9] _ rfl (by unfold maxLen; simp)) (by have := HN.out; rw [List.length_append]; simp only [List.length_cons, List.length_nil]; omega)).mono ?_
  rintro e w8 ⟨rfl, r8, hb8, ho8, hr8⟩
  have HH8 := hid hb8
  have HB8 := hid (HB7.out.keep HSP.out ho8)
  have HSP8 := hid (HSP.out.symm.left HB7.out hr8)
  have HR8 := hid (fresh_ge' HRS.out hr8 (by omega))
  have HX8 := hid (HX7.out.beyond (ho8.below (by omega) (fun j hj => by have := HRS.out j hj; omega) (by omega)))
  have hz8 := ho8.size
  obtain ⟨m, hm⟩ : ∃ m : Nat, (m : Int) = min (max (2 : Int) 0) ((xs ++ [9]).length : Int) := ⟨(min (max (2 : Int) 0) ((xs ++ [9]).length : Int)).toNat, by omega⟩
  have H1 := hid hm
  clear hb8 ho8 hr8 hm
  go_wp2_with fail
  refine (most_any q r8 (xs ++ [9]) 2 m H1.out _ HH8.out).mono ?_
  rintro e w9 ⟨v9, r9, rfl, hv9, hb9, ho9, hr9, hne9⟩
  obtain ⟨v9a, v9m, v9c, rfl⟩ := hv9.slice3
  have hbx8 : w8.heap.size ≤ w9.heap.size := ho9.size
  have hb29 : OnlyO p r w w9 := HX8.out.beyond (ho9.below (by omega) (fun j hj => by have := HR8.out j hj; omega) (by omega))
  have FIN : Hid (DoPost p r xs w (.returned (.tuple #[.slice wa n wc, .bool true])) w9) := ⟨_, r, rfl, HB8.out.keep HSP8.out.symm ho9, hb29, .inl rfl, HW.out.only hb29⟩
  clear hv9 hb9 ho9 hr9 hne9 hb29
  go_wp2
  go_ret2
  exact FIN.out

/-- Whatever the act is. -/
def DoAny (p : Nat) (r : Option Nat) (m : Nat) (w : World) (e : Ending) (w' : World) : Prop := ∃ zs, zs.length ≤ m ∧ DoPost p r zs w e w'
theorem do_any (p : Nat) (r : Option Nat) (xs : List Int) (wv : Value) (K : Int) (A : Option Addr) (L C : Nat) (ys : List Int) (N : Int) (w : World) (hb : Bat w p r xs) (hw : Stay w p r wv xs) (hy : Stay w p r (.slice A L C) ys) (hyl : ys.length = L) (hL : L ≤ 40) (hxl : xs.length ≤ 10000) (hK0 : 0 ≤ K) (hK1 : K ≤ 255) :
    Calls Try.prog 31 #[.pointer (some ⟨p, 0, none⟩), wv, .agg #[.int .u8 K, .slice A L C, .int .i64 N]] w (DoAny p r (xs.length + L) w) := by
  have t : ∀ j : Int, (K % 7 == j) = decide (K % 7 = j) := fun j => rfl
  by_cases k2 : K % 7 = 2
  · exact (do_front p r xs wv K A L C ys N w hb hw hy hyl hL hxl hK0 hK1 (by rw [t]; exact decide_eq_true k2)).mono fun e w' h => ⟨_, by rw [List.length_append]; omega, h⟩
  by_cases k3 : K % 7 = 3
  · rcases xs with _ | ⟨x, xt⟩
    · exact (do_take0 p r wv K A L C ys N w hb hw hy hyl hL hxl hK0 hK1 (by rw [t]; exact decide_eq_false k2) (by rw [t]; exact decide_eq_true k3)).mono fun e w' h => ⟨_, by simp, h⟩
    · exact (do_take1 p r x xt wv K A L C ys N w hb hw hy hyl hL hxl hK0 hK1 (by rw [t]; exact decide_eq_false k2) (by rw [t]; exact decide_eq_true k3)).mono fun e w' h => ⟨_, by simp; omega, h⟩
  by_cases k4 : K % 7 = 4
  · obtain ⟨k, hk⟩ : ∃ k : Nat, (k : Int) = min (max N 0) (xs.length : Int) := ⟨(min (max N 0) (xs.length : Int)).toNat, by omega⟩
    exact (do_most p r xs wv K A L C ys N w hb hw hy hyl hL hxl hK0 hK1 (by rw [t]; exact decide_eq_false k2) (by rw [t]; exact decide_eq_false k3) (by rw [t]; exact decide_eq_true k4) k hk).mono fun e w' h => ⟨_, by rw [List.length_drop]; omega, h⟩
  by_cases k5 : K % 7 = 5
  · exact (do_half p r xs wv K A L C ys N w hb hw hy hyl hL hxl hK0 hK1 (by rw [t]; exact decide_eq_false k2) (by rw [t]; exact decide_eq_false k3) (by rw [t]; exact decide_eq_false k4) (by rw [t]; exact decide_eq_true k5)).mono fun e w' h => ⟨_, by rw [List.length_drop]; omega, h⟩
  by_cases k6 : K % 7 = 6
  · exact (do_copy p r xs wv K A L C ys N w hb hw hy hyl hL hxl hK0 hK1 (by rw [t]; exact decide_eq_false k2) (by rw [t]; exact decide_eq_false k3) (by rw [t]; exact decide_eq_false k4) (by rw [t]; exact decide_eq_false k5) (by rw [t]; exact decide_eq_true k6)).mono fun e w' h => ⟨_, by omega, h⟩
  · exact (do_put p r xs wv K A L C ys N w hb hw hy hyl hL hxl hK0 hK1 (by rw [t]; exact decide_eq_false k2) (by rw [t]; exact decide_eq_false k3) (by rw [t]; exact decide_eq_false k4) (by rw [t]; exact decide_eq_false k5) (by rw [t]; exact decide_eq_false k6)).mono fun e w' h => ⟨_, by rw [List.length_append]; omega, h⟩
end Go.Proofs.Ytciilbpchejpcaa
