/- timer.Timers.Take. -/
import Derived.Test.YtlppnkemoomllaaTimB
namespace Go.Proofs.Ytlppnkemoomllaa
set_option linter.unusedVariables false
set_option linter.unusedSimpArgs false
open Go.RowKit Tk
variable {Z : Nat → Prop} {w w' : World} {t hb mb n c : Nat} {hp : Nat → Nat} {v : Nat → Value} {es : Nat → List En} {inn : Int → Bool} {k ad : Nat}

theorem Tq.other (h : Tq Z w t hb mb n c hp v es inn k ad) {b : Nat} (o : Only b b w w') (h1 : b ≠ t ∧ b ≠ hb ∧ b ≠ mb) (h2 : ∀ i, i < n → b ≠ hp i) (h3 : ∀ i, i < n → (v i).ownBlock ≠ some b) : Tq Z w' t hb mb n c hp v es inn k ad := by
  obtain ⟨lt, lh, lm⟩ := h.lt
  exact h.kept (o.block _ lt h1.1.symm h1.1.symm) (o.block _ lh h1.2.1.symm h1.2.1.symm) (o.block _ lm h1.2.2.symm h1.2.2.symm) o.size
    (fun i hi => o.block _ (h.he i hi).lt (h2 i hi).symm (h2 i hi).symm)
    (fun i hi q hq => by
      have hqb : q ≠ b := fun e => h3 i hi (e ▸ hq)
      exact o.block _ (own_lt0 (h.he i hi) hq) hqb hqb)
theorem Tq.delO (h : Tq Z w t hb mb n c hp v es inn k ad) (a : Int) (ha : inn a = true) (ty : TypeId) :
    ∃ w', (Builtin.delete_ #[57, 3] ty #[.map (some mb), .int .i64 a]).run Try.prog w = .ok (.tuple #[]) w' ∧ Tq Z w' t hb mb n c hp v es (updI inn a false) (k - 1) ad ∧ FrZ Z w w' ∧ Only mb mb w w' := by
  obtain ⟨g, h1, h2⟩ := h.mp
  obtain ⟨w', r, m, o⟩ := h1.del undT undTI ty a
  have hg : g a ≠ none := by rcases h2 a with ⟨e, _⟩ | ⟨_, e⟩; · rw [e]; simp
                             · rw [ha] at e; cases e
  rw [if_neg hg] at m
  obtain ⟨h3, h4⟩ := h.onlyM o (inn' := updI inn a false) ⟨_, m, fun x => by
    simp only [updG, updI]
    by_cases hx : x = a
    · simp [hx]
    · simp only [if_neg hx]; exact h2 x⟩
  exact ⟨w', r, h3, h4, o⟩
set_option maxHeartbeats 8000000 in
theorem ttake_none (h : Tq Z w t hb mb n c hp v es inn k ad) (now : Int) (hs : ∀ x l, sortE (allE n es) = x :: l → now < x.1) : Calls Try.prog 8 #[.pointer (some ⟨t, 0, none⟩), .int .i64 now] w (NonePost w) := by
  have B1 := bl_al w (.cells #[.int .i64 0, .int .u64 0, .int .i64 0] 37)
  have DU : Hid (Calls Try.prog 17 #[.pointer (some ⟨t, 0, none⟩), .int .i64 now] (w.alloc (.cells #[.int .i64 0, .int .u64 0, .int .i64 0] 37)) fun e w' => e = .returned (.bool false) ∧ Below (w.alloc (.cells #[.int .i64 0, .int .u64 0, .int .i64 0] 37)).heap.size (w.alloc (.cells #[.int .i64 0, .int .u64 0, .int .i64 0] 37)) w') := by
    rcases hl : sortE (allE n es) with _ | ⟨⟨x1, x2, x3⟩, l⟩
    · exact hid (tdue_none (h.below B1) hl now)
    · exact hid (tdue_some (h.below B1) hl now false (decide_eq_false (by have := hs _ _ hl; simp only at this; omega)))
  have N1 := hid (Deep.blk_alloc_new w (.cells #[.int .i64 0, .int .u64 0, .int .i64 0] 37))
  have HB := hid B1
  clear h B1 hs
  go_enter Try.func8, Try.ntmps8
  go_wp2_with fail
  refine (DU.out).mono ?_
  rintro e w2 ⟨rfl, hb2⟩
  have n2 := (hb2.block w.heap.size (by simp)).trans N1.out
  have b0 : w2.cell? ⟨w.heap.size, 0, none⟩ = some (.int .i64 0) := cell_ent n2 rfl
  have b1 : w2.cell? ⟨w.heap.size, 1, none⟩ = some (.int .u64 0) := cell_ent n2 rfl
  have b2 : w2.cell? ⟨w.heap.size, 2, none⟩ = some (.int .i64 0) := cell_ent n2 rfl
  have g0 : w2.frozen? ⟨w.heap.size, 0, none⟩ = false := by simp [World.frozen?, n2]
  have g1 : w2.frozen? ⟨w.heap.size, 1, none⟩ = false := by simp [World.frozen?, n2]
  have g2 : w2.frozen? ⟨w.heap.size, 2, none⟩ = false := by simp [World.frozen?, n2]
  have HB3 := hid (HB.out.trans (hb2.mono (by simp)))
  obtain ⟨r0, r1, r2⟩ := res3 _ w.heap.size n2 0 0 0
  have R0 := hid r0
  have R1 := hid r1
  have R2 := hid r2
  clear r0 r1 r2 hb2 n2 DU N1 HB
  go_wp2
  have r0 := R0.out
  have r1 := R1.out
  have r2 := R2.out
  refine bodyPost_ret (v := .tuple #[.agg #[.int .i64 0, .int .u64 0, .int .i64 0], .bool false]) (by simp [results, Try.results8, go_sem, r0, r1, r2]) rfl ⟨rfl, ?_⟩
  exact ((HB3.out.setCell (by simp) _).setCell (by simp) _).setCell (by simp) _
/-- One is taken. -/
def TkPost (Z : Nat → Prop) (w : World) (t hb mb n c : Nat) (hp : Nat → Nat) (v : Nat → Value) (es : Nat → List En) (inn : Int → Bool) (k ad : Nat) (x1 x2 x3 : Int) (w' : World) : Prop :=
  FrZ Z w w' ∧ ∃ m v' T, m < n ∧ (es m).Perm ((x1, x2, x3) :: T) ∧ Tq Z w' t hb mb n c hp (updN v m v') (updN es m T) (updI inn x3 false) (k - 1) ad
set_option maxRecDepth 100000 in
set_option maxHeartbeats 8000000 in
theorem ttake_some (h : Tq Z w t hb mb n c hp v es inn k ad) (hz : ∀ q, Z q → q < w.heap.size) {x1 x2 x3 : Int} {l : List En} (hs : sortE (allE n es) = (x1, x2, x3) :: l) (now : Int) (hnow : x1 ≤ now) (hin : inn x3 = true) :
    Calls Try.prog 8 #[.pointer (some ⟨t, 0, none⟩), .int .i64 now] w fun e w' => e = .returned (.tuple #[.agg #[.int .i64 x1, .int .u64 x2, .int .i64 x3], .bool true]) ∧ TkPost Z w t hb mb n c hp v es inn k ad x1 x2 x3 w' := by
  have B1 := bl_al w (.cells #[.int .i64 0, .int .u64 0, .int .i64 0] 37)
  have DU := hid (tdue_some (h.below B1) hs now true (decide_eq_true hnow))
  have N1 := hid (Deep.blk_alloc_new w (.cells #[.int .i64 0, .int .u64 0, .int .i64 0] 37))
  have HB := hid B1
  have TQ := hid h
  have HS := hid hs
  have HZ := hid hz
  have HI := hid hin
  clear h B1 hs hz hin hnow
  go_enter Try.func8, Try.ntmps8
  go_wp2_with fail
  refine (DU.out).mono ?_
  rintro e w2 ⟨rfl, hb2⟩
  have N2 := hid ((hb2.block w.heap.size (by simp)).trans N1.out)
  have HB2 := hid (HB.out.trans (hb2.mono (by simp)))
  have F := hid (tfirst (TQ.out.below HB2.out))
  clear hb2 DU N1 HB
  go_wp2_with fail
  refine (F.out).mono ?_
  rintro e w3 (⟨rfl, h2, h3⟩ | ⟨m, y1, y2, y3, h2, rfl, h3⟩)
  · exact (none_of HS.out h2).elim
  have ey := fsp_of HS.out h2 TQ.out.ord
  injection ey with e1 e2
  injection e2 with e2 e3
  subst e1 e2 e3
  obtain ⟨hm1, hm2, hm3, _⟩ := h2
  have hlt2 : w.heap.size < w2.heap.size := by obtain ⟨hl, _⟩ := Array.getElem?_eq_some_iff.1 N2.out; exact hl
  have N3 := hid ((h3.block w.heap.size hlt2).trans N2.out)
  have HB3 := hid (HB2.out.trans (h3.mono HB2.out.size))
  have s3 := Nat.lt_of_lt_of_le hlt2 h3.size
  have N4 := hid ((Below.heap_alloc w3 (.cells #[.int .i64 y1, .int .u64 y2, .int .i64 y3] 37) w.heap.size s3).trans N3.out)
  have M4 := hid (Deep.blk_alloc_new w3 (.cells #[.int .i64 y1, .int .u64 y2, .int .i64 y3] 37))
  have HB4 := hid (HB3.out.trans ((bl_al w3 (.cells #[.int .i64 y1, .int .u64 y2, .int .i64 y3] 37)).mono (by omega)))
  have TQ4 := hid (TQ.out.below HB4.out)
  obtain ⟨mm, hmm⟩ : ∃ mm, (es m).length = mm + 1 := ⟨(es m).length - 1, by omega⟩
  have HE := hid (TQ.out.he m hm1)
  obtain ⟨g, c2, hv, hs4⟩ := (TQ4.out.he m hm1).hs hm2
  rw [hmm] at hs4 hv
  have lg : g < w.heap.size := own_lt0 HE.out (by rw [hv]; rfl)
  have la := HE.out.lt
  have TK := hid (take_some _ 0 (hp m) g mm c2 (es m) hs4 y1 y2 y3 hm3)
  have HV := hid hv
  have HM := hid hmm
  have HX := hid hm3
  have HM1 := hid hm1
  obtain ⟨a, ha⟩ : ∃ a, a = hp m := ⟨_, rfl⟩
  have HA := hid ha
  rw [← ha] at la TK
  rw [← ha]
  clear h3 F N2 N3 HB2 HB3 hm1 hm2 hm3 hv hs4 hmm ha HE hlt2
  go_wp2_with fail
  refine (TK.out).mono ?_
  rintro e w5 ⟨rfl, h5⟩
  have H5 := hid h5
  have n5 := h5.ho.blk N4.out (by omega) (by omega)
  have m5 := h5.ho.blk M4.out (by omega) (by omega)
  have TQ5 := hid (TQ4.out.up HM1.out (v' := .slice (some ⟨g, 0, none⟩) mm c2) (T := sinkF (mm + 1) ((sw (es m) 0 mm).take mm) mm 0) (by rw [← HA.out]; exact h5.hp) (take_ord (TQ.out.ord m HM1.out) HM.out)
    (by rw [← HA.out]; exact OnlyQ.of_h h5.ho (by rw [HV.out]; rfl)) (fun q hq => .inl (by rw [HV.out]; exact hq)) (fun q hq => Nat.lt_of_lt_of_le (HZ.out q hq) HB4.out.size))
  have FR5 := hid ((FrZ.of_below HB4.out).trans (.of_q TQ4.out HM1.out (by rw [← HA.out]; exact OnlyQ.of_h h5.ho (by rw [HV.out]; rfl)) ⟨h5.ho.os, h5.ho.tape, h5.ho.output⟩))
  have TQ6 := hid (TQ5.out.below (bl_drw _ _))
  have FR6 := hid (FR5.out.trans (FrZ.of_below (bl_drw _ _)))
  have NN := hid n5
  have MM := hid m5
  have PE := hid (show (es m).Perm ((y1, y2, y3) :: sinkF (mm + 1) ((sw (es m) 0 mm).take mm) mm 0) by rw [← HX.out]; exact take_perm HM.out)
  obtain ⟨w6, s6, t6, f6, o6⟩ := TQ6.out.delO y3 HI.out 0
  have c1 : w5.drew.cell? ⟨t, 1, none⟩ = some (.map (some mb)) := cell_ent TQ6.out.box rfl
  have c1' : w5.cell? ⟨t, 1, none⟩ = some (.map (some mb)) := cell_ent TQ6.out.box rfl
  have k2 : w5.drew.cell? ⟨w3.heap.size, 2, none⟩ = some (.int .i64 y3) := cell_ent m5 rfl
  have k2' : w5.cell? ⟨w3.heap.size, 2, none⟩ = some (.int .i64 y3) := cell_ent m5 rfl
  have ltm := TQ.out.lt.2.2
  have n6 := hid (only_blk o6 (show w5.drew.heap[w.heap.size]? = _ from n5) (by omega))
  have m6 := hid (only_blk o6 (show w5.drew.heap[w3.heap.size]? = _ from m5) (by omega))
  have XT6 := hid t6
  have XF6 := hid (FR6.out.trans f6)
  clear h5 TQ4 TQ5 FR5 HB4 N4 M4 TK H5 n5 m5 t6 f6 TQ6 FR6 o6 ltm
  go_wp2_with fail
  go_region
  all_goals
    have N6 := n6.out
    have M6 := m6.out
    have a0 : w6.cell? ⟨w3.heap.size, 0, none⟩ = some (.int .i64 y1) := cell_ent M6 rfl
    have a1 : w6.cell? ⟨w3.heap.size, 1, none⟩ = some (.int .u64 y2) := cell_ent M6 rfl
    have a2 : w6.cell? ⟨w3.heap.size, 2, none⟩ = some (.int .i64 y3) := cell_ent M6 rfl
    have b0 : w6.cell? ⟨w.heap.size, 0, none⟩ = some (.int .i64 0) := cell_ent N6 rfl
    have b1 : w6.cell? ⟨w.heap.size, 1, none⟩ = some (.int .u64 0) := cell_ent N6 rfl
    have b2 : w6.cell? ⟨w.heap.size, 2, none⟩ = some (.int .i64 0) := cell_ent N6 rfl
    have g0 : w6.frozen? ⟨w.heap.size, 0, none⟩ = false := by simp [World.frozen?, N6]
    have g1 : w6.frozen? ⟨w.heap.size, 1, none⟩ = false := by simp [World.frozen?, N6]
    have g2 : w6.frozen? ⟨w.heap.size, 2, none⟩ = false := by simp [World.frozen?, N6]
    obtain ⟨r0, r1, r2⟩ := res3 w6 w.heap.size N6 y1 y2 y3
    have R0 := hid r0
    have R1 := hid r1
    have R2 := hid r2
    have O7 := (set3 N6 (.int .i64 y1) (.int .u64 y2) (.int .i64 y3)).out.1
    have FIN := hid (show TkPost Z w t hb mb n c hp v es inn k ad y1 y2 y3 (((w6.setCell ⟨w.heap.size, 0, none⟩ (.int .i64 y1)).setCell ⟨w.heap.size, 1, none⟩ (.int .u64 y2)).setCell ⟨w.heap.size, 2, none⟩ (.int .i64 y3)) from
      ⟨⟨O7.os.trans XF6.out.os, O7.tape.trans XF6.out.tape, O7.output.trans XF6.out.output, Nat.le_trans XF6.out.size O7.size, fun x hx hzx => (O7.block x (Nat.lt_of_lt_of_le hx XF6.out.size) (by omega) (by omega)).trans (XF6.out.block x hx hzx)⟩, m, _, _, HM1.out, PE.out,
       XT6.out.other O7 (by obtain ⟨q1, q2, q3⟩ := TQ.out.lt; omega) (fun i hi => by have := (TQ.out.he i hi).lt; omega)
        (fun i hi e => by
          by_cases him : i = m
          · subst him; rw [updN_same] at e; simp only [Value.ownBlock, Option.some.injEq] at e; omega
          · rw [updN_ne _ _ him] at e; have := own_lt0 (TQ.out.he i hi) e; omega)⟩)
    clear r0 r1 r2 N6 M6 O7 n6 m6 XT6 XF6 s6 c1 c1' k2 k2'
    go_wp2
    have r0 := R0.out
    have r1 := R1.out
    have r2 := R2.out
    exact bodyPost_ret (v := .tuple #[.agg #[.int .i64 y1, .int .u64 y2, .int .i64 y3], .bool true]) (by simp [results, Try.results8, go_sem, r0, r1, r2]) rfl ⟨rfl, FIN.out⟩
end Go.Proofs.Ytlppnkemoomllaa
