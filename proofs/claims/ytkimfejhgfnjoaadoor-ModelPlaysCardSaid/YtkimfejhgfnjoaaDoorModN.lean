/- model.New, and model.Model's Add. -/
import Derived.Test.YtkimfejhgfnjoaaDoorModS
import Derived.Test.YtkimfejhgfnjoaaDoorModD
import Derived.Test.YtkimfejhgfnjoaaDoorModH
namespace Go.Proofs.YtkimfejhgfnjoaaDoor
open Go.RowKit
set_option linter.unusedVariables false
set_option linter.unusedSimpArgs false
variable {w : World} {lo hi b b1 b2 b3 : Nat} {s : Ms}

theorem mk1 (w : World) : (Instr.makeMap 52 none).run Tryd.prog w = .ok (.map (some w.heap.size)) (w.alloc (.map #[] 0)) := rfl
theorem mk2 (w : World) : (Instr.makeMap 53 none).run Tryd.prog w = .ok (.map (some w.heap.size)) (w.alloc (.map #[] 0)) := rfl
theorem mk3 (w : World) : (Instr.makeMap 54 none).run Tryd.prog w = .ok (.map (some w.heap.size)) (w.alloc (.map #[] 0)) := rfl
def NewPost (P M G : Int) (w : World) (e : Ending) (w' : World) : Prop :=
  ∃ b, e = .returned (.pointer (some ⟨b, 0, none⟩)) ∧ Mdl w' w.heap.size w'.heap.size b (newM P M G) ∧ Below w.heap.size w w'
theorem new_fin (P M G : Int) (w W : World) (hW : W = (((w.alloc (.map #[] 0)).alloc (.map #[] 0)).alloc (.map #[] 0)).alloc (.cells #[.int .i64 P, .int .i64 M, .int .i64 G, .map (some w.heap.size), .map (some (w.heap.size + 1)), .map (some (w.heap.size + 2))] 56)) :
    Mdl W w.heap.size W.heap.size (w.heap.size + 3) (newM P M G) ∧ Below w.heap.size w W := by
  have s1 : (w.alloc (.map #[] 0)).heap.size = w.heap.size + 1 := by simp
  have s2 : ((w.alloc (.map #[] 0)).alloc (.map #[] 0)).heap.size = w.heap.size + 2 := by simp
  have s3 : (((w.alloc (.map #[] 0)).alloc (.map #[] 0)).alloc (.map #[] 0)).heap.size = w.heap.size + 3 := by simp
  have s4 : W.heap.size = w.heap.size + 4 := by rw [hW]; simp
  have m1 := (((MapI.new w .i64).kept (Below.heap_alloc _ (.map #[] 0) _ (by simp))).kept (Below.heap_alloc _ (.map #[] 0) _ (by simp; omega))).kept (Below.heap_alloc _ (.cells #[.int .i64 P, .int .i64 M, .int .i64 G, .map (some w.heap.size), .map (some (w.heap.size + 1)), .map (some (w.heap.size + 2))] 56) _ (by simp; omega))
  have m2 := ((MapI.new (w.alloc (.map #[] 0)) .i64).kept (Below.heap_alloc _ (.map #[] 0) _ (by simp))).kept (Below.heap_alloc _ (.cells #[.int .i64 P, .int .i64 M, .int .i64 G, .map (some w.heap.size), .map (some (w.heap.size + 1)), .map (some (w.heap.size + 2))] 56) _ (by simp))
  have m3 := (MapI.new ((w.alloc (.map #[] 0)).alloc (.map #[] 0)) .i64).kept (Below.heap_alloc _ (.cells #[.int .i64 P, .int .i64 M, .int .i64 G, .map (some w.heap.size), .map (some (w.heap.size + 1)), .map (some (w.heap.size + 2))] 56) _ (by simp))
  have hb := heap_alloc_new (((w.alloc (.map #[] 0)).alloc (.map #[] 0)).alloc (.map #[] 0)) (.cells #[.int .i64 P, .int .i64 M, .int .i64 G, .map (some w.heap.size), .map (some (w.heap.size + 1)), .map (some (w.heap.size + 2))] 56)
  rw [← hW] at m1 m2 m3 hb
  rw [s1] at m2
  rw [s2] at m3
  rw [s3] at hb
  refine ⟨⟨w.heap.size, w.heap.size + 1, w.heap.size + 2, ⟨hb, ⟨_, _, m1, fun a => .inr ⟨rfl, rfl⟩⟩, ⟨_, m2, fun a => rfl⟩, ⟨_, _, m3, fun a => .inr ⟨rfl, rfl⟩⟩⟩, ⟨by rw [s4]; omega⟩⟩, ?_⟩
  rw [hW]
  exact (((bl_ad w _).trans ((bl_ad _ _).mono (by simp))).trans ((bl_ad _ _).mono (by simp; omega))).trans ((bl_ad _ _).mono (by simp; omega))
set_option maxHeartbeats 4000000 in
theorem mnew_any (P0 M0 G0 P M G : Int) (w : World) (x1 : max P0 0 = P) (x2 : max M0 0 = M) (x3 : max G0 0 = G) : Calls Tryd.prog 5 #[.int .i64 P0, .int .i64 M0, .int .i64 G0] w (NewPost P M G w) := by
  rcases (show (0 ≤ P0 ∧ P = P0) ∨ (P0 < 0 ∧ P = 0) by omega) with ⟨hP, rfl⟩ | ⟨hP, rfl⟩ <;> rcases (show (0 ≤ M0 ∧ M = M0) ∨ (M0 < 0 ∧ M = 0) by omega) with ⟨hM, rfl⟩ | ⟨hM, rfl⟩ <;> rcases (show (0 ≤ G0 ∧ G = G0) ∨ (G0 < 0 ∧ G = 0) by omega) with ⟨hG, rfl⟩ | ⟨hG, rfl⟩
  all_goals
    have FIN := hid (fun P M G W hW => new_fin P M G w W hW)
    have k1 := mk1 w
    have k2 := mk2 (w.alloc (.map #[] 0))
    have k3 := mk3 ((w.alloc (.map #[] 0)).alloc (.map #[] 0))
    go_enter Tryd.func5, Tryd.ntmps5
    go_wp2_with fail
    go_ret
    exact ⟨_, rfl, (FIN.out _ _ _ _ rfl).1, (FIN.out _ _ _ _ rfl).2⟩
theorem mnew (P M G : Int) (w : World) (hP : 0 ≤ P) (hM : 0 ≤ M) (hG : 0 ≤ G) : Calls Tryd.prog 5 #[.int .i64 P, .int .i64 M, .int .i64 G] w (NewPost P M G w) :=
  mnew_any P M G P M G w (by omega) (by omega) (by omega)
def AddPost (lo hi b : Nat) (s : Ms) (k g m p v : Int) (w : World) (e : Ending) (w' : World) : Prop :=
  e = .returned (.tuple #[.int .u8 (((wrongM s k g m p v).getD 0 : Nat) : Int), .bool (wrongM s k g m p v).isNone]) ∧ Mdl w' lo hi b (addM s k g m p v) ∧ OM lo hi w w'
theorem ev5 {w : World} {B : Nat} {k g m p v : Int} {t : TypeId} (h : w.heap[B]? = some (.cells #[.int .i64 k, .int .i64 g, .int .i64 m, .int .i64 p, .int .i64 v] t (0, 0))) :
    w.cell? ⟨B, 0, none⟩ = some (.int .i64 k) ∧ w.cell? ⟨B, 1, none⟩ = some (.int .i64 g) ∧ w.cell? ⟨B, 2, none⟩ = some (.int .i64 m) ∧ w.cell? ⟨B, 3, none⟩ = some (.int .i64 p) ∧ w.cell? ⟨B, 4, none⟩ = some (.int .i64 v) :=
  ⟨cell_md h rfl, cell_md h rfl, cell_md h rfl, cell_md h rfl, cell_md h rfl⟩
theorem lt_of_heap {w : World} {B : Nat} {o : Obj} (h : w.heap[B]? = some o) : B < w.heap.size := by obtain ⟨hl, _⟩ := Array.getElem?_eq_some_iff.1 h; exact hl
theorem post_bad {lo hi b : Nat} {s : Ms} {k g m p v : Int} {w w' : World} {n : Nat} (hw : wrongM s k g m p v = some n) (h : Mdl w lo hi b s) (hb : Below w.heap.size w w') :
    AddPost lo hi b s k g m p v w (.returned (.tuple #[.int .u8 (n : Int), .bool false])) w' := by
  refine ⟨by rw [hw]; rfl, ?_, OM.of_below lo hi hb⟩
  unfold addM
  rw [if_neg (by rw [hw]; simp)]
  exact h.below hb
theorem shaped_k {s : Ms} {k g m p v : Int} (h : shapedB s k g m p v = true) : 0 ≤ k ∧ k < 8 := by
  unfold shapedB evRight at h
  simp only [Bool.and_eq_true, decide_eq_true_eq] at h
  exact h.1.1
set_option maxHeartbeats 8000000 in
theorem madd (h : Mdl w lo hi b s) (hh : hi ≤ w.heap.size) (T2 : EvNames w) (T3 : EvSteps w) (k g m p v : Int) :
    Calls Tryd.prog 8 #[.pointer (some ⟨b, 0, none⟩), .agg #[.int .i64 k, .int .i64 g, .int .i64 m, .int .i64 p, .int .i64 v]] w (AddPost lo hi b s k g m p v w) := by
  obtain ⟨b1, b2, b3, hm, hp⟩ := h
  have HM := hid (show Mdl w lo hi b s from ⟨b1, b2, b3, hm, hp⟩)
  have hb := hid (bl_ad w (.cells #[.int .i64 k, .int .i64 g, .int .i64 m, .int .i64 p, .int .i64 v] 30))
  have HP := hid hp
  have HH := hid hh
  have MA := hid (hm.below hb.out)
  have E1 := hid (heap_alloc_new w (.cells #[.int .i64 k, .int .i64 g, .int .i64 m, .int .i64 p, .int .i64 v] 30))
  have TN := hid T2
  have TS := hid T3
  have SH := hid (mshaped MA.out k g m p v)
  obtain ⟨sh, hsh⟩ : ∃ x, x = shapedB s k g m p v := ⟨_, rfl⟩
  rw [← hsh] at SH
  have HSH := hid hsh
  clear hsh hm hp hh T2 T3
  go_enter Tryd.func8, Tryd.ntmps8
  go_wp2_with fail
  refine (SH.out).mono ?_
  rintro e w2 ⟨rfl, hb2⟩
  have M2 := hid (MA.out.below hb2)
  have E2 := hid ((hb2.block w.heap.size (by simp)).trans E1.out)
  have B2 := hid (hb.out.trans (hb2.mono hb.out.size))
  clear hb2 SH MA E1
  cases sh
  · have WR := hid (show wrongM s k g m p v = some 0 by unfold wrongM; rw [if_pos HSH.out.symm])
    go_wp2
    go_ret2
    exact post_bad WR.out HM.out B2.out
  obtain ⟨kn, rfl⟩ : ∃ kn : Nat, k = kn := ⟨k.toNat, by have := shaped_k HSH.out.symm; omega⟩
  have HK := hid (show kn < 8 by have := shaped_k HSH.out.symm; omega)
  have ST := hid (msteps M2.out (TN.out.at B2.out) (TS.out.at B2.out) kn HK.out g m p v)
  obtain ⟨st, hst⟩ : ∃ x, x = stepsB s kn g := ⟨_, rfl⟩
  rw [← hst] at ST
  have HST := hid hst
  clear hst
  obtain ⟨c0, c1, c2, c3, c4⟩ := ev5 E2.out
  go_wp2_with fail
  refine (ST.out).mono ?_
  rintro e w3 ⟨rfl, hb3⟩
  have M3 := hid (M2.out.below hb3)
  have E3 := hid ((hb3.block w.heap.size (lt_of_heap E2.out)).trans E2.out)
  have B3 := hid (B2.out.trans (hb3.mono B2.out.size))
  clear hb3 ST M2 E2 B2 c0 c1 c2 c3 c4
  cases st
  · have WR := hid (show wrongM s kn g m p v = some 1 by unfold wrongM; rw [if_neg (by rw [← HSH.out]; decide), if_pos HST.out.symm])
    go_wp2
    go_ret2
    exact post_bad WR.out HM.out B3.out
  obtain ⟨c0, c1, c2, c3, c4⟩ := ev5 E3.out
  have LV := hid (fun w => leaves_any (kn : Int) w)
  by_cases hk2 : kn = 2
  · subst hk2
    have TK := hid (mtaken M3.out 2 g m p v)
    obtain ⟨tk, htk⟩ : ∃ x, x = takenB s m p := ⟨_, rfl⟩
    rw [← htk] at TK
    have HTK := hid htk
    clear htk
    rw [show leavesB ((2 : Nat) : Int) = false from rfl] at LV
    go_wp2_with fail
    refine (TK.out).mono ?_
    rintro e w4 ⟨rfl, hb4⟩
    have M4 := hid (M3.out.below hb4)
    have E4 := hid ((hb4.block w.heap.size (lt_of_heap E3.out)).trans E3.out)
    have B4 := hid (B3.out.trans (hb4.mono B3.out.size))
    clear hb4 TK M3 E3 B3 c0 c1 c2 c3 c4
    cases tk
    · obtain ⟨c0, c1, c2, c3, c4⟩ := ev5 E4.out
      have DO := hid (mdo M4.out HP.out (Nat.le_trans HH.out B4.out.size) (TN.out.at B4.out) (TS.out.at B4.out) 2 HK.out g m p v (fun _ => by
        have := HTK.out
        unfold takenB at this
        cases hr : s.ru m
        · rfl
        · rw [hr] at this; simp at this) (fun hl => absurd hl (by decide)))
      have WR := hid (show wrongM s (2 : Nat) g m p v = none by
        unfold wrongM
        rw [if_neg (by rw [← HSH.out]; decide), if_neg (by rw [← HST.out]; decide), if_neg (by rw [← HTK.out]; decide), if_neg (by rw [show leavesB ((2 : Nat) : Int) = false from rfl]; simp)])
      go_wp2_with fail
      refine (LV.out _).mono ?_
      rintro e w5 ⟨rfl, rfl⟩
      go_wp2_with fail
      refine (DO.out).mono ?_
      rintro e w6 ⟨rfl, m6, o6⟩
      have M6 := hid m6
      have O6 := hid ((OM.of_below lo hi B4.out).trans o6)
      clear m6 o6
      go_wp2
      go_ret2
      refine ⟨by rw [WR.out]; rfl, ?_, O6.out⟩
      unfold addM
      rw [if_pos WR.out]
      exact ⟨_, _, _, M6.out, HP.out⟩
    · have WR := hid (show wrongM s (2 : Nat) g m p v = some 2 by
        unfold wrongM
        rw [if_neg (by rw [← HSH.out]; decide), if_neg (by rw [← HST.out]; decide), if_pos (by rw [← HTK.out]; decide)])
      go_wp2
      go_ret2
      exact post_bad WR.out HM.out B4.out
  · have t2 : ((kn : Int) == 2) = false := by simp; omega
    have HK2 := hid (show decide ((kn : Int) = 2) = false by simp; omega)
    have HKN := hid hk2
    clear hk2
    obtain ⟨lv, hlv⟩ : ∃ x, x = leavesB (kn : Int) := ⟨_, rfl⟩
    rw [← hlv] at LV
    have HLV := hid hlv
    clear hlv
    have IA := hid (mat_any M3.out kn g m p v)
    obtain ⟨ia, hia⟩ : ∃ x, x = isAtB s g m p := ⟨_, rfl⟩
    rw [← hia] at IA
    have HIA := hid hia
    clear hia
    cases lv
    · have DO := hid (mdo M3.out HP.out (Nat.le_trans HH.out B3.out.size) (TN.out.at B3.out) (TS.out.at B3.out) kn HK.out g m p v (fun e => absurd e HKN.out) (fun hl => by have := HLV.out; rw [hl] at this; cases this))
      have WR := hid (show wrongM s kn g m p v = none by
        unfold wrongM
        rw [if_neg (by rw [← HSH.out]; decide), if_neg (by rw [← HST.out]; decide), if_neg (by rw [HK2.out]; simp), if_neg (by rw [← HLV.out]; simp)])
      go_wp2_with fail
      refine (LV.out _).mono ?_
      rintro e w5 ⟨rfl, rfl⟩
      go_wp2_with fail
      refine (DO.out).mono ?_
      rintro e w6 ⟨rfl, m6, o6⟩
      have M6 := hid m6
      have O6 := hid ((OM.of_below lo hi B3.out).trans o6)
      clear m6 o6
      go_wp2
      go_ret2
      refine ⟨by rw [WR.out]; rfl, ?_, O6.out⟩
      unfold addM
      rw [if_pos WR.out]
      exact ⟨_, _, _, M6.out, HP.out⟩
    · go_wp2_with fail
      refine (LV.out _).mono ?_
      rintro e w5 ⟨rfl, rfl⟩
      go_wp2_with fail
      refine (IA.out).mono ?_
      rintro e w4 ⟨rfl, hb4⟩
      have M4 := hid (M3.out.below hb4)
      have E4 := hid ((hb4.block w.heap.size (lt_of_heap E3.out)).trans E3.out)
      have B4 := hid (B3.out.trans (hb4.mono B3.out.size))
      clear hb4 IA M3 E3 B3 c0 c1 c2 c3 c4
      cases ia
      · have WR := hid (show wrongM s kn g m p v = some 3 by
          unfold wrongM
          rw [if_neg (by rw [← HSH.out]; decide), if_neg (by rw [← HST.out]; decide), if_neg (by rw [HK2.out]; simp), if_pos (by rw [← HLV.out, ← HIA.out]; decide)])
        go_wp2
        go_ret2
        exact post_bad WR.out HM.out B4.out
      · obtain ⟨c0, c1, c2, c3, c4⟩ := ev5 E4.out
        have DO := hid (mdo M4.out HP.out (Nat.le_trans HH.out B4.out.size) (TN.out.at B4.out) (TS.out.at B4.out) kn HK.out g m p v (fun e => absurd e HKN.out) (fun _ hn => by
          have := HIA.out
          unfold isAtB at this
          rw [hn] at this; simp at this))
        have WR := hid (show wrongM s kn g m p v = none by
          unfold wrongM
          rw [if_neg (by rw [← HSH.out]; decide), if_neg (by rw [← HST.out]; decide), if_neg (by rw [HK2.out]; simp), if_neg (by rw [← HLV.out, ← HIA.out]; decide)])
        go_wp2_with fail
        refine (DO.out).mono ?_
        rintro e w6 ⟨rfl, m6, o6⟩
        have M6 := hid m6
        have O6 := hid ((OM.of_below lo hi B4.out).trans o6)
        clear m6 o6
        go_wp2
        go_ret2
        refine ⟨by rw [WR.out]; rfl, ?_, O6.out⟩
        unfold addM
        rw [if_pos WR.out]
        exact ⟨_, _, _, M6.out, HP.out⟩
end Go.Proofs.YtkimfejhgfnjoaaDoor
