/- The walk of the statement ExploreErrors: the law answers true and turns nothing that was there. -/
import Derived.Test.YtfpkgkjmpcoppaaGreatDoorLives28
import Derived.Test.YtfpkgkjmpcoppaaGreatDoorExErr
import Derived.Test.YtfpkgkjmpcoppaaGreatDoorPre2
import Derived.OpenShut
namespace Go.Proofs.YtfpkgkjmpcoppaaGreatDoor.exploreErrors
open Go.RowKit
set_option linter.unusedVariables false
set_option linter.unusedSimpArgs false
set_option maxRecDepth 20000
set_option maxHeartbeats 8000000 in
theorem walk (a0 a1 a2 a3 : Int) (w : World) (w0 : (Lit.int .i64 a0).wf = true) (w1 : (Lit.int .i64 a1).wf = true) (w2 : (Lit.int .i64 a2).wf = true) (w3 : (Lit.int .i64 a3).wf = true) (T0 : DbTab w) (T2 : EvNames w) (T3 : EvSteps w) (T1 : MaPlaces w) :
    Calls Tryz.prog 7 #[.agg #[.int .i64 a0, .int .i64 a1, .int .i64 a2], .int .i64 a3] w fun e w' => e = .returned (.bool true) ∧ Below w.heap.size w w' := by
  have m1 := (bounds_i64 w1).2
  have m3 := (bounds_i64 w3).2
  have TT : Tb w := ⟨T0, T2, T3⟩
  have b0 := hid (bla w (.cells #[.int .i64 a0, .int .i64 a1, .int .i64 a2] 24))
  have X0 := hid (heap_alloc_new w (.cells #[.int .i64 a0, .int .i64 a1, .int .i64 a2] 24))
  have LV := hid (fun (y : World) (hb : Below w.heap.size w y) => lives28 y (T1.at hb) (T2.at hb) (T3.at hb) (T1.at hb).lt (T2.at hb).lt (T3.at hb).lt)
  have TA := hid (fun (y : World) (hb : Below w.heap.size w y) => TT.at hb)
  have CN := hid (fun y => ecount a1 a3 y (by omega) (by omega))
  have hnn := ecnt_nn a1 a3
  have AB := hid (fun (y : World) c (hb : Below w.heap.size w y) h1 h2 => eall_bad a0 a1 a2 a3 c y (TT.at hb) (by omega) (by omega) h1 h2)
  clear w0 w1 w2 w3 T0 T1 T2 T3 TT m1 m3
  by_cases hbig : (1048576 : Int) < a3
  · clear CN AB TA X0
    go_enter Tryz.func7, Tryz.ntmps7
    go_wp2_with fail
    refine (LV.out _ b0.out).mono ?_
    rintro e w2 ⟨rfl, hb⟩
    have B2 := hid (b0.out.trans (hb.mono b0.out.size))
    clear hb
    go_wp2_with fail
    refine (LV.out w2 B2.out).mono ?_
    rintro e w3 ⟨rfl, hb3⟩
    have B3 := hid (B2.out.trans (hb3.mono B2.out.size))
    clear hb3 B2 LV
    go_wp2
    go_ret
    exact ⟨rfl, B3.out⟩
  · obtain ⟨N, hN⟩ : ∃ N, N = ecnt a1 a3 := ⟨_, rfl⟩
    rw [← hN] at CN hnn AB
    clear hN
    by_cases ho : OkC a0 a1 a2
    · have NW := hid (fun y T => wnew_tb a0 a1 a2 ho y T)
      by_cases hgood : 0 < N ∧ N ≤ 4096
      · obtain ⟨g1, g2⟩ := hgood
        clear AB ho hnn
        go_enter Tryz.func7, Tryz.ntmps7
        go_wp2_with fail
        refine (LV.out _ b0.out).mono ?_
        rintro e w2 ⟨rfl, hb⟩
        have B2 := hid (b0.out.trans (hb.mono b0.out.size))
        have X2 := hid ((hb.block _ (blk_lt X0.out)).trans X0.out)
        have c0 : w2.cell? ⟨w.heap.size, 0, none⟩ = some (.int .i64 a0) := blk_cell X2.out rfl
        have c1 : w2.cell? ⟨w.heap.size, 1, none⟩ = some (.int .i64 a1) := blk_cell X2.out rfl
        have c2 : w2.cell? ⟨w.heap.size, 2, none⟩ = some (.int .i64 a2) := blk_cell X2.out rfl
        clear hb LV X0
        go_wp2_with fail
        refine (NW.out _ (TA.out _ B2.out)).mono ?_
        rintro e w3 ⟨x, rfl, hb, _⟩
        have B3 := hid (B2.out.trans (hb.mono B2.out.size))
        have c1 : w3.cell? ⟨w.heap.size, 1, none⟩ = some (.int .i64 a1) := blk_cell ((hb.block _ (blk_lt X2.out)).trans X2.out) rfl
        clear hb c0 c2 NW B2
        go_wp2_with fail
        refine (CN.out _).mono ?_
        rintro e w4 ⟨rfl, hy⟩
        subst w4
        go_wp2
        go_ret
        exact ⟨rfl, B3.out⟩
      · obtain ⟨c, hc⟩ : ∃ c : Int, c = if N = 0 then 1 else 7 := ⟨_, rfl⟩
        have AL := hid (fun (y : World) (hb : Below w.heap.size w y) => AB.out y c hb (.inr (by omega)) (by
          rw [hc]
          by_cases h0 : N = 0
          · rw [if_pos h0, if_pos (.inr h0)]
          · rw [if_neg h0, if_neg (fun h => h.elim (fun h => h ho) h0)]))
        have hn : N = 0 ∨ 4096 < N := by omega
        clear AB ho hgood hnn
        go_enter Tryz.func7, Tryz.ntmps7
        go_wp2_with fail
        refine (LV.out _ b0.out).mono ?_
        rintro e w2 ⟨rfl, hb⟩
        have B2 := hid (b0.out.trans (hb.mono b0.out.size))
        have X2 := hid ((hb.block _ (blk_lt X0.out)).trans X0.out)
        have c0 : w2.cell? ⟨w.heap.size, 0, none⟩ = some (.int .i64 a0) := blk_cell X2.out rfl
        have c1 : w2.cell? ⟨w.heap.size, 1, none⟩ = some (.int .i64 a1) := blk_cell X2.out rfl
        have c2 : w2.cell? ⟨w.heap.size, 2, none⟩ = some (.int .i64 a2) := blk_cell X2.out rfl
        clear hb LV X0
        go_wp2_with fail
        refine (NW.out _ (TA.out _ B2.out)).mono ?_
        rintro e w3 ⟨x, rfl, hb, _⟩
        have B3 := hid (B2.out.trans (hb.mono B2.out.size))
        have X3 := hid ((hb.block _ (blk_lt X2.out)).trans X2.out)
        have c0 : w3.cell? ⟨w.heap.size, 0, none⟩ = some (.int .i64 a0) := blk_cell X3.out rfl
        have c1 : w3.cell? ⟨w.heap.size, 1, none⟩ = some (.int .i64 a1) := blk_cell X3.out rfl
        have c2 : w3.cell? ⟨w.heap.size, 2, none⟩ = some (.int .i64 a2) := blk_cell X3.out rfl
        clear hb NW B2 X2
        go_wp2_with fail
        refine (CN.out _).mono ?_
        rintro e w4 ⟨rfl, hy⟩
        subst w4
        rcases hn with rfl | hn
        · obtain rfl : c = 1 := by rw [hc]; rfl
          clear hc
          go_wp2_with fail
          refine (AL.out _ B3.out).mono ?_
          rintro e w5 ⟨rfl, hb⟩
          have B5 := hid (B3.out.trans (hb.mono B3.out.size))
          clear hb AL
          go_wp2
          go_ret
          exact ⟨rfl, B5.out.alloc B5.out.size _⟩
        · obtain rfl : c = 7 := by rw [hc, if_neg (by omega)]
          have n0 : (N == 0) = false := beq_eq_false_iff_ne.2 (by omega)
          have n1 : ¬ N ≤ 4096 := by omega
          clear hc
          go_wp2_with fail
          refine (AL.out _ B3.out).mono ?_
          rintro e w5 ⟨rfl, hb⟩
          have B5 := hid (B3.out.trans (hb.mono B3.out.size))
          clear hb AL
          go_wp2
          go_ret
          exact ⟨rfl, B5.out.alloc B5.out.size _⟩
    · have NW := hid (fun y => wnew_no a0 a1 a2 ho y)
      have AL := hid (fun (y : World) (hb : Below w.heap.size w y) => AB.out y 1 hb (.inl ho) (by rw [if_pos (.inl ho)]))
      clear AB ho hnn
      go_enter Tryz.func7, Tryz.ntmps7
      go_wp2_with fail
      refine (LV.out _ b0.out).mono ?_
      rintro e w2 ⟨rfl, hb⟩
      have B2 := hid (b0.out.trans (hb.mono b0.out.size))
      have X2 := hid ((hb.block _ (blk_lt X0.out)).trans X0.out)
      have c0 : w2.cell? ⟨w.heap.size, 0, none⟩ = some (.int .i64 a0) := blk_cell X2.out rfl
      have c1 : w2.cell? ⟨w.heap.size, 1, none⟩ = some (.int .i64 a1) := blk_cell X2.out rfl
      have c2 : w2.cell? ⟨w.heap.size, 2, none⟩ = some (.int .i64 a2) := blk_cell X2.out rfl
      clear hb LV X0
      go_wp2_with fail
      refine (NW.out _).mono ?_
      rintro e w3 ⟨rfl, hb⟩
      have B3 := hid (B2.out.trans (hb.mono B2.out.size))
      have X3 := hid ((hb.block _ (blk_lt X2.out)).trans X2.out)
      have c0 : w3.cell? ⟨w.heap.size, 0, none⟩ = some (.int .i64 a0) := blk_cell X3.out rfl
      have c1 : w3.cell? ⟨w.heap.size, 1, none⟩ = some (.int .i64 a1) := blk_cell X3.out rfl
      have c2 : w3.cell? ⟨w.heap.size, 2, none⟩ = some (.int .i64 a2) := blk_cell X3.out rfl
      clear hb NW B2 X2
      go_wp2_with fail
      refine (CN.out _).mono ?_
      rintro e w4 ⟨rfl, hy⟩
      subst w4
      go_wp2_with fail
      refine (AL.out _ B3.out).mono ?_
      rintro e w5 ⟨rfl, hb⟩
      have B5 := hid (B3.out.trans (hb.mono B3.out.size))
      clear hb AL
      go_wp2
      go_ret
      exact ⟨rfl, B5.out.alloc B5.out.size _⟩
end Go.Proofs.YtfpkgkjmpcoppaaGreatDoor.exploreErrors
