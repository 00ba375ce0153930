/- The walk of the statement ScriptConfigs: the law answers true and turns nothing that was there. -/
import Derived.Test.YtfpkgkjmpcoppaaGreatDoorScX
import Derived.Test.YtfpkgkjmpcoppaaGreatDoorPreS
import Derived.Test.YtfpkgkjmpcoppaaGreatDoorBnd
import Derived.OpenShut
namespace Go.Proofs.YtfpkgkjmpcoppaaGreatDoor.scriptConfigs
open Go.RowKit
set_option linter.unusedVariables false
set_option linter.unusedSimpArgs false
set_option maxRecDepth 20000
theorem ends_0 (s : ByteArray) (M G : Int) (h : s.size = 3) : EndS s M G 0 := ⟨fun j hj => by omega, fun hh => by have := hh.1; simp only [goS] at this; omega⟩
set_option maxHeartbeats 16000000 in
theorem walk (a0 a1 a2 : Int) (a3 : Option Addr) (len3 cap3 : Nat) (z3 : List Int) (w : World) (w0 : (Lit.int .u8 a0).wf = true) (w1 : (Lit.int .u8 a1).wf = true) (w2 : (Lit.int .u8 a2).wf = true) (w3 : IsRow .u8 w a3 len3 cap3 z3) (R : GlRunes w) (T : PwTab w) (T0 : DbTab w) (T2 : EvNames w) (T3 : EvSteps w) (T1 : MaPlaces w) :
    Calls Tryz.prog 4 #[.int .u8 a0, .int .u8 a1, .int .u8 a2, .slice a3 len3 cap3] w fun e w' => e = .returned (.bool true) ∧ Below w.heap.size w w' := by
  have U1 := T1.lt
  have U2 := T2.lt
  have U3 := T3.lt
  have b0 := bounds_u8 w0
  have b1 := bounds_u8 w1
  have b2 := bounds_u8 w2
  have TT : Tb w := ⟨T0, T2, T3⟩
  have LV := hid (fun w2 (hb : Below w.heap.size w w2) => lives21 w2 (T1.at hb) (T2.at hb) (T3.at hb) (R.at hb) (T.at hb) (by have := hb.size; omega) (by have := hb.size; omega) (by have := hb.size; omega))
  have TA := hid (fun (y : World) (hb : Below w.heap.size w y) => TT.at hb)
  clear R T T0 T1 T2 T3 U1 U2 U3 TT
  obtain ⟨s, hI⟩ := InB.of w3
  have I := hid hI
  clear w0 w1 w2 w3 hI
  by_cases hbig : (400 : Int) < len3
  · clear b0 b1 b2
    go_enter Tryz.func4, Tryz.ntmps4
    go_wp2_with fail
    refine (LV.out w (Below.refl _ _)).mono ?_
    rintro e w2 ⟨rfl, hb⟩
    have B2 := hid hb
    clear hb
    go_wp2_with fail
    refine (LV.out w2 B2.out).mono ?_
    rintro e w3 ⟨rfl, hb3⟩
    have B3 := hid (B2.out.trans (hb3.mono B2.out.size))
    clear hb3 B2 LV
    go_wp2
    go_ret
    exact ⟨rfl, B3.out⟩
  · have hsm : len3 ≤ 400 := by omega
    have HSM := hid hsm
    have HB := hid (And.intro b0 (And.intro b1 b2))
    have rng := hid (cf_rng (s3 a0 a1 a2))
    have hPM := hid (show cfP (s3 a0 a1 a2) ≤ cfM (s3 a0 a1 a2) by have := atB_rng (s3 a0 a1 a2) 1; unfold cfM; omega)
    have CS := hid (cf_s3 a0 a1 a2 s)
    have hsz := hid I.out.size
    -- the two parses
    have SP1 := hid (fun (y : World) (E : Nat) (hE : y.heap[E]? = some (.cells #[.int .u8 a0, .int .u8 a1, .int .u8 a2] 5 (0, 0))) => (sparse y E 0 (s3 a0 a1 a2) (some ⟨E, 0, none⟩) 3 (by rw [s3_size]; omega) (by unfold maxLen; omega) (fun _ => ⟨rfl, blk_lt hE, fun j hj => by
      rw [s3_size] at hj
      have hv : (bv (s3 a0 a1 a2))[j]? = some (.int .u8 ((s3 a0 a1 a2)[j].toNat : Int)) := bv_at _ j (by rw [s3_size]; exact hj)
      rw [bv_s3 b0 b1 b2] at hv
      refine blk_cell hE ?_
      rw [Nat.zero_add]
      exact (List.getElem?_toArray).trans hv⟩) (by rw [s3_size]; omega)).mono (R' := fun e w' => ∃ a c, e = .returned (.tuple #[.agg #[.int .i64 (cfP (s3 a0 a1 a2)), .int .i64 (cfM (s3 a0 a1 a2)), .int .i64 (cfG (s3 a0 a1 a2))], .slice a 0 c]) ∧ Below y.heap.size y w') (by
        rintro e w' ⟨n, v, hn, rfl, hr, hb⟩
        obtain rfl := hn.unique (ends_0 _ _ _ (s3_size a0 a1 a2))
        obtain ⟨a, c, rfl, _⟩ := hr
        exact ⟨a, c, rfl, hb⟩))
    have SP2 := hid (fun (y : World) (v : Value) (base : Nat) (ho : y.ownsRow base 5 1 v (3 + len3) ([.int .u8 a0, .int .u8 a1, .int .u8 a2] ++ bv s)) => (show Calls Tryz.prog 24 #[v] y (fun e w' => ∃ a n c, e = .returned (.tuple #[.agg #[.int .i64 (cfP (s3 a0 a1 a2)), .int .i64 (cfM (s3 a0 a1 a2)), .int .i64 (cfG (s3 a0 a1 a2))], .slice a n c]) ∧ Below y.heap.size y w') from by
      have hs1 : (s3b a0 a1 a2 s).size = 3 + len3 := by rw [s3b_size, I.out.size]
      rw [← bv_s3b s b0 b1 b2, ← hs1] at ho
      obtain ⟨g, c, rfl, h1, h2, h3, h4⟩ := own_bytes ho (by omega)
      refine (sparse y g 0 (s3b a0 a1 a2 s) (some ⟨g, 0, none⟩) c h3 h4 (fun _ => ⟨rfl, h2, h1⟩) (by omega)).mono ?_
      rintro e w' ⟨n, v, hn, rfl, hr, hb⟩
      obtain ⟨a, c, rfl, _⟩ := hr
      obtain ⟨e1, e2, e3⟩ := CS.out
      rw [e1, e2, e3]
      exact ⟨a, _, c, rfl, hb⟩))
    obtain ⟨P, hP⟩ : ∃ P, P = cfP (s3 a0 a1 a2) := ⟨_, rfl⟩
    obtain ⟨M, hM⟩ : ∃ M, M = cfM (s3 a0 a1 a2) := ⟨_, rfl⟩
    obtain ⟨G, hG⟩ : ∃ G, G = cfG (s3 a0 a1 a2) := ⟨_, rfl⟩
    rw [← hP, ← hM, ← hG] at SP1 SP2
    have rg := rng.out
    have pm := hPM.out
    rw [← hP, ← hM] at pm
    rw [← hP, ← hM, ← hG] at rg
    have hok : OkC P M G := ⟨by omega, by omega, by omega, by omega, by omega, by omega⟩
    have NW := hid (fun y T => wnew_tb P M G hok y T)
    have p4 : P ≤ 4 := by omega
    have m7 : M ≤ 7 := by omega
    have g32 : G ≤ 32 := by omega
    have EQ := hid (equalIn_cf P M G P M G)
    clear hP hM hG rng hPM CS hsm rg pm hok b0 b1 b2
    go_enter Tryz.func4, Tryz.ntmps4
    go_wp2_with fail
    refine (LV.out w (Below.refl _ _)).mono ?_
    rintro e w2 ⟨rfl, hb⟩
    have B2 := hid hb
    clear hb LV
    go_wp2_with fail
    refine (SP1.out _ _ (heap_alloc_new w2 (.cells #[.int .u8 a0, .int .u8 a1, .int .u8 a2] 5))).mono ?_
    rintro e w4 ⟨a4, c4, rfl, hb⟩
    have B4 := hid (B2.out.trans (((bla w2 (.cells #[.int .u8 a0, .int .u8 a1, .int .u8 a2] 5)).trans (hb.mono (by simp))).mono B2.out.size))
    clear hb SP1 B2
    obtain ⟨X, hX⟩ : ∃ X, X = w4.heap.size := ⟨_, rfl⟩
    obtain ⟨w5, hw5⟩ : ∃ w5, w5 = w4.alloc (.cells #[.int .i64 P, .int .i64 M, .int .i64 G] 24) := ⟨_, rfl⟩
    have B5 := hid (show Below w.heap.size w w5 by rw [hw5]; exact B4.out.trans ((bla w4 _).mono B4.out.size))
    have X5 := hid (show w5.heap[X]? = some (.cells #[.int .i64 P, .int .i64 M, .int .i64 G] 24 (0, 0)) by rw [hw5, hX]; exact heap_alloc_new w4 _)
    go_upto_region 4 with (fail)
    rw [← hw5, ← hX]
    clear hw5 hX B4
    have BA := hid (bla w5 (.cells #[.int .u8 a0, .int .u8 a1, .int .u8 a2] 5))
    have O6 := hid (show (w5.alloc (.cells #[.int .u8 a0, .int .u8 a1, .int .u8 a2] 5)).ownsRow w5.heap.size 5 1 (.slice (some ⟨w5.heap.size, 0, none⟩) 3 3) 3 [.int .u8 a0, .int .u8 a1, .int .u8 a2] from ⟨rfl, .inr ⟨w5.heap.size, 3, _, rfl, Nat.le_refl _, heap_alloc_new w5 _, Nat.le_refl _, by unfold maxLen; omega, rfl, rfl⟩⟩)
    have I6 := hid (show Below w.heap.size w (w5.alloc (.cells #[.int .u8 a0, .int .u8 a1, .int .u8 a2] 5)) from B5.out.trans (BA.out.mono B5.out.size))
    go_wp2_with (at_builtin; refine wpList_app_in rfl _ _ rfl w5.heap.size _ 3 _ rfl O6.out I.out I6.out rfl (by omega) ?c1 ?c2 ?_)
    case c1 => have := HSM.out; omega
    case c2 => simp
    intro v' w7 hown hgrow hat
    have B7 : Below w5.heap.size w5 w7 := BA.out.grown hgrow (by simp) (fun k hk => by simp [Value.ownBlock] at hk; omega)
    have SPB := hid (SP2.out w7 v' _ hown)
    have X7 := hid ((B7.block _ (blk_lt X5.out)).trans X5.out)
    have C7 := hid (B5.out.trans (B7.mono B5.out.size))
    clear hown hgrow hat B7 SP2 O6 I6 BA X5 B5 I
    go_wp2_with fail
    refine SPB.out.mono ?_
    rintro e w8 ⟨a8, n8, c8, rfl, hb⟩
    have B8 := hid (C7.out.trans (hb.mono C7.out.size))
    have X8 := hid ((hb.block _ (blk_lt X7.out)).trans X7.out)
    clear hb SPB C7 X7
    obtain ⟨Y, hY⟩ : ∃ Y, Y = w8.heap.size := ⟨_, rfl⟩
    obtain ⟨w9, hw9⟩ : ∃ w9, w9 = w8.alloc (.cells #[.int .i64 P, .int .i64 M, .int .i64 G] 24) := ⟨_, rfl⟩
    have B9 := hid (show Below w.heap.size w w9 by rw [hw9]; exact B8.out.trans ((bla w8 _).mono B8.out.size))
    have Y9 := hid (show w9.heap[Y]? = some (.cells #[.int .i64 P, .int .i64 M, .int .i64 G] 24 (0, 0)) by rw [hw9, hY]; exact heap_alloc_new w8 _)
    have X9 := hid (show w9.heap[X]? = some (.cells #[.int .i64 P, .int .i64 M, .int .i64 G] 24 (0, 0)) by rw [hw9]; exact (Below.heap_alloc _ _ _ (blk_lt X8.out)).trans X8.out)
    go_upto_region 5 with (fail)
    rw [← hw9, ← hY]
    clear hw9 hY B8 X8
    have q0 : w9.cell? ⟨X, 0, none⟩ = some (.int .i64 P) := blk_cell X9.out rfl
    have q1 : w9.cell? ⟨X, 1, none⟩ = some (.int .i64 M) := blk_cell X9.out rfl
    have q2 : w9.cell? ⟨X, 2, none⟩ = some (.int .i64 G) := blk_cell X9.out rfl
    go_wp2_with fail
    refine (NW.out _ (TA.out _ B9.out)).mono ?_
    rintro e w10 ⟨x, rfl, hb, _⟩
    have B10 := hid (B9.out.trans (hb.mono B9.out.size))
    have X10 := hid ((hb.block _ (blk_lt X9.out)).trans X9.out)
    have Y10 := hid ((hb.block _ (blk_lt Y9.out)).trans Y9.out)
    clear hb NW TA q0 q1 q2 X9 Y9 B9
    have q0 : w10.cell? ⟨X, 0, none⟩ = some (.int .i64 P) := blk_cell X10.out rfl
    have q1 : w10.cell? ⟨X, 1, none⟩ = some (.int .i64 M) := blk_cell X10.out rfl
    have q2 : w10.cell? ⟨X, 2, none⟩ = some (.int .i64 G) := blk_cell X10.out rfl
    have r0 : w10.cell? ⟨Y, 0, none⟩ = some (.int .i64 P) := blk_cell Y10.out rfl
    have r1 : w10.cell? ⟨Y, 1, none⟩ = some (.int .i64 M) := blk_cell Y10.out rfl
    have r2 : w10.cell? ⟨Y, 2, none⟩ = some (.int .i64 G) := blk_cell Y10.out rfl
    have EQ6 := EQ.out
    simp only [decide_true] at EQ6
    clear EQ X10 Y10
    go_wp2
    go_ret
    exact ⟨rfl, B10.out⟩
end Go.Proofs.YtfpkgkjmpcoppaaGreatDoor.scriptConfigs
