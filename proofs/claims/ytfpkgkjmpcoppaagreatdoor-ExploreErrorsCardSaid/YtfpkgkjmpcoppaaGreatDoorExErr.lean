/- explore.All where nothing is played. -/
import Derived.Test.YtfpkgkjmpcoppaaGreatDoorBnd
import Derived.Test.YtfpkgkjmpcoppaaGreatDoorExp
import Derived.Test.YtfpkgkjmpcoppaaGreatDoorWoY
import Derived.Test.YtfpkgkjmpcoppaaGreatDoorPre2
import Derived.Laws.ResultCell
namespace Go.Proofs.YtfpkgkjmpcoppaaGreatDoor
open Go.RowKit
set_option linter.unusedVariables false
set_option linter.unusedSimpArgs false
set_option maxRecDepth 20000
theorem results_row_tmpo {P : Program} {fn : Func} {p u : Tmp} {ty : TypeId} (h : fn.results = #[.cell p ty, .tmp u]) (tmps : Array Value) (w : World) (g : Nat) (t : TypeId) (cs : Array Value) (fr : Nat × Nat) (d : TypeDesc)
    (hp : tmps.getD p undef = .pointer (some ⟨g, 0, none⟩)) (hg : w.heap[g]? = some (.cells cs t fr))
    (hu : P.underlying ty = some d) (hd : (match d with | .struct _ | .array _ _ => true | _ => false) = true) (hi : (P.info? ty).map (·.size) = some cs.size) (b : Value) (hb : tmps.getD u undef = b) :
    (results fn tmps).run P w = .ok (.tuple #[.agg cs, b]) w := by
  rw [results_cell_tmp h, hp, hb]
  simp [asAddr, run_loadVar_row w g t ty cs fr d hg hu hd hi, Result.andThen]
theorem ecnt_nn (m n : Int) : 0 ≤ ecnt m n := by
  unfold ecnt
  split
  · omega
  · split
    · omega
    · split
      · rename_i h1 h2 h3
        exact Int.le_of_lt (Int.pow_pos (by omega))
      · omega
/-- A plan of no steps; an outcome of nothing. -/
@[reducible] def plc (p m g n : Int) : Array Value := #[.int .i64 p, .int .i64 m, .int .i64 g, .slice none 0 0, .int .i64 n, .int .u8 0, .int .i64 0]
@[reducible] def outc : Array Value := #[.int .i64 0, .int .i64 0, .int .i64 0, .map none]
set_option maxHeartbeats 4000000 in
theorem eall_bad (p m g n c : Int) (w : World) (T : Tb w) (hm : m ≤ 9223372036854775807) (hn : n ≤ 9223372036854775807) (hb : ¬ OkC p m g ∨ ecnt m n = 0 ∨ 4096 < ecnt m n) (hc : c = if ¬ OkC p m g ∨ ecnt m n = 0 then 1 else 7) :
    Calls Tryz.prog 35 #[.agg (plc p m g n)] w fun e w' => e = .returned (.tuple #[.agg outc, .int .i64 c]) ∧ Below w.heap.size w w' := by
  have B0 := hid ((bla w (.cells (plc p m g n) 75)).trans ((bla (w.alloc (.cells (plc p m g n) 75)) (.cells outc 71)).mono (by simp)))
  have X0 := hid (alloc2_new w (.cells (plc p m g n) 75) (.cells outc 71))
  have CN := hid (fun y => ecount m n y hm hn)
  have TA := hid (fun (y : World) (hb : Below w.heap.size w y) => T.at hb)
  clear T hm hn
  by_cases ho : OkC p m g
  · have NW := hid (fun y T => wnew_tb p m g ho y T)
    have c1 : c = if ecnt m n = 0 then 1 else 7 := by
      rw [hc]
      by_cases h0 : ecnt m n = 0
      · rw [if_pos (.inr h0), if_pos h0]
      · rw [if_neg (fun h => h.elim (fun h => h ho) h0), if_neg h0]
    obtain ⟨N, hN⟩ : ∃ N, N = ecnt m n := ⟨_, rfl⟩
    rw [← hN] at CN c1 hb
    have hb : N = 0 ∨ 4096 < N := hb.resolve_left (fun h => h ho)
    clear hc ho hN
    rcases hb with rfl | hb
    · obtain rfl : c = 1 := by rw [c1]; rfl
      clear c1
      go_enter Tryz.func35, Tryz.ntmps35
      go_wp2_with fail
      refine (CN.out _).mono ?_
      rintro e y ⟨rfl, hy⟩
      subst y
      go_wp2_with fail
      refine (NW.out _ (TA.out _ B0.out)).mono ?_
      rintro e y ⟨x, rfl, hbn, _⟩
      have X2 := hid ((hbn.block _ (blk_lt X0.out)).trans X0.out)
      have BF := hid (B0.out.trans (hbn.mono B0.out.size))
      clear hbn NW CN TA X0 B0
      go_wp2_with (refine wpList_store_row rfl 71 _ _ rfl (w.heap.size + 1) outc rfl rfl 71 _ X2.out (by kernel_rfl) (by rfl) (by simp [outc, Value.oneCell']) ?_)
      refine bodyPost_ret (v := .tuple #[.agg outc, .int .i64 1]) (results_row_tmpo rfl _ _ (w.heap.size + 1) 71 outc (0, 0) _ (by rfl) (set_row_heap _ _ _ _ _ _ X2.out) Tryz.underlying71 rfl (by kernel_rfl) _ (by rfl)) rfl ⟨rfl, ?_⟩
      exact row_below BF.out (by omega) _
    · obtain rfl : c = 7 := by rw [c1, if_neg (by omega)]
      have n0 : (N == 0) = false := beq_eq_false_iff_ne.2 (by omega)
      clear c1
      go_enter Tryz.func35, Tryz.ntmps35
      go_wp2_with fail
      refine (CN.out _).mono ?_
      rintro e y ⟨rfl, hy⟩
      subst y
      go_wp2_with fail
      refine (NW.out _ (TA.out _ B0.out)).mono ?_
      rintro e y ⟨x, rfl, hbn, _⟩
      have X2 := hid ((hbn.block _ (blk_lt X0.out)).trans X0.out)
      have BF := hid (B0.out.trans (hbn.mono B0.out.size))
      clear hbn NW CN TA X0 B0
      go_wp2_with (refine wpList_store_row rfl 71 _ _ rfl (w.heap.size + 1) outc rfl rfl 71 _ X2.out (by kernel_rfl) (by rfl) (by simp [outc, Value.oneCell']) ?_)
      refine bodyPost_ret (v := .tuple #[.agg outc, .int .i64 7]) (results_row_tmpo rfl _ _ (w.heap.size + 1) 71 outc (0, 0) _ (by rfl) (set_row_heap _ _ _ _ _ _ X2.out) Tryz.underlying71 rfl (by kernel_rfl) _ (by rfl)) rfl ⟨rfl, ?_⟩
      exact row_below BF.out (by omega) _
  · have NW := hid (fun y => wnew_no p m g ho y)
    obtain rfl : c = 1 := by rw [hc, if_pos (.inl ho)]
    obtain ⟨N, hN⟩ : ∃ N, N = ecnt m n := ⟨_, rfl⟩
    rw [← hN] at CN
    clear hc ho hN hb
    go_enter Tryz.func35, Tryz.ntmps35
    go_wp2_with fail
    refine (CN.out _).mono ?_
    rintro e y ⟨rfl, hy⟩
    subst y
    go_wp2_with fail
    refine (NW.out _).mono ?_
    rintro e y ⟨rfl, hbn⟩
    have X2 := hid ((hbn.block _ (blk_lt X0.out)).trans X0.out)
    have BF := hid (B0.out.trans (hbn.mono B0.out.size))
    clear hbn NW CN TA X0 B0
    go_wp2_with (refine wpList_store_row rfl 71 _ _ rfl (w.heap.size + 1) outc rfl rfl 71 _ X2.out (by kernel_rfl) (by rfl) (by simp [outc, Value.oneCell']) ?_)
    refine bodyPost_ret (v := .tuple #[.agg outc, .int .i64 1]) (results_row_tmpo rfl _ _ (w.heap.size + 1) 71 outc (0, 0) _ (by rfl) (set_row_heap _ _ _ _ _ _ X2.out) Tryz.underlying71 rfl (by kernel_rfl) _ (by rfl)) rfl ⟨rfl, ?_⟩
    exact row_below BF.out (by omega) _
end Go.Proofs.YtfpkgkjmpcoppaaGreatDoor
