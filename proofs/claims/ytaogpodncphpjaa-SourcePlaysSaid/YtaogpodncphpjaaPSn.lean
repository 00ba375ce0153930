/- The source: New of any number, Copy. -/
import Derived.Test.YtaogpodncphpjaaPS
import Derived.Deep.RegionHeld3
namespace Go.Proofs.Ytaogpodncphpjaa
set_option linter.unusedVariables false
set_option linter.unusedSimpArgs false
open Go.RowKit
set_option maxHeartbeats 8000000 in
theorem snew_c (m : Int) (n : Nat) (hN : clampT m = (n : Int)) (w : World) : Calls Try.prog 5 #[.int .i64 m] w (SnPost n w) := by
  have A := hid (te_new_c m n hN w)
  have hv : (m < 1 → (n : Int) = 1) ∧ (64 < m → (n : Int) = 64) ∧ (1 ≤ m → m ≤ 64 → (n : Int) = m) := by unfold clampT at hN; split at hN <;> (try split at hN) <;> omega
  have HV := hid hv
  clear hN hv
  go_enter Try.func5, Try.ntmps5
  go_wp2_with fail
  refine (A.out).mono ?_
  rintro e w2 ⟨rfl, ht, hb2⟩
  have HT := hid ht
  have HB2 := hid hb2
  obtain ⟨t, htt⟩ : ∃ t, t = w.heap.size + 1 := ⟨_, rfl⟩
  rw [← htt] at HT
  rw [← htt]
  clear ht hb2 A htt
  go_wp2_with fail
  refine (pnewZ _).mono ?_
  rintro e w3 ⟨Y, p, b1, b2, b3, rfl, q3, bl3, hz, _⟩
  have FIN := hid (snew_fin HT.out HB2.out q3 bl3 hz)
  have FX := hid (fun (v : Int) (hv : v = (n : Int)) => (show Sq (fun q => q < w.heap.size) (w3.alloc (.cells #[.int .i64 0, .pointer (some ⟨t, 0, none⟩), .pointer (some ⟨p, 0, none⟩), .int .i64 v, .int .i64 0] 68)) w3.heap.size t p b1 b2 b3 n 0 (fun _ => []) [] 0 [] [] ∧
    Below w.heap.size w (w3.alloc (.cells #[.int .i64 0, .pointer (some ⟨t, 0, none⟩), .pointer (some ⟨p, 0, none⟩), .int .i64 v, .int .i64 0] 68)) from by rw [hv]; exact FIN.out))
  clear q3 bl3 hz HT HB2 FIN
  go_wp2
  all_goals
    go_ret
    exact ⟨_, _, t, p, b1, b2, b3, rfl, (FX.out _ (by have := HV.out; omega)).1, (FX.out _ (by have := HV.out; omega)).2, fun q h => h, fun q h => h⟩
section
variable {Z : Nat → Prop} {w w' : World} {s t p b1 b2 b3 n : Nat} {now : Int} {o : Nat} {es : Nat → List En} {L : List En} {W : List (Int × Int)} {R : List Int}
/-- What Copy leaves, put together. -/
theorem scopy_fin {w2 w3 : World} {t' p' c1 c2 c3 : Nat} (h : Sq Z w s t p b1 b2 b3 n now es L o W R) (w1 : World) (hw1 : w1 = (w.alloc (.cells #[.int .i64 now, .pointer (some ⟨t, 0, none⟩), .pointer (some ⟨p, 0, none⟩), .int .i64 n, .int .i64 W.length] 68)).drew)
    (ht : Te (fun q => q < w1.heap.size) w2 t' n es L o) (hb2 : Below w1.heap.size w1 w2) (hq : Pq (fun q => q < w2.heap.size) w3 p' c1 c2 c3 W R) (hb3 : Below w2.heap.size w2 w3) :
    Sq (fun q => q < w.heap.size) ((w3.setCell ⟨w.heap.size, 1, none⟩ (.pointer (some ⟨t', 0, none⟩))).setCell ⟨w.heap.size, 2, none⟩ (.pointer (some ⟨p', 0, none⟩))) w.heap.size t' p' c1 c2 c3 n now es L o W R ∧
    Below w.heap.size w ((w3.setCell ⟨w.heap.size, 1, none⟩ (.pointer (some ⟨t', 0, none⟩))).setCell ⟨w.heap.size, 2, none⟩ (.pointer (some ⟨p', 0, none⟩))) := by
  have hs1 : w1.heap.size = w.heap.size + 1 := by rw [hw1]; show (w.alloc _).heap.size = _; simp
  have hb1 : Below w.heap.size w w1 := by rw [hw1]; exact (bl_al w _).trans (bl_drw _ _)
  have x1 : w1.heap[w.heap.size]? = some (.cells #[.int .i64 now, .pointer (some ⟨t, 0, none⟩), .pointer (some ⟨p, 0, none⟩), .int .i64 n, .int .i64 W.length] 68 (0, 0)) := by rw [hw1]; exact heap_alloc_new w _
  have s2 := hb2.size
  have s3 := hb3.size
  have x3 := (hb3.block _ (by omega)).trans ((hb2.block _ (by omega)).trans x1)
  have x4 := blk_set (i := 1) (.pointer (some ⟨t', 0, none⟩)) x3 (show (#[.int .i64 now, .pointer (some ⟨t, 0, none⟩), .pointer (some ⟨p, 0, none⟩), .int .i64 n, .int .i64 W.length] : Array Value).setIfInBounds 1 (.pointer (some ⟨t', 0, none⟩)) = #[.int .i64 now, .pointer (some ⟨t', 0, none⟩), .pointer (some ⟨p, 0, none⟩), .int .i64 n, .int .i64 W.length] from rfl)
  have x5 := blk_set (i := 2) (.pointer (some ⟨p', 0, none⟩)) x4 (show (#[.int .i64 now, .pointer (some ⟨t', 0, none⟩), .pointer (some ⟨p, 0, none⟩), .int .i64 n, .int .i64 W.length] : Array Value).setIfInBounds 2 (.pointer (some ⟨p', 0, none⟩)) = #[.int .i64 now, .pointer (some ⟨t', 0, none⟩), .pointer (some ⟨p', 0, none⟩), .int .i64 n, .int .i64 W.length] from rfl)
  obtain ⟨z1, z2, z3, z4⟩ := hq.zf
  have oo : Only w.heap.size w.heap.size w3 ((w3.setCell ⟨w.heap.size, 1, none⟩ (.pointer (some ⟨t', 0, none⟩))).setCell ⟨w.heap.size, 2, none⟩ (.pointer (some ⟨p', 0, none⟩))) :=
    Only.trans (⟨rfl, rfl, rfl, by simp [World.setCell], fun k _ h1 _ => Below.heap_setCell _ _ _ _ h1⟩ : Only w.heap.size w.heap.size w3 (w3.setCell ⟨w.heap.size, 1, none⟩ (.pointer (some ⟨t', 0, none⟩)))) ⟨rfl, rfl, rfl, by simp [World.setCell], fun k _ h1 _ => Below.heap_setCell _ _ _ _ h1⟩
  have te : Te (Zt (fun q => q < w.heap.size) w.heap.size p' c1 c2 c3) w2 t' n es L o := by
    have r := (((ht.reZ (b := p') (by omega)).reZ (b := c1) (by omega)).reZ (b := c2) (by omega)).reZ (b := c3) (by omega)
    refine r.weak fun q hq => ?_
    rcases hq with hq | hq | hq | hq | hq | hq
    · exact .inl (.inl (.inl (.inl (by omega))))
    · exact .inl (.inl (.inl (.inl (by omega))))
    · exact .inl (.inl (.inl (.inr hq)))
    · exact .inl (.inl (.inr hq))
    · exact .inl (.inr hq)
    · exact .inr hq
  refine ⟨⟨x5, (te.below hb3).only oo (.inr (.inl rfl)), (Pq.max hq).only oo ⟨by omega, by omega, by omega, by omega⟩, h.now, h.whn, h.dis, ⟨by omega, by omega, by omega, by omega, by omega⟩, ⟨by omega, by omega, by omega, by omega⟩, fun q hq => by have := oo.size; omega⟩, ?_⟩
  exact ((hb1.trans (hb2.mono hb1.size)).trans (hb3.mono (by omega))).trans (oo.below (Nat.le_refl _) (Nat.le_refl _) (by omega))
set_option maxRecDepth 100000 in
set_option maxHeartbeats 8000000 in
theorem scopy (h : Sq Z w s t p b1 b2 b3 n now es L o W R) (hn : 0 < n) (hn2 : n ≤ 64) :
    Calls Try.prog 28 #[.pointer (some ⟨s, 0, none⟩)] w fun e w' => ∃ t' p' c1 c2 c3, e = .returned (.pointer (some ⟨w.heap.size, 0, none⟩)) ∧ Sq (fun q => q < w.heap.size) w' w.heap.size t' p' c1 c2 c3 n now es L o W R ∧ Below w.heap.size w w' := by
  obtain ⟨w1, hw1⟩ : ∃ w1, w1 = (w.alloc (.cells #[.int .i64 now, .pointer (some ⟨t, 0, none⟩), .pointer (some ⟨p, 0, none⟩), .int .i64 n, .int .i64 W.length] 68)).drew := ⟨_, rfl⟩
  have hb1 : Below w.heap.size w w1 := by rw [hw1]; exact (bl_al w _).trans (bl_drw _ _)
  have hs1 : w1.heap.size = w.heap.size + 1 := by rw [hw1]; show (w.alloc _).heap.size = _; simp
  have H1 := hid (h.below hb1)
  have TC := hid (show Calls Try.prog 51 #[.pointer (some ⟨t, 0, none⟩)] w1 fun e w' => e = .returned (.pointer (some ⟨w1.heap.size + 1, 0, none⟩)) ∧ Te (fun q => q < w1.heap.size) w' (w1.heap.size + 1) n es L o ∧ Below w1.heap.size w1 w' from by
    obtain ⟨⟨hb', mb, c, hp, v, g1⟩, g2⟩ := H1.out.te
    refine (tcopy g1 hn hn2).mono ?_
    rintro e w' ⟨hb2, c2, hp2, v2, rfl, hq, hb⟩
    exact ⟨rfl, ⟨⟨hb2, _, c2, hp2, v2, hq⟩, g2⟩, hb⟩)
  have FX := hid (show ∀ (w2 w3 : World) (t' p' c1 c2 c3 : Nat), Te (fun q => q < w1.heap.size) w2 t' n es L o → Below w1.heap.size w1 w2 → Pq (fun q => q < w2.heap.size) w3 p' c1 c2 c3 W R → Below w2.heap.size w2 w3 →
      Sq (fun q => q < w.heap.size) ((w3.setCell ⟨w.heap.size, 1, none⟩ (.pointer (some ⟨t', 0, none⟩))).setCell ⟨w.heap.size, 2, none⟩ (.pointer (some ⟨p', 0, none⟩))) w.heap.size t' p' c1 c2 c3 n now es L o W R ∧ Below w.heap.size w ((w3.setCell ⟨w.heap.size, 1, none⟩ (.pointer (some ⟨t', 0, none⟩))).setCell ⟨w.heap.size, 2, none⟩ (.pointer (some ⟨p', 0, none⟩)))
    from fun w2 w3 t' p' c1 c2 c3 a b c d => scopy_fin h w1 hw1 a b c d)
  have x1 : w1.heap[w.heap.size]? = some (.cells #[.int .i64 now, .pointer (some ⟨t, 0, none⟩), .pointer (some ⟨p, 0, none⟩), .int .i64 n, .int .i64 W.length] 68 (0, 0)) := by rw [hw1]; exact heap_alloc_new w _
  have X1 := hid x1
  have BX := hid h.box
  have hlt := h.lt
  have HS := hid (show ∀ y, Below w1.heap.size w1 y → y.cell? ⟨s, 1, none⟩ = some (.pointer (some ⟨t, 0, none⟩)) ∧ y.cell? ⟨s, 2, none⟩ = some (.pointer (some ⟨p, 0, none⟩)) from fun y hy => ⟨blk_cell (H1.out.below hy).box rfl, blk_cell (H1.out.below hy).box rfl⟩)
  have HS2 := hid (show ∀ y : World, (y.cell? ⟨s, 1, none⟩ = some (.pointer (some ⟨t, 0, none⟩)) ∧ y.cell? ⟨s, 2, none⟩ = some (.pointer (some ⟨p, 0, none⟩))) → ∀ (i : Nat) (v : Value), (y.setCell ⟨w.heap.size, i, none⟩ v).cell? ⟨s, 1, none⟩ = some (.pointer (some ⟨t, 0, none⟩)) ∧ (y.setCell ⟨w.heap.size, i, none⟩ v).cell? ⟨s, 2, none⟩ = some (.pointer (some ⟨p, 0, none⟩)) from fun y hy i v => by
    have e : (y.setCell ⟨w.heap.size, i, none⟩ v).heap[s]? = y.heap[s]? := heap_setCell_other _ _ _ _ (by simp; omega)
    exact ⟨(World.cell?_of_block e).trans hy.1, (World.cell?_of_block e).trans hy.2⟩)
  have Z1 := hid (show (w.alloc (.cells #[.int .i64 now, .pointer (some ⟨t, 0, none⟩), .pointer (some ⟨p, 0, none⟩), .int .i64 n, .int .i64 W.length] 68)).drew.cell? ⟨s, 1, none⟩ = some (.pointer (some ⟨t, 0, none⟩)) ∧ (w.alloc (.cells #[.int .i64 now, .pointer (some ⟨t, 0, none⟩), .pointer (some ⟨p, 0, none⟩), .int .i64 n, .int .i64 W.length] 68)).drew.cell? ⟨s, 2, none⟩ = some (.pointer (some ⟨p, 0, none⟩)) from by rw [← hw1]; exact HS.out _ (Below.refl _ _))
  have TX := hid (show Calls Try.prog 51 #[.pointer (some ⟨t, 0, none⟩)] (w.alloc (.cells #[.int .i64 now, .pointer (some ⟨t, 0, none⟩), .pointer (some ⟨p, 0, none⟩), .int .i64 n, .int .i64 W.length] 68)).drew fun e w' => e = .returned (.pointer (some ⟨w1.heap.size + 1, 0, none⟩)) ∧ Te (fun q => q < w1.heap.size) w' (w1.heap.size + 1) n es L o ∧ Below w1.heap.size w1 w' from by rw [← hw1]; exact TC.out)
  clear h x1 hb1
  go_enter Try.func28, Try.ntmps28
  go_upto_region 2 with (refine wpList_load_known (by rfl) 68 (.tmp 5) rfl s rfl 68 #[.int .i64 now, .pointer (some ⟨t, 0, none⟩), .pointer (some ⟨p, 0, none⟩), .int .i64 n, .int .i64 W.length] (0, 0) _ BX.out Try.underlying68 rfl (by kernel_rfl) ?_)
  clear hw1 TC BX
  generalize (W.length : Int) = wl at *
  go_region_held3 (fun y => y.cell? ⟨s, 1, none⟩ = some (.pointer (some ⟨t, 0, none⟩)) ∧ y.cell? ⟨s, 2, none⟩ = some (.pointer (some ⟨p, 0, none⟩)))
    (first
      | exact Z1.out
      | exact HS.out _ B2.out
      | exact HS.out _ B3.out
      | exact HS2.out _ (HS.out _ B3.out) _ _
      | exact HS2.out _ (HS2.out _ (HS.out _ B3.out) _ _) _ _)
    (first
      | (go_at_call 51; (with_reducible refine TX.out.mono ?_); rintro e w2 ⟨rfl, ht, hb2⟩; have B2 := hid hb2; have HT := hid ht; have PC := hid (pcopy (H1.out.below hb2).pq); clear ht hb2)
      | (go_at_call 52; (with_reducible refine PC.out.mono ?_); rintro e w3 ⟨p', c1, c2, c3, rfl, hq, hb3⟩; have s2 := B2.out.size; have B3 := hid (B2.out.trans (hb3.mono B2.out.size)); have HQ := hid hq; have H3 := hid hb3; have x3 := (B3.out.block w.heap.size (by omega)).trans X1.out; have y1 := blk_cell x3 (i := 1) rfl; have y2 := blk_cell x3 (i := 2) rfl; have f1 := blk_free x3 (i := 1); have f2 := blk_free x3 (i := 2); clear hq hb3 x3))
  all_goals
    have FIN := hid (FX.out w2 w3 _ p' c1 c2 c3 HT.out B2.out HQ.out H3.out)
    rw [hs1] at FIN
    clear FX HT HQ H3 PC TX H1 X1 HS HS2 Z1
    go_wp2
    go_ret
    exact ⟨_, p', c1, c2, c3, rfl, FIN.out.1, FIN.out.2⟩
end
end Go.Proofs.Ytaogpodncphpjaa
