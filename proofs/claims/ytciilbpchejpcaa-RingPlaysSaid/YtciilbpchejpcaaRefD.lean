/- The document's ring as a value: Get of the row. -/
import Derived.Test.YtciilbpchejpcaaRefC
import Derived.Deep.CutRange
namespace Go.Proofs.Ytciilbpchejpcaa
set_option linter.unusedVariables false
set_option linter.unusedSimpArgs false
open Go.RowKit

set_option maxHeartbeats 4000000 in
theorem refget_none (rv : Value) (nx st : Int) (w : World) (h : Reads w rv []) :
    Calls Try.prog 81 #[.agg #[rv, .bool false, .int .i64 nx, .int .i64 st]] w (fun e w' => e = .returned (.tuple #[.agg #[rv, .bool false, .int .i64 nx, .int .i64 st], .int .i64 0, .bool false]) ∧ Below w.heap.size w w') := by
  obtain ⟨a, c, rfl, _⟩ := id h
  obtain ⟨n, hn⟩ : ∃ n, n = 0 := ⟨_, rfl⟩
  have HR := hid h
  have HB0 := hid (((Below.refl w.heap.size w).alloc (Nat.le_refl _) (.cells #[.slice a 0 c, .bool false, .int .i64 nx, .int .i64 st] 54 (0, 0))).alloc (by simp) (.cells #[.slice none 0 0, .bool false, .int .i64 0, .int .i64 0] 54 (0, 0)))
  clear h
  go_enter Try.func81, Try.ntmps81
  go_wp2_with fail
  refine (rtake_any _ [] 1 0 (by simp; omega) _ (HR.out.of_below HB0.out) (by simp)).mono ?_
  rintro e w2 ⟨v1, v2, rfl, ho2, hrd2, hkin2, hb2⟩
  simp only [World.size_alloc] at ho2 hb2
  have hws := hb2.size
  simp only [World.size_alloc] at hws
  have n2 : w2.heap[w.heap.size]? = some (.cells #[.slice a 0 c, .bool false, .int .i64 nx, .int .i64 st] 54 (0, 0)) := by
    rw [hb2.block _ (by omega), Below.heap_alloc _ _ _ (by simp)]
    exact Deep.blk_alloc_new _ _
  have r2 : w2.heap[w.heap.size + 1]? = some (.cells #[.slice none 0 0, .bool false, .int .i64 0, .int .i64 0] 54 (0, 0)) := by
    rw [hb2.block _ (by omega)]
    have := Deep.blk_alloc_new (w.alloc (.cells #[.slice a 0 c, .bool false, .int .i64 nx, .int .i64 st] 54 (0, 0))) (.cells #[.slice none 0 0, .bool false, .int .i64 0, .int .i64 0] 54 (0, 0))
    simpa using this
  have HBW := hid (HB0.out.trans (hb2.mono (by omega)))
  obtain ⟨a1, c1, rfl⟩ := ho2.reads_n (show (([] : List Int).take 0).length = 0 from rfl)
  obtain ⟨a2, c2, rfl, _⟩ := hrd2 w2 (HR.out.of_below HBW.out)
  have j0 : w2.cell? ⟨w.heap.size, 0, none⟩ = some (.slice a 0 c) := cell_at n2 rfl
  have e0 : w2.frozen? ⟨w.heap.size, 0, none⟩ = false := free_at n2
  have j1 : w2.cell? ⟨w.heap.size, 1, none⟩ = some (.bool false) := cell_at n2 rfl
  have e1 : w2.frozen? ⟨w.heap.size, 1, none⟩ = false := free_at n2
  have j2 : w2.cell? ⟨w.heap.size, 2, none⟩ = some (.int .i64 nx) := cell_at n2 rfl
  have e2 : w2.frozen? ⟨w.heap.size, 2, none⟩ = false := free_at n2
  have j3 : w2.cell? ⟨w.heap.size, 3, none⟩ = some (.int .i64 st) := cell_at n2 rfl
  have e3 : w2.frozen? ⟨w.heap.size, 3, none⟩ = false := free_at n2
  have q0 : w2.cell? ⟨w.heap.size + 1, 0, none⟩ = some (.slice none 0 0) := cell_at r2 rfl
  have f0 : w2.frozen? ⟨w.heap.size + 1, 0, none⟩ = false := free_at r2
  have q1 : w2.cell? ⟨w.heap.size + 1, 1, none⟩ = some (.bool false) := cell_at r2 rfl
  have f1 : w2.frozen? ⟨w.heap.size + 1, 1, none⟩ = false := free_at r2
  have q2 : w2.cell? ⟨w.heap.size + 1, 2, none⟩ = some (.int .i64 0) := cell_at r2 rfl
  have f2 : w2.frozen? ⟨w.heap.size + 1, 2, none⟩ = false := free_at r2
  have q3 : w2.cell? ⟨w.heap.size + 1, 3, none⟩ = some (.int .i64 0) := cell_at r2 rfl
  have f3 : w2.frozen? ⟨w.heap.size + 1, 3, none⟩ = false := free_at r2
  clear ho2 hb2 hrd2 hkin2 n2 r2
  go_wp2_with fail
  refine bodyPost_ret (v := .tuple #[.agg #[.slice a 0 c, .bool false, .int .i64 nx, .int .i64 st], .int .i64 0, .bool false]) (by simp [results, Try.results81, go_sem, q0, q1, q2, q3]) rfl ⟨rfl, (((HBW.out.setCell (by simp) _).setCell (by simp) _).setCell (by simp) _).setCell (by simp) _⟩

theorem blk5 {w : World} {g i : Nat} {cs cs' : Array Value} {t : TypeId} (v : Value) (hg : w.heap[g]? = some (.cells cs t (0, 0))) (he : cs.setIfInBounds i v = cs') : (w.setCell ⟨g, i, none⟩ v).heap[g]? = some (.cells cs' t (0, 0)) := by
  have := heap_setCell_same w g i cs t v hg
  rw [this, he]

set_option maxHeartbeats 8000000 in
theorem refget_row (rv : Value) (x : Int) (xs : List Int) (nx st : Int) (w : World) (h : Reads w rv (x :: xs)) (hl : (x :: xs).length ≤ 256) :
    Calls Try.prog 81 #[.agg #[rv, .bool false, .int .i64 nx, .int .i64 st]] w (fun e w' => ∃ rv', e = .returned (.tuple #[.agg #[rv', .bool false, .int .i64 nx, .int .i64 0], .int .i64 x, .bool true]) ∧ (∀ W, Reads W rv (x :: xs) → Reads W rv' xs) ∧ (∀ g o n c, rv' = .slice (some ⟨g, o, none⟩) n c → 0 < xs.length → ∃ o' n' c', rv = .slice (some ⟨g, o', none⟩) n' c') ∧ Below w.heap.size w w') := by
  obtain ⟨a, c, rfl, _⟩ := id h
  obtain ⟨n, hn⟩ : ∃ n, n = (x :: xs).length := ⟨_, rfl⟩
  have HN := hid hn
  have HR := hid h
  rw [← hn] at HR ⊢
  have hn256 : n ≤ 256 := by rw [hn]; exact hl
  have HB0 := hid (((Below.refl w.heap.size w).alloc (Nat.le_refl _) (.cells #[.slice a n c, .bool false, .int .i64 nx, .int .i64 st] 54 (0, 0))).alloc (by simp) (.cells #[.slice none 0 0, .bool false, .int .i64 0, .int .i64 0] 54 (0, 0)))
  have hnp : 0 < n := by rw [hn]; simp
  have tn : ((n : Int) == 0) = false := beq_eq_false_iff_ne.2 (by omega)
  clear h hl hn
  go_enter Try.func81, Try.ntmps81
  go_wp2_with fail
  refine (rtake_any _ (x :: xs) 1 1 (by have := HN.out; simp; omega) _ (HN.out ▸ HR.out.of_below HB0.out) (by have := HN.out; omega)).mono ?_
  rintro e w2 ⟨v1, v2, rfl, ho2, hrd2, hkin2, hb2⟩
  simp only [World.size_alloc] at ho2 hb2
  have hws := hb2.size
  simp only [World.size_alloc] at hws
  have n2 : w2.heap[w.heap.size]? = some (.cells #[.slice a n c, .bool false, .int .i64 nx, .int .i64 st] 54 (0, 0)) := by
    rw [hb2.block _ (by omega), Below.heap_alloc _ _ _ (by simp)]
    exact Deep.blk_alloc_new _ _
  have r2 : w2.heap[w.heap.size + 1]? = some (.cells #[.slice none 0 0, .bool false, .int .i64 0, .int .i64 0] 54 (0, 0)) := by
    rw [hb2.block _ (by omega)]
    have := Deep.blk_alloc_new (w.alloc (.cells #[.slice a n c, .bool false, .int .i64 nx, .int .i64 st] 54 (0, 0))) (.cells #[.slice none 0 0, .bool false, .int .i64 0, .int .i64 0] 54 (0, 0))
    simpa using this
  have HBW := hid (HB0.out.trans (hb2.mono (by omega)))
  rw [show (x :: xs).take 1 = [x] from rfl] at ho2
  rw [show (x :: xs).drop 1 = xs from rfl] at hrd2 hkin2
  obtain ⟨a1, c1, rfl⟩ := ho2.reads_n (show [x].length = 1 from rfl)
  obtain ⟨B, rfl, hB1, hB2, hBc, _, _⟩ := ho2.step (show [x].length = 1 from rfl) 0 (by omega)
  have hBc' : w2.cell? ⟨B, 0, none⟩ = some (.int .i64 x) := hBc
  have hrd := hrd2 w2 (HN.out ▸ HR.out.of_below HBW.out)
  obtain ⟨a2, c2, rfl, _⟩ := id hrd
  obtain ⟨m2, hm2⟩ : ∃ m, m = xs.length := ⟨_, rfl⟩
  rw [← hm2] at hrd hrd2 hkin2 ⊢
  have HRD2 := hid hrd2
  have HRD := hid hrd
  have HKI := hid hkin2
  have HM2 := hid hm2
  have N2 := hid n2
  have R2 := hid r2
  have HBC := hid hBc'
  have j0 : w2.cell? ⟨w.heap.size, 0, none⟩ = some (.slice a n c) := cell_at n2 rfl
  have e0 : w2.frozen? ⟨w.heap.size, 0, none⟩ = false := free_at n2
  have j1 : w2.cell? ⟨w.heap.size, 1, none⟩ = some (.bool false) := cell_at n2 rfl
  have e1 : w2.frozen? ⟨w.heap.size, 1, none⟩ = false := free_at n2
  have j2 : w2.cell? ⟨w.heap.size, 2, none⟩ = some (.int .i64 nx) := cell_at n2 rfl
  have e2 : w2.frozen? ⟨w.heap.size, 2, none⟩ = false := free_at n2
  have j3 : w2.cell? ⟨w.heap.size, 3, none⟩ = some (.int .i64 st) := cell_at n2 rfl
  have e3 : w2.frozen? ⟨w.heap.size, 3, none⟩ = false := free_at n2
  clear ho2 hb2 hrd2 hrd hkin2 hm2 n2 r2 hBc hBc'
  go_upto_region 18 with (fail)
  have n5a := blk5 (.slice a2 m2 c2) N2.out (show (#[.slice a n c, .bool false, .int .i64 nx, .int .i64 st] : Array Value).setIfInBounds 0 (.slice a2 m2 c2) = #[.slice a2 m2 c2, .bool false, .int .i64 nx, .int .i64 st] from rfl)
  have n5 := blk5 (.int .i64 0) n5a (show (#[.slice a2 m2 c2, .bool false, .int .i64 nx, .int .i64 st] : Array Value).setIfInBounds 3 (.int .i64 0) = #[.slice a2 m2 c2, .bool false, .int .i64 nx, .int .i64 0] from rfl)
  have hW : ∀ k, k ≠ w.heap.size → ((w2.setCell ⟨w.heap.size, 0, none⟩ (.slice a2 m2 c2)).setCell ⟨w.heap.size, 3, none⟩ (.int .i64 0)).heap[k]? = w2.heap[k]? := fun k hk => by
    rw [heap_setCell_other _ _ _ _ hk, heap_setCell_other _ _ _ _ hk]
  have hb5 := (HBW.out.setCell (p := ⟨w.heap.size, 0, none⟩) (Nat.le_refl _) (.slice a2 m2 c2)).setCell (p := ⟨w.heap.size, 3, none⟩) (Nat.le_refl _) (.int .i64 0)
  generalize (w2.setCell ⟨w.heap.size, 0, none⟩ (.slice a2 m2 c2)).setCell ⟨w.heap.size, 3, none⟩ (.int .i64 0) = w5 at n5 hW hb5 ⊢
  clear n5a
  have r5 := (hW (w.heap.size + 1) (by omega)).trans R2.out
  have b5 : w5.cell? ⟨B, 0, none⟩ = some (.int .i64 x) := by simp only [World.cell?, hW B (by omega)]; exact HBC.out
  clear j0 j1 j2 j3 e0 e1 e2 e3
  have j0 : w5.cell? ⟨w.heap.size, 0, none⟩ = some (.slice a2 m2 c2) := cell_at n5 rfl
  have e0 : w5.frozen? ⟨w.heap.size, 0, none⟩ = false := free_at n5
  have j1 : w5.cell? ⟨w.heap.size, 1, none⟩ = some (.bool false) := cell_at n5 rfl
  have e1 : w5.frozen? ⟨w.heap.size, 1, none⟩ = false := free_at n5
  have j2 : w5.cell? ⟨w.heap.size, 2, none⟩ = some (.int .i64 nx) := cell_at n5 rfl
  have e2 : w5.frozen? ⟨w.heap.size, 2, none⟩ = false := free_at n5
  have j3 : w5.cell? ⟨w.heap.size, 3, none⟩ = some (.int .i64 0) := cell_at n5 rfl
  have e3 : w5.frozen? ⟨w.heap.size, 3, none⟩ = false := free_at n5
  have q0 : w5.cell? ⟨w.heap.size + 1, 0, none⟩ = some (.slice none 0 0) := cell_at r5 rfl
  have f0 : w5.frozen? ⟨w.heap.size + 1, 0, none⟩ = false := free_at r5
  have q1 : w5.cell? ⟨w.heap.size + 1, 1, none⟩ = some (.bool false) := cell_at r5 rfl
  have f1 : w5.frozen? ⟨w.heap.size + 1, 1, none⟩ = false := free_at r5
  have q2 : w5.cell? ⟨w.heap.size + 1, 2, none⟩ = some (.int .i64 0) := cell_at r5 rfl
  have f2 : w5.frozen? ⟨w.heap.size + 1, 2, none⟩ = false := free_at r5
  have q3 : w5.cell? ⟨w.heap.size + 1, 3, none⟩ = some (.int .i64 0) := cell_at r5 rfl
  have f3 : w5.frozen? ⟨w.heap.size + 1, 3, none⟩ = false := free_at r5
  have HB5 := hid hb5
  clear hW hb5 n5 r5 N2 R2 HBW
  go_region
  all_goals
    go_wp2
    refine bodyPost_ret (v := .tuple #[.agg #[.slice a2 m2 c2, .bool false, .int .i64 nx, .int .i64 0], .int .i64 x, .bool true]) (by simp [results, Try.results81, go_sem, q0, q1, q2, q3]) rfl ⟨_, rfl, HRD2.out, fun g o k c' he h0 => HKI.out g o k c' he (by have := HM2.out; omega), ?_⟩
    repeat (with_reducible first | refine Below.drew ?_ | refine Below.setCell ?_ (by simp) _)
    exact HB5.out

end Go.Proofs.Ytciilbpchejpcaa
