/- The document's ring as a value: Get of the row, where who was next joins it. -/
import Derived.Test.YtciilbpchejpcaaRefD
import Derived.Laws.Rows
namespace Go.Proofs.Ytciilbpchejpcaa
set_option linter.unusedVariables false
set_option linter.unusedSimpArgs false
open Go.RowKit

set_option maxHeartbeats 8000000 in
theorem refget_join (rv : Value) (x : Int) (xs : List Int) (nx st : Int) (w : World) (h : Reads w rv (x :: xs)) (hl : (x :: xs).length ≤ 256) (h4 : 4 ≤ st) :
    Calls Try.prog 81 #[.agg #[rv, .bool true, .int .i64 nx, .int .i64 st]] w (fun e w' => ∃ rv', e = .returned (.tuple #[.agg #[rv', .bool false, .int .i64 0, .int .i64 0], .int .i64 x, .bool true]) ∧ Owns w' w.heap.size rv' (xs ++ [nx]) ∧ Below w.heap.size w w') := by
  obtain ⟨a, c, rfl, _⟩ := id h
  obtain ⟨n, hn⟩ : ∃ n, n = (x :: xs).length := ⟨_, rfl⟩
  have HN := hid hn
  have HR := hid h
  rw [← hn] at HR ⊢
  have hn256 : n ≤ 256 := by rw [hn]; exact hl
  have HB0 := hid (((Below.refl w.heap.size w).alloc (Nat.le_refl _) (.cells #[.slice a n c, .bool true, .int .i64 nx, .int .i64 st] 54 (0, 0))).alloc (by simp) (.cells #[.slice none 0 0, .bool false, .int .i64 0, .int .i64 0] 54 (0, 0)))
  have hnp : 0 < n := by rw [hn]; simp
  have tn : ((n : Int) == 0) = false := beq_eq_false_iff_ne.2 (by omega)
  have t1 : decide (st < 4) = false := decide_eq_false (by omega)
  clear h hl hn
  go_enter Try.func81, Try.ntmps81
  go_wp2_with fail
  refine (rtake_any _ (x :: xs) 1 1 (by have := HN.out; simp; omega) _ (HN.out ▸ HR.out.of_below HB0.out) (by have := HN.out; omega)).mono ?_
  rintro e w2 ⟨v1, v2, rfl, ho2, hrd2, hkin2, hb2⟩
  simp only [World.size_alloc] at ho2 hb2
  have hws := hb2.size
  simp only [World.size_alloc] at hws
  have n2 : w2.heap[w.heap.size]? = some (.cells #[.slice a n c, .bool true, .int .i64 nx, .int .i64 st] 54 (0, 0)) := by
    rw [hb2.block _ (by omega), Below.heap_alloc _ _ _ (by simp)]
    exact Deep.blk_alloc_new _ _
  have r2 : w2.heap[w.heap.size + 1]? = some (.cells #[.slice none 0 0, .bool false, .int .i64 0, .int .i64 0] 54 (0, 0)) := by
    rw [hb2.block _ (by omega)]
    have := Deep.blk_alloc_new (w.alloc (.cells #[.slice a n c, .bool true, .int .i64 nx, .int .i64 st] 54 (0, 0))) (.cells #[.slice none 0 0, .bool false, .int .i64 0, .int .i64 0] 54 (0, 0))
    simpa using this
  have HBW := hid (HB0.out.trans (hb2.mono (by omega)))
  rw [show (x :: xs).take 1 = [x] from rfl] at ho2
  rw [show (x :: xs).drop 1 = xs from rfl] at hrd2 hkin2
  obtain ⟨a1, c1, rfl⟩ := ho2.reads_n (show [x].length = 1 from rfl)
  obtain ⟨B, rfl, hB1, hB2, hBc, _, _⟩ := ho2.step (show [x].length = 1 from rfl) 0 (by omega)
  have hBc' : w2.cell? ⟨B, 0, none⟩ = some (.int .i64 x) := hBc
  have hrd := hrd2 w2 (HN.out ▸ HR.out.of_below HBW.out)
  obtain ⟨a2, c2, rfl, _⟩ := id hrd
  obtain ⟨m2, hm2⟩ : ∃ m, m = xs.length := ⟨_, rfl⟩
  rw [← hm2] at hrd hrd2 hkin2 ⊢
  have HRD2 := hid hrd2
  have HRD := hid hrd
  have HKI := hid hkin2
  have HM2 := hid hm2
  have N2 := hid n2
  have R2 := hid r2
  have HBC := hid hBc'
  have j0 : w2.cell? ⟨w.heap.size, 0, none⟩ = some (.slice a n c) := cell_at n2 rfl
  have e0 : w2.frozen? ⟨w.heap.size, 0, none⟩ = false := free_at n2
  have j1 : w2.cell? ⟨w.heap.size, 1, none⟩ = some (.bool true) := cell_at n2 rfl
  have e1 : w2.frozen? ⟨w.heap.size, 1, none⟩ = false := free_at n2
  have j2 : w2.cell? ⟨w.heap.size, 2, none⟩ = some (.int .i64 nx) := cell_at n2 rfl
  have e2 : w2.frozen? ⟨w.heap.size, 2, none⟩ = false := free_at n2
  have j3 : w2.cell? ⟨w.heap.size, 3, none⟩ = some (.int .i64 st) := cell_at n2 rfl
  have e3 : w2.frozen? ⟨w.heap.size, 3, none⟩ = false := free_at n2
  clear ho2 hb2 hrd2 hrd hkin2 hm2 n2 r2 hBc hBc'
  go_upto_region 15 with (fail)
  have n5a := blk5 (.slice a2 m2 c2) N2.out (show (#[.slice a n c, .bool true, .int .i64 nx, .int .i64 st] : Array Value).setIfInBounds 0 (.slice a2 m2 c2) = #[.slice a2 m2 c2, .bool true, .int .i64 nx, .int .i64 st] from rfl)
  have n5 := blk5 (.int .i64 0) n5a (show (#[.slice a2 m2 c2, .bool true, .int .i64 nx, .int .i64 st] : Array Value).setIfInBounds 3 (.int .i64 0) = #[.slice a2 m2 c2, .bool true, .int .i64 nx, .int .i64 0] from rfl)
  have hW : ∀ k, k ≠ w.heap.size → ((w2.setCell ⟨w.heap.size, 0, none⟩ (.slice a2 m2 c2)).setCell ⟨w.heap.size, 3, none⟩ (.int .i64 0)).heap[k]? = w2.heap[k]? := fun k hk => by
    rw [heap_setCell_other _ _ _ _ hk, heap_setCell_other _ _ _ _ hk]
  have hb5 := (HBW.out.setCell (p := ⟨w.heap.size, 0, none⟩) (Nat.le_refl _) (.slice a2 m2 c2)).setCell (p := ⟨w.heap.size, 3, none⟩) (Nat.le_refl _) (.int .i64 0)
  have hz5 : ((w2.setCell ⟨w.heap.size, 0, none⟩ (.slice a2 m2 c2)).setCell ⟨w.heap.size, 3, none⟩ (.int .i64 0)).heap.size = w2.heap.size := by simp [World.setCell]
  generalize (w2.setCell ⟨w.heap.size, 0, none⟩ (.slice a2 m2 c2)).setCell ⟨w.heap.size, 3, none⟩ (.int .i64 0) = w5 at n5 hW hb5 hz5 ⊢
  clear n5a
  have R5 := hid ((hW (w.heap.size + 1) (by omega)).trans R2.out)
  have B5 := hid (show w5.cell? ⟨B, 0, none⟩ = some (.int .i64 x) by simp only [World.cell?, hW B (by omega)]; exact HBC.out)
  have N5 := hid n5
  have HB5 := hid hb5
  clear j0 j1 j2 j3 e0 e1 e2 e3
  have j0 : w5.cell? ⟨w.heap.size, 0, none⟩ = some (.slice a2 m2 c2) := cell_at n5 rfl
  have e0 : w5.frozen? ⟨w.heap.size, 0, none⟩ = false := free_at n5
  have j1 : w5.cell? ⟨w.heap.size, 1, none⟩ = some (.bool true) := cell_at n5 rfl
  have e1 : w5.frozen? ⟨w.heap.size, 1, none⟩ = false := free_at n5
  have j2 : w5.cell? ⟨w.heap.size, 2, none⟩ = some (.int .i64 nx) := cell_at n5 rfl
  have e2 : w5.frozen? ⟨w.heap.size, 2, none⟩ = false := free_at n5
  have j3 : w5.cell? ⟨w.heap.size, 3, none⟩ = some (.int .i64 0) := cell_at n5 rfl
  have e3 : w5.frozen? ⟨w.heap.size, 3, none⟩ = false := free_at n5
  clear hW hb5 n5 N2 R2 HBW HRD HBC
  have hl5 : w.heap.size + 2 ≤ w5.heap.size := by omega
  have hB5 : B < w5.heap.size := by omega
  clear hz5
  have RA := hid (HRD2.out _ (HR.out.of_below (HB5.out.alloc (by omega) (.cells #[.int .i64 nx] 3))))
  have RO := hid (show Reads (w5.alloc (.cells #[.int .i64 nx] 3)) (.slice (some ⟨w5.heap.size, 0, none⟩) 1 1) [nx] from reads_one (by simp) (by
    have hh := heap_alloc_new w5 (.cells #[.int .i64 nx] 3)
    simp only [World.cell?, hh]
    rfl))
  have BL := hid (show xs.length ≤ 1000 by have := HN.out; simp only [List.length_cons] at this; omega)
  go_wp2_with fail
  refine (join_any _ _ xs [nx] _ RA.out RO.out (by have := BL.out; omega) (by simp)).mono ?_
  rintro e w6 ⟨v3, rfl, ho3, hb3⟩
  simp only [World.size_alloc] at ho3 hb3
  have hz6 := hb3.size
  have n6 : w6.heap[w.heap.size]? = some (.cells #[.slice a2 m2 c2, .bool true, .int .i64 nx, .int .i64 0] 54 (0, 0)) := by
    rw [hb3.block _ (by omega), Below.heap_alloc _ _ _ (by omega)]; exact N5.out
  have r6 : w6.heap[w.heap.size + 1]? = some (.cells #[.slice none 0 0, .bool false, .int .i64 0, .int .i64 0] 54 (0, 0)) := by
    rw [hb3.block _ (by omega), Below.heap_alloc _ _ _ (by omega)]; exact R5.out
  have b6 : w6.cell? ⟨B, 0, none⟩ = some (.int .i64 x) := by
    have e : w6.heap[B]? = w5.heap[B]? := by rw [hb3.block _ (by omega), Below.heap_alloc _ _ _ (by omega)]
    simp only [World.cell?, e]; exact B5.out
  have hb6 := HB5.out.trans (((Below.refl w5.heap.size w5).alloc (Nat.le_refl _) (.cells #[.int .i64 nx] 3)).mono (show w.heap.size ≤ w5.heap.size by omega)) |>.trans (hb3.mono (by omega))
  obtain ⟨va, vn, vc, rfl⟩ := ho3.slice3
  have HO3 := hid ho3
  have N6 := hid n6
  have R6 := hid r6
  have B6 := hid b6
  have HB6 := hid hb6
  clear j0 j1 j2 j3 e0 e1 e2 e3
  have j0 : w6.cell? ⟨w.heap.size, 0, none⟩ = some (.slice a2 m2 c2) := cell_at n6 rfl
  have e0 : w6.frozen? ⟨w.heap.size, 0, none⟩ = false := free_at n6
  have j1 : w6.cell? ⟨w.heap.size, 1, none⟩ = some (.bool true) := cell_at n6 rfl
  have e1 : w6.frozen? ⟨w.heap.size, 1, none⟩ = false := free_at n6
  have j2 : w6.cell? ⟨w.heap.size, 2, none⟩ = some (.int .i64 nx) := cell_at n6 rfl
  have e2 : w6.frozen? ⟨w.heap.size, 2, none⟩ = false := free_at n6
  have j3 : w6.cell? ⟨w.heap.size, 3, none⟩ = some (.int .i64 0) := cell_at n6 rfl
  have e3 : w6.frozen? ⟨w.heap.size, 3, none⟩ = false := free_at n6
  clear ho3 hb3 n6 r6 b6 hb6 RA N5 R5 B5 HB5
  go_upto_region 18 with (fail)
  have n7a := blk5 (.slice va vn vc) N6.out (show (#[.slice a2 m2 c2, .bool true, .int .i64 nx, .int .i64 0] : Array Value).setIfInBounds 0 (.slice va vn vc) = #[.slice va vn vc, .bool true, .int .i64 nx, .int .i64 0] from rfl)
  have n7b := blk5 (.bool false) n7a (show (#[.slice va vn vc, .bool true, .int .i64 nx, .int .i64 0] : Array Value).setIfInBounds 1 (.bool false) = #[.slice va vn vc, .bool false, .int .i64 nx, .int .i64 0] from rfl)
  have n7 := blk5 (.int .i64 0) n7b (show (#[.slice va vn vc, .bool false, .int .i64 nx, .int .i64 0] : Array Value).setIfInBounds 2 (.int .i64 0) = #[.slice va vn vc, .bool false, .int .i64 0, .int .i64 0] from rfl)
  have hW : ∀ k, k ≠ w.heap.size → (((w6.setCell ⟨w.heap.size, 0, none⟩ (.slice va vn vc)).setCell ⟨w.heap.size, 1, none⟩ (.bool false)).setCell ⟨w.heap.size, 2, none⟩ (.int .i64 0)).heap[k]? = w6.heap[k]? := fun k hk => by
    rw [heap_setCell_other _ _ _ _ hk, heap_setCell_other _ _ _ _ hk, heap_setCell_other _ _ _ _ hk]
  have hb5 := ((HB6.out.setCell (p := ⟨w.heap.size, 0, none⟩) (Nat.le_refl _) (.slice va vn vc)).setCell (p := ⟨w.heap.size, 1, none⟩) (Nat.le_refl _) (.bool false)).setCell (p := ⟨w.heap.size, 2, none⟩) (Nat.le_refl _) (.int .i64 0)
  generalize ((w6.setCell ⟨w.heap.size, 0, none⟩ (.slice va vn vc)).setCell ⟨w.heap.size, 1, none⟩ (.bool false)).setCell ⟨w.heap.size, 2, none⟩ (.int .i64 0) = w7 at n7 hW hb5 ⊢
  clear n7a n7b
  have r7 := (hW (w.heap.size + 1) (by omega)).trans R6.out
  have b7 : w7.cell? ⟨B, 0, none⟩ = some (.int .i64 x) := by simp only [World.cell?, hW B (by omega)]; exact B6.out
  have HO7 := hid (HO3.out.kept (w' := w7) (fun k hk => hW k (by have := (HO3.out.lt k hk).1; omega)))
  clear j0 j1 j2 j3 e0 e1 e2 e3
  have j0 : w7.cell? ⟨w.heap.size, 0, none⟩ = some (.slice va vn vc) := cell_at n7 rfl
  have e0 : w7.frozen? ⟨w.heap.size, 0, none⟩ = false := free_at n7
  have j1 : w7.cell? ⟨w.heap.size, 1, none⟩ = some (.bool false) := cell_at n7 rfl
  have e1 : w7.frozen? ⟨w.heap.size, 1, none⟩ = false := free_at n7
  have j2 : w7.cell? ⟨w.heap.size, 2, none⟩ = some (.int .i64 0) := cell_at n7 rfl
  have e2 : w7.frozen? ⟨w.heap.size, 2, none⟩ = false := free_at n7
  have j3 : w7.cell? ⟨w.heap.size, 3, none⟩ = some (.int .i64 0) := cell_at n7 rfl
  have e3 : w7.frozen? ⟨w.heap.size, 3, none⟩ = false := free_at n7
  have q0 : w7.cell? ⟨w.heap.size + 1, 0, none⟩ = some (.slice none 0 0) := cell_at r7 rfl
  have f0 : w7.frozen? ⟨w.heap.size + 1, 0, none⟩ = false := free_at r7
  have q1 : w7.cell? ⟨w.heap.size + 1, 1, none⟩ = some (.bool false) := cell_at r7 rfl
  have f1 : w7.frozen? ⟨w.heap.size + 1, 1, none⟩ = false := free_at r7
  have q2 : w7.cell? ⟨w.heap.size + 1, 2, none⟩ = some (.int .i64 0) := cell_at r7 rfl
  have f2 : w7.frozen? ⟨w.heap.size + 1, 2, none⟩ = false := free_at r7
  have q3 : w7.cell? ⟨w.heap.size + 1, 3, none⟩ = some (.int .i64 0) := cell_at r7 rfl
  have f3 : w7.frozen? ⟨w.heap.size + 1, 3, none⟩ = false := free_at r7
  have HB7 := hid hb5
  clear hW hb5 n7 r7 N6 R6 B6 HB6 HO3
  go_region
  all_goals
    go_wp2
    refine bodyPost_ret (v := .tuple #[.agg #[.slice va vn vc, .bool false, .int .i64 0, .int .i64 0], .int .i64 x, .bool true]) (by simp [results, Try.results81, go_sem, q0, q1, q2, q3]) rfl ⟨_, rfl, ?_, ?_⟩
    · exact (HO7.out.mono (by omega)).kept (fun k hk => by
        have := (HO7.out.lt k hk).1
        have k1 : k ≠ w.heap.size + 1 := by omega
        rw [heap_drew, Below.heap_setCell _ _ _ _ k1, Below.heap_setCell _ _ _ _ k1, Below.heap_setCell _ _ _ _ k1, Below.heap_setCell _ _ _ _ k1])
    · repeat (with_reducible first | refine Below.drew ?_ | refine Below.setCell ?_ (by simp) _)
      exact HB7.out
end Go.Proofs.Ytciilbpchejpcaa
