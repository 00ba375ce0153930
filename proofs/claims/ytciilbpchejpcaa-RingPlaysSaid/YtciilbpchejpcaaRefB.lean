/- The document's ring as a value: Ready over a full row. -/
import Derived.Test.YtciilbpchejpcaaRefA
namespace Go.Proofs.Ytciilbpchejpcaa
set_option linter.unusedVariables false
set_option linter.unusedSimpArgs false
open Go.RowKit

set_option maxHeartbeats 4000000 in
theorem refready_full (rv : Value) (xs : List Int) (nx st g : Int) (w : World) (h : Reads w rv xs) (hl : xs.length = 256) :
    Calls Try.prog 77 #[.agg #[rv, .bool true, .int .i64 nx, .int .i64 st], .int .i64 g] w (RefTail rv xs (xs.drop 128) (xs.take 128 ++ [nx]) true g st w) := by
  obtain ⟨a, c, rfl, _⟩ := id h
  have HL := hid hl
  rw [hl]
  have HR := hid h
  rw [hl] at HR
  obtain ⟨o1, ho1⟩ : ∃ o, o = Obj.cells #[.slice a 256 c, .bool true, .int .i64 g, .int .i64 st] 54 (0, 0) := ⟨_, rfl⟩
  obtain ⟨o2, ho2⟩ : ∃ o, o = Obj.cells #[.slice none 0 0, .bool false, .int .i64 0, .int .i64 0] 54 (0, 0) := ⟨_, rfl⟩
  have HB0 := hid (((Below.refl w.heap.size w).alloc (Nat.le_refl _) o1).alloc (by simp) o2)
  subst ho1 ho2
  clear h hl
  go_enter Try.func77, Try.ntmps77
  go_wp2_with (go_at_call 76; refine (refput_full (.slice a 256 c) xs true g st nx _ (HR.out.of_below HB0.out) HL.out).mono ?_)
  rintro e w2 ⟨v2, tv, rfl, hrd2, hk2, ho2, hb2⟩
  simp only [World.size_alloc] at ho2 hb2
  have hz2 := hb2.size
  simp only [World.size_alloc] at hz2
  have r2 : w2.heap[w.heap.size + 1]? = some (.cells #[.slice none 0 0, .bool false, .int .i64 0, .int .i64 0] 54 (0, 0)) := by
    rw [hb2.block _ (by omega)]
    have := Deep.blk_alloc_new (w.alloc (.cells #[.slice a 256 c, .bool true, .int .i64 g, .int .i64 st] 54 (0, 0))) (.cells #[.slice none 0 0, .bool false, .int .i64 0, .int .i64 0] 54 (0, 0))
    simpa using this
  obtain ⟨ta, tn, tc, rfl⟩ := ho2.slice3
  obtain ⟨va, vc, rfl, _⟩ := id (hrd2 w2 (HR.out.of_below (HB0.out.trans (hb2.mono (by omega)))))
  obtain ⟨vn, hvn⟩ : ∃ m, m = (xs.drop 128).length := ⟨_, rfl⟩
  rw [← hvn] at hrd2 hk2 ⊢
  have HRD := hid hrd2
  have HKI := hid hk2
  have HVN := hid hvn
  have HO := hid ho2
  have HB := hid hb2
  have q0 : w2.cell? ⟨w.heap.size + 1, 0, none⟩ = some (.slice none 0 0) := cell_at r2 rfl
  have f0 : w2.frozen? ⟨w.heap.size + 1, 0, none⟩ = false := free_at r2
  have q1 : w2.cell? ⟨w.heap.size + 1, 1, none⟩ = some (.bool false) := cell_at r2 rfl
  have f1 : w2.frozen? ⟨w.heap.size + 1, 1, none⟩ = false := free_at r2
  have q2 : w2.cell? ⟨w.heap.size + 1, 2, none⟩ = some (.int .i64 0) := cell_at r2 rfl
  have f2 : w2.frozen? ⟨w.heap.size + 1, 2, none⟩ = false := free_at r2
  have q3 : w2.cell? ⟨w.heap.size + 1, 3, none⟩ = some (.int .i64 0) := cell_at r2 rfl
  have f3 : w2.frozen? ⟨w.heap.size + 1, 3, none⟩ = false := free_at r2
  clear ho2 hb2 r2 hrd2 hk2 hvn
  go_wp2_with fail
  have hF : Below w.heap.size w ((((w2.setCell ⟨w.heap.size + 1, 0, none⟩ (.slice va vn vc)).setCell ⟨w.heap.size + 1, 1, none⟩ (.bool true)).setCell ⟨w.heap.size + 1, 2, none⟩ (.int .i64 g)).setCell ⟨w.heap.size + 1, 3, none⟩ (.int .i64 st)) :=
    ((((HB0.out.trans (HB.out.mono (by omega))).setCell (by simp) _).setCell (by simp) _).setCell (by simp) _).setCell (by simp) _
  refine bodyPost_ret (v := .tuple #[.agg #[.slice va vn vc, .bool true, .int .i64 g, .int .i64 st], .slice ta tn tc]) (by simp [results, Try.results77, go_sem, q0, q1, q2, q3]) rfl ⟨_, _, rfl, HRD.out, fun g o k c' he h0 => HKI.out g o k c' he (by rw [HVN.out]; exact h0), ?_, hF⟩
  exact (HO.out.mono (by omega)).kept (fun k hk => by
      have := (HO.out.lt k hk).1
      have k1 : k ≠ w.heap.size + 1 := by omega
      rw [Below.heap_setCell _ _ _ _ k1, Below.heap_setCell _ _ _ _ k1, Below.heap_setCell _ _ _ _ k1, Below.heap_setCell _ _ _ _ k1])
end Go.Proofs.Ytciilbpchejpcaa
