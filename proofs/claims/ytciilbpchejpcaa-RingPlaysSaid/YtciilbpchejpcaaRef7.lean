/- The document's ring as a value: List, and Ready where none is next. -/
import Derived.Test.YtciilbpchejpcaaRef6
namespace Go.Proofs.Ytciilbpchejpcaa
set_option linter.unusedVariables false
set_option linter.unusedSimpArgs false
open Go.RowKit

set_option maxHeartbeats 4000000 in
theorem reflist_none (rv : Value) (nx st : Int) (w : World) :
    Calls Try.prog 43 #[.agg #[rv, .bool false, .int .i64 nx, .int .i64 st]] w (fun e w' => e = .returned rv ∧ Below w.heap.size w w') := by
  have HB0 := hid ((Below.refl w.heap.size w).alloc (Nat.le_refl _) (.cells #[rv, .bool false, .int .i64 nx, .int .i64 st] 54 (0, 0)))
  go_enter Try.func43, Try.ntmps43
  go_wp2_with fail
  go_ret
  exact ⟨rfl, HB0.out⟩
set_option maxHeartbeats 4000000 in
theorem reflist_one (rv : Value) (xs : List Int) (nx st : Int) (w : World) (h : Reads w rv xs) (hl : xs.length ≤ 256) :
    Calls Try.prog 43 #[.agg #[rv, .bool true, .int .i64 nx, .int .i64 st]] w (ClonePost (xs ++ [nx]) w) := by
  obtain ⟨a, c, rfl, _⟩ := id h
  obtain ⟨n, hn⟩ : ∃ n, n = xs.length := ⟨_, rfl⟩
  have HN := hid hn
  have HR := hid h
  rw [← hn] at HR hl ⊢
  obtain ⟨o1, ho1⟩ : ∃ o, o = Obj.cells #[.slice a n c, .bool true, .int .i64 nx, .int .i64 st] 54 (0, 0) := ⟨_, rfl⟩
  have HB0 := hid (((Below.refl w.heap.size w).alloc (Nat.le_refl _) o1).alloc (by simp) (.cells #[.int .i64 nx] 3 (0, 0)))
  subst ho1
  clear h hn
  go_enter Try.func43, Try.ntmps43
  go_wp2_with fail
  refine (join_any _ _ xs [nx] _ (HN.out ▸ HR.out.of_below HB0.out) (reads_one (by simp) (by simp)) (by have := HN.out; omega) (by simp)).mono ?_
  rintro e w2 ⟨v2, rfl, ho2, hb2⟩
  simp only [World.size_alloc] at ho2 hb2
  obtain ⟨va, vn, vc, rfl⟩ := ho2.slice3
  have FIN : ClonePost (xs ++ [nx]) w (.returned (.slice va vn vc)) w2 := ⟨_, rfl, ho2.mono (by omega), HB0.out.trans (hb2.mono (by omega))⟩
  have HF := hid FIN
  clear ho2 hb2 FIN HB0
  go_wp2
  go_ret
  exact HF.out

set_option maxHeartbeats 4000000 in
theorem refready_none (a : Option Addr) (n c : Nat) (nx st g : Int) (w : World) :
    Calls Try.prog 77 #[.agg #[.slice a n c, .bool false, .int .i64 nx, .int .i64 st], .int .i64 g] w (fun e w' => e = .returned (.tuple #[.agg #[.slice a n c, .bool true, .int .i64 g, .int .i64 st], .slice none 0 0]) ∧ Below w.heap.size w w') := by
  go_enter Try.func77, Try.ntmps77
  go_wp2_with fail
  refine bodyPost_ret (v := .tuple #[.agg #[.slice a n c, .bool true, .int .i64 g, .int .i64 st], .slice none 0 0]) (by simp [results, Try.results77, go_sem]) rfl ⟨rfl, ((Below.refl _ _).alloc (Nat.le_refl _) _).alloc (by simp) _⟩

set_option maxHeartbeats 4000000 in
theorem refready_room (rv : Value) (xs : List Int) (nx st g : Int) (w : World) (h : Reads w rv xs) (hl : xs.length < 256) :
    Calls Try.prog 77 #[.agg #[rv, .bool true, .int .i64 nx, .int .i64 st], .int .i64 g] w (RefPut (xs ++ [nx]) true g st w) := by
  obtain ⟨a, c, rfl, _⟩ := id h
  obtain ⟨n, hn⟩ : ∃ n, n = xs.length := ⟨_, rfl⟩
  have HN := hid hn
  have HR := hid h
  rw [← hn] at HR hl ⊢
  obtain ⟨o1, ho1⟩ : ∃ o, o = Obj.cells #[.slice a n c, .bool true, .int .i64 g, .int .i64 st] 54 (0, 0) := ⟨_, rfl⟩
  obtain ⟨o2, ho2⟩ : ∃ o, o = Obj.cells #[.slice none 0 0, .bool false, .int .i64 0, .int .i64 0] 54 (0, 0) := ⟨_, rfl⟩
  have HB0 := hid (((Below.refl w.heap.size w).alloc (Nat.le_refl _) o1).alloc (by simp) o2)
  subst ho1 ho2
  clear h hn
  go_enter Try.func77, Try.ntmps77
  go_wp2_with (go_at_call 76; refine (refput_room (.slice a n c) xs true g st nx _ (HN.out ▸ HR.out.of_below HB0.out) (by have := HN.out; omega)).mono ?_)
  rintro e w2 ⟨v2, rfl, ho2, hb2⟩
  simp only [World.size_alloc] at ho2 hb2
  have hz2 := hb2.size
  simp only [World.size_alloc] at hz2
  have r2 : w2.heap[w.heap.size + 1]? = some (.cells #[.slice none 0 0, .bool false, .int .i64 0, .int .i64 0] 54 (0, 0)) := by
    rw [hb2.block _ (by omega)]
    have := Deep.blk_alloc_new (w.alloc (.cells #[.slice a n c, .bool true, .int .i64 g, .int .i64 st] 54 (0, 0))) (.cells #[.slice none 0 0, .bool false, .int .i64 0, .int .i64 0] 54 (0, 0))
    simpa using this
  obtain ⟨va, vn, vc, rfl⟩ := ho2.slice3
  have HO := hid ho2
  have HB := hid hb2
  have q0 : w2.cell? ⟨w.heap.size + 1, 0, none⟩ = some (.slice none 0 0) := cell_at r2 rfl
  have f0 : w2.frozen? ⟨w.heap.size + 1, 0, none⟩ = false := free_at r2
  have q1 : w2.cell? ⟨w.heap.size + 1, 1, none⟩ = some (.bool false) := cell_at r2 rfl
  have f1 : w2.frozen? ⟨w.heap.size + 1, 1, none⟩ = false := free_at r2
  have q2 : w2.cell? ⟨w.heap.size + 1, 2, none⟩ = some (.int .i64 0) := cell_at r2 rfl
  have f2 : w2.frozen? ⟨w.heap.size + 1, 2, none⟩ = false := free_at r2
  have q3 : w2.cell? ⟨w.heap.size + 1, 3, none⟩ = some (.int .i64 0) := cell_at r2 rfl
  have f3 : w2.frozen? ⟨w.heap.size + 1, 3, none⟩ = false := free_at r2
  clear ho2 hb2 r2
  go_wp2_with fail
  refine bodyPost_ret (v := .tuple #[.agg #[.slice va vn vc, .bool true, .int .i64 g, .int .i64 st], .slice none 0 0]) (by simp [results, Try.results77, go_sem, q0, q1, q2, q3]) rfl ⟨_, rfl, ?_, ?_⟩
  · exact (HO.out.mono (by omega)).kept (fun k hk => by
      have := (HO.out.lt k hk).1
      have k1 : k ≠ w.heap.size + 1 := by omega
      rw [Below.heap_setCell _ _ _ _ k1, Below.heap_setCell _ _ _ _ k1, Below.heap_setCell _ _ _ _ k1, Below.heap_setCell _ _ _ _ k1])
  · exact ((((HB0.out.trans (HB.out.mono (by omega))).setCell (by simp) _).setCell (by simp) _).setCell (by simp) _).setCell (by simp) _
end Go.Proofs.Ytciilbpchejpcaa
