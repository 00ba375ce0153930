/- The document's ring as a value: Put, where there is room. -/
import Derived.Test.YtciilbpchejpcaaLives06
namespace Go.Proofs.Ytciilbpchejpcaa
set_option linter.unusedVariables false
set_option linter.unusedSimpArgs false
open Go.RowKit

/-- The document's Put where there is room: the row is new, nothing is told. -/
def RefPut (ys : List Int) (b : Bool) (nx st : Int) (w : World) (e : Ending) (w' : World) : Prop :=
  ∃ rv, e = .returned (.tuple #[.agg #[rv, .bool b, .int .i64 nx, .int .i64 st], .slice none 0 0]) ∧ Owns w' w.heap.size rv ys ∧ Below w.heap.size w w'
theorem box_kept {w w' : World} {cs : Array Value} {t : TypeId} {k : Nat} (h : w.heap[k]? = some (.cells cs t (0, 0))) (hb : Below w.heap.size w w') : w'.heap[k]? = some (.cells cs t (0, 0)) := by
  have hk : k < w.heap.size := by rw [Array.getElem?_eq_some_iff] at h; exact h.1
  rw [hb.block k hk]; exact h

theorem cell_at {w : World} {p i : Nat} {cs : Array Value} {t : TypeId} {v : Value} (h : w.heap[p]? = some (.cells cs t (0, 0))) (hi : cs[i]? = some v) : w.cell? ⟨p, i, none⟩ = some v := by simp [World.cell?, h, hi]
theorem free_at {w : World} {p i : Nat} {cs : Array Value} {t : TypeId} (h : w.heap[p]? = some (.cells cs t (0, 0))) : w.frozen? ⟨p, i, none⟩ = false := by simp [World.frozen?, h]
theorem reads_one {w : World} {k : Nat} {g : Int} (hk : k < w.heap.size) (h : w.cell? ⟨k, 0, none⟩ = some (.int .i64 g)) : Reads w (.slice (some ⟨k, 0, none⟩) 1 1) [g] :=
  ⟨_, 1, rfl, ⟨by simp, by unfold maxLen; omega, .inr ⟨_, rfl⟩⟩, fun _ => ⟨k, 0, rfl, hk, fun j hj => by
    have : j = 0 := by simpa using hj
    subst this; simpa using h⟩⟩

set_option maxHeartbeats 4000000 in
theorem refput_room (rv : Value) (xs : List Int) (b : Bool) (nx st g : Int) (w : World) (h : Reads w rv xs) (hl : xs.length < 256) :
    Calls Try.prog 76 #[.agg #[rv, .bool b, .int .i64 nx, .int .i64 st], .int .i64 g] w (RefPut (xs ++ [g]) b nx st w) := by
  obtain ⟨a, c, rfl, _⟩ := id h
  obtain ⟨n, hn⟩ : ∃ n, n = xs.length := ⟨_, rfl⟩
  have HN := hid hn
  have HR := hid h
  rw [← hn] at HR hl ⊢
  have t : ((n : Int) == 256) = false := beq_eq_false_iff_ne.2 (by omega)
  obtain ⟨o1, ho1⟩ : ∃ o, o = Obj.cells #[.slice a n c, .bool b, .int .i64 nx, .int .i64 st] 54 (0, 0) := ⟨_, rfl⟩
  obtain ⟨o2, ho2⟩ : ∃ o, o = Obj.cells #[.slice none 0 0, .bool false, .int .i64 0, .int .i64 0] 54 (0, 0) := ⟨_, rfl⟩
  have HB0 := hid ((((Below.refl w.heap.size w).alloc (Nat.le_refl _) o1).alloc (by simp) o2).alloc (by simp; omega) (.cells #[.int .i64 g] 3 (0, 0)))
  subst ho1 ho2
  clear h hn
  go_enter Try.func76, Try.ntmps76
  go_wp2_with fail
  refine (join_any _ _ xs [g] _ (HN.out ▸ HR.out.of_below HB0.out) (reads_one (by simp) (by have := cell_one_new ((w.alloc (.cells #[.slice a n c, .bool b, .int .i64 nx, .int .i64 st] 54 (0, 0))).alloc (.cells #[.slice none 0 0, .bool false, .int .i64 0, .int .i64 0] 54 (0, 0))) (.int .i64 g) 3 0 _ rfl; simpa [Addr.add] using this)) (by have := HN.out; omega) (by simp)).mono ?_
  rintro e w2 ⟨v2, rfl, ho2, hb2⟩
  simp only [World.size_alloc] at ho2 hb2
  have hz2 := hb2.size
  simp only [World.size_alloc] at hz2
  have n2 : w2.heap[w.heap.size]? = some (.cells #[.slice a n c, .bool b, .int .i64 nx, .int .i64 st] 54 (0, 0)) := by
    rw [hb2.block _ (by omega), Below.heap_alloc _ _ _ (by simp; omega), Below.heap_alloc _ _ _ (by simp)]
    exact Deep.blk_alloc_new _ _
  have r2 : w2.heap[w.heap.size + 1]? = some (.cells #[.slice none 0 0, .bool false, .int .i64 0, .int .i64 0] 54 (0, 0)) := by
    rw [hb2.block _ (by omega), Below.heap_alloc _ _ _ (by simp)]
    have := Deep.blk_alloc_new (w.alloc (.cells #[.slice a n c, .bool b, .int .i64 nx, .int .i64 st] 54 (0, 0))) (.cells #[.slice none 0 0, .bool false, .int .i64 0, .int .i64 0] 54 (0, 0))
    simpa using this
  obtain ⟨va, vn, vc, rfl⟩ := ho2.slice3
  have HO := hid ho2
  have HB := hid hb2
  have j0 : w2.cell? ⟨w.heap.size, 0, none⟩ = some (.slice a n c) := cell_at n2 rfl
  have e0 : w2.frozen? ⟨w.heap.size, 0, none⟩ = false := free_at n2
  have j1 : w2.cell? ⟨w.heap.size, 1, none⟩ = some (.bool b) := cell_at n2 rfl
  have e1 : w2.frozen? ⟨w.heap.size, 1, none⟩ = false := free_at n2
  have j2 : w2.cell? ⟨w.heap.size, 2, none⟩ = some (.int .i64 nx) := cell_at n2 rfl
  have e2 : w2.frozen? ⟨w.heap.size, 2, none⟩ = false := free_at n2
  have j3 : w2.cell? ⟨w.heap.size, 3, none⟩ = some (.int .i64 st) := cell_at n2 rfl
  have e3 : w2.frozen? ⟨w.heap.size, 3, none⟩ = false := free_at n2
  have q0 : w2.cell? ⟨w.heap.size + 1, 0, none⟩ = some (.slice none 0 0) := cell_at r2 rfl
  have q1 : w2.cell? ⟨w.heap.size + 1, 1, none⟩ = some (.bool false) := cell_at r2 rfl
  have q2 : w2.cell? ⟨w.heap.size + 1, 2, none⟩ = some (.int .i64 0) := cell_at r2 rfl
  have q3 : w2.cell? ⟨w.heap.size + 1, 3, none⟩ = some (.int .i64 0) := cell_at r2 rfl
  have f0 := free_at (i := 0) r2
  have f1 := free_at (i := 1) r2
  have f2 := free_at (i := 2) r2
  have f3 := free_at (i := 3) r2
  have HN2 := hid n2
  have HR2 := hid r2
  clear ho2 hb2 n2 r2
  go_wp2_with fail
  refine bodyPost_ret (v := .tuple #[.agg #[.slice va vn vc, .bool b, .int .i64 nx, .int .i64 st], .slice none 0 0]) (by simp [results, Try.results76, go_sem, q0, q1, q2, q3]) rfl ⟨_, rfl, ?_, ?_⟩
  · exact (HO.out.mono (by omega)).kept (fun k hk => by
      have := (HO.out.lt k hk).1
      have k1 : k ≠ w.heap.size + 1 := by omega
      have k0 : k ≠ w.heap.size := by omega
      rw [Below.heap_setCell _ _ _ _ k1, Below.heap_setCell _ _ _ _ k1, Below.heap_setCell _ _ _ _ k1, Below.heap_setCell _ _ _ _ k1, Below.heap_setCell _ _ _ _ k0])
  · exact (((((HB0.out.trans (HB.out.mono (by omega))).setCell (Nat.le_refl _) _).setCell (by simp) _).setCell (by simp) _).setCell (by simp) _).setCell (by simp) _
end Go.Proofs.Ytciilbpchejpcaa
