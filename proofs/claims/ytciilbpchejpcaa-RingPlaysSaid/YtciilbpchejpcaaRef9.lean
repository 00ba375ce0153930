/- The document's ring as a value: Steal. -/
import Derived.Test.YtciilbpchejpcaaRef8
namespace Go.Proofs.Ytciilbpchejpcaa
set_option linter.unusedVariables false
set_option linter.unusedSimpArgs false
open Go.RowKit

/-- A new slice is told; the row is the end of the very slice. -/
def RefHalf (rv : Value) (ys ts : List Int) (b : Bool) (nx st : Int) (w : World) (e : Ending) (w' : World) : Prop :=
  ∃ rv' tv, e = .returned (.tuple #[.agg #[rv', .bool b, .int .i64 nx, .int .i64 st], tv]) ∧ Reads w' rv' ys ∧
    (∀ g o n c, rv' = .slice (some ⟨g, o, none⟩) n c → 0 < ys.length → ∃ o' n' c', rv = .slice (some ⟨g, o', none⟩) n' c') ∧ Owns w' w.heap.size tv ts ∧ Below w.heap.size w w'

set_option maxRecDepth 100000 in
set_option maxHeartbeats 4000000 in
theorem refsteal_some (rv : Value) (xs : List Int) (b : Bool) (nx st : Int) (K : Nat) (w : World) (h : Reads w rv xs) (hl : xs.length ≤ 256) (h0 : 0 < xs.length) (hK : K = xs.length - xs.length / 2) :
    Calls Try.prog 79 #[.agg #[rv, .bool b, .int .i64 nx, .int .i64 st]] w (RefHalf rv (xs.drop K) (xs.take K) b nx st w) := by
  obtain ⟨a, c, rfl, _⟩ := id h
  obtain ⟨n, hn⟩ : ∃ n, n = xs.length := ⟨_, rfl⟩
  have HN := hid hn
  have HR := hid h
  rw [← hn] at HR hl hK h0 ⊢
  have HK := hid hK
  have t : ((n : Int) == 0) = false := beq_eq_false_iff_ne.2 (by omega)
  have hd : (n : Int).tdiv 2 = ((n / 2 : Nat) : Int) := by rw [Int.tdiv_eq_ediv_of_nonneg (by omega)]; omega
  have hw1 : IntKind.i64.wrap ((n / 2 : Nat) : Int) = ((n / 2 : Nat) : Int) := IntWalk.i64_in _ (by omega)
  have hwr : IntKind.i64.wrap ((n : Int) - ((n / 2 : Nat) : Int)) = (n : Int) - ((n / 2 : Nat) : Int) := IntWalk.i64_in _ (by omega)
  obtain ⟨o1, ho1⟩ : ∃ o, o = Obj.cells #[.slice a n c, .bool b, .int .i64 nx, .int .i64 st] 54 (0, 0) := ⟨_, rfl⟩
  obtain ⟨o2, ho2⟩ : ∃ o, o = Obj.cells #[.slice none 0 0, .bool false, .int .i64 0, .int .i64 0] 54 (0, 0) := ⟨_, rfl⟩
  have HB0 := hid (((Below.refl w.heap.size w).alloc (Nat.le_refl _) o1).alloc (by simp) o2)
  subst ho1 ho2
  clear h hn hK
  go_enter Try.func79, Try.ntmps79
  go_wp2_with fail
  refine (rtake_any _ xs ((n : Int) - (n : Int) / 2) K (by have := HK.out; have := HN.out; omega) _ (HN.out ▸ HR.out.of_below HB0.out) (by have := HN.out; omega)).mono ?_
  rintro e w2 ⟨v1, v2, rfl, ho2, hrd2, hkin2, hb2⟩
  simp only [World.size_alloc] at ho2 hb2
  have hws := hb2.size
  simp only [World.size_alloc] at hws
  have n2 : w2.heap[w.heap.size]? = some (.cells #[.slice a n c, .bool b, .int .i64 nx, .int .i64 st] 54 (0, 0)) := by
    rw [hb2.block _ (by omega), Below.heap_alloc _ _ _ (by simp)]
    exact Deep.blk_alloc_new _ _
  have r2 : w2.heap[w.heap.size + 1]? = some (.cells #[.slice none 0 0, .bool false, .int .i64 0, .int .i64 0] 54 (0, 0)) := by
    rw [hb2.block _ (by omega)]
    have := Deep.blk_alloc_new (w.alloc (.cells #[.slice a n c, .bool b, .int .i64 nx, .int .i64 st] 54 (0, 0))) (.cells #[.slice none 0 0, .bool false, .int .i64 0, .int .i64 0] 54 (0, 0))
    simpa using this
  have HBW := hid (HB0.out.trans (hb2.mono (by omega)))
  have hrd := hrd2 w2 (HN.out ▸ HR.out.of_below HBW.out)
  obtain ⟨a1, m1, c1, rfl⟩ := ho2.slice3
  obtain ⟨a2, c2, rfl, _⟩ := id hrd
  obtain ⟨m2, hm2⟩ : ∃ m, m = (xs.drop K).length := ⟨_, rfl⟩
  rw [← hm2] at hrd hrd2 hkin2 ⊢
  have HO := hid ho2
  have HRD := hid hrd2
  have HKI := hid hkin2
  have HM2 := hid hm2
  have j0 : w2.cell? ⟨w.heap.size, 0, none⟩ = some (.slice a n c) := cell_at n2 rfl
  have e0 : w2.frozen? ⟨w.heap.size, 0, none⟩ = false := free_at n2
  have q0 : w2.cell? ⟨w.heap.size + 1, 0, none⟩ = some (.slice none 0 0) := cell_at r2 rfl
  have f0 : w2.frozen? ⟨w.heap.size + 1, 0, none⟩ = false := free_at r2
  have j1 : w2.cell? ⟨w.heap.size, 1, none⟩ = some (.bool b) := cell_at n2 rfl
  have e1 : w2.frozen? ⟨w.heap.size, 1, none⟩ = false := free_at n2
  have q1 : w2.cell? ⟨w.heap.size + 1, 1, none⟩ = some (.bool false) := cell_at r2 rfl
  have f1 : w2.frozen? ⟨w.heap.size + 1, 1, none⟩ = false := free_at r2
  have j2 : w2.cell? ⟨w.heap.size, 2, none⟩ = some (.int .i64 nx) := cell_at n2 rfl
  have e2 : w2.frozen? ⟨w.heap.size, 2, none⟩ = false := free_at n2
  have q2 : w2.cell? ⟨w.heap.size + 1, 2, none⟩ = some (.int .i64 0) := cell_at r2 rfl
  have f2 : w2.frozen? ⟨w.heap.size + 1, 2, none⟩ = false := free_at r2
  have j3 : w2.cell? ⟨w.heap.size, 3, none⟩ = some (.int .i64 st) := cell_at n2 rfl
  have e3 : w2.frozen? ⟨w.heap.size, 3, none⟩ = false := free_at n2
  have q3 : w2.cell? ⟨w.heap.size + 1, 3, none⟩ = some (.int .i64 0) := cell_at r2 rfl
  have f3 : w2.frozen? ⟨w.heap.size + 1, 3, none⟩ = false := free_at r2
  clear ho2 hb2 hrd hrd2 hkin2 hm2 n2 r2
  go_wp2_with fail
  have hF : Below w.heap.size w (((((w2.setCell ⟨w.heap.size, 0, none⟩ (.slice a2 m2 c2)).setCell ⟨w.heap.size + 1, 0, none⟩ (.slice a2 m2 c2)).setCell ⟨w.heap.size + 1, 1, none⟩ (.bool b)).setCell ⟨w.heap.size + 1, 2, none⟩ (.int .i64 nx)).setCell ⟨w.heap.size + 1, 3, none⟩ (.int .i64 st)) :=
    ((((HBW.out.setCell (Nat.le_refl _) _).setCell (by simp) _).setCell (by simp) _).setCell (by simp) _).setCell (by simp) _
  refine bodyPost_ret (v := .tuple #[.agg #[.slice a2 m2 c2, .bool b, .int .i64 nx, .int .i64 st], .slice a1 m1 c1]) (by simp [results, Try.results79, go_sem, q0, q1, q2, q3]) rfl ⟨_, _, rfl, HRD.out _ (HN.out ▸ HR.out.of_below hF), fun g o k c' he h0 => HKI.out g o k c' he (by rw [HM2.out]; exact h0), ?_, hF⟩
  exact (HO.out.mono (by omega)).kept (fun k hk => by
      have := (HO.out.lt k hk).1
      have k1 : k ≠ w.heap.size + 1 := by omega
      have k0 : k ≠ w.heap.size := by omega
      rw [Below.heap_setCell _ _ _ _ k1, Below.heap_setCell _ _ _ _ k1, Below.heap_setCell _ _ _ _ k1, Below.heap_setCell _ _ _ _ k1, Below.heap_setCell _ _ _ _ k0])

set_option maxHeartbeats 4000000 in
theorem refsteal_nothing (a : Option Addr) (c : Nat) (nx st : Int) (w : World) :
    Calls Try.prog 79 #[.agg #[.slice a 0 c, .bool false, .int .i64 nx, .int .i64 st]] w (fun e w' => e = .returned (.tuple #[.agg #[.slice a 0 c, .bool false, .int .i64 nx, .int .i64 st], .slice none 0 0]) ∧ Below w.heap.size w w') := by
  go_enter Try.func79, Try.ntmps79
  go_wp2_with fail
  exact bodyPost_ret (v := .tuple #[.agg #[.slice a 0 c, .bool false, .int .i64 nx, .int .i64 st], .slice none 0 0]) (by simp [results, Try.results79, go_sem]) rfl ⟨rfl, ((Below.refl _ _).alloc (Nat.le_refl _) _).alloc (by simp) _⟩
set_option maxHeartbeats 4000000 in
theorem refsteal_next (a : Option Addr) (c : Nat) (nx st : Int) (w : World) :
    Calls Try.prog 79 #[.agg #[.slice a 0 c, .bool true, .int .i64 nx, .int .i64 st]] w (fun e w' => ∃ tv, e = .returned (.tuple #[.agg #[.slice none 0 0, .bool false, .int .i64 0, .int .i64 0], tv]) ∧ Owns w' w.heap.size tv [nx] ∧ Below w.heap.size w w') := by
  go_enter Try.func79, Try.ntmps79
  go_wp2_with fail
  go_region
  go_wp2
  refine bodyPost_ret (v := .tuple #[.agg #[.slice none 0 0, .bool false, .int .i64 0, .int .i64 0], .slice (some ⟨w.heap.size + 1 + 1, 0, none⟩) 1 1]) (by simp [results, Try.results79, go_sem]) rfl ⟨_, rfl, ?_, (((Below.refl _ _).alloc (Nat.le_refl _) _).alloc (by simp) _).alloc (by simp; omega) _ |>.drew⟩
  have hb := Deep.blk_alloc_new ((w.alloc (.cells #[.slice a 0 c, .bool true, .int .i64 nx, .int .i64 st] 54 (0, 0))).alloc (.cells #[.slice none 0 0, .bool false, .int .i64 0, .int .i64 0] 54 (0, 0))) (.cells #[.int .i64 nx] 3 (0, 0))
  simp only [World.size_alloc] at hb
  exact ⟨by simp, .inr ⟨w.heap.size + 1 + 1, 1, #[.int .i64 nx], rfl, by omega, hb, Nat.le_refl _, by unfold maxLen; omega, rfl, by simp⟩⟩
end Go.Proofs.Ytciilbpchejpcaa
