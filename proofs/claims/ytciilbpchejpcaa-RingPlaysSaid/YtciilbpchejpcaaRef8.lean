/- The document's ring as a value: PutAll. -/
import Derived.Test.YtciilbpchejpcaaRef7
namespace Go.Proofs.Ytciilbpchejpcaa
set_option linter.unusedVariables false
set_option linter.unusedSimpArgs false
open Go.RowKit

/-- The document's PutAll: the row is new; the rest is the end of the very slice that was given. -/
def RefPutAll (lv : Value) (ys rs : List Int) (b : Bool) (nx st : Int) (w : World) (e : Ending) (w' : World) : Prop :=
  ∃ rv tv, e = .returned (.tuple #[.agg #[rv, .bool b, .int .i64 nx, .int .i64 st], tv]) ∧ Owns w' w.heap.size rv ys ∧ Reads w' tv rs ∧
    (∀ g o n c, tv = .slice (some ⟨g, o, none⟩) n c → 0 < rs.length → ∃ o' n' c', lv = .slice (some ⟨g, o', none⟩) n' c') ∧ Below w.heap.size w w'

set_option maxRecDepth 100000 in
set_option maxHeartbeats 4000000 in
theorem refputall_any (rv lv : Value) (xs ys : List Int) (b : Bool) (nx st : Int) (K : Nat) (w : World) (h : Reads w rv xs) (hy : Reads w lv ys) (hl : xs.length ≤ 256) (hyl : ys.length ≤ 10000) (hK : (K : Int) = min (max (256 - xs.length) 0) ys.length) :
    Calls Try.prog 78 #[.agg #[rv, .bool b, .int .i64 nx, .int .i64 st], lv] w (RefPutAll lv (xs ++ ys.take K) (ys.drop K) b nx st w) := by
  obtain ⟨a, c, rfl, _⟩ := id h
  obtain ⟨la, lc, rfl, _⟩ := id hy
  obtain ⟨n, hn⟩ : ∃ n, n = xs.length := ⟨_, rfl⟩
  obtain ⟨m, hm⟩ : ∃ m, m = ys.length := ⟨_, rfl⟩
  have HN := hid hn
  have HM := hid hm
  have HR := hid h
  have HY := hid hy
  have HK := hid hK
  rw [← hn] at HR hl HK
  rw [← hm] at HY hyl
  rw [← hn, ← hm]
  have hwr : IntKind.i64.wrap (256 - (n : Int)) = 256 - (n : Int) := IntWalk.i64_in _ (by omega)
  obtain ⟨o1, ho1⟩ : ∃ o, o = Obj.cells #[.slice a n c, .bool b, .int .i64 nx, .int .i64 st] 54 (0, 0) := ⟨_, rfl⟩
  obtain ⟨o2, ho2⟩ : ∃ o, o = Obj.cells #[.slice none 0 0, .bool false, .int .i64 0, .int .i64 0] 54 (0, 0) := ⟨_, rfl⟩
  have HB0 := hid (((Below.refl w.heap.size w).alloc (Nat.le_refl _) o1).alloc (by simp) o2)
  subst ho1 ho2
  clear h hn hy hm hK
  go_enter Try.func78, Try.ntmps78
  go_wp2_with fail
  refine (rtake_any _ ys (256 - (n : Int)) K (by have := HK.out; have := HN.out; omega) _ (HM.out ▸ HY.out.of_below HB0.out) (by have := HM.out; omega)).mono ?_
  rintro e w2 ⟨v1, v2, rfl, ho2, hrd2, hkin2, hb2⟩
  simp only [World.size_alloc] at ho2 hb2
  have hws := hb2.size
  simp only [World.size_alloc] at hws
  have n2 : w2.heap[w.heap.size]? = some (.cells #[.slice a n c, .bool b, .int .i64 nx, .int .i64 st] 54 (0, 0)) := by
    rw [hb2.block _ (by omega), Below.heap_alloc _ _ _ (by simp)]
    exact Deep.blk_alloc_new _ _
  have r2 : w2.heap[w.heap.size + 1]? = some (.cells #[.slice none 0 0, .bool false, .int .i64 0, .int .i64 0] 54 (0, 0)) := by
    rw [hb2.block _ (by omega)]
    have := Deep.blk_alloc_new (w.alloc (.cells #[.slice a n c, .bool b, .int .i64 nx, .int .i64 st] 54 (0, 0))) (.cells #[.slice none 0 0, .bool false, .int .i64 0, .int .i64 0] 54 (0, 0))
    simpa using this
  have HBW := hid (HB0.out.trans (hb2.mono (by omega)))
  have hrd := hrd2 w2 (HM.out ▸ HY.out.of_below HBW.out)
  obtain ⟨a1, m1, c1, rfl⟩ := ho2.slice3
  obtain ⟨a2, c2, rfl, _⟩ := id hrd
  obtain ⟨m2, hm2⟩ : ∃ m, m = (ys.drop K).length := ⟨_, rfl⟩
  rw [← hm2] at hrd hrd2 hkin2 ⊢
  have HO := hid ho2
  have HRD := hid hrd2
  have HKI := hid hkin2
  have HM2 := hid hm2
  have HN2 := hid n2
  have HR2 := hid r2
  have j0 : w2.cell? ⟨w.heap.size, 0, none⟩ = some (.slice a n c) := cell_at n2 rfl
  have e0 : w2.frozen? ⟨w.heap.size, 0, none⟩ = false := free_at n2
  have q0 : w2.cell? ⟨w.heap.size + 1, 0, none⟩ = some (.slice none 0 0) := cell_at r2 rfl
  have f0 : w2.frozen? ⟨w.heap.size + 1, 0, none⟩ = false := free_at r2
  have j1 : w2.cell? ⟨w.heap.size, 1, none⟩ = some (.bool b) := cell_at n2 rfl
  have e1 : w2.frozen? ⟨w.heap.size, 1, none⟩ = false := free_at n2
  have q1 : w2.cell? ⟨w.heap.size + 1, 1, none⟩ = some (.bool false) := cell_at r2 rfl
  have f1 : w2.frozen? ⟨w.heap.size + 1, 1, none⟩ = false := free_at r2
  have j2 : w2.cell? ⟨w.heap.size, 2, none⟩ = some (.int .i64 nx) := cell_at n2 rfl
  have e2 : w2.frozen? ⟨w.heap.size, 2, none⟩ = false := free_at n2
  have q2 : w2.cell? ⟨w.heap.size + 1, 2, none⟩ = some (.int .i64 0) := cell_at r2 rfl
  have f2 : w2.frozen? ⟨w.heap.size + 1, 2, none⟩ = false := free_at r2
  have j3 : w2.cell? ⟨w.heap.size, 3, none⟩ = some (.int .i64 st) := cell_at n2 rfl
  have e3 : w2.frozen? ⟨w.heap.size, 3, none⟩ = false := free_at n2
  have q3 : w2.cell? ⟨w.heap.size + 1, 3, none⟩ = some (.int .i64 0) := cell_at r2 rfl
  have f3 : w2.frozen? ⟨w.heap.size + 1, 3, none⟩ = false := free_at r2
  clear ho2 hb2 hrd hrd2 hkin2 hm2 n2 r2
  go_wp2_with fail
  refine (join_any _ _ xs (ys.take K) _ (HN.out ▸ HR.out.of_below HBW.out) HO.out.reads (by have := HN.out; omega) (by have := HM.out; rw [List.length_take]; omega)).mono ?_
  rintro e w3 ⟨v3, rfl, ho3, hb3⟩
  obtain ⟨va, vn, vc, rfl⟩ := ho3.slice3
  have n3 := box_kept HN2.out hb3
  have r3 := box_kept HR2.out hb3
  have HO3 := hid ho3
  have HB3 := hid hb3
  clear j0 e0 j1 e1 j2 e2 j3 e3 q0 f0 q1 f1 q2 f2 q3 f3
  have j0 : w3.cell? ⟨w.heap.size, 0, none⟩ = some (.slice a n c) := cell_at n3 rfl
  have e0 : w3.frozen? ⟨w.heap.size, 0, none⟩ = false := free_at n3
  have q0 : w3.cell? ⟨w.heap.size + 1, 0, none⟩ = some (.slice none 0 0) := cell_at r3 rfl
  have f0 : w3.frozen? ⟨w.heap.size + 1, 0, none⟩ = false := free_at r3
  have j1 : w3.cell? ⟨w.heap.size, 1, none⟩ = some (.bool b) := cell_at n3 rfl
  have e1 : w3.frozen? ⟨w.heap.size, 1, none⟩ = false := free_at n3
  have q1 : w3.cell? ⟨w.heap.size + 1, 1, none⟩ = some (.bool false) := cell_at r3 rfl
  have f1 : w3.frozen? ⟨w.heap.size + 1, 1, none⟩ = false := free_at r3
  have j2 : w3.cell? ⟨w.heap.size, 2, none⟩ = some (.int .i64 nx) := cell_at n3 rfl
  have e2 : w3.frozen? ⟨w.heap.size, 2, none⟩ = false := free_at n3
  have q2 : w3.cell? ⟨w.heap.size + 1, 2, none⟩ = some (.int .i64 0) := cell_at r3 rfl
  have f2 : w3.frozen? ⟨w.heap.size + 1, 2, none⟩ = false := free_at r3
  have j3 : w3.cell? ⟨w.heap.size, 3, none⟩ = some (.int .i64 st) := cell_at n3 rfl
  have e3 : w3.frozen? ⟨w.heap.size, 3, none⟩ = false := free_at n3
  have q3 : w3.cell? ⟨w.heap.size + 1, 3, none⟩ = some (.int .i64 0) := cell_at r3 rfl
  have f3 : w3.frozen? ⟨w.heap.size + 1, 3, none⟩ = false := free_at r3
  have hw3 := hb3.size
  clear ho3 hb3 n3 r3
  go_wp2_with fail
  have hF : Below w.heap.size w (((((w3.setCell ⟨w.heap.size, 0, none⟩ (.slice va vn vc)).setCell ⟨w.heap.size + 1, 0, none⟩ (.slice va vn vc)).setCell ⟨w.heap.size + 1, 1, none⟩ (.bool b)).setCell ⟨w.heap.size + 1, 2, none⟩ (.int .i64 nx)).setCell ⟨w.heap.size + 1, 3, none⟩ (.int .i64 st)) :=
    (((((HBW.out.trans (HB3.out.mono (by omega))).setCell (Nat.le_refl _) _).setCell (by simp) _).setCell (by simp) _).setCell (by simp) _).setCell (by simp) _
  refine bodyPost_ret (v := .tuple #[.agg #[.slice va vn vc, .bool b, .int .i64 nx, .int .i64 st], .slice a2 m2 c2]) (by simp [results, Try.results78, go_sem, q0, q1, q2, q3]) rfl ⟨_, _, rfl, ?_, HRD.out _ (HM.out ▸ HY.out.of_below hF), fun g o k c' he h0 => HKI.out g o k c' he (by rw [HM2.out]; exact h0), hF⟩
  exact (HO3.out.mono (by omega)).kept (fun k hk => by
      have := (HO3.out.lt k hk).1
      have k1 : k ≠ w.heap.size + 1 := by omega
      have k0 : k ≠ w.heap.size := by omega
      rw [Below.heap_setCell _ _ _ _ k1, Below.heap_setCell _ _ _ _ k1, Below.heap_setCell _ _ _ _ k1, Below.heap_setCell _ _ _ _ k1, Below.heap_setCell _ _ _ _ k0])
end Go.Proofs.Ytciilbpchejpcaa
