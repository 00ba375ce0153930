/- Heap.Remove's test, slices.IndexFunc with it. -/
import Derived.Test.YthabcnjddeoebaaHeapC
namespace Go.Proofs.Ythabcnjddeoebaa
set_option linter.unusedVariables false
set_option linter.unusedSimpArgs false
open Go.RowKit

/-- Is it the goroutine's? -/
def isG (g : Int) (e : Int × Int × Int) : Bool := e.2.2 == g
set_option maxHeartbeats 4000000 in
theorem del_any (g e1 e2 e3 : Int) (X : Nat) (w : World) (hX : w.heap[X]? = some (.cells #[.int .i64 g] 3 (0, 0))) (r : Bool) (hr : (e3 == g) = r) :
    Calls Try.prog 38 #[.agg #[.int .i64 e1, .int .u64 e2, .int .i64 e3], .pointer (some ⟨X, 0, none⟩)] w fun e w' => e = .returned (.bool r) ∧ Below w.heap.size w w' := by
  have hl : X < w.heap.size := by obtain ⟨hl, _⟩ := Array.getElem?_eq_some_iff.1 hX; exact hl
  have hx : (w.alloc (.cells #[.int .i64 e1, .int .u64 e2, .int .i64 e3] 28)).cell? ⟨X, 0, none⟩ = some (.int .i64 g) := cell_ent ((Below.heap_alloc _ _ _ hl).trans hX) rfl
  have HB := hid ((Below.refl w.heap.size w).alloc (Nat.le_refl _) (.cells #[.int .i64 e1, .int .u64 e2, .int .i64 e3] 28))
  clear hX hl
  go_enter Try.func38, Try.ntmps38
  go_wp2
  go_ret
  exact ⟨rfl, HB.out⟩
/-- The first one, from a place on. -/
theorem idx_step {g : Int} {es : List (Int × Int × Int)} {k : Nat} (hk : k < es.length) (h : ∀ i, i < k → isG g (enAt es i) = false) :
    (isG g (enAt es k) = true → es.findIdx (isG g) = k) ∧ (isG g (enAt es k) = false → ∀ i, i < k + 1 → isG g (enAt es i) = false) := by
  refine ⟨fun h1 => ?_, fun h1 i hi => ?_⟩
  · rw [enAt_get hk] at h1
    refine (List.findIdx_eq hk).2 ⟨h1, fun j hj => ?_⟩
    have := h j hj
    rw [enAt_get (by omega)] at this
    simp [this]
  · by_cases e : i = k
    · rw [e]; exact h1
    · exact h i (by omega)
theorem idx_none {g : Int} {es : List (Int × Int × Int)} (h : ∀ i, i < es.length → isG g (enAt es i) = false) : es.findIdx (isG g) = es.length := by
  rw [List.findIdx_eq_length]
  intro x hx
  obtain ⟨i, hi, rfl⟩ := List.mem_iff_getElem.1 hx
  have := h i hi
  rw [enAt_get hi] at this
  exact this
/-- What IndexFunc answers. -/
def IxPost (g : Int) (es : List (Int × Int × Int)) (w : World) (e : Ending) (w' : World) : Prop :=
  e = .returned (.int .i64 (if es.findIdx (isG g) = es.length then -1 else (es.findIdx (isG g) : Nat))) ∧ Below w.heap.size w w'
theorem ret_ix {z : Int} {y : Int} (h : y = z) : Ending.returned (.int .i64 z) = .returned (.int .i64 y) := by rw [h]
set_option maxHeartbeats 4000000 in
theorem hindex (gr n c : Nat) (a : Option Addr) (es : List (Int × Int × Int)) (g : Int) (X : Nat) (w : World) (hn : es.length = n) (hl : n ≤ 100000) (hX : w.heap[X]? = some (.cells #[.int .i64 g] 3 (0, 0)))
    (ha : 0 < n → a = some ⟨gr, 0, none⟩) (hnc : n ≤ c) (hcm : c ≤ maxLen)
    (hc : ∀ i, i < n → gr < w.heap.size ∧ w.cell? ⟨gr, i * 3, none⟩ = some (.int .i64 (enAt es i).1) ∧ w.cell? ⟨gr, i * 3 + 1, none⟩ = some (.int .u64 (enAt es i).2.1) ∧ w.cell? ⟨gr, i * 3 + 2, none⟩ = some (.int .i64 (enAt es i).2.2)) :
    Calls Try.prog 47 #[.slice a n c, .func (.func 38) #[] #[.pointer (some ⟨X, 0, none⟩)]] w (IxPost g es w) := by
  have HC := hid hc
  have HN := hid hn
  have HX := hid hX
  have HAd := hid ha
  unfold maxLen at hcm
  clear hc hn hX ha
  go_enter Try.func47, Try.ntmps47
  go_wp2_with fail
  go_loopw [8] (fun i wr => ∃ (k : Nat), k ≤ n ∧ i = .int .i64 k ∧ Hid (∀ i, i < k → isG g (enAt es i) = false) ∧ Hid (Below w.heap.size w wr))
    (fun i _ => n - (intOf i).toNat)
  case atStart => exact ⟨0, by omega, rfl, hid (fun i hi => by omega), hid (Below.refl _ _)⟩
  case round =>
    obtain ⟨k, hk, rfl, hno, hbr⟩ := hrel
    by_cases hlt : k < n
    · have hae := HAd.out (by omega)
      subst hae
      obtain ⟨hg, q0, q1, q2⟩ := HC.out k hlt
      obtain ⟨x1, x2, x3, hx⟩ : ∃ x1 x2 x3, enAt es k = (x1, x2, x3) := ⟨_, _, _, rfl⟩
      rw [hx] at q0 q1 q2
      have r0 := (hbr.out.cell (p := ⟨gr, k * 3, none⟩) hg).trans q0
      have r1 := (hbr.out.cell (p := ⟨gr, k * 3 + 1, none⟩) hg).trans q1
      have r2 := (hbr.out.cell (p := ⟨gr, k * 3 + 2, none⟩) hg).trans q2
      have IS := hid (idx_step (g := g) (show k < es.length by have := HN.out; omega) hno.out)
      rw [hx] at IS
      have XR : wr.heap[X]? = some (.cells #[.int .i64 g] 3 (0, 0)) := (hbr.out.block _ (by obtain ⟨hl, _⟩ := Array.getElem?_eq_some_iff.1 HX.out; exact hl)).trans HX.out
      have hkl : ¬ k = es.length := by have := HN.out; omega
      have HKL := hid hkl
      clear q0 q1 q2 hx hg hkl
      cases hr : (x3 == g)
      · have DA := hid (del_any g x1 x2 x3 X wr XR false hr)
        have HR := hid hr
        clear XR hr
        go_wp2_with fail
        refine (DA.out).mono ?_
        rintro e w5 ⟨rfl, hb5⟩
        have HB5 := hid (hbr.out.trans (hb5.mono hbr.out.size))
        clear hb5 DA r0 r1 r2 hbr
        go_wp2
        go_roundw
        case rel => exact ⟨k + 1, by omega, by go_num, hid (IS.out.2 HR.out), HB5⟩
        case measure => simp [intOf]; omega
      · have DA := hid (del_any g x1 x2 x3 X wr XR true hr)
        have HR := hid hr
        clear XR hr
        go_wp2_with fail
        refine (DA.out).mono ?_
        rintro e w5 ⟨rfl, hb5⟩
        have HB5 := hid (hbr.out.trans (hb5.mono hbr.out.size))
        clear hb5 DA r0 r1 r2 hbr
        go_wp2
        go_ret
        exact ⟨ret_ix (by rw [IS.out.1 HR.out, if_neg HKL.out]), HB5.out⟩
    · have hkn : k = es.length := by have := HN.out; omega
      have IN := hid (idx_none (g := g) (es := es) (by rw [← hkn]; exact hno.out))
      clear hkn
      go_wp2
      go_ret
      exact ⟨ret_ix (by rw [IN.out, if_pos rfl]), hbr.out⟩
end Go.Proofs.Ythabcnjddeoebaa
