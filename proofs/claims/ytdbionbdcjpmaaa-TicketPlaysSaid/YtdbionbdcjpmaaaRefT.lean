/- The document's lock: Take. -/
import Derived.Test.YtdbionbdcjpmaaaRef03
import Derived.Test.YtdbionbdcjpmaaaOffM
namespace Go.Proofs.Ytdbionbdcjpmaaa
set_option linter.unusedVariables false
set_option linter.unusedSimpArgs false
open Go.RowKit

/-- What Take answers. -/
def TkPost (nx : Int) (xs : List Value) (w : World) (e : Ending) (w' : World) : Prop :=
  ∃ a c, e = .returned (.tuple #[.agg #[.int .u64 (U (nx + 1)), .slice a (xs.length + 1) c], .int .u64 nx]) ∧ Offs w' w.heap.size 30 (.slice a (xs.length + 1) c) (xs ++ [.int .u64 nx]) ∧ Below w.heap.size w w'
/-- The box and the result's cells are there; what was there is as it was. -/
structure Kp (w y : World) (nx : Int) (a : Option Addr) (n c : Nat) : Prop where
  below : Below w.heap.size w y
  box : y.heap[w.heap.size]? = some (.cells #[.int .u64 nx, .slice a n c] 45 (0, 0))
  res : y.heap[w.heap.size + 1]? = some (.cells #[.int .u64 0, .slice none 0 0] 45 (0, 0))
  size : w.heap.size + 2 ≤ y.heap.size
namespace Kp
variable {w y y' : World} {nx : Int} {a : Option Addr} {n c : Nat}
theorem s (h : Kp w y nx a n c) : y.cell? ⟨w.heap.size, 0, none⟩ = some (.int .u64 nx) ∧ y.cell? ⟨w.heap.size, 1, none⟩ = some (.slice a n c) := ⟨cell_of_blk h.box rfl, cell_of_blk h.box rfl⟩
theorem r (h : Kp w y nx a n c) : (y.cell? ⟨w.heap.size + 1, 0, none⟩ = some (.int .u64 0) ∧ y.cell? ⟨w.heap.size + 1, 1, none⟩ = some (.slice none 0 0)) ∧ y.frozen? ⟨w.heap.size + 1, 0, none⟩ = false ∧ y.frozen? ⟨w.heap.size + 1, 1, none⟩ = false :=
  ⟨⟨cell_of_blk h.res rfl, cell_of_blk h.res rfl⟩, by simp [World.frozen?, h.res], by simp [World.frozen?, h.res]⟩
theorem grown {row : Option Nat} (h : Kp w y nx a n c) (hg : y.grownBy y' row) (hr : ∀ q, row = some q → w.heap.size + 2 ≤ q) : Kp w y' nx a n c := by
  have hs := h.size
  have hs2 := hg.size
  exact ⟨h.below.grown hg (by omega) (fun q hq => by have := hr q hq; omega), (hg.block _ (by omega) (fun e => by have := hr _ e.symm; omega)).trans h.box, (hg.block _ (by omega) (fun e => by have := hr _ e.symm; omega)).trans h.res, by omega⟩
theorem alloc (h : Kp w y nx a n c) (o : Obj) : Kp w (y.alloc o) nx a n c := h.grown (World.grownBy_alloc y o none) (by simp)
theorem drew (h : Kp w y nx a n c) : Kp w y.drew nx a n c := ⟨h.below.trans (Quiet.below ⟨1, rfl⟩ _), h.box, h.res, h.size⟩
theorem stored (h : Kp w y nx a n c) (u1 u2 : Value) : ((y.setCell ⟨w.heap.size + 1, 0, none⟩ u1).setCell ⟨w.heap.size + 1, 1, none⟩ u2).cell? ⟨w.heap.size, 0, none⟩ = some (.int .u64 nx) ∧ ((y.setCell ⟨w.heap.size + 1, 0, none⟩ u1).setCell ⟨w.heap.size + 1, 1, none⟩ u2).cell? ⟨w.heap.size, 1, none⟩ = some (.slice a n c) := by
  have e : ((y.setCell ⟨w.heap.size + 1, 0, none⟩ u1).setCell ⟨w.heap.size + 1, 1, none⟩ u2).heap[w.heap.size]? = y.heap[w.heap.size]? := by
    rw [Below.heap_setCell _ _ _ _ (by show w.heap.size ≠ w.heap.size + 1; omega), Below.heap_setCell _ _ _ _ (by show w.heap.size ≠ w.heap.size + 1; omega)]
  exact ⟨cell_of_blk (e.trans h.box) rfl, cell_of_blk (e.trans h.box) rfl⟩
theorem fin (h : Kp w y nx a n c) (u1 u2 : Value) : Below w.heap.size w ((y.setCell ⟨w.heap.size + 1, 0, none⟩ u1).setCell ⟨w.heap.size + 1, 1, none⟩ u2) ∧ ((y.setCell ⟨w.heap.size + 1, 0, none⟩ u1).setCell ⟨w.heap.size + 1, 1, none⟩ u2).heap[w.heap.size + 1]? = some (.cells #[u1, u2] 45 (0, 0)) ∧
    ∀ k, k ≠ w.heap.size + 1 → ((y.setCell ⟨w.heap.size + 1, 0, none⟩ u1).setCell ⟨w.heap.size + 1, 1, none⟩ u2).heap[k]? = y.heap[k]? := by
  refine ⟨(h.below.setCell (by simp) _).setCell (by simp) _, by simp [World.setCell, Array.getElem?_modify, h.res], fun k hk => ?_⟩
  rw [Below.heap_setCell _ _ _ _ hk, Below.heap_setCell _ _ _ _ hk]
end Kp
theorem cell_new1 (w : World) (x : Value) (t : TypeId) : (w.alloc (.cells #[x] t)).cell? ⟨w.heap.size, 0, none⟩ = some x := by simp
/-- The first append's outcome. -/
def Out1 (w : World) (nx : Int) (a : Option Addr) (n c : Nat) (us : List Value) (X : World → Prop) (v1 : Value) (y1 : World) : Prop :=
  Kp w y1 nx a n c ∧ Offs y1 w.heap.size 30 v1 us ∧ (∀ q, v1.ownBlock = some q → w.heap.size + 2 ≤ q) ∧ X y1
def Out2 (w : World) (nx : Int) (a : Option Addr) (n c : Nat) (us : List Value) (v2 : Value) (y2 : World) : Prop :=
  ∃ a2 c2, v2 = .slice a2 (us.length + 1) c2 ∧ Kp w y2 nx a n c ∧ Offs y2 w.heap.size 30 v2 (us ++ [.int .u64 nx]) ∧ (∀ q, v2.ownBlock = some q → w.heap.size + 2 ≤ q)
theorem app1 (w y : World) (nx : Int) (base n c : Nat) (a : Option Addr) (us : List Value) (hr : Offs w base 30 (.slice a n c) us) (h1 : ∀ u ∈ us, u.oneCell' = true) (hl : us.length ≤ 1000000) (hk : Kp w y nx a n c) (g : Nat)
    (hg : y.heap[g]? = some (.cells #[] 30 (0, 0))) (hgb : w.heap.size + 2 ≤ g) (X : World → Prop) (hX : ∀ y1, y.grownBy y1 none → X y1) :
    Hid (∃ v' w', (Builtin.append_ #[26, 26] 26 #[.slice (some ⟨g, 0, none⟩) 0 0, .slice a n c]).run Try.prog y = .ok v' w' ∧ Out1 w nx a n c us X v' w') := by
  obtain ⟨i0, hi, hz0, hz1, hz2⟩ := info_parts infoU64
  have hlt := hr.lt
  have hry : Offs y base 30 (.slice a n c) us := hr.kept (fun q hq => hk.below.block _ (hlt q hq).2)
  have hs := hk.size
  obtain ⟨v', w', hrun, h2, h3, h4⟩ := run_append_fresh (P := Try.prog) y w.heap.size 26 26 30 i0 _ 8 Try.underlying26 hi hz0 hz1 hz2 rfl g hg (by omega) (.slice a n c) us (hry.src Try.underlying26 h1)
    (by unfold maxLen; omega) (by omega) (by omega)
  refine ⟨v', w', hrun, hk.grown h3 (by simp), h2, fun q hq => ?_, hX _ h3⟩
  rcases h4 with h4 | h4
  · rw [h4] at hq; cases hq; omega
  · rw [h4] at hq; cases hq; omega
theorem app2 (w y : World) (nx : Int) (n c : Nat) (a : Option Addr) (us : List Value) (v1 : Value) (hl : us.length ≤ 1000000) (hk : Kp w y nx a n c) (hv : Offs y w.heap.size 30 v1 us) (hf : ∀ q, v1.ownBlock = some q → w.heap.size + 2 ≤ q) (gx : Nat) (hx : y.cell? ⟨gx, 0, none⟩ = some (.int .u64 nx)) :
    ∃ v' w', (Builtin.append_ #[26, 26] 26 #[v1, .slice (some ⟨gx, 0, none⟩) 1 1]).run Try.prog y = .ok v' w' ∧ Out2 w nx a n c us v' w' := by
  obtain ⟨i0, hi, hz0, hz1, hz2⟩ := info_parts infoU64
  have hs := hk.size
  obtain ⟨v', w', hrun, h2, h3, h4⟩ := run_append_offs (P := Try.prog) y w.heap.size 26 26 30 i0 _ 8 Try.underlying26 hi hz0 hz1 hz2 rfl v1 us hv ⟨gx, 0, none⟩ 1 (.int .u64 nx) hx rfl (by unfold maxLen; omega) (by omega) (by omega)
  obtain ⟨a2, c2, e⟩ := h2.slice
  rw [List.length_append, List.length_singleton] at e
  refine ⟨v', w', hrun, a2, c2, e, hk.grown h3 hf, h2, fun q hq => ?_⟩
  rcases h4 with h4 | h4
  · exact hf q (h4 ▸ hq)
  · rw [h4] at hq; cases hq; omega

set_option maxHeartbeats 4000000 in
theorem reftake (nx : Int) (base n c : Nat) (a : Option Addr) (us : List Value) (w : World) (hr : Offs w base 30 (.slice a n c) us) (h1 : ∀ u ∈ us, u.oneCell' = true) (hl : us.length ≤ 1000000) :
    Calls Try.prog 16 #[.agg #[.int .u64 nx, .slice a n c]] w (TkPost nx us w) := by
  have K0 : Kp w ((w.alloc (.cells #[.int .u64 nx, .slice a n c] 45)).alloc (.cells #[.int .u64 0, .slice none 0 0] 45)) nx a n c := by
    refine ⟨((Below.refl w.heap.size w).alloc (Nat.le_refl _) _).alloc (by simp) _, (Below.heap_alloc _ _ _ (by simp)).trans (Deep.blk_alloc_new _ _), ?_, by simp⟩
    have := Deep.blk_alloc_new (w.alloc (.cells #[.int .u64 nx, .slice a n c] 45)) (.cells #[.int .u64 0, .slice none 0 0] 45)
    rw [World.size_alloc] at this
    exact this
  obtain ⟨w2, hw2⟩ : ∃ y, y = ((w.alloc (.cells #[.int .u64 nx, .slice a n c] 45)).alloc (.cells #[.int .u64 0, .slice none 0 0] 45)) := ⟨_, rfl⟩
  rw [← hw2] at K0
  have hsz : w2.heap.size = w.heap.size + 2 := by rw [hw2]; simp
  have AP1 := app1 w (w2.alloc (.cells #[] 30)).drew nx base n c a us hr h1 hl (K0.alloc _).drew (w.heap.size + 2) (by rw [← hsz]; exact Deep.blk_alloc_new _ _) (Nat.le_refl _) (fun _ => True) (fun _ _ => trivial)
  have AP2 := app1 w ((w2.alloc (.cells #[] 30)).alloc (.cells #[.int .u64 nx] 30)).drew nx base n c a us hr h1 hl ((K0.alloc _).alloc _).drew (w.heap.size + 2) (by rw [← hsz]; exact (Below.heap_alloc _ _ _ (by simp)).trans (Deep.blk_alloc_new _ _)) (Nat.le_refl _)
    (fun y1 => y1.cell? ⟨w.heap.size + 3, 0, none⟩ = some (.int .u64 nx)) (fun y1 hg => by
      have := Deep.blk_alloc_new (w2.alloc (.cells #[] 30)) (.cells #[.int .u64 nx] 30)
      rw [World.size_alloc, hsz] at this
      exact cell_of_blk ((hg.block _ (by show _ < ((w2.alloc _).alloc _).heap.size; simp; omega) (by simp)).trans this) rfl)
  have AP3 := app1 w ((w2.alloc (.cells #[.int .u64 nx] 30)).alloc (.cells #[] 30)).drew nx base n c a us hr h1 hl ((K0.alloc _).alloc _).drew (w.heap.size + 3) (by
      have := Deep.blk_alloc_new (w2.alloc (.cells #[.int .u64 nx] 30)) (.cells #[] 30)
      rw [World.size_alloc, hsz] at this
      exact this) (by omega)
    (fun y1 => y1.cell? ⟨w.heap.size + 2, 0, none⟩ = some (.int .u64 nx)) (fun y1 hg => by
      have := (Below.heap_alloc (w2.alloc (.cells #[.int .u64 nx] 30)) (.cells #[] 30) w2.heap.size (by simp)).trans (Deep.blk_alloc_new w2 (.cells #[.int .u64 nx] 30))
      rw [hsz] at this
      exact cell_of_blk ((hg.block _ (by show _ < ((w2.alloc _).alloc _).heap.size; simp; omega) (by simp)).trans this) rfl)
  have KA := hid (fun p => (K0.alloc p).drew.s)
  have KB := hid (fun p q => ((K0.alloc p).alloc q).drew.s)
  have K0' := hid K0.drew.s
  subst hw2
  have HL := hid hl
  clear K0 hsz hr h1 hl
  go_enter Try.func16, Try.ntmps16
  go_wp2_with fail
  go_region_held3 (fun w' => w'.cell? ⟨w.heap.size, 0, none⟩ = some (.int .u64 nx) ∧ w'.cell? ⟨w.heap.size, 1, none⟩ = some (.slice a n c))
    (first
      | with_reducible exact K0'.out
      | with_reducible exact KA.out _
      | with_reducible exact KB.out _ _
      | with_reducible exact K2.out.stored _ _
      | with_reducible exact K2.out.s
      | with_reducible exact (K1.out.alloc _).s
      | with_reducible exact K1.out.s)
    (first
      | (refine step_app (by rfl) (Operand.tmp 10) (Operand.tmp 13) _ (by rfl) _ (by rfl) _ _ (by rfl) (by rfl) (app2 w _ nx n c a us _ HL.out K1.out O1.out F1.out _ X1.out) ?_; rintro v2 y2 ⟨a2, c2, rfl, k2, o2, f2⟩; obtain ⟨⟨r0, r1⟩, r2, r3⟩ := k2.r; have K2 := hid k2; have O2 := hid o2; have F2 := hid f2; clear k2 o2 f2)
      | (refine step_app (by rfl) (Operand.tmp 10) (Operand.tmp 13) _ (by rfl) _ (by rfl) _ _ (by rfl) (by rfl) (app2 w _ nx n c a us _ HL.out (K1.out.alloc _) (O1.out.alloc _) F1.out _ (cell_new1 _ _ _)) ?_; rintro v2 y2 ⟨a2, c2, rfl, k2, o2, f2⟩; obtain ⟨⟨r0, r1⟩, r2, r3⟩ := k2.r; have K2 := hid k2; have O2 := hid o2; have F2 := hid f2; clear k2 o2 f2)
      | ((with_reducible refine step_app ?_ (Operand.tmp 7) (Operand.tmp 9) _ ?_ _ ?_ _ _ ?_ ?_ AP1.out ?_); rfl; rfl; rfl; rfl; rfl; rintro v1 y1 ⟨k1, o1, f1, x1⟩; have K1 := hid k1; have O1 := hid o1; have F1 := hid f1; have X1 := hid x1; clear k1 o1 f1 x1)
      | ((with_reducible refine step_app ?_ (Operand.tmp 7) (Operand.tmp 9) _ ?_ _ ?_ _ _ ?_ ?_ AP2.out ?_); rfl; rfl; rfl; rfl; rfl; rintro v1 y1 ⟨k1, o1, f1, x1⟩; have K1 := hid k1; have O1 := hid o1; have F1 := hid f1; have X1 := hid x1; clear k1 o1 f1 x1)
      | ((with_reducible refine step_app ?_ (Operand.tmp 7) (Operand.tmp 9) _ ?_ _ ?_ _ _ ?_ ?_ AP3.out ?_); rfl; rfl; rfl; rfl; rfl; rintro v1 y1 ⟨k1, o1, f1, x1⟩; have K1 := hid k1; have O1 := hid o1; have F1 := hid f1; have X1 := hid x1; clear k1 o1 f1 x1))
  all_goals
    obtain ⟨hb, hc, hk⟩ := K2.out.fin (.int .u64 (IntKind.u64.wrap (nx + 1))) (.slice a2 (us.length + 1) c2)
    have H := hid (⟨hb, O2.out.kept (fun q hq => hk q (by have := F2.out q hq; omega))⟩ : Below w.heap.size w _ ∧ Offs _ w.heap.size 30 _ _)
    have d0 := cell_of_blk (i := 0) hc rfl
    have d1 := cell_of_blk (i := 1) hc rfl
    clear hb hc hk K2 O2 F2
    generalize (y2.setCell ⟨w.heap.size + 1, 0, none⟩ (.int .u64 (IntKind.u64.wrap (nx + 1)))).setCell ⟨w.heap.size + 1, 1, none⟩ (.slice a2 (us.length + 1) c2) = W at *
    go_wp2
    refine bodyPost_ret (v := .tuple #[.agg #[.int .u64 (IntKind.u64.wrap (nx + 1)), .slice a2 (us.length + 1) c2], .int .u64 nx]) (by simp [results, Try.results16, go_sem, d0, d1]) rfl ⟨a2, c2, rfl, H.out.2, H.out.1⟩
end Go.Proofs.Ytdbionbdcjpmaaa
