/- world.New: what stands while its parts are made, in whatever order. -/
import Derived.Test.YtfpkgkjmpcoppaaGreatDoorWoS
import Derived.Test.YtfpkgkjmpcoppaaGreatDoorWoR2
import Derived.Deep.RegionHeld3
namespace Go.Proofs.YtfpkgkjmpcoppaaGreatDoor
open Go.RowKit
set_option linter.unusedVariables false
set_option linter.unusedSimpArgs false
set_option maxRecDepth 20000
@[reducible] def z9 : List Int := [0, 0, 0, 0, 0, 0, 0, 0, 0]
/-- A part's block is at hand: 0 the world, 1 2 a memory, 3 4 the other, 5 turns, 6 7 9 the queue, 8 the machines. -/
def up (f : Nat → Option Nat) (i k : Nat) : Nat → Option Nat := fun j => if j = i then some k else f j
def upo (f : Nat → Option Nat) (i : Nat) (o : Option Nat) : Nat → Option Nat := fun j => if j = i then o else f j
structure Acc (w0 y : World) (bx : Nat) (f : Nat → Option Nat) : Prop where
  bl : Below w0.heap.size w0 y
  c0 : y.cell? ⟨bx, 0, none⟩ = some (.int .i64 1)
  c1 : y.cell? ⟨bx, 1, none⟩ = some (.int .i64 1)
  c2 : y.cell? ⟨bx, 2, none⟩ = some (.int .i64 1)
  inj : ∀ i j k, f i = some k → f j = some k → i = j
  lt : ∀ i k, f i = some k → w0.heap.size ≤ k ∧ k < y.heap.size
  m1 : ∀ b g, f 1 = some b → f 2 = some g → Mem y b g z9 0
  m2 : ∀ b g, f 3 = some b → f 4 = some g → Mem y b g z9 0
  tu : ∀ t, f 5 = some t → y.heap[t]? = some (.cells #[.int .i64 0] 3 (0, 0))
  qu : ∀ q p, f 6 = some q → f 7 = some p → Qu y q p 1 (f 9) []
  ma : ∀ m, f 8 = some m → y.heap[m]? = some (.cells mz 101 (0, 0))
section
variable {w0 y y' : World} {bx : Nat} {f f' : Nat → Option Nat}
theorem acc_new (h : Acc w0 y bx f) (hb : Below y.heap.size y y') (hf : ∀ i k, f' i = some k → f i = some k ∨ (y.heap.size ≤ k ∧ k < y'.heap.size)) (hi : ∀ i j k, f' i = some k → f' j = some k → y.heap.size ≤ k → i = j)
    (m1 : ∀ b g, f' 1 = some b → f' 2 = some g → (f 1 = some b ∧ f 2 = some g) ∨ Mem y' b g z9 0)
    (m2 : ∀ b g, f' 3 = some b → f' 4 = some g → (f 3 = some b ∧ f 4 = some g) ∨ Mem y' b g z9 0)
    (tu : ∀ t, f' 5 = some t → f 5 = some t ∨ y'.heap[t]? = some (.cells #[.int .i64 0] 3 (0, 0)))
    (qu : ∀ q p, f' 6 = some q → f' 7 = some p → (f 6 = some q ∧ f 7 = some p ∧ f' 9 = f 9) ∨ Qu y' q p 1 (f' 9) [])
    (ma : ∀ m, f' 8 = some m → f 8 = some m ∨ y'.heap[m]? = some (.cells mz 101 (0, 0))) : Acc w0 y' bx f' := by
  have hc : ∀ (i : Nat) (v : Value), y.cell? ⟨bx, i, none⟩ = some v → y'.cell? ⟨bx, i, none⟩ = some v := fun i v e => (hb.cell (p := ⟨bx, i, none⟩) (cell_lt e)).trans e
  refine ⟨h.bl.trans (hb.mono h.bl.size), hc _ _ h.c0, hc _ _ h.c1, hc _ _ h.c2, fun i j k h1 h2 => ?_, fun i k h1 => ?_, fun b g h1 h2 => ?_, fun b g h1 h2 => ?_, fun t h1 => ?_, fun q p h1 h2 => ?_, fun m h1 => ?_⟩
  · rcases hf i k h1 with a | a
    · rcases hf j k h2 with b | b
      · exact h.inj i j k a b
      · exact hi i j k h1 h2 b.1
    · exact hi i j k h1 h2 a.1
  · rcases hf i k h1 with a | a
    · have := h.lt i k a; have := hb.size; omega
    · have := h.bl.size; omega
  · rcases m1 b g h1 h2 with ⟨a1, a2⟩ | a
    · exact (h.m1 b g a1 a2).below hb (h.lt _ _ a1).2 (h.lt _ _ a2).2
    · exact a
  · rcases m2 b g h1 h2 with ⟨a1, a2⟩ | a
    · exact (h.m2 b g a1 a2).below hb (h.lt _ _ a1).2 (h.lt _ _ a2).2
    · exact a
  · rcases tu t h1 with a | a
    · exact (hb.block t (h.lt _ _ a).2).trans (h.tu t a)
    · exact a
  · rcases qu q p h1 h2 with ⟨a1, a2, a3⟩ | a
    · rw [a3]; exact (h.qu q p a1 a2).below hb
    · exact a
  · rcases ma m h1 with a | a
    · exact (hb.block m (h.lt _ _ a).2).trans (h.ma m a)
    · exact a
theorem up_some {i j k l : Nat} (h : up f i k j = some l) : (j = i ∧ l = k) ∨ (j ≠ i ∧ f j = some l) := by
  unfold up at h
  split at h
  · injection h with h; exact .inl ⟨by assumption, h.symm⟩
  · exact .inr ⟨by assumption, h⟩
theorem acc_m1 (h : Acc w0 y bx f) {b g : Nat} (hb : Below y.heap.size y y') (hm : Mem y' b g z9 0) (h1 : y.heap.size ≤ b) (h2 : y.heap.size ≤ g) : Acc w0 y' bx (up (up f 1 b) 2 g) := by
  have l1 := hm.sb
  have l2 := hm.sg
  have ne := hm.ne
  refine acc_new h hb (fun i k e => ?_) (fun i j k e1 e2 hk => ?_) (fun b' g' e1 e2 => ?_) (fun b' g' e1 e2 => .inl ⟨e1, e2⟩) (fun t e => .inl e) (fun q p e1 e2 => .inl ⟨e1, e2, rfl⟩) (fun m e => .inl e)
  · rcases up_some e with ⟨rfl, rfl⟩ | ⟨_, e⟩
    · exact .inr ⟨h2, l2⟩
    · rcases up_some e with ⟨rfl, rfl⟩ | ⟨_, e⟩
      · exact .inr ⟨h1, l1⟩
      · exact .inl e
  · have lt := fun i k e => (h.lt i k e).2
    rcases up_some e1 with ⟨rfl, rfl⟩ | ⟨_, e1⟩ <;> rcases up_some e2 with ⟨rfl, e⟩ | ⟨_, e2⟩
    · rfl
    · rcases up_some e2 with ⟨rfl, e⟩ | ⟨_, e2⟩
      · omega
      · have := lt _ _ e2; omega
    · rcases up_some e1 with ⟨rfl, e⟩ | ⟨_, e1⟩
      · omega
      · have := lt _ _ e1; omega
    · rcases up_some e1 with ⟨rfl, e⟩ | ⟨_, e1⟩ <;> rcases up_some e2 with ⟨rfl, e⟩ | ⟨_, e2⟩
      · rfl
      · have := lt _ _ e2; omega
      · have := lt _ _ e1; omega
      · have := lt _ _ e1; omega
  · have a1 : b' = b := by injection (show some b = some b' from e1) with e; exact e.symm
    have a2 : g' = g := by injection (show some g = some g' from e2) with e; exact e.symm
    subst a1 a2
    exact .inr hm
theorem acc_m2 (h : Acc w0 y bx f) {b g : Nat} (hb : Below y.heap.size y y') (hm : Mem y' b g z9 0) (h1 : y.heap.size ≤ b) (h2 : y.heap.size ≤ g) : Acc w0 y' bx (up (up f 3 b) 4 g) := by
  have l1 := hm.sb
  have l2 := hm.sg
  have ne := hm.ne
  refine acc_new h hb (fun i k e => ?_) (fun i j k e1 e2 hk => ?_) (fun b' g' e1 e2 => .inl ⟨e1, e2⟩) (fun b' g' e1 e2 => ?_) (fun t e => .inl e) (fun q p e1 e2 => .inl ⟨e1, e2, rfl⟩) (fun m e => .inl e)
  · rcases up_some e with ⟨rfl, rfl⟩ | ⟨_, e⟩
    · exact .inr ⟨h2, l2⟩
    · rcases up_some e with ⟨rfl, rfl⟩ | ⟨_, e⟩
      · exact .inr ⟨h1, l1⟩
      · exact .inl e
  · have lt := fun i k e => (h.lt i k e).2
    rcases up_some e1 with ⟨rfl, rfl⟩ | ⟨_, e1⟩ <;> rcases up_some e2 with ⟨rfl, e⟩ | ⟨_, e2⟩
    · rfl
    · rcases up_some e2 with ⟨rfl, e⟩ | ⟨_, e2⟩
      · omega
      · have := lt _ _ e2; omega
    · rcases up_some e1 with ⟨rfl, e⟩ | ⟨_, e1⟩
      · omega
      · have := lt _ _ e1; omega
    · rcases up_some e1 with ⟨rfl, e⟩ | ⟨_, e1⟩ <;> rcases up_some e2 with ⟨rfl, e⟩ | ⟨_, e2⟩
      · rfl
      · have := lt _ _ e2; omega
      · have := lt _ _ e1; omega
      · have := lt _ _ e1; omega
  · have a1 : b' = b := by injection (show some b = some b' from e1) with e; exact e.symm
    have a2 : g' = g := by injection (show some g = some g' from e2) with e; exact e.symm
    subst a1 a2
    exact .inr hm
theorem acc_1 (h : Acc w0 y bx f) {i0 t : Nat} (hb : Below y.heap.size y y') (ht : y.heap.size ≤ t) (htl : t < y'.heap.size) (h1 : i0 ≠ 1) (h2 : i0 ≠ 2) (h3 : i0 ≠ 3) (h4 : i0 ≠ 4) (h6 : i0 ≠ 6) (h7 : i0 ≠ 7) (h9 : i0 ≠ 9)
    (h5 : i0 = 5 → y'.heap[t]? = some (.cells #[.int .i64 0] 3 (0, 0))) (h8 : i0 = 8 → y'.heap[t]? = some (.cells mz 101 (0, 0))) : Acc w0 y' bx (up f i0 t) := by
  have lt := fun i k e => (h.lt i k e).2
  have ne : ∀ j, j ≠ i0 → up f i0 t j = f j := fun j hj => by unfold up; rw [if_neg hj]
  refine acc_new h hb (fun i k e => ?_) (fun i j k e1 e2 hk => ?_) (fun b' g' e1 e2 => .inl ?_) (fun b' g' e1 e2 => .inl ?_) (fun t' e => ?_) (fun q p e1 e2 => .inl ?_) (fun m e => ?_)
  · rcases up_some e with ⟨rfl, rfl⟩ | ⟨_, e⟩
    · exact .inr ⟨ht, htl⟩
    · exact .inl e
  · rcases up_some e1 with ⟨a, c⟩ | ⟨_, a⟩ <;> rcases up_some e2 with ⟨b, d⟩ | ⟨_, b⟩
    · rw [a, b]
    · have := lt _ _ b; omega
    · have := lt _ _ a; omega
    · have := lt _ _ a; omega
  · rw [ne _ (Ne.symm h1)] at e1; rw [ne _ (Ne.symm h2)] at e2; exact ⟨e1, e2⟩
  · rw [ne _ (Ne.symm h3)] at e1; rw [ne _ (Ne.symm h4)] at e2; exact ⟨e1, e2⟩
  · rcases up_some e with ⟨a, rfl⟩ | ⟨_, e⟩
    · exact .inr (h5 a.symm)
    · exact .inl e
  · rw [ne _ (Ne.symm h6)] at e1; rw [ne _ (Ne.symm h7)] at e2; exact ⟨e1, e2, ne _ (Ne.symm h9)⟩
  · rcases up_some e with ⟨a, rfl⟩ | ⟨_, e⟩
    · exact .inr (h8 a.symm)
    · exact .inl e
theorem acc_tu (h : Acc w0 y bx f) : Acc w0 (y.alloc (.cells #[.int .i64 0] 3)) bx (up f 5 y.heap.size) :=
  acc_1 h (bla y _) (Nat.le_refl _) (by simp) (by decide) (by decide) (by decide) (by decide) (by decide) (by decide) (by decide) (fun _ => heap_alloc_new _ _) (fun e => absurd e (by decide))
theorem acc_ma (h : Acc w0 y bx f) : Acc w0 (y.alloc (.cells mz 101)) bx (up f 8 y.heap.size) :=
  acc_1 h (bla y _) (Nat.le_refl _) (by simp) (by decide) (by decide) (by decide) (by decide) (by decide) (by decide) (by decide) (fun e => absurd e (by decide)) (fun _ => heap_alloc_new _ _)
theorem acc_0 (h : Acc w0 y bx f) (hb : Below y.heap.size y y') : Acc w0 y' bx f :=
  acc_new h hb (fun i k e => .inl e) (fun i j k e1 e2 hk => by have := (h.lt _ _ e1).2; omega) (fun _ _ a b => .inl ⟨a, b⟩) (fun _ _ a b => .inl ⟨a, b⟩) (fun _ e => .inl e) (fun _ _ a b => .inl ⟨a, b, rfl⟩) (fun _ e => .inl e)
theorem acc_qu (h : Acc w0 y bx f) {q p : Nat} {r : Option Nat} (hb : Below y.heap.size y y') (hq : Qu y' q p 1 r []) (h1 : y.heap.size ≤ q) (h2 : y.heap.size ≤ p) (h3 : ∀ k, r = some k → y.heap.size ≤ k) : Acc w0 y' bx (upo (up (up f 6 q) 7 p) 9 r) := by
  have lt := fun i k e => (h.lt i k e).2
  have lq := hq.lt
  have lp := hq.hb.lt
  have lr := hq.hb.rlt
  have n1 := hq.ne
  have n2 := hq.nr
  have n3 := hq.hb.ne
  have sp : ∀ i k, upo (up (up f 6 q) 7 p) 9 r i = some k → (i = 9 ∧ r = some k) ∨ (i ≠ 9 ∧ ((i = 7 ∧ k = p) ∨ (i ≠ 7 ∧ ((i = 6 ∧ k = q) ∨ (i ≠ 6 ∧ f i = some k))))) := fun i k e => by
    unfold upo at e
    split at e
    · exact .inl ⟨by assumption, e⟩
    · refine .inr ⟨by assumption, ?_⟩
      rcases up_some e with a | ⟨a, e⟩
      · exact .inl a
      · exact .inr ⟨a, up_some e⟩
  refine acc_new h hb (fun i k e => ?_) (fun i j k e1 e2 hk => ?_) (fun b' g' e1 e2 => .inl ⟨e1, e2⟩) (fun b' g' e1 e2 => .inl ⟨e1, e2⟩) (fun t' e => .inl e) (fun q' p' e1 e2 => .inr ?_) (fun m e => .inl e)
  · rcases sp i k e with ⟨_, e⟩ | ⟨_, ⟨_, rfl⟩ | ⟨_, ⟨_, rfl⟩ | ⟨_, e⟩⟩⟩
    · exact .inr ⟨h3 k e, lr k e⟩
    · exact .inr ⟨h2, lp⟩
    · exact .inr ⟨h1, lq⟩
    · exact .inl e
  · have key : ∀ i, upo (up (up f 6 q) 7 p) 9 r i = some k → (i = 9 ∧ r = some k) ∨ (i = 7 ∧ k = p) ∨ (i = 6 ∧ k = q) := fun i e => by
      rcases sp i k e with a | ⟨_, a | ⟨_, a | ⟨_, e⟩⟩⟩
      · exact .inl a
      · exact .inr (.inl a)
      · exact .inr (.inr a)
      · have := lt _ _ e; omega
    rcases key i e1 with ⟨rfl, a⟩ | ⟨rfl, a⟩ | ⟨rfl, a⟩ <;> rcases key j e2 with ⟨rfl, b⟩ | ⟨rfl, b⟩ | ⟨rfl, b⟩
    · rfl
    · exact absurd (a.trans (by rw [b])) n3
    · exact absurd (a.trans (by rw [b])) n2
    · exact absurd (b.trans (by rw [a])) n3
    · rfl
    · exact absurd (b.symm.trans a) n1
    · exact absurd (b.trans (by rw [a])) n2
    · exact absurd (a.symm.trans b) n1
    · rfl
  · have a1 : q' = q := by injection (show some q = some q' from e1) with e; exact e.symm
    have a2 : p' = p := by injection (show some p = some p' from e2) with e; exact e.symm
    subst a1 a2
    exact hq
theorem acc_start {w wa y : World} (b0 : Below w.heap.size w wa) (h : wa.heap[w.heap.size]? = some (.cells #[.int .i64 1, .int .i64 1, .int .i64 1] 24 (0, 0))) (hb : Below wa.heap.size wa y) : Acc w y w.heap.size (fun _ => none) := by
  have hk := (hb.block _ (blk_lt h)).trans h
  exact ⟨b0.trans (hb.mono b0.size), blk_cell hk rfl, blk_cell hk rfl, blk_cell hk rfl, fun _ _ _ e => (by cases e), fun _ _ e => (by cases e), fun _ _ e => (by cases e), fun _ _ e => (by cases e), fun _ e => (by cases e), fun _ _ e => (by cases e), fun _ e => (by cases e)⟩
theorem acc_d (h : Acc w0 y bx f) : Acc w0 y.drew bx f := acc_0 h (Quiet.below ⟨1, rfl⟩ _)
/-- The calls. -/
theorem am_1 (h : Acc w0 y bx f) (hf : f 1 = none) : Calls Tryz.prog 38 #[.int .i64 9] y fun e y' => ∃ b g, e = .returned (.pointer (some ⟨b, 0, none⟩)) ∧ Hid (Acc w0 y' bx (up (up f 1 b) 2 g)) :=
  (new_ex 9 9 (by decide) y).mono fun e y' ⟨b, g, he, hm, h1, h2, hb⟩ => ⟨b, g, he, hid (acc_m1 h hb hm h1 h2)⟩
theorem am_2 (h : Acc w0 y bx f) {b0 : Nat} (hf : f 1 = some b0) : Calls Tryz.prog 38 #[.int .i64 9] y fun e y' => ∃ b g, e = .returned (.pointer (some ⟨b, 0, none⟩)) ∧ Hid (Acc w0 y' bx (up (up f 3 b) 4 g)) :=
  (new_ex 9 9 (by decide) y).mono fun e y' ⟨b, g, he, hm, h1, h2, hb⟩ => ⟨b, g, he, hid (acc_m2 h hb hm h1 h2)⟩
theorem am_q (h : Acc w0 y bx f) : Calls Tryz.prog 39 #[.int .i64 1] y fun e y' => ∃ q p r, e = .returned (.pointer (some ⟨q, 0, none⟩)) ∧ Hid (Acc w0 y' bx (upo (up (up f 6 q) 7 p) 9 r)) :=
  (qnew 1 1 (by decide) y).mono fun e y' ⟨q, p, r, he, hq, h1, h2, h3, hb⟩ => ⟨q, p, r, he, hid (acc_qu h hb hq h1 h2 h3)⟩
theorem am_s (h : Acc w0 y bx f) : Calls Tryz.prog 40 #[.int .i64 1] y fun e y' => ∃ s, e = .returned (.pointer (some ⟨s, 0, none⟩)) ∧ Hid (Acc w0 y' bx f) :=
  (snew_b y).mono fun e y' ⟨s, he, hb⟩ => ⟨s, he, hid (acc_0 h hb)⟩
theorem am_i (h : Acc w0 y bx f) : Calls Tryz.prog 41 #[.int .i64 1, .int .i64 1] y fun e y' => ∃ s, e = .returned (.pointer (some ⟨s, 0, none⟩)) ∧ Hid (Acc w0 y' bx f) :=
  (inew_11 y).mono fun e y' ⟨s, he, hb⟩ => ⟨s, he, hid (acc_0 h hb)⟩
end
end Go.Proofs.YtfpkgkjmpcoppaaGreatDoor
