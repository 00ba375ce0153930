/- model.Model as functions: what it is, what its look-ups, stores and deletions run to. -/
import Derived.Test.YtkimfejhgfnjoaaDoorEventA
import Derived.Test.YtkimfejhgfnjoaaDoorMaps
namespace Go.Proofs.YtkimfejhgfnjoaaDoor
open Go.RowKit
set_option linter.unusedVariables false
set_option linter.unusedSimpArgs false

/-- How many there are of each, each one's status, what each machine runs, which processors are taken, how many run. -/
structure Ms where
  P : Int
  M : Int
  G : Int
  st : Int → Int
  ru : Int → Option (Int × Int)
  tk : Int → Bool
  nr : Nat
def upf {α : Type} (f : Int → α) (a : Int) (x : α) : Int → α := fun i => if i = a then x else f i
def newM (P M G : Int) : Ms := ⟨P, M, G, fun _ => 0, fun _ => none, fun _ => false, 0⟩
def comesB (k : Int) : Bool := decide (k = 0) || decide (k = 1)
def leavesB (k : Int) : Bool := !comesB k && !decide (k = 2)
def shapedB (s : Ms) (k g m p v : Int) : Bool := evRight k g m p v && (decide (g < s.G) && (decide (m < s.M) && (decide (p < s.P) && (comesB k || (!decide (m = -1) && !decide (p = -1))))))
def stepsB (s : Ms) (k g : Int) : Bool := if k = 1 then (decide (s.st g = 3) || (decide (s.st g = 4) || decide (s.st g = 5))) else decide (s.st g = evStep0 k.toNat)
def takenB (s : Ms) (m p : Int) : Bool := (s.ru m).isSome || s.tk p
def isAtB (s : Ms) (g m p : Int) : Bool := decide (s.ru m = some (g, p))
/-- What is wrong with an event. -/
def wrongM (s : Ms) (k g m p v : Int) : Option Nat :=
  if shapedB s k g m p v = false then some 0 else if stepsB s k g = false then some 1 else if (decide (k = 2) && takenB s m p) = true then some 2 else if (leavesB k && !isAtB s g m p) = true then some 3 else none
/-- An event happens. -/
def doM (s : Ms) (k g m p : Int) : Ms :=
  if k = 2 then { s with st := upf s.st g (evStep1 k.toNat), ru := upf s.ru m (some (g, p)), tk := upf s.tk p true, nr := s.nr + 1 }
  else if leavesB k = true then { s with st := upf s.st g (evStep1 k.toNat), ru := upf s.ru m none, tk := upf s.tk p false, nr := s.nr - 1 }
  else { s with st := upf s.st g (evStep1 k.toNat) }
def addM (s : Ms) (k g m p v : Int) : Ms := if wrongM s k g m p v = none then doM s k g m p else s

def plV (x : Int × Int) : Value := .agg #[.int .i64 x.1, .int .i64 x.2]
/-- The three maps of a model at block b. -/
structure Mp (w : World) (b b1 b2 b3 : Nat) (s : Ms) : Prop where
  box : w.heap[b]? = some (.cells #[.int .i64 s.P, .int .i64 s.M, .int .i64 s.G, .map (some b1), .map (some b2), .map (some b3)] 56 (0, 0))
  m1 : ∃ g n, MapI w b1 .i64 g n ∧ ∀ a, g a = some (.int .u64 (s.st a)) ∨ (g a = none ∧ s.st a = 0)
  m2 : ∃ g, MapI w b2 .i64 g s.nr ∧ ∀ a, g a = (s.ru a).map plV
  m3 : ∃ g n, MapI w b3 .i64 g n ∧ ∀ a, (g a = some (.bool true) ∧ s.tk a = true) ∨ (g a = none ∧ s.tk a = false)
/-- Its blocks are apart, and lie from lo on, below hi. -/
structure Ap (lo hi b b1 b2 b3 : Nat) : Prop where
  h : (lo ≤ b ∧ b < hi) ∧ (lo ≤ b1 ∧ b1 < hi) ∧ (lo ≤ b2 ∧ b2 < hi) ∧ (lo ≤ b3 ∧ b3 < hi) ∧ b1 ≠ b2 ∧ b1 ≠ b3 ∧ b2 ≠ b3 ∧ b ≠ b1 ∧ b ≠ b2 ∧ b ≠ b3
def Mdl (w : World) (lo hi b : Nat) (s : Ms) : Prop := ∃ b1 b2 b3, Mp w b b1 b2 b3 s ∧ Ap lo hi b b1 b2 b3
/-- Just the blocks from lo on, below hi, were written, and new ones. -/
structure OM (lo hi : Nat) (w w' : World) : Prop where
  os : w'.os = w.os
  tape : w'.tape = w.tape
  output : w'.output = w.output
  size : w.heap.size ≤ w'.heap.size
  block : ∀ k, k < w.heap.size → (k < lo ∨ hi ≤ k) → w'.heap[k]? = w.heap[k]?
variable {w w' : World} {lo hi b b1 b2 b3 : Nat} {s : Ms}
theorem OM.refl (lo hi : Nat) (w : World) : OM lo hi w w := ⟨rfl, rfl, rfl, Nat.le_refl _, fun _ _ _ => rfl⟩
theorem OM.trans {w1 w2 w3 : World} (h1 : OM lo hi w1 w2) (h2 : OM lo hi w2 w3) : OM lo hi w1 w3 :=
  ⟨h2.os.trans h1.os, h2.tape.trans h1.tape, h2.output.trans h1.output, Nat.le_trans h1.size h2.size, fun k hk hn => (h2.block k (Nat.lt_of_lt_of_le hk h1.size) hn).trans (h1.block k hk hn)⟩
theorem OM.of_below (lo hi : Nat) (h : Below w.heap.size w w') : OM lo hi w w' := ⟨h.os, h.tape, h.output, h.size, fun k hk _ => h.block k hk⟩
theorem OM.of_only (h : Only b b w w') (h1 : lo ≤ b) (h2 : b < hi) : OM lo hi w w' := ⟨h.os, h.tape, h.output, h.size, fun k hk hn => h.block k hk (by omega) (by omega)⟩
theorem OM.below (h : OM lo hi w w') {B : Nat} (hB : B ≤ lo) (hs : B ≤ w.heap.size) : Below B w w' := ⟨h.os, h.tape, h.output, h.size, fun k hk => h.block k (by omega) (.inl (by omega))⟩
theorem Mp.lt (h : Mp w b b1 b2 b3 s) : b < w.heap.size ∧ b1 < w.heap.size ∧ b2 < w.heap.size ∧ b3 < w.heap.size := by
  obtain ⟨g1, n1, h1, _⟩ := h.m1
  obtain ⟨g2, h2, _⟩ := h.m2
  obtain ⟨g3, n3, h3, _⟩ := h.m3
  have hb := h.box
  rw [Array.getElem?_eq_some_iff] at hb
  exact ⟨hb.1, h1.lt, h2.lt, h3.lt⟩
theorem Mp.kept (h : Mp w b b1 b2 b3 s) (e : w'.heap[b]? = w.heap[b]?) (e1 : w'.heap[b1]? = w.heap[b1]?) (e2 : w'.heap[b2]? = w.heap[b2]?) (e3 : w'.heap[b3]? = w.heap[b3]?) : Mp w' b b1 b2 b3 s := by
  obtain ⟨g1, n1, h1, h1'⟩ := h.m1
  obtain ⟨g2, h2, h2'⟩ := h.m2
  obtain ⟨g3, n3, h3, h3'⟩ := h.m3
  exact ⟨e.trans h.box, ⟨g1, n1, h1.kept e1, h1'⟩, ⟨g2, h2.kept e2, h2'⟩, ⟨g3, n3, h3.kept e3, h3'⟩⟩
theorem Mp.below (h : Mp w b b1 b2 b3 s) (hb : Below w.heap.size w w') : Mp w' b b1 b2 b3 s :=
  h.kept (hb.block _ h.lt.1) (hb.block _ h.lt.2.1) (hb.block _ h.lt.2.2.1) (hb.block _ h.lt.2.2.2)
theorem Mdl.below (h : Mdl w lo hi b s) (hb : Below w.heap.size w w') : Mdl w' lo hi b s := by
  obtain ⟨b1, b2, b3, h1, h2⟩ := h
  exact ⟨b1, b2, b3, h1.below hb, h2⟩
theorem Mdl.other {lo' hi' : Nat} (h : Mdl w lo hi b s) (ho : OM lo' hi' w w') (hs : hi ≤ lo' ∨ hi' ≤ lo) : Mdl w' lo hi b s := by
  obtain ⟨b1, b2, b3, h1, h2⟩ := h
  obtain ⟨l0, l1, l2, l3⟩ := h1.lt
  obtain ⟨a0, a1, a2, a3, _⟩ := h2.h
  exact ⟨b1, b2, b3, h1.kept (ho.block _ l0 (by omega)) (ho.block _ l1 (by omega)) (ho.block _ l2 (by omega)) (ho.block _ l3 (by omega)), h2⟩
theorem Mdl.lt (h : Mdl w lo hi b s) : b < w.heap.size ∧ lo ≤ b ∧ b < hi := by
  obtain ⟨b1, b2, b3, h1, h2⟩ := h
  exact ⟨h1.lt.1, h2.h.1.1, h2.h.1.2⟩

theorem und1 : Tryd.prog.underlying 52 = some (.map 3 42) := by kernel_rfl
theorem und2 : Tryd.prog.underlying 53 = some (.map 3 64) := by kernel_rfl
theorem und3 : Tryd.prog.underlying 54 = some (.map 3 4) := by kernel_rfl
theorem undI : Tryd.prog.underlying 3 = some (.int .i64) := by kernel_rfl
theorem zero1 (w : World) : (zeroValue 42).run Tryd.prog w = .ok (.int .u64 0) w := by kernel_rfl
theorem zero2 (w : World) : (zeroValue 64).run Tryd.prog w = .ok (plV (0, 0)) w := by kernel_rfl
theorem zero3 (w : World) : (zeroValue 4).run Tryd.prog w = .ok (.bool false) w := by kernel_rfl
theorem Mp.look1 (h : Mp w b b1 b2 b3 s) (a : Int) : (Instr.lookup 52 (.map (some b1)) (.int .i64 a) false).run Tryd.prog w = .ok (.int .u64 (s.st a)) w := by
  obtain ⟨g, n, h1, h2⟩ := h.m1
  rcases h2 a with e | ⟨e, e2⟩
  · exact h1.look_hit und1 undI e false
  · rw [e2]; exact h1.look_miss und1 undI zero1 e false
theorem Mp.look2 (h : Mp w b b1 b2 b3 s) (a : Int) : (Instr.lookup 53 (.map (some b2)) (.int .i64 a) true).run Tryd.prog w = .ok (.tuple #[.agg #[.int .i64 ((s.ru a).getD (0, 0)).1, .int .i64 ((s.ru a).getD (0, 0)).2], .bool (s.ru a).isSome]) w := by
  obtain ⟨g, h1, h2⟩ := h.m2
  have e := h2 a
  rcases hr : s.ru a with _ | x
  · rw [hr] at e; exact h1.look_miss und2 undI zero2 e true
  · rw [hr] at e; exact h1.look_hit und2 undI e true
theorem Mp.look3 (h : Mp w b b1 b2 b3 s) (a : Int) : (Instr.lookup 54 (.map (some b3)) (.int .i64 a) false).run Tryd.prog w = .ok (.bool (s.tk a)) w := by
  obtain ⟨g, n, h1, h2⟩ := h.m3
  rcases h2 a with ⟨e, e2⟩ | ⟨e, e2⟩
  · rw [e2]; exact h1.look_hit und3 undI e false
  · rw [e2]; exact h1.look_miss und3 undI zero3 e false
theorem Mp.len2 (h : Mp w b b1 b2 b3 s) (ty : TypeId) : (Builtin.len_ #[53] ty #[.map (some b2)]).run Tryd.prog w = .ok (.int .i64 s.nr) w := by
  obtain ⟨g, h1, _⟩ := h.m2
  exact h1.len und2 ty
theorem Mp.store1 (h : Mp w b b1 b2 b3 s) (hp : Ap lo hi b b1 b2 b3) (a x : Int) :
    ∃ w', (Instr.mapUpdate 52 (.map (some b1)) (.int .i64 a) (.int .u64 x)).run Tryd.prog w = .ok () w' ∧ Mp w' b b1 b2 b3 { s with st := upf s.st a x } ∧ OM lo hi w w' := by
  obtain ⟨g, n, h1, h2⟩ := h.m1
  obtain ⟨l0, l1, l2, l3⟩ := h.lt
  obtain ⟨a0, a1, a2, a3, n12, n13, n23, n1, n2, n3⟩ := hp.h
  obtain ⟨w', r, m, o⟩ := h1.store und1 undI a (.int .u64 x)
  refine ⟨w', r, ⟨(o.block _ l0 n1 n1).trans h.box, ⟨_, _, m, fun c => ?_⟩, ?_, ?_⟩, OM.of_only o a1.1 a1.2⟩
  · simp only [updG, upf]
    by_cases hc : c = a
    · simp [hc]
    · simp only [if_neg hc]; exact h2 c
  · obtain ⟨g2, m2, e2⟩ := h.m2
    exact ⟨g2, m2.kept (o.block _ l2 n12.symm n12.symm), e2⟩
  · obtain ⟨g3, k3, m3, e3⟩ := h.m3
    exact ⟨g3, k3, m3.kept (o.block _ l3 n13.symm n13.symm), e3⟩
theorem Mp.store2 (h : Mp w b b1 b2 b3 s) (hp : Ap lo hi b b1 b2 b3) (a x y : Int) (hn : s.ru a = none) :
    ∃ w', (Instr.mapUpdate 53 (.map (some b2)) (.int .i64 a) (.agg #[.int .i64 x, .int .i64 y])).run Tryd.prog w = .ok () w' ∧ Mp w' b b1 b2 b3 { s with ru := upf s.ru a (some (x, y)), nr := s.nr + 1 } ∧ OM lo hi w w' := by
  obtain ⟨g, h1, h2⟩ := h.m2
  obtain ⟨l0, l1, l2, l3⟩ := h.lt
  obtain ⟨a0, a1, a2, a3, n12, n13, n23, n1, n2, n3⟩ := hp.h
  obtain ⟨w', r, m, o⟩ := h1.store und2 undI a (.agg #[.int .i64 x, .int .i64 y])
  rw [if_pos (by rw [h2 a, hn]; rfl)] at m
  refine ⟨w', r, ⟨(o.block _ l0 n2 n2).trans h.box, ?_, ⟨_, m, fun c => ?_⟩, ?_⟩, OM.of_only o a2.1 a2.2⟩
  · obtain ⟨g1, k1, m1, e1⟩ := h.m1
    exact ⟨g1, k1, m1.kept (o.block _ l1 n12 n12), e1⟩
  · simp only [updG, upf]
    by_cases hc : c = a
    · simp [hc, plV]
    · simp only [if_neg hc]; exact h2 c
  · obtain ⟨g3, k3, m3, e3⟩ := h.m3
    exact ⟨g3, k3, m3.kept (o.block _ l3 n23.symm n23.symm), e3⟩
theorem Mp.store3 (h : Mp w b b1 b2 b3 s) (hp : Ap lo hi b b1 b2 b3) (a : Int) :
    ∃ w', (Instr.mapUpdate 54 (.map (some b3)) (.int .i64 a) (.bool true)).run Tryd.prog w = .ok () w' ∧ Mp w' b b1 b2 b3 { s with tk := upf s.tk a true } ∧ OM lo hi w w' := by
  obtain ⟨g, n, h1, h2⟩ := h.m3
  obtain ⟨l0, l1, l2, l3⟩ := h.lt
  obtain ⟨a0, a1, a2, a3, n12, n13, n23, n1, n2, n3⟩ := hp.h
  obtain ⟨w', r, m, o⟩ := h1.store und3 undI a (.bool true)
  refine ⟨w', r, ⟨(o.block _ l0 n3 n3).trans h.box, ?_, ?_, ⟨_, _, m, fun c => ?_⟩⟩, OM.of_only o a3.1 a3.2⟩
  · obtain ⟨g1, k1, m1, e1⟩ := h.m1
    exact ⟨g1, k1, m1.kept (o.block _ l1 n13 n13), e1⟩
  · obtain ⟨g2, m2, e2⟩ := h.m2
    exact ⟨g2, m2.kept (o.block _ l2 n23 n23), e2⟩
  · simp only [updG, upf]
    by_cases hc : c = a
    · simp [hc]
    · simp only [if_neg hc]; exact h2 c
theorem Mp.del2 (h : Mp w b b1 b2 b3 s) (hp : Ap lo hi b b1 b2 b3) (a : Int) (hn : s.ru a ≠ none) (ty : TypeId) :
    ∃ w', (Builtin.delete_ #[53, 3] ty #[.map (some b2), .int .i64 a]).run Tryd.prog w = .ok (.tuple #[]) w' ∧ Mp w' b b1 b2 b3 { s with ru := upf s.ru a none, nr := s.nr - 1 } ∧ OM lo hi w w' := by
  obtain ⟨g, h1, h2⟩ := h.m2
  obtain ⟨l0, l1, l2, l3⟩ := h.lt
  obtain ⟨a0, a1, a2, a3, n12, n13, n23, n1, n2, n3⟩ := hp.h
  obtain ⟨w', r, m, o⟩ := h1.del und2 undI ty a
  rw [if_neg (by rw [h2 a]; intro e; exact hn (Option.map_eq_none_iff.1 e))] at m
  refine ⟨w', r, ⟨(o.block _ l0 n2 n2).trans h.box, ?_, ⟨_, m, fun c => ?_⟩, ?_⟩, OM.of_only o a2.1 a2.2⟩
  · obtain ⟨g1, k1, m1, e1⟩ := h.m1
    exact ⟨g1, k1, m1.kept (o.block _ l1 n12 n12), e1⟩
  · simp only [updG, upf]
    by_cases hc : c = a
    · simp [hc]
    · simp only [if_neg hc]; exact h2 c
  · obtain ⟨g3, k3, m3, e3⟩ := h.m3
    exact ⟨g3, k3, m3.kept (o.block _ l3 n23.symm n23.symm), e3⟩
theorem Mp.del3 (h : Mp w b b1 b2 b3 s) (hp : Ap lo hi b b1 b2 b3) (a : Int) (ty : TypeId) :
    ∃ w', (Builtin.delete_ #[54, 3] ty #[.map (some b3), .int .i64 a]).run Tryd.prog w = .ok (.tuple #[]) w' ∧ Mp w' b b1 b2 b3 { s with tk := upf s.tk a false } ∧ OM lo hi w w' := by
  obtain ⟨g, n, h1, h2⟩ := h.m3
  obtain ⟨l0, l1, l2, l3⟩ := h.lt
  obtain ⟨a0, a1, a2, a3, n12, n13, n23, n1, n2, n3⟩ := hp.h
  obtain ⟨w', r, m, o⟩ := h1.del und3 undI ty a
  refine ⟨w', r, ⟨(o.block _ l0 n3 n3).trans h.box, ?_, ?_, ⟨_, _, m, fun c => ?_⟩⟩, OM.of_only o a3.1 a3.2⟩
  · obtain ⟨g1, k1, m1, e1⟩ := h.m1
    exact ⟨g1, k1, m1.kept (o.block _ l1 n13 n13), e1⟩
  · obtain ⟨g2, m2, e2⟩ := h.m2
    exact ⟨g2, m2.kept (o.block _ l2 n23 n23), e2⟩
  · simp only [updG, upf]
    by_cases hc : c = a
    · simp [hc]
    · simp only [if_neg hc]; exact h2 c
end Go.Proofs.YtkimfejhgfnjoaaDoor
