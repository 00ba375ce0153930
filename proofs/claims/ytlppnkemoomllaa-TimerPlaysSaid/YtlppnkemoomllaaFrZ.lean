/- Just one thing's own blocks were written (those that aren't foreign, by Z), and new ones. Of no program of its own. -/
import Derived.Test.YtlppnkemoomllaaBase
import Derived.Deep.QuietTactic
namespace Go.Proofs.Ytlppnkemoomllaa
set_option linter.unusedVariables false
set_option linter.unusedSimpArgs false
open Go.RowKit
variable {Z : Nat → Prop} {w w' : World}

/-- Just one thing's own blocks were written, and new ones. -/
structure FrZ (Z : Nat → Prop) (w w' : World) : Prop where
  os : w'.os = w.os
  tape : w'.tape = w.tape
  output : w'.output = w.output
  size : w.heap.size ≤ w'.heap.size
  block : ∀ k, k < w.heap.size → Z k → w'.heap[k]? = w.heap[k]?
theorem FrZ.refl (w : World) : FrZ Z w w := ⟨rfl, rfl, rfl, Nat.le_refl _, fun _ _ _ => rfl⟩
theorem FrZ.trans {a b c : World} (h : FrZ Z a b) (h' : FrZ Z b c) : FrZ Z a c :=
  ⟨h'.os.trans h.os, h'.tape.trans h.tape, h'.output.trans h.output, Nat.le_trans h.size h'.size, fun k hk hz => (h'.block k (Nat.lt_of_lt_of_le hk h.size) hz).trans (h.block k hk hz)⟩
theorem FrZ.of_below (h : Below w.heap.size w w') : FrZ Z w w' := ⟨h.os, h.tape, h.output, h.size, fun k hk _ => h.block k hk⟩
theorem FrZ.below (h : FrZ Z w w') {B : Nat} (hB : ∀ k, k < B → Z k) (hs : B ≤ w.heap.size) : Below B w w' := ⟨h.os, h.tape, h.output, h.size, fun k hk => h.block k (by omega) (hB k hk)⟩
theorem bl_al (w : World) (o : Obj) : Below w.heap.size w (w.alloc o) := (Below.refl _ _).alloc (Nat.le_refl _) _
theorem bl_drw (w : World) (B : Nat) : Below B w w.drew := Quiet.below ⟨1, rfl⟩ _
theorem only_blk {b x : Nat} {ob : Obj} (o : Only b b w w') (h : w.heap[x]? = some ob) (hx : x ≠ b) : w'.heap[x]? = some ob := by
  obtain ⟨hl, _⟩ := Array.getElem?_eq_some_iff.1 h
  exact (o.block x hl hx hx).trans h
theorem bl_dN (w : World) (n : Nat) : Below w.heap.size w (w.drewN n) := (Quiet.below ⟨n, rfl⟩ _)
theorem cellx {b i : Nat} {cs : Array Value} {t : TypeId} {fr : Nat × Nat} {v : Value} (h : w.heap[b]? = some (.cells cs t fr)) (hv : cs[i]? = some v) : w.cell? ⟨b, i, none⟩ = some v := by simp [World.cell?, h, hv]
theorem FrZ.of_only {b : Nat} (h : Only b b w w') (hz : ¬ Z b) : FrZ Z w w' := ⟨h.os, h.tape, h.output, h.size, fun k hk hk2 => h.block k hk (fun e => hz (e ▸ hk2)) (fun e => hz (e ▸ hk2))⟩
end Go.Proofs.Ytlppnkemoomllaa
