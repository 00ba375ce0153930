/- A world of one: turn; a step at Sched. -/
import Derived.Test.YtfpkgkjmpcoppaaGreatDoorWoA
namespace Go.Proofs.YtfpkgkjmpcoppaaGreatDoor
open Go.RowKit
set_option linter.unusedVariables false
set_option linter.unusedSimpArgs false
set_option maxRecDepth 20000
/-- Just these blocks were written, and new ones. -/
structure OnL (S : List Nat) (w w' : World) : Prop where
  os : w'.os = w.os
  tape : w'.tape = w.tape
  output : w'.output = w.output
  size : w.heap.size ≤ w'.heap.size
  block : ∀ k, k < w.heap.size → k ∉ S → w'.heap[k]? = w.heap[k]?
theorem OnL.refl (S : List Nat) (w : World) : OnL S w w := ⟨rfl, rfl, rfl, Nat.le_refl _, fun _ _ _ => rfl⟩
theorem OnL.trans {S : List Nat} {a b c : World} (h : OnL S a b) (k : OnL S b c) : OnL S a c :=
  ⟨k.os.trans h.os, k.tape.trans h.tape, k.output.trans h.output, Nat.le_trans h.size k.size, fun i hi hn => (k.block i (Nat.lt_of_lt_of_le hi h.size) hn).trans (h.block i hi hn)⟩
theorem OnL.of_below {S : List Nat} {w w' : World} (h : Below w.heap.size w w') : OnL S w w' := ⟨h.os, h.tape, h.output, h.size, fun k hk _ => h.block k hk⟩
theorem OnL.of_quiet {S : List Nat} {w w' : World} (h : Quiet w w') : OnL S w w' := .of_below (h.below _)
theorem OnL.set {S : List Nat} (w : World) (b i : Nat) (v : Value) (hb : b ∈ S) : OnL S w (w.setCell ⟨b, i, none⟩ v) :=
  ⟨rfl, rfl, rfl, by simp [World.setCell], fun k _ h => Below.heap_setCell _ _ _ _ (fun e => h (e ▸ hb))⟩
theorem OnL.mono {S S' : List Nat} {w w' : World} (h : OnL S w w') (hs : ∀ k ∈ S, k ∈ S') : OnL S' w w' := ⟨h.os, h.tape, h.output, h.size, fun k hk hn => h.block k hk (fun e => hn (hs k e))⟩
theorem OnL.of_only {S : List Nat} {b g : Nat} {w w' : World} (h : Only b g w w') (hb : b ∈ S) (hg : g ∈ S) : OnL S w w' :=
  ⟨h.os, h.tape, h.output, h.size, fun k hk hn => h.block k hk (fun e => hn (e ▸ hb)) (fun e => hn (e ▸ hg))⟩
theorem OnL.of_on3 {S : List Nat} {s o b g : Nat} {w w' : World} (h : On3 s o b g w w') (hs : s ∈ S) (hb : b ∈ S) (hg : g ∈ S) : OnL S w w' :=
  ⟨h.os, h.tape, h.output, h.size, fun k hk hn => h.block k hk (fun e => hn (e ▸ hs)) (fun e => hn (e ▸ hb)) (fun e => hn (e ▸ hg))⟩
theorem OnL.below {S : List Nat} {B : Nat} {w w' : World} (h : OnL S w w') (hS : ∀ k ∈ S, B ≤ k) (hB : B ≤ w.heap.size) : Below B w w' :=
  ⟨h.os, h.tape, h.output, h.size, fun k hk => h.block k (by omega) (fun e => by have := hS k e; omega)⟩
section
variable {w w' : World} {W b1 b2 rb tb q sb ib mb rc : Nat} {lg : Value}
variable {pl p g nx got tg ii : Int} {sp inn : Bool} {rest : Value} {bk af ag s0 s1 s2 s3 s4 : Int} {yes : Bool} {un : Int}
theorem cell_set_blk {w : World} {a b i j : Nat} {v : Value} (h : b ≠ a) : (w.setCell ⟨a, i, none⟩ v).cell? ⟨b, j, none⟩ = w.cell? ⟨b, j, none⟩ := World.cell?_of_block (Below.heap_setCell _ _ _ _ h)
/-- What turn leaves. -/
def TurnP (mb tb : Nat) (g nx got tg ii : Int) (sp inn : Bool) (rest : Value) (bk af ag s0 s1 s2 s3 s4 : Int) (yes : Bool) (un : Int) (w : World) (e : Ending) (w' : World) : Prop :=
  e = .returned (.tuple #[]) ∧ Mc w' mb 3 0 g nx got tg ii sp inn rest bk af ag s0 s1 s2 s3 s4 yes un ∧ w'.cell? ⟨tb, 0, none⟩ = some (.int .i64 1) ∧ OnL [mb, tb] w w'
set_option maxHeartbeats 8000000 in
theorem turn_0 (h : Wb w W b1 b2 rb tb q sb ib mb rc lg) (hm : Mc w mb pl 0 g nx got tg ii sp inn rest bk af ag s0 s1 s2 s3 s4 yes un) (ht : w.cell? ⟨tb, 0, none⟩ = some (.int .i64 0)) (hf : w.frozen? ⟨tb, 0, none⟩ = false) (n1 : tb ≠ mb) (n2 : tb ≠ W) (n3 : mb ≠ W) :
    Calls Tryz.prog 142 #[.pointer (some ⟨W, 0, none⟩), .pointer (some ⟨mb, 0, none⟩)] w (TurnP mb tb g nx got tg ii sp inn rest bk af ag s0 s1 s2 s3 s4 yes un w) := by
  have a10 := h.c10
  have k0 := hm.c0
  have k1 := hm.c1
  have kf := hm.fz
  have HM := hid hm
  have HT := hid ht
  clear h hm
  go_enter Tryz.func142, Tryz.ntmps142
  go_wp2_with fail
  go_region
  all_goals
    go_wp2_with fail
    go_region
    all_goals
      go_wp2
      go_end0
      exact ⟨rfl, ((HM.out.kept (Below.heap_setCell _ _ _ _ (Ne.symm n1))).up0 3).kept rfl,
        (cell_set_blk n1).trans (World.cell?_setCell_same _ _ _ HT.out), (OnL.set _ _ _ _ (by simp)).trans ((OnL.set _ _ _ _ (by simp)).trans (.of_quiet ⟨2, rfl⟩))⟩
set_option maxHeartbeats 8000000 in
theorem pass_sched (h : Wb w W b1 b2 rb tb q sb ib mb rc lg) (hm : Mc w mb 1 0 g nx got tg ii sp inn rest bk af ag s0 s1 s2 s3 s4 yes un) (ht : w.cell? ⟨tb, 0, none⟩ = some (.int .i64 0)) (hf : w.frozen? ⟨tb, 0, none⟩ = false) (n1 : tb ≠ mb) (n2 : tb ≠ W) (n3 : mb ≠ W) :
    Calls Tryz.prog 103 #[.pointer (some ⟨W, 0, none⟩), .int .i64 0] w (TurnP mb tb g nx got tg ii sp inn rest bk af ag s0 s1 s2 s3 s4 yes un w) := by
  have TU := hid (turn_0 h hm ht hf n1 n2 n3)
  have a14 := h.c14
  have k0 := hm.c0
  clear h hm ht hf
  go_enter Tryz.func103, Tryz.ntmps103
  go_wp2_with fail
  refine TU.out.mono ?_
  rintro e w2 ⟨rfl, h2⟩
  have H2 := hid h2
  clear h2
  go_wp2
  go_end0
  exact ⟨rfl, H2.out⟩
/-- A step that picks machine 0, and nothing else. -/
@[reducible] def stepV : Value := .agg #[.int .u8 0, .int .u8 0, .int .i64 0, .int .i64 0, .int .i64 0]
set_option maxHeartbeats 8000000 in
theorem step_pick (Φ : World → World → Prop) (HP : ∀ w1, Below w.heap.size w w1 → Calls Tryz.prog 64 #[.pointer (some ⟨W, 0, none⟩), stepV] w1 fun e w' => e = .returned (.bool true) ∧ Φ w1 w') :
    Calls Tryz.prog 36 #[.pointer (some ⟨W, 0, none⟩), stepV] w fun e w' => e = .returned (.bool true) ∧ ∃ w1, Below w.heap.size w w1 ∧ Φ w1 w' := by
  have H := hid HP
  have HB := hid (show Below w.heap.size w (w.alloc (.cells #[.int .u8 0, .int .u8 0, .int .i64 0, .int .i64 0, .int .i64 0] 79)) from (Below.refl _ _).alloc (Nat.le_refl _) _)
  clear HP
  go_enter Tryz.func36, Tryz.ntmps36
  go_wp2_with fail
  refine (H.out _ HB.out).mono ?_
  rintro e w2 ⟨rfl, h2⟩
  have H2 := hid h2
  clear h2
  go_wp2
  go_ret
  exact ⟨rfl, _, HB.out, H2.out⟩
end
end Go.Proofs.YtfpkgkjmpcoppaaGreatDoor
