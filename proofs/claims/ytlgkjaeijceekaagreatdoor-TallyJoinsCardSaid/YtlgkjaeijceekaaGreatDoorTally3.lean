/- tally.Row.add and tally.Of as contracts. -/
import Derived.Test.YtlgkjaeijceekaaGreatDoorRdE
import Derived.Test.YtlgkjaeijceekaaGreatDoorPre2
namespace Go.Proofs.YtlgkjaeijceekaaGreatDoor
set_option linter.unusedVariables false
set_option linter.unusedSimpArgs false
set_option maxRecDepth 20000
open Go.RowKit

def rowc (g : Int) (f : Nat → Int) (l : Int) : Array Value := #[.int .i64 g, .int .i64 (f 0), .int .i64 (f 1), .int .i64 (f 2), .int .i64 (f 3), .int .i64 (f 4), .int .i64 (f 5), .int .i64 (f 6), .int .i64 (f 7), .int .i64 l]
def upf (f : Nat → Int) (k : Nat) (x : Int) : Nat → Int := fun j => if j = k then x else f j
theorem rowc_get (g : Int) (f : Nat → Int) (l : Int) (k : Nat) (h : k < 8) : (rowc g f l)[1 + k]? = some (.int .i64 (f k)) := by
  match k, h with
  | 0, _ => rfl
  | 1, _ => rfl
  | 2, _ => rfl
  | 3, _ => rfl
  | 4, _ => rfl
  | 5, _ => rfl
  | 6, _ => rfl
  | 7, _ => rfl
theorem rowc_set (g : Int) (f : Nat → Int) (l : Int) (k : Nat) (h : k < 8) (x : Int) : (rowc g f l).setIfInBounds (1 + k) (.int .i64 x) = rowc g (upf f k x) l := by
  match k, h with
  | 0, _ => rfl
  | 1, _ => rfl
  | 2, _ => rfl
  | 3, _ => rfl
  | 4, _ => rfl
  | 5, _ => rfl
  | 6, _ => rfl
  | 7, _ => rfl
theorem rowc_last (g : Int) (f : Nat → Int) (l x : Int) : (rowc g f l).setIfInBounds 9 (.int .i64 x) = rowc g f x := rfl
/-- One more event of a kind. -/
def addk (f : Nat → Int) (kd : Int) : Nat → Int := fun j => if (j : Int) = kd then f j + 1 else f j
def AddPost (p : Nat) (g : Int) (f : Nat → Int) (at' : Int) (w : World) (e : Ending) (w' : World) : Prop :=
  e = .returned (.tuple #[]) ∧ w'.heap[p]? = some (.cells (rowc g f at') 30 (0, 0)) ∧ Below p w w' ∧ w.heap.size ≤ w'.heap.size

theorem row_eq {g : Int} {f f' : Nat → Int} {l : Int} (h : ∀ j, j < 8 → f j = f' j) : rowc g f l = rowc g f' l := by
  unfold rowc
  rw [h 0 (by omega), h 1 (by omega), h 2 (by omega), h 3 (by omega), h 4 (by omega), h 5 (by omega), h 6 (by omega), h 7 (by omega)]
set_option maxHeartbeats 4000000 in
theorem add_any (p : Nat) (g : Int) (f : Nat → Int) (l : Int) (kd gg mm pp vv : Int) (at' : Int) (w : World) (hp : w.heap[p]? = some (.cells (rowc g f l) 30 (0, 0))) (hf : ∀ j, j < 8 → 0 ≤ f j ∧ f j ≤ 100000) :
    Calls Tryz.prog 22 #[.pointer (some ⟨p, 0, none⟩), .agg #[.int .i64 kd, .int .i64 gg, .int .i64 mm, .int .i64 pp, .int .i64 vv], .int .i64 at'] w (AddPost p g (addk f kd) at' w) := by
  have hpl := blk_lt hp
  by_cases hk : 0 ≤ kd ∧ kd < 8
  · obtain ⟨k, rfl⟩ : ∃ k : Nat, kd = k := ⟨kd.toNat, by omega⟩
    have hk8 : k < 8 := by omega
    obtain ⟨hf0, hf1⟩ := hf k hk8
    obtain ⟨x, hx⟩ : ∃ x, x = f k := ⟨_, rfl⟩
    rw [← hx] at hf0 hf1
    have c0 : w.cell? ⟨p, 1 + k, none⟩ = some (.int .i64 x) := by rw [hx]; exact blk_cell hp (rowc_get g f l k hk8)
    have f0 : w.frozen? ⟨p, 1 + k, none⟩ = false := blk_free hp
    have hk1 : (0 : Int) ≤ k := by omega
    have hk2 : (k : Int) < 8 := by omega
    have hb1 := blk_set (i := 1 + k) (.int .i64 (x + 1)) hp (rowc_set g f l k hk8 (x + 1))
    have c9 : (w.setCell ⟨p, 1 + k, none⟩ (.int .i64 (x + 1))).cell? ⟨p, 9, none⟩ = some (.int .i64 l) := blk_cell hb1 rfl
    have f9 : (w.setCell ⟨p, 1 + k, none⟩ (.int .i64 (x + 1))).frozen? ⟨p, 9, none⟩ = false := blk_free hb1
    have hb2 := blk_set (i := 9) (.int .i64 at') hb1 (rowc_last g (upf f k (x + 1)) l at')
    have hfe : rowc g (upf f k (x + 1)) at' = rowc g (addk f k) at' := row_eq fun j _ => by
      unfold upf addk
      by_cases hj : j = k
      · subst hj; rw [if_pos rfl, if_pos rfl, hx]
      · rw [if_neg hj, if_neg (by omega)]
    rw [hfe] at hb2
    have FIN := hid (show AddPost p g (addk f k) at' w (.returned (.tuple #[])) (((w.setCell ⟨p, 1 + k, none⟩ (.int .i64 (x + 1))).setCell ⟨p, 9, none⟩ (.int .i64 at')).alloc (.cells #[.int .i64 k, .int .i64 gg, .int .i64 mm, .int .i64 pp, .int .i64 vv] 46)).drew from
      ⟨rfl, (Below.heap_alloc _ _ _ (by simpa using hpl)).trans hb2, ((((Below.refl p w).setCell (Nat.le_refl _) _).setCell (Nat.le_refl _) _).alloc (by simp; omega) _).trans (Quiet.below ⟨1, rfl⟩ _), by simp⟩)
    clear hx hf hp hb1 hb2 hfe
    go_enter Tryz.func22, Tryz.ntmps22
    go_wp2_with fail
    go_region
    all_goals
      go_wp2
      go_end0
      exact FIN.out
  · have f0 : w.frozen? ⟨p, 9, none⟩ = false := blk_free hp
    have c0 : w.cell? ⟨p, 9, none⟩ = some (.int .i64 l) := blk_cell hp rfl
    have hb2 := blk_set (i := 9) (.int .i64 at') hp (rowc_last g f l at')
    have hfe : rowc g f at' = rowc g (addk f kd) at' := row_eq fun j _ => by
      unfold addk
      rw [if_neg (by omega)]
    rw [hfe] at hb2
    have FIN := hid (show AddPost p g (addk f kd) at' w (.returned (.tuple #[])) ((w.setCell ⟨p, 9, none⟩ (.int .i64 at')).alloc (.cells #[.int .i64 kd, .int .i64 gg, .int .i64 mm, .int .i64 pp, .int .i64 vv] 46)) from
      ⟨rfl, (Below.heap_alloc _ _ _ (by simpa using hpl)).trans hb2, ((Below.refl p w).setCell (Nat.le_refl _) _).alloc (by simp; omega) _, by simp⟩)
    clear hf hp hb2 hfe
    rcases (show kd < 0 ∨ (0 ≤ kd ∧ 8 ≤ kd) by omega) with h1 | ⟨h1, h2⟩
    · clear hk
      go_enter Tryz.func22, Tryz.ntmps22
      go_wp2
      go_end0
      exact FIN.out
    · clear hk
      go_enter Tryz.func22, Tryz.ntmps22
      go_wp2
      go_end0
      exact FIN.out
end Go.Proofs.YtlgkjaeijceekaaGreatDoor
