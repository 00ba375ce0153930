/- The table of math/bits that names the lowest bit. -/
import Derived.Test.YtnabikoieolfcaaDoorBase
import Derived.Test.YtnabikoieolfcaaDoorLaid
import Derived.Lib.TrailingZeros
namespace Go.Proofs.YtnabikoieolfcaaDoor
set_option linter.unusedVariables false
set_option linter.unusedSimpArgs false
set_option maxRecDepth 100000
open Go.RowKit

/-- What the table "math/bits.deBruijn64tab" holds. -/
def DbTab (w : World) : Prop := ∀ k, k < 64 → w.cell? ⟨0, k, none⟩ = some (.int .u8 ((Lib.deBruijn64tab.getD k 0 : Nat) : Int))
theorem DbTab.of {l : List (String × DataW Unit)} {w : World} (h : laidMetH Tryd.prog l w) (hp : (l.all fun x => x.2.handleName?.isNone) = true) (j : Nat) (hm : l[j]? = some ("math/bits.deBruijn64tab", Rows.laid_math_bits_deBruijn64tab)) : DbTab w := by
  have hg : Tryd.prog.globalNamed "math/bits.deBruijn64tab" = some 0 := by kernel_rfl
  have ht : (Tryd.prog.globals[0]?).map (·.type) = some 69 := by kernel_rfl
  have h0 := laid_at (o := 0) h hp j hm hg ht 8 0 (v := .int .u8 ((Lib.deBruijn64tab.getD 0 0 : Nat) : Int)) (by kernel_rfl)
  have h1 := laid_at (o := 1) h hp j hm hg ht 8 1 (v := .int .u8 ((Lib.deBruijn64tab.getD 1 0 : Nat) : Int)) (by kernel_rfl)
  have h2 := laid_at (o := 2) h hp j hm hg ht 8 2 (v := .int .u8 ((Lib.deBruijn64tab.getD 2 0 : Nat) : Int)) (by kernel_rfl)
  have h3 := laid_at (o := 3) h hp j hm hg ht 8 3 (v := .int .u8 ((Lib.deBruijn64tab.getD 3 0 : Nat) : Int)) (by kernel_rfl)
  have h4 := laid_at (o := 4) h hp j hm hg ht 8 4 (v := .int .u8 ((Lib.deBruijn64tab.getD 4 0 : Nat) : Int)) (by kernel_rfl)
  have h5 := laid_at (o := 5) h hp j hm hg ht 8 5 (v := .int .u8 ((Lib.deBruijn64tab.getD 5 0 : Nat) : Int)) (by kernel_rfl)
  have h6 := laid_at (o := 6) h hp j hm hg ht 8 6 (v := .int .u8 ((Lib.deBruijn64tab.getD 6 0 : Nat) : Int)) (by kernel_rfl)
  have h7 := laid_at (o := 7) h hp j hm hg ht 8 7 (v := .int .u8 ((Lib.deBruijn64tab.getD 7 0 : Nat) : Int)) (by kernel_rfl)
  have h8 := laid_at (o := 8) h hp j hm hg ht 8 8 (v := .int .u8 ((Lib.deBruijn64tab.getD 8 0 : Nat) : Int)) (by kernel_rfl)
  have h9 := laid_at (o := 9) h hp j hm hg ht 8 9 (v := .int .u8 ((Lib.deBruijn64tab.getD 9 0 : Nat) : Int)) (by kernel_rfl)
  have h10 := laid_at (o := 10) h hp j hm hg ht 8 10 (v := .int .u8 ((Lib.deBruijn64tab.getD 10 0 : Nat) : Int)) (by kernel_rfl)
  have h11 := laid_at (o := 11) h hp j hm hg ht 8 11 (v := .int .u8 ((Lib.deBruijn64tab.getD 11 0 : Nat) : Int)) (by kernel_rfl)
  have h12 := laid_at (o := 12) h hp j hm hg ht 8 12 (v := .int .u8 ((Lib.deBruijn64tab.getD 12 0 : Nat) : Int)) (by kernel_rfl)
  have h13 := laid_at (o := 13) h hp j hm hg ht 8 13 (v := .int .u8 ((Lib.deBruijn64tab.getD 13 0 : Nat) : Int)) (by kernel_rfl)
  have h14 := laid_at (o := 14) h hp j hm hg ht 8 14 (v := .int .u8 ((Lib.deBruijn64tab.getD 14 0 : Nat) : Int)) (by kernel_rfl)
  have h15 := laid_at (o := 15) h hp j hm hg ht 8 15 (v := .int .u8 ((Lib.deBruijn64tab.getD 15 0 : Nat) : Int)) (by kernel_rfl)
  have h16 := laid_at (o := 16) h hp j hm hg ht 8 16 (v := .int .u8 ((Lib.deBruijn64tab.getD 16 0 : Nat) : Int)) (by kernel_rfl)
  have h17 := laid_at (o := 17) h hp j hm hg ht 8 17 (v := .int .u8 ((Lib.deBruijn64tab.getD 17 0 : Nat) : Int)) (by kernel_rfl)
  have h18 := laid_at (o := 18) h hp j hm hg ht 8 18 (v := .int .u8 ((Lib.deBruijn64tab.getD 18 0 : Nat) : Int)) (by kernel_rfl)
  have h19 := laid_at (o := 19) h hp j hm hg ht 8 19 (v := .int .u8 ((Lib.deBruijn64tab.getD 19 0 : Nat) : Int)) (by kernel_rfl)
  have h20 := laid_at (o := 20) h hp j hm hg ht 8 20 (v := .int .u8 ((Lib.deBruijn64tab.getD 20 0 : Nat) : Int)) (by kernel_rfl)
  have h21 := laid_at (o := 21) h hp j hm hg ht 8 21 (v := .int .u8 ((Lib.deBruijn64tab.getD 21 0 : Nat) : Int)) (by kernel_rfl)
  have h22 := laid_at (o := 22) h hp j hm hg ht 8 22 (v := .int .u8 ((Lib.deBruijn64tab.getD 22 0 : Nat) : Int)) (by kernel_rfl)
  have h23 := laid_at (o := 23) h hp j hm hg ht 8 23 (v := .int .u8 ((Lib.deBruijn64tab.getD 23 0 : Nat) : Int)) (by kernel_rfl)
  have h24 := laid_at (o := 24) h hp j hm hg ht 8 24 (v := .int .u8 ((Lib.deBruijn64tab.getD 24 0 : Nat) : Int)) (by kernel_rfl)
  have h25 := laid_at (o := 25) h hp j hm hg ht 8 25 (v := .int .u8 ((Lib.deBruijn64tab.getD 25 0 : Nat) : Int)) (by kernel_rfl)
  have h26 := laid_at (o := 26) h hp j hm hg ht 8 26 (v := .int .u8 ((Lib.deBruijn64tab.getD 26 0 : Nat) : Int)) (by kernel_rfl)
  have h27 := laid_at (o := 27) h hp j hm hg ht 8 27 (v := .int .u8 ((Lib.deBruijn64tab.getD 27 0 : Nat) : Int)) (by kernel_rfl)
  have h28 := laid_at (o := 28) h hp j hm hg ht 8 28 (v := .int .u8 ((Lib.deBruijn64tab.getD 28 0 : Nat) : Int)) (by kernel_rfl)
  have h29 := laid_at (o := 29) h hp j hm hg ht 8 29 (v := .int .u8 ((Lib.deBruijn64tab.getD 29 0 : Nat) : Int)) (by kernel_rfl)
  have h30 := laid_at (o := 30) h hp j hm hg ht 8 30 (v := .int .u8 ((Lib.deBruijn64tab.getD 30 0 : Nat) : Int)) (by kernel_rfl)
  have h31 := laid_at (o := 31) h hp j hm hg ht 8 31 (v := .int .u8 ((Lib.deBruijn64tab.getD 31 0 : Nat) : Int)) (by kernel_rfl)
  have h32 := laid_at (o := 32) h hp j hm hg ht 8 32 (v := .int .u8 ((Lib.deBruijn64tab.getD 32 0 : Nat) : Int)) (by kernel_rfl)
  have h33 := laid_at (o := 33) h hp j hm hg ht 8 33 (v := .int .u8 ((Lib.deBruijn64tab.getD 33 0 : Nat) : Int)) (by kernel_rfl)
  have h34 := laid_at (o := 34) h hp j hm hg ht 8 34 (v := .int .u8 ((Lib.deBruijn64tab.getD 34 0 : Nat) : Int)) (by kernel_rfl)
  have h35 := laid_at (o := 35) h hp j hm hg ht 8 35 (v := .int .u8 ((Lib.deBruijn64tab.getD 35 0 : Nat) : Int)) (by kernel_rfl)
  have h36 := laid_at (o := 36) h hp j hm hg ht 8 36 (v := .int .u8 ((Lib.deBruijn64tab.getD 36 0 : Nat) : Int)) (by kernel_rfl)
  have h37 := laid_at (o := 37) h hp j hm hg ht 8 37 (v := .int .u8 ((Lib.deBruijn64tab.getD 37 0 : Nat) : Int)) (by kernel_rfl)
  have h38 := laid_at (o := 38) h hp j hm hg ht 8 38 (v := .int .u8 ((Lib.deBruijn64tab.getD 38 0 : Nat) : Int)) (by kernel_rfl)
  have h39 := laid_at (o := 39) h hp j hm hg ht 8 39 (v := .int .u8 ((Lib.deBruijn64tab.getD 39 0 : Nat) : Int)) (by kernel_rfl)
  have h40 := laid_at (o := 40) h hp j hm hg ht 8 40 (v := .int .u8 ((Lib.deBruijn64tab.getD 40 0 : Nat) : Int)) (by kernel_rfl)
  have h41 := laid_at (o := 41) h hp j hm hg ht 8 41 (v := .int .u8 ((Lib.deBruijn64tab.getD 41 0 : Nat) : Int)) (by kernel_rfl)
  have h42 := laid_at (o := 42) h hp j hm hg ht 8 42 (v := .int .u8 ((Lib.deBruijn64tab.getD 42 0 : Nat) : Int)) (by kernel_rfl)
  have h43 := laid_at (o := 43) h hp j hm hg ht 8 43 (v := .int .u8 ((Lib.deBruijn64tab.getD 43 0 : Nat) : Int)) (by kernel_rfl)
  have h44 := laid_at (o := 44) h hp j hm hg ht 8 44 (v := .int .u8 ((Lib.deBruijn64tab.getD 44 0 : Nat) : Int)) (by kernel_rfl)
  have h45 := laid_at (o := 45) h hp j hm hg ht 8 45 (v := .int .u8 ((Lib.deBruijn64tab.getD 45 0 : Nat) : Int)) (by kernel_rfl)
  have h46 := laid_at (o := 46) h hp j hm hg ht 8 46 (v := .int .u8 ((Lib.deBruijn64tab.getD 46 0 : Nat) : Int)) (by kernel_rfl)
  have h47 := laid_at (o := 47) h hp j hm hg ht 8 47 (v := .int .u8 ((Lib.deBruijn64tab.getD 47 0 : Nat) : Int)) (by kernel_rfl)
  have h48 := laid_at (o := 48) h hp j hm hg ht 8 48 (v := .int .u8 ((Lib.deBruijn64tab.getD 48 0 : Nat) : Int)) (by kernel_rfl)
  have h49 := laid_at (o := 49) h hp j hm hg ht 8 49 (v := .int .u8 ((Lib.deBruijn64tab.getD 49 0 : Nat) : Int)) (by kernel_rfl)
  have h50 := laid_at (o := 50) h hp j hm hg ht 8 50 (v := .int .u8 ((Lib.deBruijn64tab.getD 50 0 : Nat) : Int)) (by kernel_rfl)
  have h51 := laid_at (o := 51) h hp j hm hg ht 8 51 (v := .int .u8 ((Lib.deBruijn64tab.getD 51 0 : Nat) : Int)) (by kernel_rfl)
  have h52 := laid_at (o := 52) h hp j hm hg ht 8 52 (v := .int .u8 ((Lib.deBruijn64tab.getD 52 0 : Nat) : Int)) (by kernel_rfl)
  have h53 := laid_at (o := 53) h hp j hm hg ht 8 53 (v := .int .u8 ((Lib.deBruijn64tab.getD 53 0 : Nat) : Int)) (by kernel_rfl)
  have h54 := laid_at (o := 54) h hp j hm hg ht 8 54 (v := .int .u8 ((Lib.deBruijn64tab.getD 54 0 : Nat) : Int)) (by kernel_rfl)
  have h55 := laid_at (o := 55) h hp j hm hg ht 8 55 (v := .int .u8 ((Lib.deBruijn64tab.getD 55 0 : Nat) : Int)) (by kernel_rfl)
  have h56 := laid_at (o := 56) h hp j hm hg ht 8 56 (v := .int .u8 ((Lib.deBruijn64tab.getD 56 0 : Nat) : Int)) (by kernel_rfl)
  have h57 := laid_at (o := 57) h hp j hm hg ht 8 57 (v := .int .u8 ((Lib.deBruijn64tab.getD 57 0 : Nat) : Int)) (by kernel_rfl)
  have h58 := laid_at (o := 58) h hp j hm hg ht 8 58 (v := .int .u8 ((Lib.deBruijn64tab.getD 58 0 : Nat) : Int)) (by kernel_rfl)
  have h59 := laid_at (o := 59) h hp j hm hg ht 8 59 (v := .int .u8 ((Lib.deBruijn64tab.getD 59 0 : Nat) : Int)) (by kernel_rfl)
  have h60 := laid_at (o := 60) h hp j hm hg ht 8 60 (v := .int .u8 ((Lib.deBruijn64tab.getD 60 0 : Nat) : Int)) (by kernel_rfl)
  have h61 := laid_at (o := 61) h hp j hm hg ht 8 61 (v := .int .u8 ((Lib.deBruijn64tab.getD 61 0 : Nat) : Int)) (by kernel_rfl)
  have h62 := laid_at (o := 62) h hp j hm hg ht 8 62 (v := .int .u8 ((Lib.deBruijn64tab.getD 62 0 : Nat) : Int)) (by kernel_rfl)
  have h63 := laid_at (o := 63) h hp j hm hg ht 8 63 (v := .int .u8 ((Lib.deBruijn64tab.getD 63 0 : Nat) : Int)) (by kernel_rfl)
  refine fun k hk => ?_
  rcases Nat.lt_or_eq_of_le (Nat.le_of_lt_succ hk) with hk | rfl
  rotate_left
  · exact h63
  rcases Nat.lt_or_eq_of_le (Nat.le_of_lt_succ hk) with hk | rfl
  rotate_left
  · exact h62
  rcases Nat.lt_or_eq_of_le (Nat.le_of_lt_succ hk) with hk | rfl
  rotate_left
  · exact h61
  rcases Nat.lt_or_eq_of_le (Nat.le_of_lt_succ hk) with hk | rfl
  rotate_left
  · exact h60
  rcases Nat.lt_or_eq_of_le (Nat.le_of_lt_succ hk) with hk | rfl
  rotate_left
  · exact h59
  rcases Nat.lt_or_eq_of_le (Nat.le_of_lt_succ hk) with hk | rfl
  rotate_left
  · exact h58
  rcases Nat.lt_or_eq_of_le (Nat.le_of_lt_succ hk) with hk | rfl
  rotate_left
  · exact h57
  rcases Nat.lt_or_eq_of_le (Nat.le_of_lt_succ hk) with hk | rfl
  rotate_left
  · exact h56
  rcases Nat.lt_or_eq_of_le (Nat.le_of_lt_succ hk) with hk | rfl
  rotate_left
  · exact h55
  rcases Nat.lt_or_eq_of_le (Nat.le_of_lt_succ hk) with hk | rfl
  rotate_left
  · exact h54
  rcases Nat.lt_or_eq_of_le (Nat.le_of_lt_succ hk) with hk | rfl
  rotate_left
  · exact h53
  rcases Nat.lt_or_eq_of_le (Nat.le_of_lt_succ hk) with hk | rfl
  rotate_left
  · exact h52
  rcases Nat.lt_or_eq_of_le (Nat.le_of_lt_succ hk) with hk | rfl
  rotate_left
  · exact h51
  rcases Nat.lt_or_eq_of_le (Nat.le_of_lt_succ hk) with hk | rfl
  rotate_left
  · exact h50
  rcases Nat.lt_or_eq_of_le (Nat.le_of_lt_succ hk) with hk | rfl
  rotate_left
  · exact h49
  rcases Nat.lt_or_eq_of_le (Nat.le_of_lt_succ hk) with hk | rfl
  rotate_left
  · exact h48
  rcases Nat.lt_or_eq_of_le (Nat.le_of_lt_succ hk) with hk | rfl
  rotate_left
  · exact h47
  rcases Nat.lt_or_eq_of_le (Nat.le_of_lt_succ hk) with hk | rfl
  rotate_left
  · exact h46
  rcases Nat.lt_or_eq_of_le (Nat.le_of_lt_succ hk) with hk | rfl
  rotate_left
  · exact h45
  rcases Nat.lt_or_eq_of_le (Nat.le_of_lt_succ hk) with hk | rfl
  rotate_left
  · exact h44
  rcases Nat.lt_or_eq_of_le (Nat.le_of_lt_succ hk) with hk | rfl
  rotate_left
  · exact h43
  rcases Nat.lt_or_eq_of_le (Nat.le_of_lt_succ hk) with hk | rfl
  rotate_left
  · exact h42
  rcases Nat.lt_or_eq_of_le (Nat.le_of_lt_succ hk) with hk | rfl
  rotate_left
  · exact h41
  rcases Nat.lt_or_eq_of_le (Nat.le_of_lt_succ hk) with hk | rfl
  rotate_left
  · exact h40
  rcases Nat.lt_or_eq_of_le (Nat.le_of_lt_succ hk) with hk | rfl
  rotate_left
  · exact h39
  rcases Nat.lt_or_eq_of_le (Nat.le_of_lt_succ hk) with hk | rfl
  rotate_left
  · exact h38
  rcases Nat.lt_or_eq_of_le (Nat.le_of_lt_succ hk) with hk | rfl
  rotate_left
  · exact h37
  rcases Nat.lt_or_eq_of_le (Nat.le_of_lt_succ hk) with hk | rfl
  rotate_left
  · exact h36
  rcases Nat.lt_or_eq_of_le (Nat.le_of_lt_succ hk) with hk | rfl
  rotate_left
  · exact h35
  rcases Nat.lt_or_eq_of_le (Nat.le_of_lt_succ hk) with hk | rfl
  rotate_left
  · exact h34
  rcases Nat.lt_or_eq_of_le (Nat.le_of_lt_succ hk) with hk | rfl
  rotate_left
  · exact h33
  rcases Nat.lt_or_eq_of_le (Nat.le_of_lt_succ hk) with hk | rfl
  rotate_left
  · exact h32
  rcases Nat.lt_or_eq_of_le (Nat.le_of_lt_succ hk) with hk | rfl
  rotate_left
  · exact h31
  rcases Nat.lt_or_eq_of_le (Nat.le_of_lt_succ hk) with hk | rfl
  rotate_left
  · exact h30
  rcases Nat.lt_or_eq_of_le (Nat.le_of_lt_succ hk) with hk | rfl
  rotate_left
  · exact h29
  rcases Nat.lt_or_eq_of_le (Nat.le_of_lt_succ hk) with hk | rfl
  rotate_left
  · exact h28
  rcases Nat.lt_or_eq_of_le (Nat.le_of_lt_succ hk) with hk | rfl
  rotate_left
  · exact h27
  rcases Nat.lt_or_eq_of_le (Nat.le_of_lt_succ hk) with hk | rfl
  rotate_left
  · exact h26
  rcases Nat.lt_or_eq_of_le (Nat.le_of_lt_succ hk) with hk | rfl
  rotate_left
  · exact h25
  rcases Nat.lt_or_eq_of_le (Nat.le_of_lt_succ hk) with hk | rfl
  rotate_left
  · exact h24
  rcases Nat.lt_or_eq_of_le (Nat.le_of_lt_succ hk) with hk | rfl
  rotate_left
  · exact h23
  rcases Nat.lt_or_eq_of_le (Nat.le_of_lt_succ hk) with hk | rfl
  rotate_left
  · exact h22
  rcases Nat.lt_or_eq_of_le (Nat.le_of_lt_succ hk) with hk | rfl
  rotate_left
  · exact h21
  rcases Nat.lt_or_eq_of_le (Nat.le_of_lt_succ hk) with hk | rfl
  rotate_left
  · exact h20
  rcases Nat.lt_or_eq_of_le (Nat.le_of_lt_succ hk) with hk | rfl
  rotate_left
  · exact h19
  rcases Nat.lt_or_eq_of_le (Nat.le_of_lt_succ hk) with hk | rfl
  rotate_left
  · exact h18
  rcases Nat.lt_or_eq_of_le (Nat.le_of_lt_succ hk) with hk | rfl
  rotate_left
  · exact h17
  rcases Nat.lt_or_eq_of_le (Nat.le_of_lt_succ hk) with hk | rfl
  rotate_left
  · exact h16
  rcases Nat.lt_or_eq_of_le (Nat.le_of_lt_succ hk) with hk | rfl
  rotate_left
  · exact h15
  rcases Nat.lt_or_eq_of_le (Nat.le_of_lt_succ hk) with hk | rfl
  rotate_left
  · exact h14
  rcases Nat.lt_or_eq_of_le (Nat.le_of_lt_succ hk) with hk | rfl
  rotate_left
  · exact h13
  rcases Nat.lt_or_eq_of_le (Nat.le_of_lt_succ hk) with hk | rfl
  rotate_left
  · exact h12
  rcases Nat.lt_or_eq_of_le (Nat.le_of_lt_succ hk) with hk | rfl
  rotate_left
  · exact h11
  rcases Nat.lt_or_eq_of_le (Nat.le_of_lt_succ hk) with hk | rfl
  rotate_left
  · exact h10
  rcases Nat.lt_or_eq_of_le (Nat.le_of_lt_succ hk) with hk | rfl
  rotate_left
  · exact h9
  rcases Nat.lt_or_eq_of_le (Nat.le_of_lt_succ hk) with hk | rfl
  rotate_left
  · exact h8
  rcases Nat.lt_or_eq_of_le (Nat.le_of_lt_succ hk) with hk | rfl
  rotate_left
  · exact h7
  rcases Nat.lt_or_eq_of_le (Nat.le_of_lt_succ hk) with hk | rfl
  rotate_left
  · exact h6
  rcases Nat.lt_or_eq_of_le (Nat.le_of_lt_succ hk) with hk | rfl
  rotate_left
  · exact h5
  rcases Nat.lt_or_eq_of_le (Nat.le_of_lt_succ hk) with hk | rfl
  rotate_left
  · exact h4
  rcases Nat.lt_or_eq_of_le (Nat.le_of_lt_succ hk) with hk | rfl
  rotate_left
  · exact h3
  rcases Nat.lt_or_eq_of_le (Nat.le_of_lt_succ hk) with hk | rfl
  rotate_left
  · exact h2
  rcases Nat.lt_or_eq_of_le (Nat.le_of_lt_succ hk) with hk | rfl
  rotate_left
  · exact h1
  rcases Nat.lt_or_eq_of_le (Nat.le_of_lt_succ hk) with hk | rfl
  rotate_left
  · exact h0
  exact absurd hk (Nat.not_lt_zero k)
theorem DbTab.lt {w : World} (h : DbTab w) : 0 < w.heap.size := lt_of_cell (h 0 (by omega))
theorem DbTab.at {w w' : World} (h : DbTab w) (hb : Below w.heap.size w w') : DbTab w' := fun k hk => by
  have e : w'.heap[0]? = w.heap[0]? := hb.block _ h.lt
  have := h k hk
  simpa [World.cell?, e] using this
theorem DbTab.eq {w w' : World} (h : DbTab w) (e : w'.heap[0]? = w.heap[0]?) : DbTab w' := fun k hk => by
  have := h k hk
  simpa [World.cell?, e] using this
end Go.Proofs.YtnabikoieolfcaaDoor
