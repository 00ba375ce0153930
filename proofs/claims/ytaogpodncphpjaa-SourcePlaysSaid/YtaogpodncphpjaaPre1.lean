/- What other texts are built of: Base, FrZ, Clk, Heap, Heap2, Heap3, Heap4, Heap5, Heap6, Heap9, Heap7, Heap8, HeapW, HeapP, HeapQ, Flat, Haw, HeapO, HeapO2, Ref09, HeapU, HeapTk, Maps, Tim, TimR. -/
import Derived.Test.YtaogpodncphpjaaRows
import Derived.WalkKit
import Derived.ProofKit
import Derived.Below
import Derived.Deep.QuietTactic
import Derived.BigQuiet
import Derived.OpenShut
import Derived.WalkLawsBesides
import Derived.WalkSpells
import Derived.Outline
import Derived.Deep.RegionWith
import Derived.Deep.RegionHeld3
import Derived.Deep.CutRange
import Derived.Deep.OwnRows
import Derived.Maps.AppendAt
import Derived.StillTailTactics
import Derived.WalkMore
import Derived.Deep.RegionLaw
import Derived.Deep.AppendLies
import Derived.ChangeSame
import Derived.WideShapes
import Derived.MapKept
/-! Small words that the walks of this seat share: a fact kept from the walk (hid); 'all but two blocks is as it was' (Only); what a slice of integers that came in is (IsRow) and how it is read. Nothing of the program. -/
namespace Go.Proofs.Ytaogpodncphpjaa
set_option linter.unusedVariables false
open Go.RowKit

theorem hid {p : Prop} (h : p) : Hid p := h

/-- All but blocks b and g is as it was. -/
structure Only (b g : Nat) (w w' : World) : Prop where
  os : w'.os = w.os
  tape : w'.tape = w.tape
  output : w'.output = w.output
  size : w.heap.size ≤ w'.heap.size
  block : ∀ k, k < w.heap.size → k ≠ b → k ≠ g → w'.heap[k]? = w.heap[k]?

theorem Only.below {b g B : Nat} {w w' : World} (h : Only b g w w') (hb : B ≤ b) (hg : B ≤ g) (hB : B ≤ w.heap.size) : Below B w w' :=
  ⟨h.os, h.tape, h.output, h.size, fun k hk => h.block k (by omega) (by omega) (by omega)⟩
theorem Only.refl (b g : Nat) (w : World) : Only b g w w := ⟨rfl, rfl, rfl, Nat.le_refl _, fun _ _ _ _ => rfl⟩
theorem Only.trans {b g : Nat} {a c d : World} (h : Only b g a c) (k : Only b g c d) : Only b g a d :=
  ⟨k.os.trans h.os, k.tape.trans h.tape, k.output.trans h.output, Nat.le_trans h.size k.size, fun i hi h1 h2 => (k.block i (Nat.lt_of_lt_of_le hi h.size) h1 h2).trans (h.block i hi h1 h2)⟩

/-- Only draws: all memory is as it was. -/
def Quiet (w w' : World) : Prop := ∃ n, w' = w.drewN n
theorem Quiet.refl (w : World) : Quiet w w := ⟨0, rfl⟩
theorem Quiet.of_eq {w w' : World} (h : w = w') : Quiet w w' := ⟨0, h.symm⟩
theorem Quiet.trans {a b c : World} (h : Quiet a b) (k : Quiet b c) : Quiet a c := by
  obtain ⟨n, rfl⟩ := h
  obtain ⟨m, rfl⟩ := k
  exact ⟨n + m, World.drewN_drewN ..⟩
theorem Quiet.drewN {w w' : World} (h : Quiet w w') (n : Nat) : Quiet w (w'.drewN n) := h.trans ⟨n, rfl⟩
theorem Quiet.heap {w w' : World} (h : Quiet w w') : w'.heap = w.heap := by obtain ⟨n, rfl⟩ := h; rfl
theorem Quiet.below {w w' : World} (h : Quiet w w') (B : Nat) : Below B w w' := by
  obtain ⟨n, rfl⟩ := h
  exact ⟨rfl, rfl, rfl, Nat.le_refl _, fun k _ => rfl⟩
theorem Quiet.cell {w w' : World} (h : Quiet w w') (a : Addr) : w'.cell? a = w.cell? a := by simp [World.cell?, h.heap]
/-- A contract 'only draws' (or 'w = w'') inside a region that draws. -/
theorem quiet_call {P : Program} {f : FuncId} {args : Array Value} {w : World} {n : Nat} {v : Value}
    (h : Calls P f args (w.drewN n) fun e w' => e = .returned v ∧ Quiet (w.drewN n) w') : Calls P f args (w.drewN n) fun e w'' => e = .returned v ∧ ∃ m, w'' = w.drewN m :=
  Calls.quiet_of (h.mono fun _ _ ⟨he, hq⟩ => ⟨he, hq⟩)
theorem quiet_call0 {P : Program} {f : FuncId} {args : Array Value} {w : World} {n : Nat} {v : Value}
    (h : Calls P f args (w.drewN n) fun e w' => e = .returned v ∧ w.drewN n = w') : Calls P f args (w.drewN n) fun e w'' => e = .returned v ∧ ∃ m, w'' = w.drewN m :=
  quiet_call (h.mono fun _ _ ⟨he, hq⟩ => ⟨he, .of_eq hq⟩)

/-- WHAT THE WALK IS TOLD OF A SLICE OF INTEGERS THAT CAME IN: it is nil; or it leads to a row of 'cap' cells, the numbers 'zs'. -/
def IsRow (k : IntKind) (w : World) (a : Option Addr) (len cap : Nat) (zs : List Int) : Prop :=
  (a = none ∧ len = 0 ∧ cap = 0 ∧ zs = []) ∨
  ∃ x, a = some x ∧ len ≤ cap ∧ cap ≤ maxLen ∧ zs.length = cap ∧ (∀ i, i < zs.length → w.cell? (x.add i) = some (.int k (zs.getD i 0))) ∧ ∀ n ∈ zs, (Lit.int k n).wf = true


theorem IsRow.open {k : IntKind} {w : World} {a : Option Addr} {len cap : Nat} {zs : List Int} (h : IsRow k w a len cap zs) :
    len = 0 ∨ ∃ bx off, a = some ⟨bx, off, none⟩ ∧ len ≤ zs.length ∧ (∀ n ∈ zs, (Lit.int k n).wf = true) ∧ ∀ w', Below w.heap.size w w' → ∀ j, j < len → w'.cell? ⟨bx, off + j, none⟩ = some (.int k (zs.getD j 0)) := by
  rcases h with ⟨_, h, _⟩ | ⟨⟨bx, off, spot⟩, rfl, hl, hm, hz, hc, hwf⟩
  · exact .inl h
  · rcases Nat.eq_zero_or_pos len with h0 | h0
    · exact .inl h0
    · have hc0 := hc 0 (by omega)
      have hspot : spot = none := by simpa [Addr.add] using World.cell?_spot hc0
      subst hspot
      refine .inr ⟨bx, off, rfl, by omega, hwf, fun w' hb j hj => ?_⟩
      have hcj := hc j (by omega)
      have he : (⟨bx, off, none⟩ : Addr).add j = ⟨bx, off + j, none⟩ := by
        by_cases hj0 : j = 0
        · subst hj0; simp [Addr.add]
        · simp [Addr.add, hj0]
      rw [he] at hcj
      have hlt : bx < w.heap.size := by
        simp only [World.cell?] at hcj
        rcases hh : w.heap[bx]? with _ | o
        · rw [hh] at hcj; simp at hcj
        · rw [Array.getElem?_eq_some_iff] at hh; exact hh.1
      rw [hb.cell (p := ⟨bx, off + j, none⟩) hlt]
      exact hcj

end Go.Proofs.Ytaogpodncphpjaa
/-! Just one thing's own blocks were written (those that aren't foreign, by Z), and new ones. Of no program of its own. -/
namespace Go.Proofs.Ytaogpodncphpjaa
set_option linter.unusedVariables false
set_option linter.unusedSimpArgs false
open Go.RowKit
variable {Z : Nat → Prop} {w w' : World}

/-- Just one thing's own blocks were written, and new ones. -/
structure FrZ (Z : Nat → Prop) (w w' : World) : Prop where
  os : w'.os = w.os
  tape : w'.tape = w.tape
  output : w'.output = w.output
  size : w.heap.size ≤ w'.heap.size
  block : ∀ k, k < w.heap.size → Z k → w'.heap[k]? = w.heap[k]?
theorem FrZ.refl (w : World) : FrZ Z w w := ⟨rfl, rfl, rfl, Nat.le_refl _, fun _ _ _ => rfl⟩
theorem FrZ.trans {a b c : World} (h : FrZ Z a b) (h' : FrZ Z b c) : FrZ Z a c :=
  ⟨h'.os.trans h.os, h'.tape.trans h.tape, h'.output.trans h.output, Nat.le_trans h.size h'.size, fun k hk hz => (h'.block k (Nat.lt_of_lt_of_le hk h.size) hz).trans (h.block k hk hz)⟩
theorem FrZ.of_below (h : Below w.heap.size w w') : FrZ Z w w' := ⟨h.os, h.tape, h.output, h.size, fun k hk _ => h.block k hk⟩
theorem FrZ.below (h : FrZ Z w w') {B : Nat} (hB : ∀ k, k < B → Z k) (hs : B ≤ w.heap.size) : Below B w w' := ⟨h.os, h.tape, h.output, h.size, fun k hk => h.block k (by omega) (hB k hk)⟩
theorem bl_al (w : World) (o : Obj) : Below w.heap.size w (w.alloc o) := (Below.refl _ _).alloc (Nat.le_refl _) _
theorem bl_drw (w : World) (B : Nat) : Below B w w.drew := Quiet.below ⟨1, rfl⟩ _
theorem only_blk {b x : Nat} {ob : Obj} (o : Only b b w w') (h : w.heap[x]? = some ob) (hx : x ≠ b) : w'.heap[x]? = some ob := by
  obtain ⟨hl, _⟩ := Array.getElem?_eq_some_iff.1 h
  exact (o.block x hl hx hx).trans h
theorem bl_dN (w : World) (n : Nat) : Below w.heap.size w (w.drewN n) := (Quiet.below ⟨n, rfl⟩ _)
theorem cellx {b i : Nat} {cs : Array Value} {t : TypeId} {fr : Nat × Nat} {v : Value} (h : w.heap[b]? = some (.cells cs t fr)) (hv : cs[i]? = some v) : w.cell? ⟨b, i, none⟩ = some v := by simp [World.cell?, h, hv]
theorem FrZ.of_only {b : Nat} (h : Only b b w w') (hz : ¬ Z b) : FrZ Z w w' := ⟨h.os, h.tape, h.output, h.size, fun k hk hk2 => h.block k hk (fun e => hz (e ▸ hk2)) (fun e => hz (e ▸ hk2))⟩
end Go.Proofs.Ytaogpodncphpjaa
/-! A clock in a struct's first field: the time, so much later, a tick. -/
namespace Go.Proofs.Ytaogpodncphpjaa
set_option linter.unusedVariables false
set_option linter.unusedSimpArgs false
open Go.RowKit

/-- A number that an int64 can hold. -/
def inI (x : Int) : Prop := -9223372036854775808 ≤ x ∧ x ≤ 9223372036854775807
/-- The sum, held at either end. -/
def sat (t d : Int) : Int := max (-9223372036854775808) (min 9223372036854775807 (t + d))
theorem sat_inI (t d : Int) : inI (sat t d) := by unfold inI sat; omega
theorem retI {k : IntKind} {a b : Int} (h : a = b) : Ending.returned (.int k a) = .returned (.int k b) := by rw [h]
set_option maxHeartbeats 400000 in
theorem csum (t d : Int) (w : World) (ht : inI t) (hd : inI d) :
    Calls Try.prog 59 #[.int .i64 t, .int .i64 d] w fun e w' => e = .returned (.int .i64 (sat t d)) ∧ w' = w := by
  obtain ⟨t0, t1⟩ := ht
  obtain ⟨d0, d1⟩ := hd
  by_cases h1 : 0 < d
  · by_cases h2 : 9223372036854775807 - d < t
    all_goals
      go_enter Try.func59, Try.ntmps59
      go_wp2
      go_ret
      exact ⟨retI (by unfold sat; omega), rfl⟩
  · by_cases h3 : d < 0
    · by_cases h2 : t < -9223372036854775808 - d
      all_goals
        go_enter Try.func59, Try.ntmps59
        go_wp2
        go_ret
        exact ⟨retI (by unfold sat; omega), rfl⟩
    · go_enter Try.func59, Try.ntmps59
      go_wp2
      go_ret
      exact ⟨retI (by unfold sat; omega), rfl⟩
theorem cnow (s : Nat) (x : Int) (w : World) (h0 : w.cell? ⟨s, 0, none⟩ = some (.int .i64 x)) :
    Calls Try.prog 30 #[.pointer (some ⟨s, 0, none⟩)] w fun e w' => e = .returned (.int .i64 x) ∧ w' = w := by
  go_enter Try.func30, Try.ntmps30
  go_wp2
  go_ret
  exact ⟨rfl, rfl⟩
set_option maxHeartbeats 400000 in
theorem cafter (s : Nat) (x d : Int) (w : World) (h0 : w.cell? ⟨s, 0, none⟩ = some (.int .i64 x)) (hx : inI x) (hd : inI d) :
    Calls Try.prog 42 #[.pointer (some ⟨s, 0, none⟩), .int .i64 d] w fun e w' => e = .returned (.int .i64 (sat x (max d 0))) ∧ w' = w := by
  have HX := hid hx
  have HD := hid hd
  clear hx hd
  by_cases h : d < 0
  · have hm : max d 0 = 0 := by omega
    rw [hm]
    clear hm
    go_enter Try.func42, Try.ntmps42
    go_wp2_with fail
    refine (csum x 0 _ HX.out (by unfold inI; omega)).mono ?_
    rintro e w' ⟨rfl, rfl⟩
    go_wp2
    go_ret
    exact ⟨rfl, rfl⟩
  · have hm : max d 0 = d := by omega
    rw [hm]
    clear hm
    go_enter Try.func42, Try.ntmps42
    go_wp2_with fail
    refine (csum x d _ HX.out HD.out).mono ?_
    rintro e w' ⟨rfl, rfl⟩
    go_wp2
    go_ret
    exact ⟨rfl, rfl⟩
set_option maxHeartbeats 400000 in
theorem ctick (s : Nat) (x d : Int) (w : World) (h0 : w.cell? ⟨s, 0, none⟩ = some (.int .i64 x)) (hf : w.frozen? ⟨s, 0, none⟩ = false) (hx : inI x) (hd : inI d) :
    Calls Try.prog 43 #[.pointer (some ⟨s, 0, none⟩), .int .i64 d] w fun e w' => (∃ v, e = .returned v) ∧ w' = w.setCell ⟨s, 0, none⟩ (.int .i64 (sat x (max d 0))) := by
  obtain ⟨y, hy⟩ : ∃ y, y = sat x (max d 0) := ⟨_, rfl⟩
  have A := cafter s x d w h0 hx hd
  rw [← hy] at A ⊢
  have HA := hid A
  clear hx hd A hy
  go_enter Try.func43, Try.ntmps43
  go_wp2_with fail
  refine (HA.out).mono ?_
  rintro e w' ⟨rfl, rfl⟩
  clear HA
  go_wp2
  go_ret
  exact ⟨⟨_, rfl⟩, rfl⟩
end Go.Proofs.Ytaogpodncphpjaa
/-! package heap: which of two entries stands ahead. -/
namespace Go.Proofs.Ytaogpodncphpjaa
set_option linter.unusedVariables false
set_option linter.unusedSimpArgs false
open Go.RowKit

/-- What cmp.Compare answers. -/
def c3 (a b : Int) : Int := if a < b then -1 else if b < a then 1 else 0
/-- What cmp.Or answers, of three. -/
def or3 (x y z : Int) : Int := if x ≠ 0 then x else if y ≠ 0 then y else z
/-- The cells of an entry. -/
def ent (e : Int × Int × Int) : List Value := [.int .i64 e.1, .int .u64 e.2.1, .int .i64 e.2.2]
def cmpE (a b : Int × Int × Int) : Int := or3 (c3 a.1 b.1) (c3 a.2.1 b.2.1) (c3 a.2.2 b.2.2)
def aheadE (a b : Int × Int × Int) : Bool := decide (cmpE a b < 0)
theorem ret_i {k : IntKind} {a b : Int} (h : a = b) : Ending.returned (.int k a) = .returned (.int k b) := by rw [h]
theorem c3_lt {a b : Int} (h : a < b) : c3 a b = -1 := by simp [c3, h]
theorem c3_gt {a b : Int} (h : b < a) : c3 a b = 1 := by unfold c3; rw [if_neg (by omega), if_pos h]
theorem c3_eq {a b : Int} (h : a = b) : c3 a b = 0 := by unfold c3; rw [if_neg (by omega), if_neg (by omega)]
theorem c3_b (a b : Int) : -1 ≤ c3 a b ∧ c3 a b ≤ 1 := by
  unfold c3
  split
  · omega
  · split <;> omega

theorem nan_a (x : Int) (w : World) : Calls Try.prog 86 #[.int .i64 x] w fun e w' => e = .returned (.bool false) ∧ w' = w := by
  have hx : (x != x) = false := by simp
  go_enter Try.func86, Try.ntmps86
  go_wp2
  go_ret
  exact ⟨rfl, rfl⟩
theorem cmp_a (x y : Int) (w : World) : Calls Try.prog 83 #[.int .i64 x, .int .i64 y] w fun e w' => e = .returned (.int .i64 (c3 x y)) ∧ w' = w := by
  by_cases h1 : x < y
  · rw [c3_lt h1]
    go_enter Try.func83, Try.ntmps83
    go_wp2_with fail
    refine (nan_a x _).mono ?_
    rintro e w' ⟨rfl, rfl⟩
    go_wp2_with fail
    refine (nan_a y _).mono ?_
    rintro e w' ⟨rfl, rfl⟩
    go_wp2
    go_ret
    exact ⟨rfl, rfl⟩
  · by_cases h2 : y < x
    · rw [c3_gt h2]
      go_enter Try.func83, Try.ntmps83
      go_wp2_with fail
      refine (nan_a x _).mono ?_
      rintro e w' ⟨rfl, rfl⟩
      go_wp2_with fail
      refine (nan_a y _).mono ?_
      rintro e w' ⟨rfl, rfl⟩
      go_wp2
      go_ret
      exact ⟨rfl, rfl⟩
    · rw [c3_eq (show x = y by omega)]
      go_enter Try.func83, Try.ntmps83
      go_wp2_with fail
      refine (nan_a x _).mono ?_
      rintro e w' ⟨rfl, rfl⟩
      go_wp2_with fail
      refine (nan_a y _).mono ?_
      rintro e w' ⟨rfl, rfl⟩
      go_wp2
      go_ret
      exact ⟨rfl, rfl⟩
theorem nan_b (x : Int) (w : World) : Calls Try.prog 87 #[.int .u64 x] w fun e w' => e = .returned (.bool false) ∧ w' = w := by
  have hx : (x != x) = false := by simp
  go_enter Try.func87, Try.ntmps87
  go_wp2
  go_ret
  exact ⟨rfl, rfl⟩
theorem cmp_b (x y : Int) (w : World) : Calls Try.prog 84 #[.int .u64 x, .int .u64 y] w fun e w' => e = .returned (.int .i64 (c3 x y)) ∧ w' = w := by
  by_cases h1 : x < y
  · rw [c3_lt h1]
    go_enter Try.func84, Try.ntmps84
    go_wp2_with fail
    refine (nan_b x _).mono ?_
    rintro e w' ⟨rfl, rfl⟩
    go_wp2_with fail
    refine (nan_b y _).mono ?_
    rintro e w' ⟨rfl, rfl⟩
    go_wp2
    go_ret
    exact ⟨rfl, rfl⟩
  · by_cases h2 : y < x
    · rw [c3_gt h2]
      go_enter Try.func84, Try.ntmps84
      go_wp2_with fail
      refine (nan_b x _).mono ?_
      rintro e w' ⟨rfl, rfl⟩
      go_wp2_with fail
      refine (nan_b y _).mono ?_
      rintro e w' ⟨rfl, rfl⟩
      go_wp2
      go_ret
      exact ⟨rfl, rfl⟩
    · rw [c3_eq (show x = y by omega)]
      go_enter Try.func84, Try.ntmps84
      go_wp2_with fail
      refine (nan_b x _).mono ?_
      rintro e w' ⟨rfl, rfl⟩
      go_wp2_with fail
      refine (nan_b y _).mono ?_
      rintro e w' ⟨rfl, rfl⟩
      go_wp2
      go_ret
      exact ⟨rfl, rfl⟩
theorem nan_c (x : Int) (w : World) : Calls Try.prog 88 #[.int .i64 x] w fun e w' => e = .returned (.bool false) ∧ w' = w := by
  have hx : (x != x) = false := by simp
  go_enter Try.func88, Try.ntmps88
  go_wp2
  go_ret
  exact ⟨rfl, rfl⟩
theorem cmp_c (x y : Int) (w : World) : Calls Try.prog 85 #[.int .i64 x, .int .i64 y] w fun e w' => e = .returned (.int .i64 (c3 x y)) ∧ w' = w := by
  by_cases h1 : x < y
  · rw [c3_lt h1]
    go_enter Try.func85, Try.ntmps85
    go_wp2_with fail
    refine (nan_c x _).mono ?_
    rintro e w' ⟨rfl, rfl⟩
    go_wp2_with fail
    refine (nan_c y _).mono ?_
    rintro e w' ⟨rfl, rfl⟩
    go_wp2
    go_ret
    exact ⟨rfl, rfl⟩
  · by_cases h2 : y < x
    · rw [c3_gt h2]
      go_enter Try.func85, Try.ntmps85
      go_wp2_with fail
      refine (nan_c x _).mono ?_
      rintro e w' ⟨rfl, rfl⟩
      go_wp2_with fail
      refine (nan_c y _).mono ?_
      rintro e w' ⟨rfl, rfl⟩
      go_wp2
      go_ret
      exact ⟨rfl, rfl⟩
    · rw [c3_eq (show x = y by omega)]
      go_enter Try.func85, Try.ntmps85
      go_wp2_with fail
      refine (nan_c x _).mono ?_
      rintro e w' ⟨rfl, rfl⟩
      go_wp2_with fail
      refine (nan_c y _).mono ?_
      rintro e w' ⟨rfl, rfl⟩
      go_wp2
      go_ret
      exact ⟨rfl, rfl⟩

/-- The first of three that isn't 0. -/
def at3 (x y z : Int) (k : Nat) : Int := if k = 0 then x else if k = 1 then y else z
theorem or_three (x y z : Int) (g : Nat) (w : World) (h0 : w.cell? ⟨g, 0, none⟩ = some (.int .i64 x)) (h1 : w.cell? ⟨g, 1, none⟩ = some (.int .i64 y)) (h2 : w.cell? ⟨g, 2, none⟩ = some (.int .i64 z)) :
    Calls Try.prog 82 #[.slice (some ⟨g, 0, none⟩) 3 3] w fun e w' => e = .returned (.int .i64 (or3 x y z)) ∧ w' = w := by
  have HC := hid (fun (k : Nat) (hk : k < 3) => (show w.cell? ⟨g, k, none⟩ = some (.int .i64 (at3 x y z k)) by
    match k, hk with
    | 0, _ => exact h0
    | 1, _ => exact h1
    | 2, _ => exact h2))
  have HO := hid (show ∀ k, k < 3 → (∀ j, j < k → at3 x y z j = 0) → at3 x y z k ≠ 0 → or3 x y z = at3 x y z k from fun k hk hj hn => by
    match k, hk with
    | 0, _ => simp [at3] at hn; simp [or3, at3, hn]
    | 1, _ => have a0 := hj 0 (by omega); simp [at3] at hn a0; simp [or3, at3, hn, a0]
    | 2, _ => have a0 := hj 0 (by omega); have a1 := hj 1 (by omega); simp [at3] at hn a0 a1; simp [or3, at3, hn, a0, a1])
  have HE := hid (show (∀ j, j < 3 → at3 x y z j = 0) → or3 x y z = 0 from fun hj => by
    have a0 := hj 0 (by omega); have a1 := hj 1 (by omega); have a2 := hj 2 (by omega); simp [at3] at a0 a1 a2; simp [or3, a0, a1, a2])
  clear h0 h1 h2
  go_enter Try.func82, Try.ntmps82
  go_wp2_with fail
  go_loopw [8] (fun i wr => ∃ k : Nat, k ≤ 3 ∧ i = .int .i64 k ∧ wr = w ∧ Hid (∀ j, j < k → at3 x y z j = 0)) (fun i _ => 3 - (intOf i).toNat)
  case atStart => exact ⟨0, by omega, rfl, rfl, fun j hj => by omega⟩
  case round =>
    obtain ⟨k, hk, rfl, rfl, HZ⟩ := hrel
    by_cases hlt : k < 3
    · have hc := HC.out k hlt
      obtain ⟨q, hq⟩ : ∃ q, q = at3 x y z k := ⟨_, rfl⟩
      rw [← hq] at hc
      have HQ := hid hq
      clear hq
      by_cases q0 : q = 0
      · have t0 : (q != 0) = false := by simp [q0]
        have HZ' := hid (show ∀ j, j < k + 1 → at3 x y z j = 0 from fun j hj => by
          by_cases e : j = k
          · rw [e, ← HQ.out, q0]
          · exact HZ.out j (by omega))
        clear q0
        go_wp2
        go_roundw
        case rel => exact ⟨k + 1, by omega, by go_num, by trivial, HZ'⟩
        case measure => simp [intOf]; omega
      · have t0 : (q != 0) = true := by simpa using q0
        have HR := hid (show or3 x y z = q by rw [HQ.out]; exact HO.out k hlt HZ.out (by rw [← HQ.out]; exact q0))
        clear q0
        go_wp2
        go_ret
        exact ⟨ret_i HR.out.symm, rfl⟩
    · have HR := hid (show or3 x y z = 0 from HE.out (fun j hj => HZ.out j (by omega)))
      go_wp2
      go_ret
      exact ⟨ret_i HR.out.symm, rfl⟩
end Go.Proofs.Ytaogpodncphpjaa
/-! heap.compare and heap.Ahead, as contracts. -/
namespace Go.Proofs.Ytaogpodncphpjaa
set_option linter.unusedVariables false
set_option linter.unusedSimpArgs false
open Go.RowKit

/-- Two entries in the two blocks that were made last. -/
structure Two (s : Nat) (a b : Int × Int × Int) (w : World) : Prop where
  a : w.heap[s]? = some (.cells (ent a).toArray 88 (0, 0))
  b : w.heap[s + 1]? = some (.cells (ent b).toArray 88 (0, 0))
theorem cell_ent {w : World} {p i : Nat} {cs : Array Value} {t : TypeId} {v : Value} (h : w.heap[p]? = some (.cells cs t (0, 0))) (hi : cs[i]? = some v) : w.cell? ⟨p, i, none⟩ = some v := by
  simp [World.cell?, h, hi]
theorem Two.sx {s : Nat} {a b : Int × Int × Int} {w : World} (h : Two s a b w) :
    w.cell? ⟨s, 0, none⟩ = some (.int .i64 a.1) ∧ w.cell? ⟨s, 1, none⟩ = some (.int .u64 a.2.1) ∧ w.cell? ⟨s, 2, none⟩ = some (.int .i64 a.2.2) ∧
    w.cell? ⟨s + 1, 0, none⟩ = some (.int .i64 b.1) ∧ w.cell? ⟨s + 1, 1, none⟩ = some (.int .u64 b.2.1) ∧ w.cell? ⟨s + 1, 2, none⟩ = some (.int .i64 b.2.2) :=
  ⟨cell_ent h.a rfl, cell_ent h.a rfl, cell_ent h.a rfl, cell_ent h.b rfl, cell_ent h.b rfl, cell_ent h.b rfl⟩
theorem Two.alloc {s : Nat} {a b : Int × Int × Int} {w : World} (h : Two s a b w) (o : Obj) : Two s a b (w.alloc o) := by
  have h1 : s < w.heap.size := by obtain ⟨hl, _⟩ := Array.getElem?_eq_some_iff.1 h.a; exact hl
  have h2 : s + 1 < w.heap.size := by obtain ⟨hl, _⟩ := Array.getElem?_eq_some_iff.1 h.b; exact hl
  exact ⟨(Below.heap_alloc w o s h1).trans h.a, (Below.heap_alloc w o _ h2).trans h.b⟩

set_option maxHeartbeats 4000000 in
theorem compare_any (a1 a2 a3 b1 b2 b3 : Int) (w : World) :
    Calls Try.prog 80 #[.agg #[.int .i64 a1, .int .u64 a2, .int .i64 a3], .agg #[.int .i64 b1, .int .u64 b2, .int .i64 b3]] w fun e w' => e = .returned (.int .i64 (cmpE (a1, a2, a3) (b1, b2, b3))) ∧ Below w.heap.size w w' := by
  go_enter Try.func80, Try.ntmps80
  go_upto_region 1 with (fail)
  have HT : ∀ y : World, y = (w.alloc (.cells #[.int .i64 a1, .int .u64 a2, .int .i64 a3] 88)).alloc (.cells #[.int .i64 b1, .int .u64 b2, .int .i64 b3] 88) → Hid (Two w.heap.size (a1, a2, a3) (b1, b2, b3) y.drew ∧ Below w.heap.size w y.drew) := by
    rintro y rfl
    refine ⟨⟨(Below.heap_alloc _ _ _ (by simp)).trans (Deep.blk_alloc_new _ _), ?_⟩, ((Below.refl _ _).alloc (Nat.le_refl _) _).alloc (by simp) _ |>.trans (Quiet.below ⟨1, rfl⟩ _)⟩
    have := Deep.blk_alloc_new (w.alloc (.cells #[.int .i64 a1, .int .u64 a2, .int .i64 a3] 88)) (.cells #[.int .i64 b1, .int .u64 b2, .int .i64 b3] 88)
    rw [World.size_alloc] at this
    exact this
  obtain ⟨y, hy⟩ : ∃ y, y = (w.alloc (.cells #[.int .i64 a1, .int .u64 a2, .int .i64 a3] 88)).alloc (.cells #[.int .i64 b1, .int .u64 b2, .int .i64 b3] 88) := ⟨_, rfl⟩
  have H := HT y hy
  rw [← hy]
  clear HT hy
  obtain ⟨s, hs⟩ : ∃ s, s = w.heap.size := ⟨_, rfl⟩
  rw [← hs] at H ⊢
  have HD := hid H.out.1
  have HB := hid H.out.2
  have HW := hid hs
  have HO := hid (fun (x z q : Int) (v : World) => or_three x z q v.heap.size (v.alloc (.cells #[.int .i64 x, .int .i64 z, .int .i64 q] 3)).drew (by simp) (by simp) (by simp))
  clear H hs
  go_region_held3 (fun w' => w'.cell? ⟨s, 0, none⟩ = some (.int .i64 a1) ∧ w'.cell? ⟨s, 1, none⟩ = some (.int .u64 a2) ∧ w'.cell? ⟨s, 2, none⟩ = some (.int .i64 a3) ∧
    w'.cell? ⟨s + 1, 0, none⟩ = some (.int .i64 b1) ∧ w'.cell? ⟨s + 1, 1, none⟩ = some (.int .u64 b2) ∧ w'.cell? ⟨s + 1, 2, none⟩ = some (.int .i64 b3))
    (first
      | exact HD.out.sx
      | exact (HD.out.alloc _).sx)
    (first
      | (go_at_call 83; with_reducible refine (cmp_a _ _ _).mono ?_; rintro e w' ⟨rfl, rfl⟩)
      | (go_at_call 84; with_reducible refine (cmp_b _ _ _).mono ?_; rintro e w' ⟨rfl, rfl⟩)
      | (go_at_call 85; with_reducible refine (cmp_c _ _ _).mono ?_; rintro e w' ⟨rfl, rfl⟩)
      | (go_at_call 82; with_reducible refine (HO.out _ _ _ _).mono ?_; rintro e w' ⟨rfl, rfl⟩))
  all_goals
    go_wp2
    go_ret
    exact ⟨rfl, by
      have h := HB.out.alloc (by have := HB.out.size; have := HW.out; omega) (.cells #[.int .i64 (c3 a1 b1), .int .i64 (c3 a2 b2), .int .i64 (c3 a3 b3)] 3)
      rw [HW.out] at h
      exact h⟩

set_option maxHeartbeats 4000000 in
theorem ahead_any (a1 a2 a3 b1 b2 b3 : Int) (w : World) :
    Calls Try.prog 70 #[.agg #[.int .i64 a1, .int .u64 a2, .int .i64 a3], .agg #[.int .i64 b1, .int .u64 b2, .int .i64 b3]] w fun e w' => e = .returned (.bool (aheadE (a1, a2, a3) (b1, b2, b3))) ∧ Below w.heap.size w w' := by
  go_enter Try.func70, Try.ntmps70
  go_wp2_with fail
  refine (compare_any a1 a2 a3 b1 b2 b3 _).mono ?_
  rintro e w1 ⟨rfl, hb1⟩
  have HB := hid (((Below.refl w.heap.size w).alloc (Nat.le_refl _) (.cells #[.int .i64 a1, .int .u64 a2, .int .i64 a3] 88)).alloc (by simp) (.cells #[.int .i64 b1, .int .u64 b2, .int .i64 b3] 88) |>.trans (hb1.mono (by simp; omega)))
  clear hb1
  go_wp2
  go_ret
  exact ⟨rfl, HB.out⟩
end Go.Proofs.Ytaogpodncphpjaa
/-! A heap's memory; Len and swap as contracts. -/
namespace Go.Proofs.Ytaogpodncphpjaa
set_option linter.unusedVariables false
set_option linter.unusedSimpArgs false
open Go.RowKit

/-- The cells of a row of entries. -/
def fl (es : List (Int × Int × Int)) : List Value := es.flatMap ent
theorem fl_cons (e : Int × Int × Int) (es : List (Int × Int × Int)) : fl (e :: es) = .int .i64 e.1 :: .int .u64 e.2.1 :: .int .i64 e.2.2 :: fl es := by simp [fl, ent]
theorem fl_len : ∀ es : List (Int × Int × Int), (fl es).length = es.length * 3
  | [] => rfl
  | e :: es => by rw [fl_cons]; simp [fl_len es]; omega
theorem fl_app (xs ys : List (Int × Int × Int)) : fl (xs ++ ys) = fl xs ++ fl ys := by simp [fl]
/-- An entry by its place. -/
def enAt (es : List (Int × Int × Int)) (i : Nat) : Int × Int × Int := es.getD i (0, 0, 0)
theorem fl_get : ∀ (es : List (Int × Int × Int)) (i : Nat), i < es.length →
    (fl es)[i * 3]? = some (.int .i64 (enAt es i).1) ∧ (fl es)[i * 3 + 1]? = some (.int .u64 (enAt es i).2.1) ∧ (fl es)[i * 3 + 2]? = some (.int .i64 (enAt es i).2.2)
  | [], i, h => by simp at h
  | e :: es, 0, _ => by rw [fl_cons]; simp [enAt]
  | e :: es, i + 1, h => by
    have := fl_get es i (by simpa using h)
    rw [fl_cons]
    simp only [show (i + 1) * 3 = i * 3 + 1 + 1 + 1 by omega, List.getElem?_cons_succ]
    simpa [enAt] using this
theorem fl_set : ∀ (es : List (Int × Int × Int)) (i : Nat) (e : Int × Int × Int), i < es.length →
    fl (es.set i e) = (((fl es).set (i * 3) (.int .i64 e.1)).set (i * 3 + 1) (.int .u64 e.2.1)).set (i * 3 + 2) (.int .i64 e.2.2)
  | [], i, e, h => by simp at h
  | x :: es, 0, e, _ => by simp [fl_cons]
  | x :: es, i + 1, e, h => by
    have := fl_set es i e (by simpa using h)
    rw [List.set_cons_succ, fl_cons, this, fl_cons]
    simp only [show (i + 1) * 3 = i * 3 + 1 + 1 + 1 by omega, show i * 3 + 1 + 1 + 1 + 1 = (i * 3 + 1) + 1 + 1 + 1 by omega, show i * 3 + 1 + 1 + 1 + 2 = (i * 3 + 2) + 1 + 1 + 1 by omega, List.set_cons_succ]

/-- A heap: its struct lies in block p, its entries are the call's own. -/
structure Hp (w : World) (base p : Nat) (v : Value) (es : List (Int × Int × Int)) : Prop where
  st : w.heap[p]? = some (.cells #[v] 100 (0, 0))
  own : w.ownsRow base 88 3 v es.length (fl es)
  ne : v.ownBlock ≠ some p
  len : es.length ≤ 100000
namespace Hp
variable {w w' : World} {base p : Nat} {v : Value} {es : List (Int × Int × Int)}
theorem lt (h : Hp w base p v es) : p < w.heap.size := by obtain ⟨hl, _⟩ := Array.getElem?_eq_some_iff.1 h.st; exact hl
theorem c0 (h : Hp w base p v es) : w.cell? ⟨p, 0, none⟩ = some v := cell_ent h.st rfl
theorem f0 (h : Hp w base p v es) : w.frozen? ⟨p, 0, none⟩ = false := by simp [World.frozen?, h.st]
theorem slice (h : Hp w base p v es) : ∃ a c, v = .slice a es.length c := by
  obtain ⟨h0, ⟨h1, h2⟩ | ⟨q, cap, cur, h1, h2⟩⟩ := h.own
  · exact ⟨none, 0, by rw [h1, h2]⟩
  · exact ⟨_, _, h1⟩
theorem kept (h : Hp w base p v es) (hp : w'.heap[p]? = w.heap[p]?) (hk : ∀ q, v.ownBlock = some q → w'.heap[q]? = w.heap[q]?) : Hp w' base p v es := by
  refine ⟨hp.trans h.st, ?_, h.ne, h.len⟩
  obtain ⟨h0, h1 | ⟨q, cap, cur, h1, h2, h3, h4⟩⟩ := h.own
  · exact ⟨h0, .inl h1⟩
  · exact ⟨h0, .inr ⟨q, cap, cur, h1, h2, (hk q (by rw [h1]; rfl)).trans h3, h4⟩⟩
/-- Where the entries lie. -/
theorem pos {a : Option Addr} {n c : Nat} (h : Hp w base p (.slice a n c) es) (hn : 0 < es.length) : ∃ g, a = some ⟨g, 0, none⟩ ∧ n = es.length ∧ n ≤ c ∧ c ≤ maxLen ∧ base ≤ g ∧ g < w.heap.size ∧ g ≠ p := by
  obtain ⟨h0, ⟨h1, h2⟩ | ⟨q, cap, cur, h1, h2, h3, h4, h5, _⟩⟩ := h.own
  · omega
  · simp only [Value.slice.injEq] at h1
    obtain ⟨rfl, rfl, rfl⟩ := h1
    obtain ⟨hl, _⟩ := Array.getElem?_eq_some_iff.1 h3
    exact ⟨q, rfl, rfl, h4, h5, h2, hl, fun e => h.ne (by rw [← e]; rfl)⟩
theorem cells {g c : Nat} (h : Hp w base p (.slice (some ⟨g, 0, none⟩) es.length c) es) (i : Nat) (hi : i < es.length) :
    w.cell? ⟨g, i * 3, none⟩ = some (.int .i64 (enAt es i).1) ∧ w.cell? ⟨g, i * 3 + 1, none⟩ = some (.int .u64 (enAt es i).2.1) ∧ w.cell? ⟨g, i * 3 + 2, none⟩ = some (.int .i64 (enAt es i).2.2) := by
  obtain ⟨h1, h2, h3⟩ := fl_get es i hi
  have k := fun j => h.own.cellAt (g := g) (cap := c) j
  have hl := fl_len es
  exact ⟨(k _ (by omega)).trans h1, (k _ (by omega)).trans h2, (k _ (by omega)).trans h3⟩
theorem frees {g c : Nat} {n : Nat} (h : Hp w base p (.slice (some ⟨g, 0, none⟩) n c) es) (i : Nat) : w.frozen? ⟨g, i, none⟩ = false := by
  obtain ⟨h0, ⟨h1, h2⟩ | ⟨q, cap, cur, h1, h2, h3, h4, h5, _⟩⟩ := h.own
  · cases h1
  · simp only [Value.slice.injEq, Option.some.injEq, Addr.mk.injEq] at h1
    obtain ⟨⟨rfl, _⟩, _⟩ := h1
    simp [World.frozen?, h3]
end Hp

/-- The change that a heap's deeds make: its struct, its row (block base), new blocks. -/
structure OnlyH (p : Nat) (base : Nat) (w w' : World) : Prop where
  os : w'.os = w.os
  tape : w'.tape = w.tape
  output : w'.output = w.output
  size : w.heap.size ≤ w'.heap.size
  block : ∀ k, k < w.heap.size → k ≠ base → k ≠ p → w'.heap[k]? = w.heap[k]?

set_option maxHeartbeats 1000000 in
theorem hlen (w : World) (base p : Nat) (v : Value) (es : List (Int × Int × Int)) (h : Hp w base p v es) :
    Calls Try.prog 72 #[.pointer (some ⟨p, 0, none⟩)] w fun e w' => e = .returned (.int .i64 es.length) ∧ w' = w := by
  obtain ⟨a, c, rfl⟩ := h.slice
  have c0 := h.c0
  clear h
  go_enter Try.func72, Try.ntmps72
  go_wp2
  go_ret
  exact ⟨rfl, rfl⟩

theorem own_set {w : World} {base g n c sz : Nat} {t : TypeId} {xs : List Value} (h : w.ownsRow base t sz (.slice (some ⟨g, 0, none⟩) n c) n xs) (k : Nat) (u : Value) :
    (w.setCell ⟨g, k, none⟩ u).ownsRow base t sz (.slice (some ⟨g, 0, none⟩) n c) n (xs.set k u) := by
  obtain ⟨h0, ⟨h1, h2⟩ | ⟨q, cap, cur, h1, h2, h3, h4, h5, h6, h7⟩⟩ := h
  · cases h1
  · simp only [Value.slice.injEq, Option.some.injEq, Addr.mk.injEq] at h1
    obtain ⟨⟨rfl, _⟩, _, rfl⟩ := h1
    refine ⟨by simpa using h0, .inr ⟨g, c, cur.setIfInBounds k u, rfl, h2, by simp [World.setCell, Array.getElem?_modify, h3], h4, h5, by simpa using h6, ?_⟩⟩
    rw [Array.toList_setIfInBounds, List.take_set, h7]
/-- Two entries change their places. -/
def sw (es : List (Int × Int × Int)) (i j : Nat) : List (Int × Int × Int) := (es.set i (enAt es j)).set j (enAt es i)
theorem sw_len (es : List (Int × Int × Int)) (i j : Nat) : (sw es i j).length = es.length := by simp [sw]
theorem OnlyH.refl {p base : Nat} (w : World) : OnlyH p base w w := ⟨rfl, rfl, rfl, Nat.le_refl _, fun _ _ _ _ => rfl⟩
theorem OnlyH.trans {p base : Nat} {a b c : World} (h : OnlyH p base a b) (k : OnlyH p base b c) : OnlyH p base a c :=
  ⟨k.os.trans h.os, k.tape.trans h.tape, k.output.trans h.output, Nat.le_trans h.size k.size, fun i h1 h2 h3 => (k.block i (Nat.lt_of_lt_of_le h1 h.size) h2 h3).trans (h.block i h1 h2 h3)⟩
theorem OnlyH.set {p base g : Nat} (w : World) (k : Nat) (u : Value) (hg : base = g ∨ g = p) : OnlyH p base w (w.setCell ⟨g, k, none⟩ u) :=
  ⟨rfl, rfl, rfl, by simp [World.setCell], fun i _ h2 h3 => Below.heap_setCell _ _ _ _ (by show i ≠ g; omega)⟩
theorem OnlyH.drew {p base : Nat} (w : World) : OnlyH p base w w.drew := ⟨rfl, rfl, rfl, Nat.le_refl _, fun _ _ _ _ => rfl⟩
def SwapPost (base p g : Nat) (v : Value) (es : List (Int × Int × Int)) (w : World) (e : Ending) (w' : World) : Prop := e = .returned (.tuple #[]) ∧ Hp w' base p v es ∧ OnlyH p g w w'
structure Rw (w : World) (base p g n c : Nat) (xs : List Value) : Prop where
  st : w.heap[p]? = some (.cells #[.slice (some ⟨g, 0, none⟩) n c] 100 (0, 0))
  own : w.ownsRow base 88 3 (.slice (some ⟨g, 0, none⟩) n c) n xs
theorem Rw.set {w : World} {base p g n c : Nat} {xs : List Value} (h : Rw w base p g n c xs) (hne : g ≠ p) (k : Nat) (u : Value) : Rw (w.setCell ⟨g, k, none⟩ u) base p g n c (xs.set k u) :=
  ⟨(Below.heap_setCell _ _ _ _ (fun e => hne e.symm)).trans h.st, own_set h.own k u⟩
theorem swap_fin {w : World} {base p g c i j : Nat} {es : List (Int × Int × Int)} (h : Hp w base p (.slice (some ⟨g, 0, none⟩) es.length c) es) (hi : i < es.length) (hj : j < es.length) (x1 x2 x3 y1 y2 y3 : Int)
    (hx : enAt es i = (x1, x2, x3)) (hy : enAt es j = (y1, y2, y3)) :
    Hid (SwapPost base p g (.slice (some ⟨g, 0, none⟩) es.length c) (sw es i j) w (.returned (.tuple #[]))
      ((((((w.setCell ⟨g, i * 3, none⟩ (.int .i64 y1)).setCell ⟨g, i * 3 + 1, none⟩ (.int .u64 y2)).setCell ⟨g, i * 3 + 2, none⟩ (.int .i64 y3)).setCell ⟨g, j * 3, none⟩ (.int .i64 x1)).setCell ⟨g, j * 3 + 1, none⟩ (.int .u64 x2)).setCell ⟨g, j * 3 + 2, none⟩ (.int .i64 x3)).drew) := by
  have hb : base ≤ g ∧ g ≠ p := by
    obtain ⟨g', h1, _, _, _, h2, _, h3⟩ := h.pos (by omega)
    simp only [Option.some.injEq, Addr.mk.injEq] at h1
    exact ⟨h1.1 ▸ h2, h1.1 ▸ h3⟩
  have R0 : Rw w base p g es.length c (fl es) := ⟨h.st, h.own⟩
  have R6 := (((((R0.set hb.2 (i * 3) (.int .i64 y1)).set hb.2 (i * 3 + 1) (.int .u64 y2)).set hb.2 (i * 3 + 2) (.int .i64 y3)).set hb.2 (j * 3) (.int .i64 x1)).set hb.2 (j * 3 + 1) (.int .u64 x2)).set hb.2 (j * 3 + 2) (.int .i64 x3)
  have O6 := ((((((OnlyH.set (p := p) (base := g) (g := g) w (i * 3) (.int .i64 y1) (.inl rfl)).trans (OnlyH.set _ (i * 3 + 1) (.int .u64 y2) (.inl rfl))).trans (OnlyH.set _ (i * 3 + 2) (.int .i64 y3) (.inl rfl))).trans (OnlyH.set _ (j * 3) (.int .i64 x1) (.inl rfl))).trans (OnlyH.set _ (j * 3 + 1) (.int .u64 x2) (.inl rfl))).trans (OnlyH.set _ (j * 3 + 2) (.int .i64 x3) (.inl rfl))).trans (OnlyH.drew _)
  have e : fl (sw es i j) = _ := (fl_set (es.set i (enAt es j)) j (enAt es i) (by simpa using hj)).trans (by rw [fl_set es i (enAt es j) hi])
  rw [hx, hy] at e
  generalize (((((w.setCell ⟨g, i * 3, none⟩ (.int .i64 y1)).setCell ⟨g, i * 3 + 1, none⟩ (.int .u64 y2)).setCell ⟨g, i * 3 + 2, none⟩ (.int .i64 y3)).setCell ⟨g, j * 3, none⟩ (.int .i64 x1)).setCell ⟨g, j * 3 + 1, none⟩ (.int .u64 x2)).setCell ⟨g, j * 3 + 2, none⟩ (.int .i64 x3) = W at R6 O6 ⊢
  have HW : Hp W base p (.slice (some ⟨g, 0, none⟩) es.length c) (sw es i j) := ⟨R6.st, by rw [sw_len, e]; exact R6.own, h.ne, by rw [sw_len]; exact h.len⟩
  exact ⟨rfl, HW.kept rfl (fun _ _ => rfl), O6⟩

set_option maxHeartbeats 4000000 in
theorem swap_any (w : World) (base p g c i j : Nat) (es : List (Int × Int × Int)) (h : Hp w base p (.slice (some ⟨g, 0, none⟩) es.length c) es) (hi : i < es.length) (hj : j < es.length) :
    Calls Try.prog 73 #[.pointer (some ⟨p, 0, none⟩), .int .i64 i, .int .i64 j] w (SwapPost base p g (.slice (some ⟨g, 0, none⟩) es.length c) (sw es i j) w) := by
  have c0 := h.c0
  obtain ⟨i0, i1, i2⟩ := h.cells i hi
  obtain ⟨j0, j1, j2⟩ := h.cells j hj
  have hl := h.len
  have H := hid h
  obtain ⟨x1, hx1⟩ : ∃ x, x = (enAt es i).1 := ⟨_, rfl⟩
  obtain ⟨x2, hx2⟩ : ∃ x, x = (enAt es i).2.1 := ⟨_, rfl⟩
  obtain ⟨x3, hx3⟩ : ∃ x, x = (enAt es i).2.2 := ⟨_, rfl⟩
  obtain ⟨y1, hy1⟩ : ∃ x, x = (enAt es j).1 := ⟨_, rfl⟩
  obtain ⟨y2, hy2⟩ : ∃ x, x = (enAt es j).2.1 := ⟨_, rfl⟩
  obtain ⟨y3, hy3⟩ : ∃ x, x = (enAt es j).2.2 := ⟨_, rfl⟩
  rw [← hx1] at i0
  rw [← hx2] at i1
  rw [← hx3] at i2
  rw [← hy1] at j0
  rw [← hy2] at j1
  rw [← hy3] at j2
  have FIN := swap_fin h hi hj x1 x2 x3 y1 y2 y3 (by rw [hx1, hx2, hx3]) (by rw [hy1, hy2, hy3])
  have FIE := hid (fun (e : i = j) => swap_fin h hi hj x1 x2 x3 x1 x2 x3 (by rw [hx1, hx2, hx3]) (by rw [← e, hx1, hx2, hx3]))
  clear h hx1 hx2 hx3 hy1 hy2 hy3
  have fr := H.out.frees
  have f0 := fr (i * 3)
  have f1 := fr (i * 3 + 1)
  have f2 := fr (i * 3 + 2)
  have e0 := fr (j * 3)
  have e1 := fr (j * 3 + 1)
  have e2 := fr (j * 3 + 2)
  clear fr
  rcases Nat.lt_trichotomy i j with hij | hij | hij
  · have hij' : (i : Int) < j := by omega
    go_enter Try.func73, Try.ntmps73
    go_wp2_with fail
    go_region
    go_wp2
    go_end0
    exact FIN.out
  · subst hij
    go_enter Try.func73, Try.ntmps73
    go_wp2_with fail
    go_region
    go_wp2
    go_end0
    exact (FIE.out (by trivial)).out
  · have hij' : (j : Int) < i := by omega
    go_enter Try.func73, Try.ntmps73
    go_wp2_with fail
    go_region
    go_wp2
    go_end0
    exact FIN.out
end Go.Proofs.Ytaogpodncphpjaa
/-! Heap.rise as a contract, over a function on lists. -/
namespace Go.Proofs.Ytaogpodncphpjaa
set_option linter.unusedVariables false
set_option linter.unusedSimpArgs false
open Go.RowKit

theorem OnlyH.of_below {p base : Nat} {w w' : World} (h : Below w.heap.size w w') : OnlyH p base w w' := ⟨h.os, h.tape, h.output, h.size, fun k hk _ _ => h.block k hk⟩
theorem Hp.below {w w' : World} {base p : Nat} {v : Value} {es : List (Int × Int × Int)} (h : Hp w base p v es) (hb : Below w.heap.size w w') : Hp w' base p v es := by
  refine h.kept (hb.block _ h.lt) (fun q hq => hb.block q ?_)
  obtain ⟨h0, ⟨h1, h2⟩ | ⟨q', cap, cur, h1, h2, h3, _⟩⟩ := h.own
  · rw [h1] at hq; simp [Value.ownBlock] at hq
  · rw [h1] at hq
    simp only [Value.ownBlock, Option.some.injEq] at hq
    subst hq
    obtain ⟨hl, _⟩ := Array.getElem?_eq_some_iff.1 h3
    exact hl
/-- A heap of n entries, behind deeds that began in w0. -/
structure Hs (w0 : World) (base p g n c : Nat) (es : List (Int × Int × Int)) (w : World) : Prop where
  hp : Hp w base p (.slice (some ⟨g, 0, none⟩) n c) es
  hn : es.length = n
  ho : OnlyH p g w0 w
  hc : n ≤ c
  hm : c ≤ maxLen
namespace Hs
variable {w0 w w' : World} {base p g n c : Nat} {es : List (Int × Int × Int)}
theorem below (h : Hs w0 base p g n c es w) (hb : Below w.heap.size w w') : Hs w0 base p g n c es w' := ⟨h.hp.below hb, h.hn, h.ho.trans (.of_below hb), h.hc, h.hm⟩
theorem drew (h : Hs w0 base p g n c es w) : Hs w0 base p g n c es w.drew := ⟨h.hp.kept rfl (fun _ _ => rfl), h.hn, h.ho.trans (.drew _), h.hc, h.hm⟩
theorem cells (h : Hs w0 base p g n c es w) (i : Nat) (hi : i < n) :
    w.cell? ⟨g, i * 3, none⟩ = some (.int .i64 (enAt es i).1) ∧ w.cell? ⟨g, i * 3 + 1, none⟩ = some (.int .u64 (enAt es i).2.1) ∧ w.cell? ⟨g, i * 3 + 2, none⟩ = some (.int .i64 (enAt es i).2.2) := by
  obtain ⟨hp, rfl, _⟩ := h
  exact hp.cells i hi
theorem le (h : Hs w0 base p g n c es w) : n ≤ 100000 := by have := h.hp.len; rw [h.hn] at this; exact this
theorem swap (h : Hs w0 base p g n c es w) (i j : Nat) (hi : i < n) (hj : j < n) :
    Calls Try.prog 73 #[.pointer (some ⟨p, 0, none⟩), .int .i64 i, .int .i64 j] w fun e w' => e = .returned (.tuple #[]) ∧ Hs w0 base p g n c (sw es i j) w' := by
  obtain ⟨hp, rfl, ho, h3, h4⟩ := h
  refine (swap_any w base p g c i j es hp hi hj).mono ?_
  rintro e w' ⟨rfl, h1, h2⟩
  exact ⟨rfl, h1, by rw [sw_len], ho.trans h2, h3, h4⟩
end Hs
theorem ahead_r (a1 a2 a3 b1 b2 b3 : Int) (r : Bool) (hr : aheadE (a1, a2, a3) (b1, b2, b3) = r) (w : World) :
    Calls Try.prog 70 #[.agg #[.int .i64 a1, .int .u64 a2, .int .i64 a3], .agg #[.int .i64 b1, .int .u64 b2, .int .i64 b3]] w fun e w' => e = .returned (.bool r) ∧ Below w.heap.size w w' := by
  subst hr; exact ahead_any a1 a2 a3 b1 b2 b3 w

/-- An entry rises, at most so many times. -/
def riseF : Nat → List (Int × Int × Int) → Nat → List (Int × Int × Int)
  | 0, es, _ => es
  | f + 1, es, i => if i = 0 then es else if aheadE (enAt es i) (enAt es ((i - 1) / 4)) then riseF f (sw es i ((i - 1) / 4)) ((i - 1) / 4) else es

set_option maxHeartbeats 4000000 in
theorem rise_any (w : World) (base p g n c i : Nat) (es : List (Int × Int × Int)) (h : Hs w base p g n c es w) (hi : i < n) :
    Calls Try.prog 71 #[.pointer (some ⟨p, 0, none⟩), .int .i64 i] w fun e w' => e = .returned (.tuple #[]) ∧ Hs w base p g n c (riseF i es i) w' := by
  have hn := h.le
  have hc := h.hc
  have hm := h.hm
  unfold maxLen at hm
  have H := hid h
  obtain ⟨T, hT⟩ : ∃ T, T = riseF i es i := ⟨_, rfl⟩
  have HT := hid hT
  rw [← hT]
  clear h hT
  go_enter Try.func71, Try.ntmps71
  go_wp2_with fail
  go_loopw [1] (fun s wr => ∃ (f k : Nat) (ks : List (Int × Int × Int)), k ≤ f ∧ k < n ∧ s = .int .i64 k ∧ Hid (Hs w base p g n c ks wr) ∧ Hid (T = riseF f ks k)) (fun s _ => (intOf s).toNat)
  case atStart => exact ⟨i, i, es, Nat.le_refl _, hi, rfl, H, HT⟩
  case round =>
    clear H HT
    obtain ⟨f, k, ks, hkf, hkn, rfl, H, HT⟩ := hrel
    by_cases k0 : k = 0
    · have HZ : Hid (T = ks) := by
        have := HT.out
        rw [k0] at this
        cases f with
        | zero => exact this
        | succ f => exact (show T = ks by simpa [riseF] using this)
      have t0 : ¬ (0 : Int) < k := by omega
      clear k0
      go_wp2
      go_end0
      exact ⟨rfl, by rw [HZ.out]; exact H.out⟩
    · have t0 : (0 : Int) < k := by omega
      obtain ⟨f, rfl⟩ : ∃ f', f = f' + 1 := ⟨f - 1, by omega⟩
      obtain ⟨a, ha⟩ : ∃ a : Nat, a = (k - 1) / 4 := ⟨_, rfl⟩
      have hak : a < k := by omega
      have han : (a : Int) < n := by omega
      have ha0 : (0 : Int) ≤ a := by omega
      have w1 : IntKind.i64.wrap ((k : Int) - 1) = (k : Int) - 1 := IntWalk.i64_in _ (by omega)
      have w2 : ((k : Int) - 1).tdiv 4 = a := by rw [Int.tdiv_eq_ediv_of_nonneg (by omega)]; omega
      have w3 : IntKind.i64.wrap (a : Int) = a := IntWalk.i64_in _ (by omega)
      have HT2 : Hid (T = if aheadE (enAt ks k) (enAt ks a) then riseF f (sw ks k a) a else ks) := by
        have := HT.out
        simp only [riseF, if_neg k0, ← ha] at this
        exact this
      clear HT ha
      obtain ⟨x1, hx1⟩ : ∃ x, x = (enAt ks k).1 := ⟨_, rfl⟩
      obtain ⟨x2, hx2⟩ : ∃ x, x = (enAt ks k).2.1 := ⟨_, rfl⟩
      obtain ⟨x3, hx3⟩ : ∃ x, x = (enAt ks k).2.2 := ⟨_, rfl⟩
      obtain ⟨y1, hy1⟩ : ∃ x, x = (enAt ks a).1 := ⟨_, rfl⟩
      obtain ⟨y2, hy2⟩ : ∃ x, x = (enAt ks a).2.1 := ⟨_, rfl⟩
      obtain ⟨y3, hy3⟩ : ∃ x, x = (enAt ks a).2.2 := ⟨_, rfl⟩
      have SX := hid (fun (y : World) (h : Hs w base p g n c ks y) => (show y.cell? ⟨p, 0, none⟩ = some (.slice (some ⟨g, 0, none⟩) n c) ∧
          y.cell? ⟨g, k * 3, none⟩ = some (.int .i64 x1) ∧ y.cell? ⟨g, k * 3 + 1, none⟩ = some (.int .u64 x2) ∧ y.cell? ⟨g, k * 3 + 2, none⟩ = some (.int .i64 x3) ∧
          y.cell? ⟨g, a * 3, none⟩ = some (.int .i64 y1) ∧ y.cell? ⟨g, a * 3 + 1, none⟩ = some (.int .u64 y2) ∧ y.cell? ⟨g, a * 3 + 2, none⟩ = some (.int .i64 y3) by
        obtain ⟨i1, i2, i3⟩ := h.cells k hkn
        obtain ⟨j1, j2, j3⟩ := h.cells a (by omega)
        exact ⟨h.hp.c0, by rw [hx1]; exact i1, by rw [hx2]; exact i2, by rw [hx3]; exact i3, by rw [hy1]; exact j1, by rw [hy2]; exact j2, by rw [hy3]; exact j3⟩))
      have HD := hid H.out.drew
      obtain ⟨r, hr⟩ : ∃ r, aheadE (x1, x2, x3) (y1, y2, y3) = r := ⟨_, rfl⟩
      have HR : Hid (aheadE (enAt ks k) (enAt ks a) = r) := by rw [← hr, hx1, hx2, hx3, hy1, hy2, hy3]; exact rfl
      have AH := hid (fun y => ahead_r x1 x2 x3 y1 y2 y3 r hr y)
      clear hx1 hx2 hx3 hy1 hy2 hy3 hr H k0
      rcases r with _ | _
      · go_upto_region 2 with (fail)
        go_region_held3 (fun y => y.cell? ⟨p, 0, none⟩ = some (.slice (some ⟨g, 0, none⟩) n c) ∧
          y.cell? ⟨g, k * 3, none⟩ = some (.int .i64 x1) ∧ y.cell? ⟨g, k * 3 + 1, none⟩ = some (.int .u64 x2) ∧ y.cell? ⟨g, k * 3 + 2, none⟩ = some (.int .i64 x3) ∧
          y.cell? ⟨g, a * 3, none⟩ = some (.int .i64 y1) ∧ y.cell? ⟨g, a * 3 + 1, none⟩ = some (.int .u64 y2) ∧ y.cell? ⟨g, a * 3 + 2, none⟩ = some (.int .i64 y3))
          (first
            | exact SX.out _ H1.out
            | exact SX.out _ HD.out)
          (first
            | (go_at_call 70; with_reducible refine (AH.out _).mono ?_; rintro e y1 ⟨rfl, hb1⟩; have H1 := hid (HD.out.below hb1); clear hb1))
        have HF : Hid (T = ks) := by have := HT2.out; rw [HR.out] at this; exact this
        clear SX HD AH
        go_wp2
        refine bodyPost_ret (results_none rfl _ _ _) rfl ?_
        exact ⟨rfl, by rw [HF.out]; exact H1.out⟩
      · go_upto_region 2 with (fail)
        go_region_held3 (fun y => y.cell? ⟨p, 0, none⟩ = some (.slice (some ⟨g, 0, none⟩) n c) ∧
          y.cell? ⟨g, k * 3, none⟩ = some (.int .i64 x1) ∧ y.cell? ⟨g, k * 3 + 1, none⟩ = some (.int .u64 x2) ∧ y.cell? ⟨g, k * 3 + 2, none⟩ = some (.int .i64 x3) ∧
          y.cell? ⟨g, a * 3, none⟩ = some (.int .i64 y1) ∧ y.cell? ⟨g, a * 3 + 1, none⟩ = some (.int .u64 y2) ∧ y.cell? ⟨g, a * 3 + 2, none⟩ = some (.int .i64 y3))
          (first
            | exact SX.out _ H1.out
            | exact SX.out _ HD.out)
          (first
            | (go_at_call 70; with_reducible refine (AH.out _).mono ?_; rintro e y1 ⟨rfl, hb1⟩; have H1 := hid (HD.out.below hb1); clear hb1))
        have HF : Hid (T = riseF f (sw ks k a) a) := by have := HT2.out; rw [HR.out] at this; exact this
        clear SX HD AH
        go_wp2_with fail
        refine (H1.out.swap k a hkn (by omega)).mono ?_
        rintro e y2 ⟨rfl, h2⟩
        have H2 := hid h2
        clear h2 w1 w2 w3
        go_wp2
        go_roundw
        case rel => exact ⟨f, a, sw ks k a, by omega, by omega, rfl, H2, HF⟩
        case measure => simp [intOf]; omega
end Go.Proofs.Ytaogpodncphpjaa
/-! Heap.sink as a contract, over a function on lists. -/
namespace Go.Proofs.Ytaogpodncphpjaa
set_option linter.unusedVariables false
set_option linter.unusedSimpArgs false
open Go.RowKit

/-- The one that is ahead, of the least so far and the one at a place, if there is one. -/
def kid (es : List (Int × Int × Int)) (n l c : Nat) : Nat := if c < n ∧ aheadE (enAt es c) (enAt es l) = true then c else l
/-- The least of one and of so many under it. -/
def lk (es : List (Int × Int × Int)) (n i : Nat) : Nat → Nat
  | 0 => i
  | k + 1 => kid es n (lk es n i k) (4 * i + 1 + k)
theorem kid_yes {es : List (Int × Int × Int)} {n l c : Nat} (h : c < n) (ha : aheadE (enAt es c) (enAt es l) = true) : kid es n l c = c := by simp [kid, h, ha]
theorem kid_no {es : List (Int × Int × Int)} {n l c : Nat} (ha : aheadE (enAt es c) (enAt es l) = false) : kid es n l c = l := by simp [kid, ha]
theorem kid_out {es : List (Int × Int × Int)} {n l c : Nat} (h : n ≤ c) : kid es n l c = l := by
  unfold kid; rw [if_neg (by omega)]
theorem lk_ge (es : List (Int × Int × Int)) (n i : Nat) : ∀ j, i ≤ lk es n i j
  | 0 => Nat.le_refl _
  | j + 1 => by
    have := lk_ge es n i j
    unfold lk kid
    split <;> omega
theorem lk_lt (es : List (Int × Int × Int)) (n i : Nat) (h : i < n) : ∀ j, lk es n i j < n
  | 0 => h
  | j + 1 => by
    have := lk_lt es n i h j
    unfold lk kid
    split <;> omega
theorem lk_stop (es : List (Int × Int × Int)) (n i j : Nat) (h : n ≤ 4 * i + 1 + j) : ∀ d, lk es n i (j + d) = lk es n i j
  | 0 => rfl
  | d + 1 => by
    show kid es n (lk es n i (j + d)) (4 * i + 1 + (j + d)) = _
    rw [kid_out (by omega), lk_stop es n i j h d]
/-- An entry sinks, at most so many times. -/
def sinkF : Nat → List (Int × Int × Int) → Nat → Nat → List (Int × Int × Int)
  | 0, es, _, _ => es
  | f + 1, es, n, i => if lk es n i 4 = i then es else sinkF f (sw es i (lk es n i 4)) n (lk es n i 4)

theorem Hs.len {w0 w : World} {base p g n c : Nat} {es : List (Int × Int × Int)} (h : Hs w0 base p g n c es w) :
    Calls Try.prog 72 #[.pointer (some ⟨p, 0, none⟩)] w fun e w' => e = .returned (.int .i64 n) ∧ w' = w := by
  obtain ⟨hp, rfl, _⟩ := h
  exact hlen w base p _ es hp

set_option maxRecDepth 100000 in
set_option maxHeartbeats 8000000 in
theorem sink_any (w : World) (base p g n c i : Nat) (es : List (Int × Int × Int)) (h : Hs w base p g n c es w) (hi : i < n ∨ (n = 0 ∧ i = 0)) :
    Calls Try.prog 74 #[.pointer (some ⟨p, 0, none⟩), .int .i64 i] w fun e w' => e = .returned (.tuple #[]) ∧ Hs w base p g n c (sinkF (n + 1) es n i) w' := by
  have hn := h.le
  have hc := h.hc
  have hm := h.hm
  unfold maxLen at hm
  have H := hid h
  obtain ⟨T, hT⟩ : ∃ T, T = sinkF (n + 1) es n i := ⟨_, rfl⟩
  have HT := hid hT
  rw [← hT]
  clear h hT
  go_enter Try.func74, Try.ntmps74
  go_wp2_with fail
  go_step3
  go_wp2_with fail
  go_step3
  go_wp2_with fail
  go_loopw [1] (fun s wr => ∃ (f k : Nat) (ks : List (Int × Int × Int)), n + 1 ≤ k + f ∧ (k < n ∨ (n = 0 ∧ k = 0)) ∧ s = .int .i64 k ∧ Hid (Hs w base p g n c ks wr) ∧ Hid (T = sinkF f ks n k)) (fun s _ => n - (intOf s).toNat)
  case atStart => exact ⟨n + 1, i, es, by omega, hi, rfl, H, HT⟩
  case round =>
    clear H HT
    obtain ⟨f, k, ks, hkf, hkn, rfl, H, HT⟩ := hrel
    obtain ⟨wo, rfl⟩ : ∃ wo : World, wo = wr := ⟨_, rfl⟩
    obtain ⟨f, rfl⟩ : ∃ f', f = f' + 1 := ⟨f - 1, by omega⟩
    have hk6 : k ≤ 100000 := by omega
    go_wp2_with fail
    go_loopw [4, 5] (fun ls cs wr => ∃ (l cc j : Nat), j ≤ 4 ∧ 4 * k + 1 + j ≤ cc ∧ cc ≤ 4 * k + 1 + j ∧ ls = .int .i64 l ∧ cs = .int .i64 cc ∧ Hid (Hs w base p g n c ks wr) ∧ Hid (l = lk ks n k j) ∧ Hid (k ≤ l) ∧ Hid (l < n ∨ (n = 0 ∧ l = 0))) (fun _ cs _ => 4 * k + 6 - (intOf cs).toNat)
    case atStart => exact ⟨k, 4 * k + 1, 0, by omega, by omega, by omega, rfl, by go_num, H, hid rfl, Nat.le_refl _, hkn⟩
    case round =>
      clear H
      obtain ⟨l, cc, j, hj, hc1, hc2, rfl, rfl, H, HL, HGE, HLT⟩ := hrel
      by_cases hj4 : j < 4
      · have t1 : (cc : Int) ≤ 4 * k + 4 := by omega
        go_wp2_with fail
        refine (H.out.len).mono ?_
        rintro e w' ⟨rfl, rfl⟩
        by_cases hcn : cc < n
        · have t2 : (cc : Int) < n := by omega
          have hl : l < n := by have := HLT.out; omega
          have hl' : (l : Int) < n := by omega
          obtain ⟨x1, hx1⟩ : ∃ x, x = (enAt ks cc).1 := ⟨_, rfl⟩
          obtain ⟨x2, hx2⟩ : ∃ x, x = (enAt ks cc).2.1 := ⟨_, rfl⟩
          obtain ⟨x3, hx3⟩ : ∃ x, x = (enAt ks cc).2.2 := ⟨_, rfl⟩
          obtain ⟨y1, hy1⟩ : ∃ x, x = (enAt ks l).1 := ⟨_, rfl⟩
          obtain ⟨y2, hy2⟩ : ∃ x, x = (enAt ks l).2.1 := ⟨_, rfl⟩
          obtain ⟨y3, hy3⟩ : ∃ x, x = (enAt ks l).2.2 := ⟨_, rfl⟩
          have SX := hid (fun (y : World) (h : Hs w base p g n c ks y) => (show y.cell? ⟨p, 0, none⟩ = some (.slice (some ⟨g, 0, none⟩) n c) ∧
            y.cell? ⟨g, cc * 3, none⟩ = some (.int .i64 x1) ∧ y.cell? ⟨g, cc * 3 + 1, none⟩ = some (.int .u64 x2) ∧ y.cell? ⟨g, cc * 3 + 2, none⟩ = some (.int .i64 x3) ∧
            y.cell? ⟨g, l * 3, none⟩ = some (.int .i64 y1) ∧ y.cell? ⟨g, l * 3 + 1, none⟩ = some (.int .u64 y2) ∧ y.cell? ⟨g, l * 3 + 2, none⟩ = some (.int .i64 y3) by
            obtain ⟨i1, i2, i3⟩ := h.cells cc hcn
            obtain ⟨j1, j2, j3⟩ := h.cells l hl
            exact ⟨h.hp.c0, by rw [hx1]; exact i1, by rw [hx2]; exact i2, by rw [hx3]; exact i3, by rw [hy1]; exact j1, by rw [hy2]; exact j2, by rw [hy3]; exact j3⟩))
          have HD := hid H.out.drew
          obtain ⟨r, hr⟩ : ∃ r, aheadE (x1, x2, x3) (y1, y2, y3) = r := ⟨_, rfl⟩
          have HR : Hid (aheadE (enAt ks cc) (enAt ks l) = r) := by rw [← hr, hx1, hx2, hx3, hy1, hy2, hy3]; exact rfl
          have AH := hid (fun y => ahead_r x1 x2 x3 y1 y2 y3 r hr y)
          have HK : Hid (lk ks n k (j + 1) = kid ks n l cc) := by
            show kid ks n (lk ks n k j) (4 * k + 1 + j) = _
            rw [← HL.out, show 4 * k + 1 + j = cc by omega]
          clear hx1 hx2 hx3 hy1 hy2 hy3 hr H HL
          rcases r with _ | _
          · go_upto_region 5 with (fail)
            go_region_held3 (fun y => y.cell? ⟨p, 0, none⟩ = some (.slice (some ⟨g, 0, none⟩) n c) ∧
            y.cell? ⟨g, cc * 3, none⟩ = some (.int .i64 x1) ∧ y.cell? ⟨g, cc * 3 + 1, none⟩ = some (.int .u64 x2) ∧ y.cell? ⟨g, cc * 3 + 2, none⟩ = some (.int .i64 x3) ∧
            y.cell? ⟨g, l * 3, none⟩ = some (.int .i64 y1) ∧ y.cell? ⟨g, l * 3 + 1, none⟩ = some (.int .u64 y2) ∧ y.cell? ⟨g, l * 3 + 2, none⟩ = some (.int .i64 y3))
              (first
                | exact SX.out _ H1.out
                | exact SX.out _ HD.out)
              (first
                | (go_at_call 70; with_reducible refine (AH.out _).mono ?_; rintro e y1 ⟨rfl, hb1⟩; have H1 := hid (HD.out.below hb1); clear hb1))
            have HN : Hid (l = lk ks n k (j + 1)) := by rw [HK.out, kid_no HR.out]; exact rfl
            clear SX HD AH HK
            go_wp2
            go_roundw
            case rel => exact ⟨l, cc + 1, j + 1, by omega, by omega, by omega, rfl, by go_num, H1, HN, HGE, HLT⟩
            case measure => simp [intOf]; omega
          · go_upto_region 5 with (fail)
            go_region_held3 (fun y => y.cell? ⟨p, 0, none⟩ = some (.slice (some ⟨g, 0, none⟩) n c) ∧
            y.cell? ⟨g, cc * 3, none⟩ = some (.int .i64 x1) ∧ y.cell? ⟨g, cc * 3 + 1, none⟩ = some (.int .u64 x2) ∧ y.cell? ⟨g, cc * 3 + 2, none⟩ = some (.int .i64 x3) ∧
            y.cell? ⟨g, l * 3, none⟩ = some (.int .i64 y1) ∧ y.cell? ⟨g, l * 3 + 1, none⟩ = some (.int .u64 y2) ∧ y.cell? ⟨g, l * 3 + 2, none⟩ = some (.int .i64 y3))
              (first
                | exact SX.out _ H1.out
                | exact SX.out _ HD.out)
              (first
                | (go_at_call 70; with_reducible refine (AH.out _).mono ?_; rintro e y1 ⟨rfl, hb1⟩; have H1 := hid (HD.out.below hb1); clear hb1))
            have HN : Hid (cc = lk ks n k (j + 1)) := by rw [HK.out, kid_yes hcn HR.out]; exact rfl
            have HG2 : Hid (k ≤ cc) := (show k ≤ cc by omega)
            clear SX HD AH HK
            go_wp2
            go_roundw
            case rel => exact ⟨cc, cc + 1, j + 1, by omega, by omega, by omega, rfl, by go_num, H1, HN, HG2, .inl hcn⟩
            case measure => simp [intOf]; omega
        · have t2 : (n : Int) ≤ cc := by omega
          have HL4 : Hid (l = lk ks n k 4) := by
            have := lk_stop ks n k j (by omega) (4 - j)
            rw [show j + (4 - j) = 4 by omega, ← HL.out] at this
            exact this.symm
          clear HL
          by_cases hlk : l = k
          · have tl : ((l : Int) == k) = true := by simp [hlk]
            have HF : Hid (T = ks) := by
              have := HT.out
              simp only [sinkF, ← HL4.out, if_pos hlk] at this
              exact this
            clear hlk HT HL4
            go_wp2
            try simp only [Exit.noGoto_normal, Exit.noGoto_ret]
            first
              | go_end0
              | refine bodyPost_ret (results_none rfl _ _ _) rfl ?_
              | trace_state
            exact ⟨rfl, by rw [HF.out]; exact H.out⟩
          · have tl : ((l : Int) == k) = false := by simp; omega
            have hlg : k < l := by have := HGE.out; omega
            have hln : l < n := by have := HLT.out; omega
            have HF : Hid (T = sinkF f (sw ks k l) n l) := by
              have := HT.out
              simp only [sinkF, ← HL4.out, if_neg hlk] at this
              exact this
            clear hlk HT HL4
            go_wp2_with fail
            refine (H.out.swap k l (by omega) hln).mono ?_
            rintro e y2 ⟨rfl, h2⟩
            have H2 := hid h2
            clear h2
            go_wp2
            go_roundw
            case rel => exact ⟨f, l, sw ks k l, by omega, .inl hln, rfl, H2, HF⟩
            case measure => simp [intOf]; omega
      · have t1 : ¬ (cc : Int) ≤ 4 * k + 4 := by omega
        have HL4 : Hid (l = lk ks n k 4) := by
          have := HL.out
          rw [show j = 4 by omega] at this
          exact this
        clear HL
        by_cases hlk : l = k
        · have tl : ((l : Int) == k) = true := by simp [hlk]
          have HF : Hid (T = ks) := by
            have := HT.out
            simp only [sinkF, ← HL4.out, if_pos hlk] at this
            exact this
          clear hlk HT HL4
          go_wp2
          try simp only [Exit.noGoto_normal, Exit.noGoto_ret]
          first
            | go_end0
            | refine bodyPost_ret (results_none rfl _ _ _) rfl ?_
            | trace_state
          exact ⟨rfl, by rw [HF.out]; exact H.out⟩
        · have tl : ((l : Int) == k) = false := by simp; omega
          have hlg : k < l := by have := HGE.out; omega
          have hln : l < n := by have := HLT.out; omega
          have HF : Hid (T = sinkF f (sw ks k l) n l) := by
            have := HT.out
            simp only [sinkF, ← HL4.out, if_neg hlk] at this
            exact this
          clear hlk HT HL4
          go_wp2_with fail
          refine (H.out.swap k l (by omega) hln).mono ?_
          rintro e y2 ⟨rfl, h2⟩
          have H2 := hid h2
          clear h2
          go_wp2
          go_roundw
          case rel => exact ⟨f, l, sw ks k l, by omega, .inl hln, rfl, H2, HF⟩
          case measure => simp [intOf]; omega
end Go.Proofs.Ytaogpodncphpjaa
/-! Heap.Put as a contract. -/
namespace Go.Proofs.Ytaogpodncphpjaa
set_option linter.unusedVariables false
set_option linter.unusedSimpArgs false
open Go.RowKit

theorem infoEnt : (Try.prog.info? 88).map (fun i => (i.zero, i.size, i.bytes)) = some (some (.agg #[.int .i64 0, .int .u64 0, .int .i64 0]), 3, 24) := by kernel_rfl

/-- The change that a heap's deeds make, its row not named: its struct, the call's own blocks, new blocks. -/
structure OnlyV (p : Nat) (base : Nat) (w w' : World) : Prop where
  os : w'.os = w.os
  tape : w'.tape = w.tape
  output : w'.output = w.output
  size : w.heap.size ≤ w'.heap.size
  block : ∀ k, k < w.heap.size → k < base → k ≠ p → w'.heap[k]? = w.heap[k]?
theorem OnlyV.refl {p base : Nat} (w : World) : OnlyV p base w w := ⟨rfl, rfl, rfl, Nat.le_refl _, fun _ _ _ _ => rfl⟩
theorem OnlyV.trans {p base : Nat} {a b c : World} (h : OnlyV p base a b) (k : OnlyV p base b c) : OnlyV p base a c :=
  ⟨k.os.trans h.os, k.tape.trans h.tape, k.output.trans h.output, Nat.le_trans h.size k.size, fun i h1 h2 h3 => (k.block i (Nat.lt_of_lt_of_le h1 h.size) h2 h3).trans (h.block i h1 h2 h3)⟩
theorem OnlyV.of_h {p base g : Nat} {w w' : World} (h : OnlyH p g w w') (hb : base ≤ g) : OnlyV p base w w' := ⟨h.os, h.tape, h.output, h.size, fun k h1 h2 h3 => h.block k h1 (by omega) h3⟩
theorem Hs.ge {w0 w : World} {base p g n c : Nat} {es : List (Int × Int × Int)} (h : Hs w0 base p g n c es w) : base ≤ g ∧ g < w.heap.size ∧ g ≠ p := by
  have hne := h.hp.ne
  obtain ⟨_, ⟨h1, _⟩ | ⟨q, cap, cur, h1, h2, h3, _⟩⟩ := h.hp.own
  · cases h1
  · simp only [Value.slice.injEq, Option.some.injEq, Addr.mk.injEq] at h1
    obtain ⟨⟨rfl, _⟩, _⟩ := h1
    obtain ⟨hl, _⟩ := Array.getElem?_eq_some_iff.1 h3
    exact ⟨h2, hl, fun e => hne (by rw [← e]; rfl)⟩

theorem put_fin {w w4 : World} {base p gg cap n : Nat} {v : Value} {es : List (Int × Int × Int)} {a b c : Int} (h : Hp w base p v es) (hn : es.length = n) (hb : base ≤ w.heap.size) (hl : n < 100000) (o1 o2 : Obj)
    (hown : w4.ownsRow base 88 3 (.slice (some ⟨gg, 0, none⟩) (n + 1) cap) (n + 1) (fl es ++ [.int .i64 a, .int .u64 b, .int .i64 c]))
    (hg : ((w.alloc o1).alloc o2).drew.grownBy w4 v.ownBlock) (hat : v.ownBlock = some gg ∨ gg = w.heap.size + 2) (W : World) (hW : W = w4.setCell ⟨p, 0, none⟩ (.slice (some ⟨gg, 0, none⟩) (n + 1) cap)) :
    Hid (Hs W base p gg (n + 1) cap (es ++ [(a, b, c)]) W ∧ OnlyV p base w W) := by
  subst hW
  have hp := h.lt
  have hvp := h.ne
  have hgp : gg ≠ p := by
    rcases hat with e | e
    · intro e2; exact hvp (by rw [e, e2])
    · omega
  have hsz := hg.size
  have hsz' : w.heap.size + 2 ≤ w4.heap.size := by simpa using hsz
  have hp4 : w4.heap[p]? = some (.cells #[v] 100 (0, 0)) := by
    rw [hg.block p (by simp; omega) (fun e => hvp e.symm)]
    show ((w.alloc o1).alloc o2).heap[p]? = _
    rw [Below.heap_alloc _ _ _ (by simp; omega), Below.heap_alloc _ _ _ (by omega)]; exact h.st
  have e1 : fl (es ++ [(a, b, c)]) = fl es ++ [.int .i64 a, .int .u64 b, .int .i64 c] := by rw [fl_app]; simp [fl, ent]
  obtain ⟨_, ⟨h1, h2⟩ | ⟨q, cap', cur, h1, h2, h3, h4, h5, _⟩⟩ := id hown
  · cases h1
  · simp only [Value.slice.injEq, Option.some.injEq, Addr.mk.injEq] at h1
    obtain ⟨⟨rfl, _⟩, _, rfl⟩ := h1
    refine ⟨⟨⟨?_, ?_, ?_, by simp; omega⟩, by simp [hn], OnlyH.refl _, h4, h5⟩, ?_⟩
    · simp [World.setCell, Array.getElem?_modify, hp4]
    · have := ownsRow_setCell_other hown (a := ⟨p, 0, none⟩) (by simp [Value.ownBlock]; exact hgp) (.slice (some ⟨gg, 0, none⟩) (n + 1) cap)
      rw [← e1] at this
      simpa [hn] using this
    · simp [Value.ownBlock]; exact hgp
    · refine ⟨hg.os, hg.tape, hg.output, by simp [World.setCell]; omega, fun k h1 h2 h3 => ?_⟩
      rw [Below.heap_setCell _ _ _ _ h3, hg.block k (by simp; omega) (fun e => ?_)]
      · show ((w.alloc o1).alloc o2).heap[k]? = _
        rw [Below.heap_alloc _ _ _ (by simp; omega), Below.heap_alloc _ _ _ (by omega)]
      · obtain ⟨_, ⟨g1, _⟩ | ⟨q, _, _, g1, g2, _⟩⟩ := h.own
        · rw [g1] at e; simp [Value.ownBlock] at e
        · rw [g1] at e; simp [Value.ownBlock] at e; omega

theorem rise_i (w : World) (base p g n c k : Nat) (i : Int) (es : List (Int × Int × Int)) (h : Hs w base p g n c es w) (hk : k < n) (hi : i = k) :
    Calls Try.prog 71 #[.pointer (some ⟨p, 0, none⟩), .int .i64 i] w fun e w' => e = .returned (.tuple #[]) ∧ Hs w base p g n c (riseF k es k) w' := by
  subst hi; exact rise_any w base p g n c k es h hk

set_option maxHeartbeats 8000000 in
theorem put_any (w : World) (base p : Nat) (v : Value) (es : List (Int × Int × Int)) (a b c : Int) (h : Hp w base p v es) (hb : base ≤ w.heap.size) (hl : es.length < 100000) :
    Calls Try.prog 58 #[.pointer (some ⟨p, 0, none⟩), .agg #[.int .i64 a, .int .u64 b, .int .i64 c]] w fun e w' => e = .returned (.tuple #[]) ∧
      ∃ v', Hp w' base p v' (riseF es.length (es ++ [(a, b, c)]) es.length) ∧ OnlyV p base w w' := by
  obtain ⟨n, hn⟩ : ∃ n, es.length = n := ⟨_, rfl⟩
  rw [hn] at hl ⊢
  have hp := h.lt
  have c0 : (w.alloc (.cells #[.int .i64 a, .int .u64 b, .int .i64 c] 88)).cell? ⟨p, 0, none⟩ = some v := cell_ent ((Below.heap_alloc _ _ _ hp).trans h.st) rfl
  have FIN := hid (fun (w4 : World) gg cap => put_fin (w4 := w4) (gg := gg) (cap := cap) (a := a) (b := b) (c := c) h hn hb hl (.cells #[.int .i64 a, .int .u64 b, .int .i64 c] 88) (.cells #[.int .i64 a, .int .u64 b, .int .i64 c] 88))
  have OWN := hid (show w.ownsRow base 88 3 v n (fl es) by rw [← hn]; exact h.own)
  have PC := hid (fun (w4 : World) (hg : ((w.alloc (.cells #[.int .i64 a, .int .u64 b, .int .i64 c] 88)).alloc (.cells #[.int .i64 a, .int .u64 b, .int .i64 c] 88)).drew.grownBy w4 v.ownBlock) =>
    (show w4.cell? ⟨p, 0, none⟩ = some v ∧ w4.frozen? ⟨p, 0, none⟩ = false by
      have hvp := h.ne
      have hp4 : w4.heap[p]? = some (.cells #[v] 100 (0, 0)) := by
        rw [hg.block p (by simp; omega) (fun e => hvp e.symm)]
        show ((w.alloc _).alloc _).heap[p]? = _
        rw [Below.heap_alloc _ _ _ (by simp; omega), Below.heap_alloc _ _ _ (by omega)]; exact h.st
      exact ⟨cell_ent hp4 rfl, by simp [World.frozen?, hp4]⟩))
  have B1 := hid (show n + 1 ≤ maxLen by unfold maxLen; omega)
  have B2 := hid (show (n + 1) * 24 ≤ 140737488355328 by omega)
  have HB := hid hb
  have NB := hid (show ((w.alloc (.cells #[.int .i64 a, .int .u64 b, .int .i64 c] 88)).alloc (.cells #[.int .i64 a, .int .u64 b, .int .i64 c] 88)).drew.heap[w.heap.size + 1]? = some (.cells #[.int .i64 a, .int .u64 b, .int .i64 c] 88 (0, 0)) by
    have := heap_alloc_new (w.alloc (.cells #[.int .i64 a, .int .u64 b, .int .i64 c] 88)) (.cells #[.int .i64 a, .int .u64 b, .int .i64 c] 88)
    rw [World.size_alloc] at this
    exact this)
  obtain ⟨i0, hi, hz0, hz1, hz2⟩ := info_parts infoEnt
  clear h
  go_enter Try.func58, Try.ntmps58
  go_wp2_with fail
  go_region_law ((refine step_append_lies _ (by rfl) _ _ _ (by rfl) base 88 i0 _ 3 24 Try.underlying98 hi hz0 hz1 hz2 rfl (by omega) _ n _ (by rfl) ((OWN.out.alloc _).alloc _) ⟨w.heap.size + 1, 0, none⟩ 1 1 [.int .i64 a, .int .u64 b, .int .i64 c] (by rfl) (by rfl) (World.news_of_block (cs := #[.int .i64 a, .int .u64 b, .int .i64 c]) (t := 88) (fr := (0, 0)) NB.out) (by simp [Value.oneCell']) (by omega) B1.out B2.out (by simp; omega) (w.heap.size + 2) (by simp) ?_; intro gg cap w4 hown4 hgrow4 hat4 hlt4; obtain ⟨y0, f0⟩ := PC.out _ hgrow4; have FN := hid (FIN.out _ _ _ hown4 hgrow4 hat4 _ rfl); clear hown4 hgrow4 hat4 hlt4))
  all_goals
    have HS := hid FN.out.1
    have HO := hid FN.out.2
    clear FN y0 f0 c0 FIN PC NB OWN
    go_wp2_with fail
    refine (HS.out.len).mono ?_
    rintro e w' ⟨rfl, rfl⟩
    go_wp2_with fail
    refine (rise_i _ base p gg (n + 1) cap n _ _ HS.out (by omega) (by omega)).mono ?_
    rintro e w6 ⟨rfl, h6⟩
    have H6 := hid h6
    clear h6
    go_wp2
    try simp only [Exit.noGoto_normal, Exit.noGoto_ret]
    go_end0
    exact ⟨rfl, _, H6.out.hp, HO.out.trans (.of_h H6.out.ho H6.out.ge.1)⟩
end Go.Proofs.Ytaogpodncphpjaa
/-! Heap.Put, and what it leaves as it was, its row named. -/
namespace Go.Proofs.Ytaogpodncphpjaa
set_option linter.unusedVariables false
set_option linter.unusedSimpArgs false
open Go.RowKit

/-- Only the heap's struct, its row, new blocks. -/
structure OnlyQ (p : Nat) (v : Value) (w w' : World) : Prop where
  size : w.heap.size ≤ w'.heap.size
  block : ∀ k, k < w.heap.size → k ≠ p → v.ownBlock ≠ some k → w'.heap[k]? = w.heap[k]?
theorem OnlyQ.blk {p k : Nat} {v : Value} {w w' : World} {o : Obj} (h : OnlyQ p v w w') (hk : w.heap[k]? = some o) (h2 : k ≠ p) (h1 : v.ownBlock ≠ some k) : w'.heap[k]? = some o := by
  obtain ⟨hl, _⟩ := Array.getElem?_eq_some_iff.1 hk
  exact (h.block k hl h2 h1).trans hk

theorem Hp.own_lt {w : World} {base p : Nat} {v : Value} {es : List (Int × Int × Int)} (h : Hp w base p v es) : ∀ q, v.ownBlock = some q → base ≤ q ∧ q < w.heap.size := by
  intro q hq
  obtain ⟨_, ⟨h1, h2⟩ | ⟨g, cap, cur, h1, h2, h3, h4⟩⟩ := h.own
  · rw [h1] at hq; cases hq
  · rw [h1] at hq
    simp only [Value.ownBlock, Option.some.injEq] at hq
    subst hq
    exact ⟨h2, by obtain ⟨hl, _⟩ := Array.getElem?_eq_some_iff.1 h3; exact hl⟩
theorem Hp.other {w w' : World} {base p b : Nat} {v : Value} {es : List (Int × Int × Int)} (h : Hp w base p v es) (ho : Only b b w w') (h1 : b ≠ p) (h2 : v.ownBlock ≠ some b) : Hp w' base p v es :=
  h.kept (ho.block _ h.lt (fun e => h1 e.symm) (fun e => h1 e.symm)) (fun q hq => ho.block _ (h.own_lt q hq).2 (fun e => h2 (by rw [hq, e])) (fun e => h2 (by rw [hq, e])))
theorem set3 {w : World} {b : Nat} {t : TypeId} {a0 a1 a2 : Value} (h : w.heap[b]? = some (.cells #[a0, a1, a2] t (0, 0))) (x y z : Value) :
    Hid (Only b b w (((w.setCell ⟨b, 0, none⟩ x).setCell ⟨b, 1, none⟩ y).setCell ⟨b, 2, none⟩ z) ∧ (((w.setCell ⟨b, 0, none⟩ x).setCell ⟨b, 1, none⟩ y).setCell ⟨b, 2, none⟩ z).heap[b]? = some (.cells #[x, y, z] t (0, 0))) := by
  refine ⟨⟨rfl, rfl, rfl, by simp [World.setCell], fun k _ hk _ => ?_⟩, by simp [World.setCell, Array.getElem?_modify, h]⟩
  rw [Below.heap_setCell _ _ _ _ hk, Below.heap_setCell _ _ _ _ hk, Below.heap_setCell _ _ _ _ hk]
theorem put_fin2 {w w4 : World} {base p gg cap n : Nat} {v : Value} {es : List (Int × Int × Int)} {a b c : Int} (h : Hp w base p v es) (hn : es.length = n) (hb : base ≤ w.heap.size) (hl : n < 100000) (o1 o2 : Obj)
    (hown : w4.ownsRow base 88 3 (.slice (some ⟨gg, 0, none⟩) (n + 1) cap) (n + 1) (fl es ++ [.int .i64 a, .int .u64 b, .int .i64 c]))
    (hg : ((w.alloc o1).alloc o2).drew.grownBy w4 v.ownBlock) (hat : v.ownBlock = some gg ∨ gg = w.heap.size + 2) (W : World) (hW : W = w4.setCell ⟨p, 0, none⟩ (.slice (some ⟨gg, 0, none⟩) (n + 1) cap)) :
    Hid (Hs W base p gg (n + 1) cap (es ++ [(a, b, c)]) W ∧ OnlyV p base w W ∧ ∀ w6, OnlyH p gg W w6 → OnlyQ p v w w6) := by
  obtain ⟨h1, h2⟩ := (put_fin h hn hb hl o1 o2 hown hg hat W hW).out
  refine ⟨h1, h2, fun w6 ho => ⟨Nat.le_trans h2.size ho.size, fun k hk hp hv => ?_⟩⟩
  have hgk : k ≠ gg := by
    rcases hat with e | e
    · exact fun e2 => hv (by rw [e, e2])
    · omega
  rw [ho.block k (Nat.lt_of_lt_of_le hk h2.size) hgk hp, hW, Below.heap_setCell _ _ _ _ hp, hg.block k (by simp; omega) (fun e => hv e.symm)]
  show ((w.alloc o1).alloc o2).heap[k]? = _
  rw [Below.heap_alloc _ _ _ (by simp; omega), Below.heap_alloc _ _ _ hk]

set_option maxHeartbeats 8000000 in
theorem put_all (w : World) (base p : Nat) (v : Value) (es : List (Int × Int × Int)) (a b c : Int) (h : Hp w base p v es) (hb : base ≤ w.heap.size) (hl : es.length < 100000) :
    Calls Try.prog 58 #[.pointer (some ⟨p, 0, none⟩), .agg #[.int .i64 a, .int .u64 b, .int .i64 c]] w fun e w' => e = .returned (.tuple #[]) ∧
      ∃ v', Hp w' base p v' (riseF es.length (es ++ [(a, b, c)]) es.length) ∧ OnlyV p base w w' ∧ OnlyQ p v w w' := by
  obtain ⟨n, hn⟩ : ∃ n, es.length = n := ⟨_, rfl⟩
  rw [hn] at hl ⊢
  have hp := h.lt
  have c0 : (w.alloc (.cells #[.int .i64 a, .int .u64 b, .int .i64 c] 88)).cell? ⟨p, 0, none⟩ = some v := cell_ent ((Below.heap_alloc _ _ _ hp).trans h.st) rfl
  have FIN := hid (fun (w4 : World) gg cap => put_fin2 (w4 := w4) (gg := gg) (cap := cap) (a := a) (b := b) (c := c) h hn hb hl (.cells #[.int .i64 a, .int .u64 b, .int .i64 c] 88) (.cells #[.int .i64 a, .int .u64 b, .int .i64 c] 88))
  have OWN := hid (show w.ownsRow base 88 3 v n (fl es) by rw [← hn]; exact h.own)
  have PC := hid (fun (w4 : World) (hg : ((w.alloc (.cells #[.int .i64 a, .int .u64 b, .int .i64 c] 88)).alloc (.cells #[.int .i64 a, .int .u64 b, .int .i64 c] 88)).drew.grownBy w4 v.ownBlock) =>
    (show w4.cell? ⟨p, 0, none⟩ = some v ∧ w4.frozen? ⟨p, 0, none⟩ = false by
      have hvp := h.ne
      have hp4 : w4.heap[p]? = some (.cells #[v] 100 (0, 0)) := by
        rw [hg.block p (by simp; omega) (fun e => hvp e.symm)]
        show ((w.alloc _).alloc _).heap[p]? = _
        rw [Below.heap_alloc _ _ _ (by simp; omega), Below.heap_alloc _ _ _ (by omega)]; exact h.st
      exact ⟨cell_ent hp4 rfl, by simp [World.frozen?, hp4]⟩))
  have B1 := hid (show n + 1 ≤ maxLen by unfold maxLen; omega)
  have B2 := hid (show (n + 1) * 24 ≤ 140737488355328 by omega)
  have HB := hid hb
  have NB := hid (show ((w.alloc (.cells #[.int .i64 a, .int .u64 b, .int .i64 c] 88)).alloc (.cells #[.int .i64 a, .int .u64 b, .int .i64 c] 88)).drew.heap[w.heap.size + 1]? = some (.cells #[.int .i64 a, .int .u64 b, .int .i64 c] 88 (0, 0)) by
    have := heap_alloc_new (w.alloc (.cells #[.int .i64 a, .int .u64 b, .int .i64 c] 88)) (.cells #[.int .i64 a, .int .u64 b, .int .i64 c] 88)
    rw [World.size_alloc] at this
    exact this)
  obtain ⟨i0, hi, hz0, hz1, hz2⟩ := info_parts infoEnt
  clear h
  go_enter Try.func58, Try.ntmps58
  go_wp2_with fail
  go_region_law ((refine step_append_lies _ (by rfl) _ _ _ (by rfl) base 88 i0 _ 3 24 Try.underlying98 hi hz0 hz1 hz2 rfl (by omega) _ n _ (by rfl) ((OWN.out.alloc _).alloc _) ⟨w.heap.size + 1, 0, none⟩ 1 1 [.int .i64 a, .int .u64 b, .int .i64 c] (by rfl) (by rfl) (World.news_of_block (cs := #[.int .i64 a, .int .u64 b, .int .i64 c]) (t := 88) (fr := (0, 0)) NB.out) (by simp [Value.oneCell']) (by omega) B1.out B2.out (by simp; omega) (w.heap.size + 2) (by simp) ?_; intro gg cap w4 hown4 hgrow4 hat4 hlt4; obtain ⟨y0, f0⟩ := PC.out _ hgrow4; have FN := hid (FIN.out _ _ _ hown4 hgrow4 hat4 _ rfl); clear hown4 hgrow4 hat4 hlt4))
  all_goals
    have HS := hid FN.out.1
    have HO := hid FN.out.2.1
    have HQ := hid FN.out.2.2
    clear FN y0 f0 c0 FIN PC NB OWN
    go_wp2_with fail
    refine (HS.out.len).mono ?_
    rintro e w' ⟨rfl, rfl⟩
    go_wp2_with fail
    refine (rise_i _ base p gg (n + 1) cap n _ _ HS.out (by omega) (by omega)).mono ?_
    rintro e w6 ⟨rfl, h6⟩
    have H6 := hid h6
    clear h6
    go_wp2
    try simp only [Exit.noGoto_normal, Exit.noGoto_ret]
    go_end0
    exact ⟨rfl, _, H6.out.hp, HO.out.trans (.of_h H6.out.ho H6.out.ge.1), HQ.out _ H6.out.ho⟩
end Go.Proofs.Ytaogpodncphpjaa
/-! Heap.First and Heap.Take as contracts. -/
namespace Go.Proofs.Ytaogpodncphpjaa
set_option linter.unusedVariables false
set_option linter.unusedSimpArgs false
open Go.RowKit

theorem cell_new3 (w : World) (a b c : Value) (t : TypeId) : (w.alloc (.cells #[a, b, c] t)).cell? ⟨w.heap.size, 0, none⟩ = some a ∧ (w.alloc (.cells #[a, b, c] t)).cell? ⟨w.heap.size, 1, none⟩ = some b ∧ (w.alloc (.cells #[a, b, c] t)).cell? ⟨w.heap.size, 2, none⟩ = some c := by
  simp

def FirstPost (x1 x2 x3 : Int) (w : World) (e : Ending) (w' : World) : Prop := e = .returned (.tuple #[.agg #[.int .i64 x1, .int .u64 x2, .int .i64 x3], .bool true]) ∧ Below w.heap.size w w'
set_option maxHeartbeats 8000000 in
theorem first_some (w : World) (base p g n c : Nat) (es : List (Int × Int × Int)) (h : Hs w base p g n c es w) (hn : 0 < n) (x1 x2 x3 : Int) (hx : enAt es 0 = (x1, x2, x3)) :
    Calls Try.prog 69 #[.pointer (some ⟨p, 0, none⟩)] w (FirstPost x1 x2 x3 w) := by
  have hn0 : ((n : Int) == 0) = false := beq_eq_false_iff_ne.2 (by omega)
  have hp := h.hp.lt
  have hnl := h.le
  have hc := h.hc
  obtain ⟨hg1, hg2, hg3⟩ := h.ge
  obtain ⟨i1, i2, i3⟩ := h.cells 0 hn
  rw [hx] at i1 i2 i3
  simp only [Nat.zero_mul, Nat.zero_add] at i1 i2 i3
  have c0 := h.hp.c0
  have H1 := hid (h.below ((Below.refl _ _).alloc (Nat.le_refl _) (.cells #[.int .i64 0, .int .u64 0, .int .i64 0] 88)))
  have HB := hid ((Below.refl w.heap.size w).alloc (Nat.le_refl _) (.cells #[.int .i64 x1, .int .u64 x2, .int .i64 x3] 88))
  clear h hx
  go_enter Try.func69, Try.ntmps69
  go_wp2_with fail
  have L := hid (H1.out.len)
  refine (L.out).mono ?_
  rintro e w' ⟨rfl, rfl⟩
  go_wp2
  obtain ⟨d0, d1, d2⟩ := cell_new3 w (.int .i64 x1) (.int .u64 x2) (.int .i64 x3) 88
  refine bodyPost_ret (v := .tuple #[.agg #[.int .i64 x1, .int .u64 x2, .int .i64 x3], .bool true]) (by simp [results, Try.results69, go_sem, d0, d1, d2]) rfl ⟨rfl, HB.out⟩

theorem fl_take : ∀ (es : List (Int × Int × Int)) (m : Nat), fl (es.take m) = (fl es).take (m * 3)
  | es, 0 => by simp [fl]
  | [], m + 1 => by simp [fl]
  | e :: es, m + 1 => by
    rw [List.take_succ_cons, fl_cons, fl_cons, fl_take es m, show (m + 1) * 3 = m * 3 + 1 + 1 + 1 by omega]
    simp only [List.take_succ_cons]
/-- The row is shortened. -/
theorem Hs.cut {w0 w : World} {base p g n c : Nat} {es : List (Int × Int × Int)} (h : Hs w0 base p g n c es w) (m : Nat) (hm : m ≤ n) :
    Hs (w.setCell ⟨p, 0, none⟩ (.slice (some ⟨g, 0, none⟩) m c)) base p g m c (es.take m) (w.setCell ⟨p, 0, none⟩ (.slice (some ⟨g, 0, none⟩) m c)) := by
  obtain ⟨hg1, hg2, hg3⟩ := h.ge
  have hn := h.hn
  have hlen := h.hp.len
  have hst := h.hp.st
  obtain ⟨h0, ⟨h1, h2⟩ | ⟨q, cap, cur, h1, h2, h3, h4, h5, h6, h7⟩⟩ := h.hp.own
  · cases h1
  · simp only [Value.slice.injEq, Option.some.injEq, Addr.mk.injEq] at h1
    obtain ⟨⟨rfl, _⟩, h8, rfl⟩ := h1
    have hml : (es.take m).length = m := by rw [List.length_take]; omega
    refine ⟨⟨by simp [World.setCell, Array.getElem?_modify, hst], ?_, by simp [Value.ownBlock]; exact hg3, by omega⟩, hml, OnlyH.refl _, by have := h.hc; omega, h.hm⟩
    rw [hml]
    refine ⟨by rw [fl_len, hml], .inr ⟨g, c, cur, rfl, h2, (Below.heap_setCell _ _ _ _ hg3).trans h3, by have := h.hc; omega, h5, h6, ?_⟩⟩
    rw [fl_take, ← h7, List.take_take]
    congr 1
    omega
theorem Hs.root {w0 w : World} {base p g n c : Nat} {es : List (Int × Int × Int)} (h : Hs w0 base p g n c es w) : Hs w base p g n c es w := ⟨h.hp, h.hn, OnlyH.refl _, h.hc, h.hm⟩
theorem OnlyH.blk {p g k : Nat} {w w' : World} {o : Obj} (h : OnlyH p g w w') (hk : w.heap[k]? = some o) (h1 : k ≠ g) (h2 : k ≠ p) : w'.heap[k]? = some o := by
  obtain ⟨hl, _⟩ := Array.getElem?_eq_some_iff.1 hk
  exact (h.block k hl h1 h2).trans hk

def TakePost (base p g n c : Nat) (x1 x2 x3 : Int) (T : List (Int × Int × Int)) (w : World) (e : Ending) (w' : World) : Prop :=
  e = .returned (.tuple #[.agg #[.int .i64 x1, .int .u64 x2, .int .i64 x3], .bool true]) ∧ Hs w base p g n c T w'
theorem res3 (w6 : World) (s : Nat) {y1 y2 y3 : Value} {t : TypeId} (h : w6.heap[s]? = some (.cells #[y1, y2, y3] t (0, 0))) (x1 x2 x3 : Int) :
    (((w6.setCell ⟨s, 0, none⟩ (.int .i64 x1)).setCell ⟨s, 1, none⟩ (.int .u64 x2)).setCell ⟨s, 2, none⟩ (.int .i64 x3)).cell? ⟨s, 0, none⟩ = some (.int .i64 x1) ∧
    (((w6.setCell ⟨s, 0, none⟩ (.int .i64 x1)).setCell ⟨s, 1, none⟩ (.int .u64 x2)).setCell ⟨s, 2, none⟩ (.int .i64 x3)).cell? ⟨s, 1, none⟩ = some (.int .u64 x2) ∧
    (((w6.setCell ⟨s, 0, none⟩ (.int .i64 x1)).setCell ⟨s, 1, none⟩ (.int .u64 x2)).setCell ⟨s, 2, none⟩ (.int .i64 x3)).cell? ⟨s, 2, none⟩ = some (.int .i64 x3) := by
  simp [World.cell?, World.setCell, Array.getElem?_modify, h]
theorem swap_i {w : World} {base p g n c : Nat} {es : List (Int × Int × Int)} (h : Hs w base p g n c es w) (i j : Int) (a b : Nat) (hi : a < n) (hj : b < n) (ha : i = a) (hb : j = b) :
    Calls Try.prog 73 #[.pointer (some ⟨p, 0, none⟩), .int .i64 i, .int .i64 j] w fun e w' => e = .returned (.tuple #[]) ∧ Hs w base p g n c (sw es a b) w' := by
  subst ha hb; exact h.swap a b hi hj
theorem take_fin {w w5 w6 : World} {base p g n c : Nat} {es : List (Int × Int × Int)} (h : Hs w5 base p g n c es w6) (ho : OnlyH p g w w6) {o : Obj} (hs : w6.heap[w.heap.size]? = some o) (x1 x2 x3 : Int) (hgp : g ≠ p) (hsp : w.heap.size ≠ p) (hsg : w.heap.size ≠ g) :
    Hs w base p g n c es (((w6.setCell ⟨w.heap.size, 0, none⟩ (.int .i64 x1)).setCell ⟨w.heap.size, 1, none⟩ (.int .u64 x2)).setCell ⟨w.heap.size, 2, none⟩ (.int .i64 x3)) := by
  have k : ∀ (y : World) (i : Nat) (u : Value) (q : Nat), q ≠ w.heap.size → (y.setCell ⟨w.heap.size, i, none⟩ u).heap[q]? = y.heap[q]? := fun y i u q hq => Below.heap_setCell _ _ _ _ hq
  refine ⟨h.hp.kept ?_ (fun q hq => ?_), h.hn, ?_, h.hc, h.hm⟩
  · rw [k _ _ _ _ (Ne.symm hsp), k _ _ _ _ (Ne.symm hsp), k _ _ _ _ (Ne.symm hsp)]
  · simp only [Value.ownBlock, Option.some.injEq] at hq
    subst hq
    rw [k _ _ _ _ (Ne.symm hsg), k _ _ _ _ (Ne.symm hsg), k _ _ _ _ (Ne.symm hsg)]
  · refine ⟨ho.os, ho.tape, ho.output, by simpa [World.setCell] using ho.size, fun q h1 h2 h3 => ?_⟩
    have hq : q ≠ w.heap.size := by omega
    rw [k _ _ _ _ hq, k _ _ _ _ hq, k _ _ _ _ hq]
    exact ho.block q h1 h2 h3
set_option maxRecDepth 100000 in
set_option maxHeartbeats 8000000 in
theorem take_some (w : World) (base p g m c : Nat) (es : List (Int × Int × Int)) (h : Hs w base p g (m + 1) c es w) (x1 x2 x3 : Int) (hx : enAt es 0 = (x1, x2, x3)) :
    Calls Try.prog 60 #[.pointer (some ⟨p, 0, none⟩)] w (TakePost base p g m c x1 x2 x3 (sinkF (m + 1) ((sw es 0 m).take m) m 0) w) := by
  have hp := h.hp.lt
  have hnl := h.le
  have hc := h.hc
  have hm := h.hm
  unfold maxLen at hm
  obtain ⟨hg1, hg2, hg3⟩ := h.ge
  have H1 := hid (h.below ((Below.refl _ _).alloc (Nat.le_refl _) (.cells #[.int .i64 0, .int .u64 0, .int .i64 0] 88))).root
  have N1 := hid (Deep.blk_alloc_new w (.cells #[.int .i64 0, .int .u64 0, .int .i64 0] 88))
  have O1 := hid (OnlyH.of_below (p := p) (base := g) ((Below.refl w.heap.size w).alloc (Nat.le_refl _) (.cells #[.int .i64 0, .int .u64 0, .int .i64 0] 88)))
  have HX := hid hx
  clear h hx
  go_enter Try.func60, Try.ntmps60
  go_wp2_with fail
  refine (first_some _ base p g (m + 1) c es H1.out (by omega) x1 x2 x3 HX.out).mono ?_
  rintro e w2 ⟨rfl, hb2⟩
  have hs2 := hb2.size
  simp only [World.size_alloc] at hs2
  have H2 := hid (H1.out.below hb2).root
  have N2 := hid ((hb2.block w.heap.size (by simp)).trans N1.out)
  have O2 := hid (O1.out.trans (.of_below hb2))
  have H3 := hid (H2.out.below ((Below.refl _ _).alloc (Nat.le_refl _) (.cells #[.int .i64 x1, .int .u64 x2, .int .i64 x3] 88))).root
  have N3 := hid ((Below.heap_alloc w2 (.cells #[.int .i64 x1, .int .u64 x2, .int .i64 x3] 88) w.heap.size (by omega)).trans N2.out)
  have M3 := hid (Deep.blk_alloc_new w2 (.cells #[.int .i64 x1, .int .u64 x2, .int .i64 x3] 88))
  have O3 := hid (O2.out.trans (.of_below ((Below.refl w2.heap.size w2).alloc (Nat.le_refl _) (.cells #[.int .i64 x1, .int .u64 x2, .int .i64 x3] 88))))
  clear hb2 H1 N1 O1 H2 N2 O2
  go_wp2_with fail
  refine (H3.out.len).mono ?_
  rintro e w' ⟨rfl, rfl⟩
  go_wp2_with fail
  refine (swap_i H3.out _ _ 0 m (by omega) (by omega) rfl (by omega)).mono ?_
  rintro e w4 ⟨rfl, h4⟩
  have N4 := hid (h4.ho.blk N3.out (by omega) (by omega))
  have M4 := hid (h4.ho.blk M3.out (by omega) (by omega))
  have O4 := hid (O3.out.trans h4.ho)
  have c4 := h4.hp.c0
  have f4 := h4.hp.f0
  have H5 := hid (h4.cut m (by omega))
  have N5 := hid ((Below.heap_setCell w4 ⟨p, 0, none⟩ (.slice (some ⟨g, 0, none⟩) m c) w.heap.size (show w.heap.size ≠ p by omega)).trans N4.out)
  have M5 := hid ((Below.heap_setCell w4 ⟨p, 0, none⟩ (.slice (some ⟨g, 0, none⟩) m c) w2.heap.size (show w2.heap.size ≠ p by omega)).trans M4.out)
  have O5 := hid (O4.out.trans (OnlyH.set (p := p) (base := g) (g := p) w4 0 (.slice (some ⟨g, 0, none⟩) m c) (.inr rfl)))
  have hm0 : (0 : Int) ≤ m := by omega
  have hmc : (m : Int) ≤ c := by omega
  clear h4 H3 N3 M3 O3 N4 M4 O4
  go_wp2_with fail
  generalize w4.setCell ⟨p, 0, none⟩ (.slice (some ⟨g, 0, none⟩) m c) = w5 at *
  refine (sink_any w5 base p g m c 0 _ H5.out (by omega)).mono ?_
  rintro e w6 ⟨rfl, h6⟩
  have n6 := h6.ho.blk N5.out (by omega) (by omega)
  have m6 := h6.ho.blk M5.out (by omega) (by omega)
  have O6 := hid (O5.out.trans h6.ho)
  have a0 : w6.cell? ⟨w2.heap.size, 0, none⟩ = some (.int .i64 x1) := cell_ent m6 rfl
  have a1 : w6.cell? ⟨w2.heap.size, 1, none⟩ = some (.int .u64 x2) := cell_ent m6 rfl
  have a2 : w6.cell? ⟨w2.heap.size, 2, none⟩ = some (.int .i64 x3) := cell_ent m6 rfl
  have b0 : w6.cell? ⟨w.heap.size, 0, none⟩ = some (.int .i64 0) := cell_ent n6 rfl
  have b1 : w6.cell? ⟨w.heap.size, 1, none⟩ = some (.int .u64 0) := cell_ent n6 rfl
  have b2 : w6.cell? ⟨w.heap.size, 2, none⟩ = some (.int .i64 0) := cell_ent n6 rfl
  have g0 : w6.frozen? ⟨w.heap.size, 0, none⟩ = false := by simp [World.frozen?, n6]
  have g1 : w6.frozen? ⟨w.heap.size, 1, none⟩ = false := by simp [World.frozen?, n6]
  have g2 : w6.frozen? ⟨w.heap.size, 2, none⟩ = false := by simp [World.frozen?, n6]
  have FIN := hid (take_fin h6 O6.out n6 x1 x2 x3 hg3 (by omega) (by omega))
  obtain ⟨r0, r1, r2⟩ := res3 w6 w.heap.size n6 x1 x2 x3
  have R0 := hid r0
  have R1 := hid r1
  have R2 := hid r2
  clear r0 r1 r2
  clear h6 H5 N5 M5 O5 n6 m6
  go_wp2
  have r0 := R0.out
  have r1 := R1.out
  have r2 := R2.out
  exact bodyPost_ret (v := .tuple #[.agg #[.int .i64 x1, .int .u64 x2, .int .i64 x3], .bool true]) (by simp [results, Try.results60, go_sem, r0, r1, r2]) rfl ⟨rfl, FIN.out⟩
end Go.Proofs.Ytaogpodncphpjaa
/-! Heap.First and Heap.Take of a heap that has nothing. -/
namespace Go.Proofs.Ytaogpodncphpjaa
set_option linter.unusedVariables false
set_option linter.unusedSimpArgs false
open Go.RowKit

def NonePost (w : World) (e : Ending) (w' : World) : Prop := e = .returned (.tuple #[.agg #[.int .i64 0, .int .u64 0, .int .i64 0], .bool false]) ∧ Below w.heap.size w w'
theorem hlen0 (w : World) (base p : Nat) (v : Value) (h : Hp w base p v []) :
    Calls Try.prog 72 #[.pointer (some ⟨p, 0, none⟩)] w fun e w' => e = .returned (.int .i64 0) ∧ w' = w := by
  simpa using hlen w base p v [] h
set_option maxHeartbeats 8000000 in
theorem first_none (w : World) (base p : Nat) (v : Value) (h : Hp w base p v []) :
    Calls Try.prog 69 #[.pointer (some ⟨p, 0, none⟩)] w (NonePost w) := by
  have H1 := hid (h.below ((Below.refl _ _).alloc (Nat.le_refl _) (.cells #[.int .i64 0, .int .u64 0, .int .i64 0] 88)))
  have HB := hid ((Below.refl w.heap.size w).alloc (Nat.le_refl _) (.cells #[.int .i64 0, .int .u64 0, .int .i64 0] 88))
  obtain ⟨d0, d1, d2⟩ := cell_new3 w (.int .i64 0) (.int .u64 0) (.int .i64 0) 88
  clear h
  go_enter Try.func69, Try.ntmps69
  go_wp2_with fail
  refine (hlen0 _ base p v H1.out).mono ?_
  rintro e w' ⟨rfl, rfl⟩
  go_wp2
  refine bodyPost_ret (v := .tuple #[.agg #[.int .i64 0, .int .u64 0, .int .i64 0], .bool false]) (by simp [results, Try.results69, go_sem, d0, d1, d2]) rfl ⟨rfl, HB.out⟩
set_option maxHeartbeats 8000000 in
theorem take_none (w : World) (base p : Nat) (v : Value) (h : Hp w base p v []) :
    Calls Try.prog 60 #[.pointer (some ⟨p, 0, none⟩)] w (NonePost w) := by
  have B1 := (Below.refl w.heap.size w).alloc (Nat.le_refl _) (.cells #[.int .i64 0, .int .u64 0, .int .i64 0] 88)
  have H1 := hid (h.below B1)
  have HB := hid B1
  have N1 := hid (Deep.blk_alloc_new w (.cells #[.int .i64 0, .int .u64 0, .int .i64 0] 88))
  clear h B1
  go_enter Try.func60, Try.ntmps60
  go_wp2_with fail
  refine (first_none _ base p v H1.out).mono ?_
  rintro e w2 ⟨rfl, hb2⟩
  have hs2 := hb2.size
  simp only [World.size_alloc] at hs2
  have n2 := (hb2.block w.heap.size (by simp)).trans N1.out
  have n3 := (Below.heap_alloc w2 (.cells #[.int .i64 0, .int .u64 0, .int .i64 0] 88) w.heap.size (by omega)).trans n2
  have b0 : (w2.alloc (.cells #[.int .i64 0, .int .u64 0, .int .i64 0] 88)).cell? ⟨w.heap.size, 0, none⟩ = some (.int .i64 0) := cell_ent n3 rfl
  have b1 : (w2.alloc (.cells #[.int .i64 0, .int .u64 0, .int .i64 0] 88)).cell? ⟨w.heap.size, 1, none⟩ = some (.int .u64 0) := cell_ent n3 rfl
  have b2 : (w2.alloc (.cells #[.int .i64 0, .int .u64 0, .int .i64 0] 88)).cell? ⟨w.heap.size, 2, none⟩ = some (.int .i64 0) := cell_ent n3 rfl
  have g0 : (w2.alloc (.cells #[.int .i64 0, .int .u64 0, .int .i64 0] 88)).frozen? ⟨w.heap.size, 0, none⟩ = false := by simp [World.frozen?, n3]
  have g1 : (w2.alloc (.cells #[.int .i64 0, .int .u64 0, .int .i64 0] 88)).frozen? ⟨w.heap.size, 1, none⟩ = false := by simp [World.frozen?, n3]
  have g2 : (w2.alloc (.cells #[.int .i64 0, .int .u64 0, .int .i64 0] 88)).frozen? ⟨w.heap.size, 2, none⟩ = false := by simp [World.frozen?, n3]
  have HB3 := hid (((HB.out.trans (hb2.mono (by simp))).alloc (by omega) (.cells #[.int .i64 0, .int .u64 0, .int .i64 0] 88)))
  obtain ⟨r0, r1, r2⟩ := res3 _ w.heap.size n3 0 0 0
  have R0 := hid r0
  have R1 := hid r1
  have R2 := hid r2
  clear r0 r1 r2 hb2 n2 n3
  go_wp2
  have r0 := R0.out
  have r1 := R1.out
  have r2 := R2.out
  refine bodyPost_ret (v := .tuple #[.agg #[.int .i64 0, .int .u64 0, .int .i64 0], .bool false]) (by simp [results, Try.results60, go_sem, r0, r1, r2]) rfl ⟨rfl, ?_⟩
  exact ((HB3.out.setCell (by simp) _).setCell (by simp) _).setCell (by simp) _
end Go.Proofs.Ytaogpodncphpjaa
/-! Small words over heaps. -/
namespace Go.Proofs.Ytaogpodncphpjaa
set_option linter.unusedVariables false
set_option linter.unusedSimpArgs false
open Go.RowKit

theorem OnlyV.below {p base B : Nat} {a b : World} (h : OnlyV p base a b) (h1 : B ≤ base) (h2 : B ≤ p) (h3 : B ≤ a.heap.size) : Below B a b :=
  ⟨h.os, h.tape, h.output, h.size, fun k hk => h.block k (by omega) (by omega) (by omega)⟩
theorem Hp.hs {w : World} {base p : Nat} {v : Value} {es : List (Int × Int × Int)} (h : Hp w base p v es) (hn : 0 < es.length) : ∃ g c, v = .slice (some ⟨g, 0, none⟩) es.length c ∧ Hs w base p g es.length c es w := by
  obtain ⟨a, c, rfl⟩ := h.slice
  obtain ⟨g, rfl, h1, h2, h3, _⟩ := h.pos hn
  exact ⟨g, c, rfl, h, rfl, OnlyH.refl _, h2, h3⟩
end Go.Proofs.Ytaogpodncphpjaa
/-! What rises and sinks is turned about, and nothing else: each entry stays as often as it was. -/
namespace Go.Proofs.Ytaogpodncphpjaa
set_option linter.unusedVariables false
set_option linter.unusedSimpArgs false

theorem enAt_get {es : List (Int × Int × Int)} {i : Nat} (h : i < es.length) : enAt es i = es[i] := by
  simp [enAt, List.getD_eq_getElem?_getD, h]
theorem count_set1 : ∀ (es : List (Int × Int × Int)) (i : Nat) (a e : Int × Int × Int), i < es.length →
    (es.set i a).count e + (if enAt es i = e then 1 else 0) = es.count e + (if a = e then 1 else 0)
  | [], i, a, e, h => by simp at h
  | x :: es, 0, a, e, _ => by
    simp only [List.set_cons_zero, List.count_cons, enAt, List.getD_cons_zero, beq_iff_eq]
    omega
  | x :: es, i + 1, a, e, h => by
    have := count_set1 es i a e (by simpa using h)
    simp only [List.set_cons_succ, List.count_cons, beq_iff_eq]
    have e1 : enAt (x :: es) (i + 1) = enAt es i := by simp [enAt]
    rw [e1]
    omega
theorem enAt_set (es : List (Int × Int × Int)) (i j : Nat) (a : Int × Int × Int) (hj : j < es.length) : enAt (es.set i a) j = if i = j then a else enAt es j := by
  unfold enAt
  rw [List.getD_eq_getElem?_getD, List.getD_eq_getElem?_getD, List.getElem?_set]
  by_cases h : i = j
  · subst h; simp [hj]
  · simp [h]
theorem sw_count (es : List (Int × Int × Int)) (i j : Nat) (hi : i < es.length) (hj : j < es.length) (e : Int × Int × Int) : (sw es i j).count e = es.count e := by
  have h1 := count_set1 es i (enAt es j) e hi
  have h2 := count_set1 (es.set i (enAt es j)) j (enAt es i) e (by simpa using hj)
  rw [enAt_set es i j _ hj] at h2
  unfold sw
  by_cases h : i = j
  · subst h; simp only [if_true] at h2; omega
  · rw [if_neg h] at h2; omega
theorem rise_count : ∀ (f : Nat) (es : List (Int × Int × Int)) (i : Nat) (hi : i < es.length) (e : Int × Int × Int), (riseF f es i).count e = es.count e
  | 0, es, i, hi, e => rfl
  | f + 1, es, i, hi, e => by
    unfold riseF
    split
    · rfl
    · split
      · rw [rise_count f _ _ (by rw [sw_len]; omega) e, sw_count es i _ hi (by omega) e]
      · rfl
theorem rise_len : ∀ (f : Nat) (es : List (Int × Int × Int)) (i : Nat), (riseF f es i).length = es.length
  | 0, es, i => rfl
  | f + 1, es, i => by
    unfold riseF
    split
    · rfl
    · split
      · rw [rise_len f, sw_len]
      · rfl
theorem sink_count : ∀ (f : Nat) (es : List (Int × Int × Int)) (i : Nat) (hi : i < es.length) (e : Int × Int × Int), (sinkF f es es.length i).count e = es.count e
  | 0, es, i, hi, e => rfl
  | f + 1, es, i, hi, e => by
    unfold sinkF
    split
    · rfl
    · have hl := lk_lt es es.length i hi 4
      have := sink_count f (sw es i (lk es es.length i 4)) (lk es es.length i 4) (by rw [sw_len]; exact hl) e
      rw [sw_len] at this
      rw [this, sw_count es i _ hi hl e]
theorem sink_len : ∀ (f : Nat) (es : List (Int × Int × Int)) (n i : Nat), (sinkF f es n i).length = es.length
  | 0, es, n, i => rfl
  | f + 1, es, n, i => by
    unfold sinkF
    split
    · rfl
    · rw [sink_len f, sw_len]
end Go.Proofs.Ytaogpodncphpjaa
/-! Heap.Put, and where its row lies then: for two heaps side by side. -/
namespace Go.Proofs.Ytaogpodncphpjaa
set_option linter.unusedVariables false
set_option linter.unusedSimpArgs false
open Go.RowKit

theorem put_fin3 {w w4 : World} {base p gg cap n : Nat} {v : Value} {es : List (Int × Int × Int)} {a b c : Int} (h : Hp w base p v es) (hn : es.length = n) (hb : base ≤ w.heap.size) (hl : n < 100000) (o1 o2 : Obj)
    (hown : w4.ownsRow base 88 3 (.slice (some ⟨gg, 0, none⟩) (n + 1) cap) (n + 1) (fl es ++ [.int .i64 a, .int .u64 b, .int .i64 c]))
    (hg : ((w.alloc o1).alloc o2).drew.grownBy w4 v.ownBlock) (hat : v.ownBlock = some gg ∨ gg = w.heap.size + 2) (W : World) (hW : W = w4.setCell ⟨p, 0, none⟩ (.slice (some ⟨gg, 0, none⟩) (n + 1) cap)) :
    Hid (Hs W base p gg (n + 1) cap (es ++ [(a, b, c)]) W ∧ OnlyV p base w W ∧ (∀ w6, OnlyH p gg W w6 → OnlyQ p v w w6) ∧ (v.ownBlock = some gg ∨ w.heap.size ≤ gg)) := by
  obtain ⟨h1, h2⟩ := (put_fin h hn hb hl o1 o2 hown hg hat W hW).out
  refine ⟨h1, h2, fun w6 ho => ⟨Nat.le_trans h2.size ho.size, fun k hk hp hv => ?_⟩, hat.imp id (fun e => by omega)⟩
  have hgk : k ≠ gg := by
    rcases hat with e | e
    · exact fun e2 => hv (by rw [e, e2])
    · omega
  rw [ho.block k (Nat.lt_of_lt_of_le hk h2.size) hgk hp, hW, Below.heap_setCell _ _ _ _ hp, hg.block k (by simp; omega) (fun e => hv e.symm)]
  show ((w.alloc o1).alloc o2).heap[k]? = _
  rw [Below.heap_alloc _ _ _ (by simp; omega), Below.heap_alloc _ _ _ hk]

set_option maxHeartbeats 8000000 in
theorem put_sep (w : World) (base p : Nat) (v : Value) (es : List (Int × Int × Int)) (a b c : Int) (h : Hp w base p v es) (hb : base ≤ w.heap.size) (hl : es.length < 100000) :
    Calls Try.prog 58 #[.pointer (some ⟨p, 0, none⟩), .agg #[.int .i64 a, .int .u64 b, .int .i64 c]] w fun e w' => e = .returned (.tuple #[]) ∧
      ∃ v', Hp w' base p v' (riseF es.length (es ++ [(a, b, c)]) es.length) ∧ OnlyV p base w w' ∧ OnlyQ p v w w' ∧ (∀ q, v'.ownBlock = some q → v.ownBlock = some q ∨ w.heap.size ≤ q) := by
  obtain ⟨n, hn⟩ : ∃ n, es.length = n := ⟨_, rfl⟩
  rw [hn] at hl ⊢
  have hp := h.lt
  have c0 : (w.alloc (.cells #[.int .i64 a, .int .u64 b, .int .i64 c] 88)).cell? ⟨p, 0, none⟩ = some v := cell_ent ((Below.heap_alloc _ _ _ hp).trans h.st) rfl
  have FIN := hid (fun (w4 : World) gg cap => put_fin3 (w4 := w4) (gg := gg) (cap := cap) (a := a) (b := b) (c := c) h hn hb hl (.cells #[.int .i64 a, .int .u64 b, .int .i64 c] 88) (.cells #[.int .i64 a, .int .u64 b, .int .i64 c] 88))
  have OWN := hid (show w.ownsRow base 88 3 v n (fl es) by rw [← hn]; exact h.own)
  have PC := hid (fun (w4 : World) (hg : ((w.alloc (.cells #[.int .i64 a, .int .u64 b, .int .i64 c] 88)).alloc (.cells #[.int .i64 a, .int .u64 b, .int .i64 c] 88)).drew.grownBy w4 v.ownBlock) =>
    (show w4.cell? ⟨p, 0, none⟩ = some v ∧ w4.frozen? ⟨p, 0, none⟩ = false by
      have hvp := h.ne
      have hp4 : w4.heap[p]? = some (.cells #[v] 100 (0, 0)) := by
        rw [hg.block p (by simp; omega) (fun e => hvp e.symm)]
        show ((w.alloc _).alloc _).heap[p]? = _
        rw [Below.heap_alloc _ _ _ (by simp; omega), Below.heap_alloc _ _ _ (by omega)]; exact h.st
      exact ⟨cell_ent hp4 rfl, by simp [World.frozen?, hp4]⟩))
  have B1 := hid (show n + 1 ≤ maxLen by unfold maxLen; omega)
  have B2 := hid (show (n + 1) * 24 ≤ 140737488355328 by omega)
  have HB := hid hb
  have NB := hid (show ((w.alloc (.cells #[.int .i64 a, .int .u64 b, .int .i64 c] 88)).alloc (.cells #[.int .i64 a, .int .u64 b, .int .i64 c] 88)).drew.heap[w.heap.size + 1]? = some (.cells #[.int .i64 a, .int .u64 b, .int .i64 c] 88 (0, 0)) by
    have := heap_alloc_new (w.alloc (.cells #[.int .i64 a, .int .u64 b, .int .i64 c] 88)) (.cells #[.int .i64 a, .int .u64 b, .int .i64 c] 88)
    rw [World.size_alloc] at this
    exact this)
  obtain ⟨i0, hi, hz0, hz1, hz2⟩ := info_parts infoEnt
  clear h
  go_enter Try.func58, Try.ntmps58
  go_wp2_with fail
  go_region_law ((refine step_append_lies _ (by rfl) _ _ _ (by rfl) base 88 i0 _ 3 24 Try.underlying98 hi hz0 hz1 hz2 rfl (by omega) _ n _ (by rfl) ((OWN.out.alloc _).alloc _) ⟨w.heap.size + 1, 0, none⟩ 1 1 [.int .i64 a, .int .u64 b, .int .i64 c] (by rfl) (by rfl) (World.news_of_block (cs := #[.int .i64 a, .int .u64 b, .int .i64 c]) (t := 88) (fr := (0, 0)) NB.out) (by simp [Value.oneCell']) (by omega) B1.out B2.out (by simp; omega) (w.heap.size + 2) (by simp) ?_; intro gg cap w4 hown4 hgrow4 hat4 hlt4; obtain ⟨y0, f0⟩ := PC.out _ hgrow4; have FN := hid (FIN.out _ _ _ hown4 hgrow4 hat4 _ rfl); clear hown4 hgrow4 hat4 hlt4))
  all_goals
    have HS := hid FN.out.1
    have HO := hid FN.out.2.1
    have HQ := hid FN.out.2.2.1
    have HZ := hid FN.out.2.2.2
    clear FN y0 f0 c0 FIN PC NB OWN
    go_wp2_with fail
    refine (HS.out.len).mono ?_
    rintro e w' ⟨rfl, rfl⟩
    go_wp2_with fail
    refine (rise_i _ base p gg (n + 1) cap n _ _ HS.out (by omega) (by omega)).mono ?_
    rintro e w6 ⟨rfl, h6⟩
    have H6 := hid h6
    clear h6
    go_wp2
    try simp only [Exit.noGoto_normal, Exit.noGoto_ret]
    go_end0
    exact ⟨rfl, _, H6.out.hp, HO.out.trans (.of_h H6.out.ho H6.out.ge.1), HQ.out _ H6.out.ho, fun q hq => by cases hq; exact HZ.out⟩
theorem OnlyQ.of_h {p g : Nat} {v : Value} {w w' : World} (h : OnlyH p g w w') (hv : v.ownBlock = some g) : OnlyQ p v w w' :=
  ⟨h.size, fun k h1 h2 h3 => h.block k h1 (fun e => h3 (by rw [hv, e])) h2⟩
/-- Taken from whatever heap there is: what is answered isn't told. -/
def TaPost (base p : Nat) (es : List (Int × Int × Int)) (w : World) (e : Ending) (w' : World) : Prop :=
  ∃ r v' T, e = .returned r ∧ Hp w' base p v' T ∧ OnlyV p base w w' ∧ T.length ≤ es.length
theorem take_any (w : World) (base p : Nat) (v : Value) (es : List (Int × Int × Int)) (h : Hp w base p v es) (hb : base ≤ w.heap.size) (hp : base ≤ p) :
    Calls Try.prog 60 #[.pointer (some ⟨p, 0, none⟩)] w (TaPost base p es w) := by
  rcases Nat.eq_zero_or_pos es.length with h0 | h0
  · obtain rfl : es = [] := List.length_eq_zero_iff.1 h0
    refine (take_none w base p v h).mono ?_
    rintro e w5 ⟨rfl, h5⟩
    exact ⟨_, v, [], rfl, h.below h5, ⟨h5.os, h5.tape, h5.output, h5.size, fun k h1 _ _ => h5.block k h1⟩, Nat.le_refl _⟩
  · obtain ⟨m, hm⟩ : ∃ m, es.length = m + 1 := ⟨es.length - 1, by omega⟩
    obtain ⟨g, c, rfl, hs⟩ := h.hs h0
    rw [hm] at hs
    obtain ⟨y1, y2, y3, hy⟩ : ∃ y1 y2 y3, enAt es 0 = (y1, y2, y3) := ⟨_, _, _, rfl⟩
    obtain ⟨hg1, hg2, hg3⟩ := hs.ge
    refine (take_some w base p g m c es hs y1 y2 y3 hy).mono ?_
    rintro e w5 ⟨rfl, h5⟩
    refine ⟨_, _, _, rfl, h5.hp, OnlyV.of_h h5.ho hg1, ?_⟩
    rw [sink_len, List.length_take, sw_len]
    omega
end Go.Proofs.Ytaogpodncphpjaa
/-! A struct of integers that came in by value: its cells. Nothing of the program. -/
namespace Go.Proofs.Ytaogpodncphpjaa
set_option linter.unusedVariables false
open Go.RowKit Go.ChangeShapes Go.WideShapes

/-- The cells are integers of these kinds, the numbers Z. -/
def IsFlat (ks : List IntKind) (cs : Array Value) (Z : Nat → Int) : Prop :=
  cs = ((List.range ks.length).map fun j => Value.int (ks.getD j .i64) (Z j)).toArray ∧ ∀ (j : Nat) (k : IntKind), ks[j]? = some k → (Lit.int k (Z j)).wf = true

theorem open_flat {H : Type} {enc : TypeId × Value → H} {P : Program} {w : World} {base : Nat} {spare : Nat → Bool} {held : Bool} {t : TypeId} {fs : Array Field} {d : DataW H} {p : List MemPlace} {cs : Array Value}
    (ks : List IntKind) (ht : P.underlying t = some (.struct fs)) (hC : P.cellsOf t = ks.length)
    (hk : ∀ (j : Nat) (k : IntKind), ks[j]? = some k → ∃ f : Field, fs[j]? = some f ∧ f.offset = j ∧ P.underlying f.type = some (.int k) ∧ P.cellsOf f.type = 1)
    (h : DataW.Trod enc P w base spare held t (.agg cs) d p) : ∃ Z, IsFlat ks cs Z := by
  obtain ⟨fuel, h⟩ := h
  obtain ⟨xs, n, _, _, hlen, hxl, hf⟩ := DataW.trod_struct ht h
  have hlen' : cs.size = ks.length := by rw [← hC, ← hlen]; simp [Value.cells]
  have key : ∀ (j : Nat) (k : IntKind), ks[j]? = some k → ∃ q, cs[j]? = some (.int k q) ∧ (Lit.int k q).wf = true := by
    intro j k hj
    obtain ⟨f, hf1, hf2, hf3, hf4⟩ := hk j k hj
    have hjl : j < ks.length := (List.getElem?_eq_some_iff.1 hj).1
    have hjf : j < fs.size := (Array.getElem?_eq_some_iff.1 hf1).1
    have h1 := hf j f hf1
    rw [hf2, hf4] at h1
    have hjc : j < (Value.agg cs).cells.toList.length := by simp [Value.cells]; omega
    have hone : ((Value.agg cs).cells.toList.drop j).take 1 = [(Value.agg cs).cells.toList[j]] := by rw [List.drop_eq_getElem_cons hjc]; rfl
    rw [hone, List.getElem?_eq_getElem (by omega : j < xs.length)] at h1
    obtain ⟨q, hq, _, hwf⟩ := DataW.trod_int hf3 h1
    simp only [List.cons.injEq, and_true] at hq
    refine ⟨q, ?_, hwf⟩
    have : cs[j]? = some ((Value.agg cs).cells.toList[j]) := by simp [Value.cells]
    rw [this, hq]
  refine ⟨fun j => match cs[j]? with | some (.int _ q) => q | _ => 0, ?_, fun j k hj => ?_⟩
  · apply Array.ext_getElem?
    intro j
    rcases Nat.lt_or_ge j ks.length with hj | hj
    · obtain ⟨q, hq, _⟩ := key j ks[j] (List.getElem?_eq_getElem hj)
      simp [hq, hj]
    · rw [Array.getElem?_eq_none (by omega)]
      simp [hj]
  · obtain ⟨q, hq, hw⟩ := key j k hj
    simp only [hq]
    exact hw
end Go.Proofs.Ytaogpodncphpjaa
/-! HeapAhead: the order of entries, and the document's Ahead. -/
namespace Go.Proofs.Ytaogpodncphpjaa.heapAhead
open Go.RowKit
set_option linter.unusedVariables false
set_option linter.unusedSimpArgs false

theorem ahead_eq (a1 a2 a3 b1 b2 b3 : Int) : aheadE (a1, a2, a3) (b1, b2, b3) = if a1 ≠ b1 then decide (a1 < b1) else if a2 ≠ b2 then decide (a2 < b2) else decide (a3 < b3) := by
  unfold aheadE cmpE or3
  simp only
  rcases Int.lt_trichotomy a1 b1 with h | h | h
  · rw [c3_lt h]; have : a1 ≠ b1 := by omega
    simp [this, h]
  · subst h
    rw [c3_eq rfl]
    rcases Int.lt_trichotomy a2 b2 with h | h | h
    · rw [c3_lt h]; have : a2 ≠ b2 := by omega
      simp [this, h]
    · subst h
      rw [c3_eq rfl]
      rcases Int.lt_trichotomy a3 b3 with h | h | h
      · rw [c3_lt h]; simp [h]
      · subst h; rw [c3_eq rfl]; simp
      · rw [c3_gt h]; simp; omega
    · rw [c3_gt h]; have : a2 ≠ b2 := by omega
      have : ¬ a2 < b2 := by omega
      simp [*]
  · rw [c3_gt h]; have : a1 ≠ b1 := by omega
    have : ¬ a1 < b1 := by omega
    simp [*]
theorem ahead_not (a1 a2 a3 b1 b2 b3 : Int) (h : aheadE (a1, a2, a3) (b1, b2, b3) = true) : aheadE (b1, b2, b3) (a1, a2, a3) = false ∧ ¬ (a1 = b1 ∧ a2 = b2 ∧ a3 = b3) := by
  rw [ahead_eq] at h ⊢
  split at h
  · simp at h
    rw [if_pos (by omega)]
    exact ⟨by simp; omega, by omega⟩
  · split at h
    · simp at h
      rw [if_neg (by omega), if_pos (by omega)]
      exact ⟨by simp; omega, by omega⟩
    · simp at h
      rw [if_neg (by omega), if_neg (by omega)]
      exact ⟨by simp; omega, by omega⟩
theorem ahead_tot (a1 a2 a3 b1 b2 b3 : Int) (h : aheadE (a1, a2, a3) (b1, b2, b3) = false) (h' : aheadE (b1, b2, b3) (a1, a2, a3) = false) : a1 = b1 ∧ a2 = b2 ∧ a3 = b3 := by
  rw [ahead_eq] at h h'
  split at h
  · rw [if_pos (by omega)] at h'; simp at h h'; omega
  · rw [if_neg (by omega)] at h'
    split at h
    · rw [if_pos (by omega)] at h'; simp at h h'; omega
    · rw [if_neg (by omega)] at h'; simp at h h'; omega
theorem ahead_tr (a1 a2 a3 b1 b2 b3 c1 c2 c3 : Int) (h : aheadE (a1, a2, a3) (b1, b2, b3) = true) (h' : aheadE (b1, b2, b3) (c1, c2, c3) = true) : aheadE (a1, a2, a3) (c1, c2, c3) = true := by
  rw [ahead_eq] at h h' ⊢
  by_cases e1 : a1 = b1
  · subst e1
    simp only [ne_eq, not_true_eq_false, if_false] at h
    by_cases e2 : a1 = c1
    · subst e2
      simp only [ne_eq, not_true_eq_false, if_false] at h' ⊢
      by_cases f1 : a2 = b2
      · subst f1
        simp only [not_true_eq_false, if_false] at h
        by_cases f2 : a2 = c2
        · subst f2
          simp only [not_true_eq_false, if_false] at h' ⊢
          simp at h h' ⊢; omega
        · rw [if_pos f2] at h' ⊢; exact h'
      · rw [if_pos f1] at h
        by_cases f2 : b2 = c2
        · subst f2; rw [if_pos f1]; exact h
        · rw [if_pos f2] at h'
          simp at h h'
          rw [if_pos (by omega)]; simp; omega
    · rw [if_pos e2] at h' ⊢; exact h'
  · rw [if_pos e1] at h
    by_cases e2 : b1 = c1
    · subst e2; rw [if_pos e1]; exact h
    · rw [if_pos e2] at h'
      simp at h h'
      rw [if_pos (by omega)]; simp; omega

set_option maxHeartbeats 4000000 in
theorem ref_ahead (a1 a2 a3 b1 b2 b3 : Int) (r : Bool) (hr : aheadE (a1, a2, a3) (b1, b2, b3) = r) (w : World) :
    Calls Try.prog 79 #[.agg #[.int .i64 a1, .int .u64 a2, .int .i64 a3], .agg #[.int .i64 b1, .int .u64 b2, .int .i64 b3]] w fun e w' => e = .returned (.bool r) ∧ Below w.heap.size w w' := by
  have HB := hid (((Below.refl w.heap.size w).alloc (Nat.le_refl _) (.cells #[.int .i64 a1, .int .u64 a2, .int .i64 a3] 51)).alloc (by simp) (.cells #[.int .i64 b1, .int .u64 b2, .int .i64 b3] 51))
  subst hr
  rw [ahead_eq]
  by_cases h1 : a1 = b1
  · rw [if_neg (by omega)]
    by_cases h2 : a2 = b2
    · rw [if_neg (by omega)]
      have t1 : (a1 != b1) = false := by simp [h1]
      have t2 : (a2 != b2) = false := by simp [h2]
      clear h1 h2
      go_enter Try.func79, Try.ntmps79
      go_wp2
      go_ret
      exact ⟨rfl, HB.out⟩
    · rw [if_pos h2]
      have t1 : (a1 != b1) = false := by simp [h1]
      have t2 : (a2 != b2) = true := by simp [h2]
      clear h1
      go_enter Try.func79, Try.ntmps79
      go_wp2
      go_ret
      exact ⟨rfl, HB.out⟩
  · rw [if_pos h1]
    have t1 : (a1 != b1) = true := by simp [h1]
    go_enter Try.func79, Try.ntmps79
    go_wp2
    go_ret
    exact ⟨rfl, HB.out⟩
end Go.Proofs.Ytaogpodncphpjaa.heapAhead
/-! What rises leaves the heap in order. -/
namespace Go.Proofs.Ytaogpodncphpjaa
set_option linter.unusedVariables false
set_option linter.unusedSimpArgs false

/-- b isn't ahead of a. -/
def leE (a b : Int × Int × Int) : Prop := aheadE b a = false
theorem leE_of {a b : Int × Int × Int} (h : aheadE a b = true) : leE a b := (heapAhead.ahead_not a.1 a.2.1 a.2.2 b.1 b.2.1 b.2.2 h).1
theorem leE_refl (a : Int × Int × Int) : leE a a := by
  unfold leE
  cases h : aheadE a a with
  | false => rfl
  | true => exact absurd ⟨rfl, rfl, rfl⟩ (heapAhead.ahead_not a.1 a.2.1 a.2.2 a.1 a.2.1 a.2.2 h).2
theorem leE_trans {a b c : Int × Int × Int} (h : leE a b) (h' : leE b c) : leE a c := by
  unfold leE at *
  cases hc : aheadE c a with
  | false => rfl
  | true =>
    cases hab : aheadE a b with
    | true =>
      have := heapAhead.ahead_tr c.1 c.2.1 c.2.2 a.1 a.2.1 a.2.2 b.1 b.2.1 b.2.2 hc hab
      rw [show aheadE c b = true from this] at h'
      cases h'
    | false =>
      obtain ⟨h1, h2, h3⟩ := heapAhead.ahead_tot a.1 a.2.1 a.2.2 b.1 b.2.1 b.2.2 hab h
      have e : a = b := Prod.ext h1 (Prod.ext h2 h3)
      rw [e] at hc
      rw [hc] at h'
      cases h'
theorem enAt_sw (es : List (Int × Int × Int)) (i j k : Nat) (hk : k < es.length) : enAt (sw es i j) k = if j = k then enAt es i else if i = k then enAt es j else enAt es k := by
  unfold sw
  rw [enAt_set _ _ _ _ (by simpa using hk), enAt_set _ _ _ _ hk]
/-- None is ahead of the one above it. -/
def Ord (es : List (Int × Int × Int)) : Prop := ∀ k, 0 < k → k < es.length → leE (enAt es ((k - 1) / 4)) (enAt es k)
/-- In order, but for one that rises. -/
structure RI (es : List (Int × Int × Int)) (i : Nat) : Prop where
  a : ∀ k, 0 < k → k < es.length → k ≠ i → leE (enAt es ((k - 1) / 4)) (enAt es k)
  b : ∀ k, 0 < k → k < es.length → (k - 1) / 4 = i → 0 < i → leE (enAt es ((i - 1) / 4)) (enAt es k)
theorem RI.step {es : List (Int × Int × Int)} {i : Nat} (h : RI es i) (hi : i < es.length) (h0 : 0 < i) (ha : aheadE (enAt es i) (enAt es ((i - 1) / 4)) = true) : RI (sw es i ((i - 1) / 4)) ((i - 1) / 4) := by
  obtain ⟨a, hae⟩ : ∃ a, a = (i - 1) / 4 := ⟨_, rfl⟩
  rw [← hae] at ha ⊢
  have hai : a < i := by omega
  have vi : enAt (sw es i a) i = enAt es a := by rw [enAt_sw _ _ _ _ hi, if_neg (by omega), if_pos rfl]
  have va : enAt (sw es i a) a = enAt es i := by rw [enAt_sw _ _ _ _ (by omega), if_pos rfl]
  have vo : ∀ k, k < es.length → k ≠ i → k ≠ a → enAt (sw es i a) k = enAt es k := fun k hk h1 h2 => by
    rw [enAt_sw _ _ _ _ hk, if_neg (fun e => h2 e.symm), if_neg (fun e => h1 e.symm)]
  refine ⟨fun k k0 kl ka => ?_, fun k k0 kl kp a0 => ?_⟩
  · rw [sw_len] at kl
    by_cases ki : k = i
    · subst ki
      rw [← hae, va, vi]
      exact leE_of ha
    · rw [vo k kl ki ka]
      by_cases kp : (k - 1) / 4 = i
      · rw [kp, vi]
        have := h.b k k0 kl kp h0
        rw [← hae] at this
        exact this
      · by_cases kq : (k - 1) / 4 = a
        · rw [kq, va]
          have := h.a k k0 kl ki
          rw [kq] at this
          exact leE_trans (leE_of ha) this
        · rw [vo _ (by omega) kp kq]
          exact h.a k k0 kl ki
  · rw [sw_len] at kl
    rw [vo _ (by omega) (by omega) (by omega)]
    have hA := h.a a a0 (by omega) (by omega)
    by_cases ki : k = i
    · subst ki; rw [vi]; exact hA
    · rw [vo k kl ki (by omega)]
      have := h.a k k0 kl ki
      rw [kp] at this
      exact leE_trans hA this
theorem rise_ord : ∀ (f : Nat) (es : List (Int × Int × Int)) (i : Nat), i ≤ f → i < es.length → RI es i → Ord (riseF f es i)
  | 0, es, i, hf, hi, h => fun k k0 kl => h.a k k0 kl (by omega)
  | f + 1, es, i, hf, hi, h => by
    unfold riseF
    by_cases i0 : i = 0
    · rw [if_pos i0]
      exact fun k k0 kl => h.a k k0 kl (by omega)
    · rw [if_neg i0]
      cases ha : aheadE (enAt es i) (enAt es ((i - 1) / 4)) with
      | true => exact rise_ord f _ _ (by omega) (by rw [sw_len]; omega) (h.step hi (by omega) ha)
      | false =>
        intro k k0 kl
        by_cases ki : k = i
        · subst ki; exact ha
        · exact h.a k k0 kl ki
theorem put_ord {es : List (Int × Int × Int)} (h : Ord es) (e : Int × Int × Int) : Ord (riseF es.length (es ++ [e]) es.length) := by
  have hg : ∀ k, k < es.length → enAt (es ++ [e]) k = enAt es k := fun k hk => by
    unfold enAt
    rw [List.getD_eq_getElem?_getD, List.getD_eq_getElem?_getD, List.getElem?_append_left hk]
  refine rise_ord _ _ _ (Nat.le_refl _) (by simp) ⟨fun k k0 kl ki => ?_, fun k k0 kl kp i0 => ?_⟩
  · rw [List.length_append, List.length_singleton] at kl
    rw [hg _ (by omega), hg _ (by omega)]
    exact h k k0 (by omega)
  · rw [List.length_append, List.length_singleton] at kl
    omega
end Go.Proofs.Ytaogpodncphpjaa
/-! What sinks leaves the heap in order. -/
namespace Go.Proofs.Ytaogpodncphpjaa
set_option linter.unusedVariables false
set_option linter.unusedSimpArgs false

theorem kid_le (es : List (Int × Int × Int)) (n l c : Nat) : leE (enAt es (kid es n l c)) (enAt es l) ∧ (c < n → leE (enAt es (kid es n l c)) (enAt es c)) := by
  unfold kid
  by_cases h : c < n ∧ aheadE (enAt es c) (enAt es l) = true
  · rw [if_pos h]
    exact ⟨leE_of h.2, fun _ => leE_refl _⟩
  · rw [if_neg h]
    refine ⟨leE_refl _, fun hc => ?_⟩
    unfold leE
    cases ha : aheadE (enAt es c) (enAt es l) with
    | false => rfl
    | true => exact absurd ⟨hc, ha⟩ h
theorem lk_le (es : List (Int × Int × Int)) (n i : Nat) : ∀ j, leE (enAt es (lk es n i j)) (enAt es i) ∧ ∀ d, d < j → 4 * i + 1 + d < n → leE (enAt es (lk es n i j)) (enAt es (4 * i + 1 + d))
  | 0 => ⟨leE_refl _, fun d h => by omega⟩
  | j + 1 => by
    obtain ⟨h1, h2⟩ := lk_le es n i j
    obtain ⟨k1, k2⟩ := kid_le es n (lk es n i j) (4 * i + 1 + j)
    refine ⟨leE_trans k1 h1, fun d hd hn => ?_⟩
    by_cases e : d = j
    · subst e; exact k2 hn
    · exact leE_trans k1 (h2 d (by omega) hn)
theorem lk_is (es : List (Int × Int × Int)) (n i : Nat) : ∀ j, lk es n i j = i ∨ ∃ d, d < j ∧ lk es n i j = 4 * i + 1 + d
  | 0 => .inl rfl
  | j + 1 => by
    have ih := lk_is es n i j
    have hk : lk es n i (j + 1) = kid es n (lk es n i j) (4 * i + 1 + j) := rfl
    rw [hk]
    by_cases h : 4 * i + 1 + j < n ∧ aheadE (enAt es (4 * i + 1 + j)) (enAt es (lk es n i j)) = true
    · exact .inr ⟨j, by omega, by unfold kid; rw [if_pos h]⟩
    · have e : kid es n (lk es n i j) (4 * i + 1 + j) = lk es n i j := by unfold kid; rw [if_neg h]
      rw [e]
      rcases ih with h | ⟨d, hd, h⟩
      · exact .inl h
      · exact .inr ⟨d, by omega, h⟩
/-- In order, but for one that sinks. -/
structure SI (es : List (Int × Int × Int)) (i : Nat) : Prop where
  a : ∀ k, 0 < k → k < es.length → (k - 1) / 4 ≠ i → leE (enAt es ((k - 1) / 4)) (enAt es k)
  b : ∀ k, 0 < k → k < es.length → (k - 1) / 4 = i → 0 < i → leE (enAt es ((i - 1) / 4)) (enAt es k)
theorem SI.step {es : List (Int × Int × Int)} {i l : Nat} (h : SI es i) (hi : i < es.length) (hl : l < es.length) (hp : (l - 1) / 4 = i) (hil : i < l)
    (h1 : leE (enAt es l) (enAt es i)) (h2 : ∀ k, 0 < k → k < es.length → (k - 1) / 4 = i → leE (enAt es l) (enAt es k)) : SI (sw es i l) l := by
  have vl : enAt (sw es i l) l = enAt es i := by rw [enAt_sw _ _ _ _ hl, if_pos rfl]
  have vi : enAt (sw es i l) i = enAt es l := by rw [enAt_sw _ _ _ _ hi, if_neg (by omega), if_pos rfl]
  have vo : ∀ k, k < es.length → k ≠ i → k ≠ l → enAt (sw es i l) k = enAt es k := fun k hk h1 h2 => by
    rw [enAt_sw _ _ _ _ hk, if_neg (fun e => h2 e.symm), if_neg (fun e => h1 e.symm)]
  refine ⟨fun k k0 kl kp => ?_, fun k k0 kl kp l0 => ?_⟩
  · rw [sw_len] at kl
    by_cases ki : k = i
    · subst ki
      rw [vi, vo _ (by omega) (by omega) kp]
      exact h.b l (by omega) hl hp k0
    · by_cases kpi : (k - 1) / 4 = i
      · rw [kpi, vi]
        by_cases kll : k = l
        · subst kll; rw [vl]; exact h1
        · rw [vo k kl ki kll]; exact h2 k k0 kl kpi
      · have kll : k ≠ l := fun e => kpi (by rw [e]; exact hp)
        rw [vo k kl ki kll, vo _ (by omega) kpi kp]
        exact h.a k k0 kl kpi
  · rw [sw_len] at kl
    rw [hp, vi, vo k kl (by omega) (by omega)]
    have := h.a k k0 kl (by omega)
    rw [kp] at this
    exact this
theorem sink_ord : ∀ (f : Nat) (es : List (Int × Int × Int)) (n i : Nat), es.length = n → n + 1 ≤ i + f → (i < n ∨ (n = 0 ∧ i = 0)) → SI es i → Ord (sinkF f es n i)
  | 0, es, n, i, hn, hf, hi, h => by omega
  | f + 1, es, n, i, hn, hf, hi, h => by
    unfold sinkF
    obtain ⟨g1, g2⟩ := lk_le es n i 4
    have hch : ∀ k, 0 < k → k < es.length → (k - 1) / 4 = i → leE (enAt es (lk es n i 4)) (enAt es k) := fun k k0 kl kp => by
      have := g2 (k - 1 - 4 * i) (by omega) (by omega)
      rw [show 4 * i + 1 + (k - 1 - 4 * i) = k by omega] at this
      exact this
    by_cases e : lk es n i 4 = i
    · rw [if_pos e]
      intro k k0 kl
      by_cases kp : (k - 1) / 4 = i
      · have := hch k k0 kl kp
        rw [e] at this
        rw [kp]; exact this
      · exact h.a k k0 kl kp
    · rw [if_neg e]
      have hin : i < n := by
        rcases hi with h' | ⟨h0, h0'⟩
        · exact h'
        · exact absurd (by
            have : ∀ j, lk es n i j = i := fun j => by
              have := lk_stop es n i 0 (by omega) j
              rw [Nat.zero_add] at this
              exact this
            exact this 4) e
      have hl := lk_lt es n i hin 4
      rcases lk_is es n i 4 with h' | ⟨d, hd, h'⟩
      · exact absurd h' e
      · exact sink_ord f _ n _ (by rw [sw_len]; exact hn) (by omega) (.inl hl) (h.step (by omega) (by omega) (by omega) (by omega) g1 hch)
theorem take_ord {es : List (Int × Int × Int)} {m : Nat} (h : Ord es) (hm : es.length = m + 1) : Ord (sinkF (m + 1) ((sw es 0 m).take m) m 0) := by
  have hlen : ((sw es 0 m).take m).length = m := by rw [List.length_take, sw_len]; omega
  have hg : ∀ k, 0 < k → k < m → enAt ((sw es 0 m).take m) k = enAt es k := fun k k0 hk => by
    have : enAt ((sw es 0 m).take m) k = enAt (sw es 0 m) k := by
      unfold enAt
      rw [List.getD_eq_getElem?_getD, List.getD_eq_getElem?_getD, List.getElem?_take, if_pos hk]
    rw [this, enAt_sw _ _ _ _ (by omega), if_neg (by omega), if_neg (by omega)]
  refine sink_ord _ _ m 0 hlen (by omega) (by omega) ⟨fun k k0 kl kp => ?_, fun k k0 kl kp i0 => by omega⟩
  rw [hlen] at kl
  rw [hg _ (by omega) (by omega), hg k k0 kl]
  exact h k k0 (by omega)
/-- The one at the top is ahead of none behind it. -/
theorem root_le {es : List (Int × Int × Int)} (h : Ord es) : ∀ (b k : Nat), k ≤ b → k < es.length → leE (enAt es 0) (enAt es k)
  | 0, k, hb, hk => by rw [show k = 0 by omega]; exact leE_refl _
  | b + 1, k, hb, hk => by
    by_cases k0 : k = 0
    · rw [k0]; exact leE_refl _
    · exact leE_trans (root_le h b ((k - 1) / 4) (by omega) (by omega)) (h k (by omega) hk)
end Go.Proofs.Ytaogpodncphpjaa
/-! The document's row of entries: Put. -/
namespace Go.Proofs.Ytaogpodncphpjaa
set_option linter.unusedVariables false
set_option linter.unusedSimpArgs false
open Go.RowKit

/-- A slice that reads as entries (three cells each), in memory that is there. -/
def Rd3 (w : World) (v : Value) (es : List (Int × Int × Int)) : Prop :=
  ∃ a c, v = .slice a es.length c ∧ es.length ≤ c ∧ c ≤ maxLen ∧ (0 < es.length → ∃ g off, a = some ⟨g, off, none⟩ ∧ g < w.heap.size ∧ ∀ i, i < es.length →
    w.cell? ⟨g, off + i * 3, none⟩ = some (.int .i64 (enAt es i).1) ∧ w.cell? ⟨g, off + i * 3 + 1, none⟩ = some (.int .u64 (enAt es i).2.1) ∧ w.cell? ⟨g, off + i * 3 + 2, none⟩ = some (.int .i64 (enAt es i).2.2))
theorem Rd3.below {w w' : World} {v : Value} {es : List (Int × Int × Int)} (h : Rd3 w v es) (hb : Below w.heap.size w w') : Rd3 w' v es := by
  obtain ⟨a, c, h1, h2, h3, h4⟩ := h
  refine ⟨a, c, h1, h2, h3, fun h0 => ?_⟩
  obtain ⟨g, off, e, hg, hc⟩ := h4 h0
  have hs := hb.size
  refine ⟨g, off, e, by omega, fun i hi => ?_⟩
  obtain ⟨q0, q1, q2⟩ := hc i hi
  exact ⟨(hb.cell (p := ⟨g, _, none⟩) hg).trans q0, (hb.cell (p := ⟨g, _, none⟩) hg).trans q1, (hb.cell (p := ⟨g, _, none⟩) hg).trans q2⟩
theorem own_rd3 {w : World} {base : Nat} {t : TypeId} {v : Value} {es : List (Int × Int × Int)} (h : w.ownsRow base t 3 v es.length (fl es)) : Rd3 w v es := by
  obtain ⟨h0, ⟨h1, h2⟩ | ⟨q, cap, cur, h1, h2, h3, h4, h5, h6, h7⟩⟩ := id h
  · exact ⟨none, 0, by rw [h1, h2], by omega, by simp, fun h => by omega⟩
  · refine ⟨_, cap, h1, h4, h5, fun hn => ⟨q, 0, rfl, by obtain ⟨hl, _⟩ := Array.getElem?_eq_some_iff.1 h3; exact hl, fun i hi => ?_⟩⟩
    subst h1
    obtain ⟨k1, k2, k3⟩ := fl_get es i hi
    have k := fun j => h.cellAt (g := q) (cap := cap) j
    have hl := fl_len es
    simp only [Nat.zero_add]
    exact ⟨(k _ (by omega)).trans k1, (k _ (by omega)).trans k2, (k _ (by omega)).trans k3⟩
/-- One more, at its place. -/
def insF (e : Int × Int × Int) : List (Int × Int × Int) → List (Int × Int × Int)
  | [] => [e]
  | x :: xs => if aheadE e x then e :: x :: xs else x :: insF e xs
theorem drop_enAt {es : List (Int × Int × Int)} {k : Nat} (h : k < es.length) : es.drop k = enAt es k :: es.drop (k + 1) := by
  rw [List.drop_eq_getElem_cons h, enAt_get h]
theorem infoRef : (Try.prog.info? 51).map (fun i => (i.zero, i.size, i.bytes)) = some (some (.agg #[.int .i64 0, .int .u64 0, .int .i64 0]), 3, 24) := by kernel_rfl
def PutPost (e : Int × Int × Int) (es : List (Int × Int × Int)) (w : World) (x : Ending) (w' : World) : Prop :=
  ∃ v, x = .returned v ∧ w'.ownsRow w.heap.size 51 3 v (insF e es).length (fl (insF e es)) ∧ Below w.heap.size w w'
structure Pg (w : World) (e : Int × Int × Int) (es : List (Int × Int × Int)) (k : Nat) (d : Bool) (v : Value) (out : List (Int × Int × Int)) (wr : World) : Prop where
  own : wr.ownsRow (w.heap.size + 1) 51 3 v out.length (fl out)
  eq : out ++ (if d then es.drop k else insF e (es.drop k)) = insF e es
  len : out.length ≤ k + 1
  lk : d = false → out.length ≤ k
  box : wr.heap[w.heap.size]? = some (.cells (ent e).toArray 51 (0, 0))
  bl : Below w.heap.size w wr
  sz : w.heap.size + 1 ≤ wr.heap.size
theorem Pg.below {w wr w' : World} {e : Int × Int × Int} {es out : List (Int × Int × Int)} {k : Nat} {d : Bool} {v : Value} (h : Pg w e es k d v out wr) (hb : Below wr.heap.size wr w') : Pg w e es k d v out w' := by
  have hs := hb.size
  have hz := h.sz
  refine ⟨?_, h.eq, h.len, h.lk, (hb.block _ (by omega)).trans h.box, h.bl.trans (hb.mono h.bl.size), by omega⟩
  obtain ⟨h0, h1 | ⟨q, cap, cur, h1, h2, h3, h4⟩⟩ := h.own
  · exact ⟨h0, .inl h1⟩
  · exact ⟨h0, .inr ⟨q, cap, cur, h1, h2, (hb.block q (by obtain ⟨hl, _⟩ := Array.getElem?_eq_some_iff.1 h3; exact hl)).trans h3, h4⟩⟩
theorem Pg.app {w wr w' : World} {e x : Int × Int × Int} {es out : List (Int × Int × Int)} {k k' : Nat} {d d' : Bool} {v v' : Value} (h : Pg w e es k d v out wr)
    (hown : w'.ownsRow (w.heap.size + 1) 51 3 v' (out.length + 1) (fl out ++ [.int .i64 x.1, .int .u64 x.2.1, .int .i64 x.2.2])) (hg : wr.grownBy w' v.ownBlock)
    (he : (out ++ [x]) ++ (if d' then es.drop k' else insF e (es.drop k')) = insF e es) (hl : (out ++ [x]).length ≤ k' + 1) (hlk : d' = false → (out ++ [x]).length ≤ k') : Pg w e es k' d' v' (out ++ [x]) w' := by
  have hz := h.sz
  have hs := hg.size
  have hlt : ∀ q, v.ownBlock = some q → w.heap.size + 1 ≤ q := fun q hq => by
    obtain ⟨_, ⟨h1, _⟩ | ⟨q', cap, cur, h1, h2, _⟩⟩ := h.own
    · rw [h1] at hq; cases hq
    · rw [h1] at hq; cases hq; exact h2
  refine ⟨?_, he, hl, hlk, (hg.block _ (by omega) (fun e => by have := hlt _ e.symm; omega)).trans h.box, h.bl.grown hg h.bl.size (fun q hq => by have := hlt q hq; omega), by omega⟩
  rw [List.length_append, List.length_singleton, fl_app]
  simpa [fl, ent] using hown
theorem Pg.own_lt {w wr : World} {e : Int × Int × Int} {es out : List (Int × Int × Int)} {k : Nat} {d : Bool} {v : Value} (h : Pg w e es k d v out wr) : ∀ q, v.ownBlock = some q → q < wr.heap.size := fun q hq => by
  obtain ⟨_, ⟨h1, _⟩ | ⟨q', cap, cur, h1, h2, h3, _⟩⟩ := h.own
  · rw [h1] at hq; cases hq
  · rw [h1] at hq; cases hq; obtain ⟨hl, _⟩ := Array.getElem?_eq_some_iff.1 h3; exact hl
theorem own_base {w : World} {base base' sz n : Nat} {t : TypeId} {v : Value} {xs : List Value} (h : w.ownsRow base t sz v n xs) (hb : base' ≤ base) : w.ownsRow base' t sz v n xs := by
  obtain ⟨h0, h1 | ⟨q, cap, cur, h1, h2, h3⟩⟩ := h
  · exact ⟨h0, .inl h1⟩
  · exact ⟨h0, .inr ⟨q, cap, cur, h1, by omega, h3⟩⟩
theorem Pg.sl {w wr : World} {e : Int × Int × Int} {es out : List (Int × Int × Int)} {k : Nat} {d : Bool} {v : Value} (h : Pg w e es k d v out wr) : ∃ a c, v = .slice a out.length c := by
  obtain ⟨_, ⟨h1, h2⟩ | ⟨q, cap, cur, h1, _⟩⟩ := h.own
  · exact ⟨none, 0, by rw [h1, h2]⟩
  · exact ⟨_, _, h1⟩
set_option maxHeartbeats 8000000 in
theorem refput (v0 : Value) (es : List (Int × Int × Int)) (e1 e2 e3 : Int) (w : World) (h : Rd3 w v0 es) (hl : es.length ≤ 1000) :
    Calls Try.prog 68 #[v0, .agg #[.int .i64 e1, .int .u64 e2, .int .i64 e3]] w (PutPost (e1, e2, e3) es w) := by
  obtain ⟨a, c, rfl, hc1, hc2, hrd⟩ := h
  obtain ⟨n, hn⟩ : ∃ n, n = es.length := ⟨_, rfl⟩
  have HN := hid hn
  have HR := hid hrd
  rw [← hn] at hc1 hl ⊢
  clear hrd hn
  have P0 : Hid (Pg w (e1, e2, e3) es 0 false (.slice none 0 0) [] (w.alloc (.cells #[.int .i64 e1, .int .u64 e2, .int .i64 e3] 51))) :=
    ⟨⟨by simp [fl], .inl ⟨rfl, rfl⟩⟩, by simp, by simp, by simp, Deep.blk_alloc_new _ _, (Below.refl _ _).alloc (Nat.le_refl _) _, by simp⟩
  go_enter Try.func68, Try.ntmps68
  go_wp2_with fail
  go_loopw [5, 6, 11] (fun v d i wr => ∃ (k : Nat) (b : Bool) (out : List (Int × Int × Int)), k ≤ n ∧ i = .int .i64 k ∧ d = .bool b ∧ Hid (Pg w (e1, e2, e3) es k b v out wr))
    (fun _ _ i _ => n - (intOf i).toNat)
  case atStart => exact ⟨0, false, [], by omega, rfl, rfl, P0⟩
  case round =>
    clear P0
    obtain ⟨k, b, out, hk, rfl, rfl, P⟩ := hrel
    obtain ⟨av, cv, rfl⟩ := P.out.sl
    by_cases hlt : k < n
    · obtain ⟨g, off, rfl, hg, hcell⟩ := HR.out (by have := HN.out; omega)
      obtain ⟨q0, q1, q2⟩ := hcell k (by have := HN.out; omega)
      obtain ⟨x1, x2, x3, hx⟩ : ∃ x1 x2 x3, enAt es k = (x1, x2, x3) := ⟨_, _, _, rfl⟩
      rw [hx] at q0 q1 q2
      have r0 := (P.out.bl.cell (p := ⟨g, off + k * 3, none⟩) hg).trans q0
      have r1 := (P.out.bl.cell (p := ⟨g, off + k * 3 + 1, none⟩) hg).trans q1
      have r2 := (P.out.bl.cell (p := ⟨g, off + k * 3 + 2, none⟩) hg).trans q2
      have HX := hid (show es.drop k = (x1, x2, x3) :: es.drop (k + 1) by rw [drop_enAt (by have := HN.out; omega), hx])
      have PA := hid (P.out.below ((Below.refl _ _).alloc (Nat.le_refl _) (.cells #[.int .i64 x1, .int .u64 x2, .int .i64 x3] 51)))
      have HE := hid P.out.eq
      have HLo := hid P.out.len
      have HLk := hid P.out.lk
      have OWL := hid (fun q hq => P.out.own_lt q hq)
      have b0 : (wr.alloc (.cells #[.int .i64 x1, .int .u64 x2, .int .i64 x3] 51)).cell? ⟨w.heap.size, 0, none⟩ = some (.int .i64 e1) := cell_ent PA.out.box rfl
      have b1 : (wr.alloc (.cells #[.int .i64 x1, .int .u64 x2, .int .i64 x3] 51)).cell? ⟨w.heap.size, 1, none⟩ = some (.int .u64 e2) := cell_ent PA.out.box rfl
      have b2 : (wr.alloc (.cells #[.int .i64 x1, .int .u64 x2, .int .i64 x3] 51)).cell? ⟨w.heap.size, 2, none⟩ = some (.int .i64 e3) := cell_ent PA.out.box rfl
      have XB := hid (Deep.blk_alloc_new wr (.cells #[.int .i64 x1, .int .u64 x2, .int .i64 x3] 51))
      clear q0 q1 q2 hcell hx hg P
      obtain ⟨i0, hi0, hz0, hz1, hz2⟩ := info_parts infoRef
      have HI := hid hi0
      clear hi0
      cases b
      · cases hah : aheadE (e1, e2, e3) (x1, x2, x3)
        · have RA := hid (heapAhead.ref_ahead e1 e2 e3 x1 x2 x3 false hah (wr.alloc (.cells #[.int .i64 x1, .int .u64 x2, .int .i64 x3] 51)))
          have HAH := hid hah
          clear hah
          go_wp2_with fail
          refine (RA.out).mono ?_
          rintro e w5 ⟨rfl, hb5⟩
          have P5 := hid (PA.out.below hb5)
          have X5 := (hb5.block _ (by simp)).trans XB.out
          have y0 : w5.cell? ⟨wr.heap.size, 0, none⟩ = some (.int .i64 x1) := cell_ent X5 rfl
          have y1 : w5.cell? ⟨wr.heap.size, 1, none⟩ = some (.int .u64 x2) := cell_ent X5 rfl
          have y2 : w5.cell? ⟨wr.heap.size, 2, none⟩ = some (.int .i64 x3) := cell_ent X5 rfl
          clear hb5 RA X5 PA b0 b1 b2 r0 r1 r2 XB
          go_wp2_with (at_builtin; refine wpList_append_own_at _ rfl _ _ 118 rfl (w.heap.size + 1) 51 i0 _ 3 24 Try.underlying118 HI.out hz0 hz1 hz2 rfl (by decide) _ _ _ rfl (P5.out.below ((Below.refl _ _).alloc (Nat.le_refl _) _)).own ⟨w5.heap.size, 0, none⟩ 1 1 [.int .i64 x1, .int .u64 x2, .int .i64 x3] rfl rfl ?p1 ?p2 ?p3 ?p4 ?p5 ?_)
          case p1 => exact World.news_of_block (cs := #[.int .i64 x1, .int .u64 x2, .int .i64 x3]) (t := 51) (fr := (0, 0)) (Deep.blk_alloc_new _ _)
          case p2 => intro u hu; simp at hu; rcases hu with rfl | rfl | rfl <;> rfl
          case p3 => have := HLo.out; unfold maxLen; omega
          case p4 => have := HLo.out; omega
          case p5 => have := P5.out.sz; simp; omega
          intro v' w6 hown6 hgrow _ _
          have P6 := hid (Pg.app (x := (x1, x2, x3)) (P5.out.below ((Below.refl _ _).alloc (Nat.le_refl _) _)) hown6 hgrow (d' := false) (k' := k + 1) (by have := HE.out; rw [HX.out] at this; simp only [insF, HAH.out] at this; simpa using this) (by have := HLo.out; simp; omega) (fun _ => by have := HLk.out (by simp); simp; omega))
          clear hown6 hgrow P5
          go_wp2
          go_roundw
          case rel => exact ⟨k + 1, false, _, by omega, by go_num, rfl, P6⟩
          case measure => simp [intOf]; omega
        · have RA := hid (heapAhead.ref_ahead e1 e2 e3 x1 x2 x3 true hah (wr.alloc (.cells #[.int .i64 x1, .int .u64 x2, .int .i64 x3] 51)))
          have HAH := hid hah
          clear hah
          go_wp2_with fail
          refine (RA.out).mono ?_
          rintro e w5 ⟨rfl, hb5⟩
          have P5 := hid (PA.out.below hb5)
          have X5 := hid ((hb5.block _ (by simp)).trans XB.out)
          have s5 : wr.heap.size + 1 ≤ w5.heap.size := by have := hb5.size; simpa using this
          have y0 : w5.cell? ⟨w.heap.size, 0, none⟩ = some (.int .i64 e1) := cell_ent P5.out.box rfl
          have y1 : w5.cell? ⟨w.heap.size, 1, none⟩ = some (.int .u64 e2) := cell_ent P5.out.box rfl
          have y2 : w5.cell? ⟨w.heap.size, 2, none⟩ = some (.int .i64 e3) := cell_ent P5.out.box rfl
          clear hb5 RA PA b0 b1 b2 r0 r1 r2 XB
          go_wp2_with (at_builtin; refine wpList_append_own_at _ rfl _ _ 118 rfl (w.heap.size + 1) 51 i0 _ 3 24 Try.underlying118 HI.out hz0 hz1 hz2 rfl (by decide) _ _ _ rfl (P5.out.below ((Below.refl _ _).alloc (Nat.le_refl _) _)).own ⟨w5.heap.size, 0, none⟩ 1 1 [.int .i64 e1, .int .u64 e2, .int .i64 e3] rfl rfl ?q1 ?q2 ?q3 ?q4 ?q5 ?_)
          case q1 => exact World.news_of_block (cs := #[.int .i64 e1, .int .u64 e2, .int .i64 e3]) (t := 51) (fr := (0, 0)) (Deep.blk_alloc_new _ _)
          case q2 => intro u hu; simp at hu; rcases hu with rfl | rfl | rfl <;> rfl
          case q3 => have := HLo.out; unfold maxLen; omega
          case q4 => have := HLo.out; omega
          case q5 => have := P5.out.sz; simp; omega
          intro v' w6 hown6 hgrow _ _
          have P6 := hid (Pg.app (x := (e1, e2, e3)) (P5.out.below ((Below.refl _ _).alloc (Nat.le_refl _) _)) hown6 hgrow (d' := true) (k' := k) (by have := HE.out; rw [HX.out] at this ⊢; simp only [insF, HAH.out] at this; simpa using this) (by have := HLo.out; have := HLk.out (by simp); simp; omega) (fun h => by cases h))
          have X6 : w6.heap[wr.heap.size]? = some (.cells #[.int .i64 x1, .int .u64 x2, .int .i64 x3] 51 (0, 0)) := by
            rw [hgrow.block _ (by simp; omega) (fun e => by have := OWL.out _ e.symm; omega), Below.heap_alloc _ _ _ (by omega)]
            exact X5.out
          have z0 : w6.cell? ⟨wr.heap.size, 0, none⟩ = some (.int .i64 x1) := cell_ent X6 rfl
          have z1 : w6.cell? ⟨wr.heap.size, 1, none⟩ = some (.int .u64 x2) := cell_ent X6 rfl
          have z2 : w6.cell? ⟨wr.heap.size, 2, none⟩ = some (.int .i64 x3) := cell_ent X6 rfl
          clear hown6 hgrow P5 X5 X6 y0 y1 y2
          obtain ⟨out2, ho2⟩ : ∃ o, o = out ++ [(e1, e2, e3)] := ⟨_, rfl⟩
          have HL2 := hid (show out2.length ≤ k + 1 by rw [ho2]; have := HLk.out (by simp); simp; omega)
          rw [← ho2] at P6
          clear ho2
          obtain ⟨a6, c6, rfl⟩ := P6.out.sl
          go_wp2_with (at_builtin; refine wpList_append_own_at _ rfl _ _ 118 rfl (w.heap.size + 1) 51 i0 _ 3 24 Try.underlying118 HI.out hz0 hz1 hz2 rfl (by decide) _ _ _ rfl (P6.out.below ((Below.refl _ _).alloc (Nat.le_refl _) _)).own ⟨w6.heap.size, 0, none⟩ 1 1 [.int .i64 x1, .int .u64 x2, .int .i64 x3] rfl rfl ?r1 ?r2 ?r3 ?r4 ?r5 ?_)
          case r1 => exact World.news_of_block (cs := #[.int .i64 x1, .int .u64 x2, .int .i64 x3]) (t := 51) (fr := (0, 0)) (Deep.blk_alloc_new _ _)
          case r2 => intro u hu; simp at hu; rcases hu with rfl | rfl | rfl <;> rfl
          case r3 => have := HL2.out; unfold maxLen; omega
          case r4 => have := HL2.out; omega
          case r5 => have := P6.out.sz; simp; omega
          intro v' w7 hown7 hgrow _ _
          have P7 := hid (Pg.app (x := (x1, x2, x3)) (P6.out.below ((Below.refl _ _).alloc (Nat.le_refl _) _)) hown7 hgrow (d' := true) (k' := k + 1) (by have := P6.out.eq; rw [HX.out] at this; simpa using this) (by have := HL2.out; simp; omega) (fun h => by cases h))
          clear hown7 hgrow P6
          go_wp2
          go_roundw
          case rel => exact ⟨k + 1, true, _, by omega, by go_num, rfl, P7⟩
          case measure => simp [intOf]; omega
      · have X5 := XB
        have y0 : (wr.alloc (.cells #[.int .i64 x1, .int .u64 x2, .int .i64 x3] 51)).cell? ⟨wr.heap.size, 0, none⟩ = some (.int .i64 x1) := cell_ent X5.out rfl
        have y1 : (wr.alloc (.cells #[.int .i64 x1, .int .u64 x2, .int .i64 x3] 51)).cell? ⟨wr.heap.size, 1, none⟩ = some (.int .u64 x2) := cell_ent X5.out rfl
        have y2 : (wr.alloc (.cells #[.int .i64 x1, .int .u64 x2, .int .i64 x3] 51)).cell? ⟨wr.heap.size, 2, none⟩ = some (.int .i64 x3) := cell_ent X5.out rfl
        clear b0 b1 b2 X5 XB
        go_wp2_with (at_builtin; refine wpList_append_own_at _ rfl _ _ 118 rfl (w.heap.size + 1) 51 i0 _ 3 24 Try.underlying118 HI.out hz0 hz1 hz2 rfl (by decide) _ _ _ rfl (PA.out.below ((Below.refl _ _).alloc (Nat.le_refl _) _)).own ⟨wr.heap.size + 1, 0, none⟩ 1 1 [.int .i64 x1, .int .u64 x2, .int .i64 x3] rfl rfl ?s1 ?s2 ?s3 ?s4 ?s5 ?_)
        case s2 => first | exact ⟨rfl, rfl, rfl⟩ | (intro u hu; simp at hu; rcases hu with rfl | rfl | rfl <;> rfl)
        case s3 => have := HLo.out; unfold maxLen; omega
        case s4 => have := HLo.out; omega
        case s5 => have := PA.out.sz; simp at this ⊢; omega
        intro v' w6 hown6 hgrow _ _
        have P6 := hid (Pg.app (x := (x1, x2, x3)) (PA.out.below ((Below.refl _ _).alloc (Nat.le_refl _) _)) hown6 hgrow (d' := true) (k' := k + 1) (by have := HE.out; rw [HX.out] at this; simpa using this) (by have := HLo.out; simp; omega) (fun h => by cases h))
        clear hown6 hgrow PA
        go_wp2
        go_roundw
        case rel => exact ⟨k + 1, true, _, by omega, by go_num, rfl, P6⟩
        case measure => simp [intOf]; omega
    · have hkn : k = es.length := by have := HN.out; omega
      have HE := hid P.out.eq
      rw [hkn, List.drop_length] at HE
      have HB := hid P.out.bl
      have HLo := hid P.out.len
      have HLk := hid P.out.lk
      have HP := P
      clear hkn P
      cases b
      · obtain ⟨i0, hi0, hz0, hz1, hz2⟩ := info_parts infoRef
        have HI := hid hi0
        clear hi0
        have y0 : wr.cell? ⟨w.heap.size, 0, none⟩ = some (.int .i64 e1) := cell_ent HP.out.box rfl
        have y1 : wr.cell? ⟨w.heap.size, 1, none⟩ = some (.int .u64 e2) := cell_ent HP.out.box rfl
        have y2 : wr.cell? ⟨w.heap.size, 2, none⟩ = some (.int .i64 e3) := cell_ent HP.out.box rfl
        go_wp2_with (at_builtin; refine wpList_append_own_at _ rfl _ _ 118 rfl (w.heap.size + 1) 51 i0 _ 3 24 Try.underlying118 HI.out hz0 hz1 hz2 rfl (by decide) _ _ _ rfl (HP.out.below ((Below.refl _ _).alloc (Nat.le_refl _) _)).own ⟨wr.heap.size, 0, none⟩ 1 1 [.int .i64 e1, .int .u64 e2, .int .i64 e3] rfl rfl ?u1 ?u2 ?u3 ?u4 ?u5 ?_)
        case u2 => first | exact ⟨rfl, rfl, rfl⟩ | (intro u hu; simp at hu; rcases hu with rfl | rfl | rfl <;> rfl)
        case u3 => have := HLo.out; unfold maxLen; omega
        case u4 => have := HLo.out; omega
        case u5 => have := HP.out.sz; simp at this ⊢; omega
        intro v' w6 hown6 hgrow _ _
        have P6 := hid (Pg.app (x := (e1, e2, e3)) (HP.out.below ((Below.refl _ _).alloc (Nat.le_refl _) _)) hown6 hgrow (d' := true) (k' := es.length) (by have := HE.out; simp only [insF] at this; simpa using this) (by have := HLk.out (by simp); have := HN.out; simp; omega) (fun h => by cases h))
        clear hown6 hgrow
        go_wp2
        go_ret
        have hq := P6.out.eq
        simp only [if_true, List.drop_length, List.append_nil] at hq
        refine ⟨_, rfl, ?_, P6.out.bl⟩
        rw [← hq]
        exact own_base P6.out.own (by omega)
      · go_wp2
        go_ret
        have hq := HE.out
        simp only [if_true, List.append_nil] at hq
        refine ⟨_, rfl, ?_, HB.out⟩
        rw [← hq]
        exact own_base HP.out.own (by omega)
end Go.Proofs.Ytaogpodncphpjaa
/-! Rows of entries in order: the one that is built by insertion is the one that a sort makes. -/
namespace Go.Proofs.Ytaogpodncphpjaa
set_option linter.unusedVariables false
set_option linter.unusedSimpArgs false

theorem leE_anti {a b : Int × Int × Int} (h : leE a b) (h' : leE b a) : a = b := by
  obtain ⟨h1, h2, h3⟩ := heapAhead.ahead_tot a.1 a.2.1 a.2.2 b.1 b.2.1 b.2.2 h' h
  exact Prod.ext h1 (Prod.ext h2 h3)
theorem leE_total (a b : Int × Int × Int) : leE a b ∨ leE b a := by
  unfold leE
  cases h : aheadE b a with
  | false => exact .inl rfl
  | true => exact .inr (leE_of h)
theorem insF_perm (e : Int × Int × Int) : ∀ l, (insF e l).Perm (e :: l)
  | [] => List.Perm.refl _
  | x :: l => by
    unfold insF
    split
    · exact List.Perm.refl _
    · exact ((insF_perm e l).cons x).trans (List.Perm.swap e x l)
theorem insF_ord (e : Int × Int × Int) : ∀ l, l.Pairwise leE → (insF e l).Pairwise leE
  | [], h => by simp [insF]
  | x :: l, h => by
    unfold insF
    have hx := List.pairwise_cons.1 h
    split
    · rename_i ha
      refine List.pairwise_cons.2 ⟨fun y hy => ?_, h⟩
      rcases List.mem_cons.1 hy with rfl | hy
      · exact leE_of ha
      · exact leE_trans (leE_of ha) (hx.1 y hy)
    · rename_i ha
      refine List.pairwise_cons.2 ⟨fun y hy => ?_, insF_ord e l hx.2⟩
      rcases List.mem_cons.1 ((insF_perm e l).mem_iff.1 hy) with rfl | hy
      · unfold leE; simpa using ha
      · exact hx.1 y hy
theorem ord_unique : ∀ (l m : List (Int × Int × Int)), l.Perm m → l.Pairwise leE → m.Pairwise leE → l = m
  | [], m, hp, _, _ => (hp.nil_eq)
  | a :: l, [], hp, _, _ => by have := hp.length_eq; simp at this
  | a :: l, b :: m, hp, hl, hm => by
    have h1 := List.pairwise_cons.1 hl
    have h2 := List.pairwise_cons.1 hm
    have e : a = b := by
      have ha : a ∈ b :: m := hp.mem_iff.1 (List.mem_cons_self ..)
      have hb : b ∈ a :: l := hp.mem_iff.2 (List.mem_cons_self ..)
      rcases List.mem_cons.1 ha with h | h
      · exact h
      · rcases List.mem_cons.1 hb with h' | h'
        · exact h'.symm
        · exact leE_anti (h1.1 b h') (h2.1 a h)
    subst e
    rw [ord_unique l m (List.Perm.cons_inv hp) h1.2 h2.2]
/-- The row in order. -/
def sortE (l : List (Int × Int × Int)) : List (Int × Int × Int) := l.mergeSort (fun x y => !aheadE y x)
theorem sortE_perm (l : List (Int × Int × Int)) : (sortE l).Perm l := List.mergeSort_perm ..
theorem sortE_ord (l : List (Int × Int × Int)) : (sortE l).Pairwise leE := by
  have := List.pairwise_mergeSort (le := fun x y => !aheadE y x) (fun a b c h1 h2 => by
    have e1 : leE a b := by unfold leE; simpa using h1
    have e2 : leE b c := by unfold leE; simpa using h2
    have := leE_trans e1 e2
    unfold leE at this
    simp [this]) (fun a b => by
    rcases leE_total a b with h | h
    · unfold leE at h; simp [h]
    · unfold leE at h; simp [h]) l
  exact this.imp (fun h => by unfold leE; simpa using h)
/-- All of a row, one behind the other. -/
def insAll (l : List (Int × Int × Int)) : List (Int × Int × Int) := l.foldl (fun o e => insF e o) []
theorem insAll_spec : ∀ (l o : List (Int × Int × Int)), o.Pairwise leE → (l.foldl (fun o e => insF e o) o).Pairwise leE ∧ (l.foldl (fun o e => insF e o) o).Perm (l ++ o)
  | [], o, h => ⟨h, List.Perm.refl _⟩
  | e :: l, o, h => by
    obtain ⟨h1, h2⟩ := insAll_spec l (insF e o) (insF_ord e o h)
    refine ⟨h1, h2.trans ?_⟩
    exact ((List.Perm.refl l).append (insF_perm e o)).trans List.perm_middle
theorem insAll_sort (l : List (Int × Int × Int)) : insAll l = sortE l := by
  obtain ⟨h1, h2⟩ := insAll_spec l [] List.Pairwise.nil
  rw [List.append_nil] at h2
  exact ord_unique _ _ (h2.trans (sortE_perm l).symm) h1 (sortE_ord l)
end Go.Proofs.Ytaogpodncphpjaa
/-! What a heap's Put, Take and Remove are to its row in order. -/
namespace Go.Proofs.Ytaogpodncphpjaa.Tk
set_option linter.unusedVariables false
set_option linter.unusedSimpArgs false

theorem count_app (es : List (Int × Int × Int)) (a e : Int × Int × Int) : (es ++ [a]).count e = if e = a then es.count a + 1 else es.count e := by
  rw [List.count_append]
  by_cases h : e = a
  · simp [h]
  · simp only [List.count_cons, List.count_nil, beq_iff_eq, if_neg h]
    rw [if_neg (fun q => h q.symm)]; omega
theorem put_count (es : List (Int × Int × Int)) (a e : Int × Int × Int) : (riseF es.length (es ++ [a]) es.length).count e = if e = a then es.count a + 1 else es.count e := by
  rw [rise_count _ _ _ (by simp) e, count_app]
theorem put_len (es : List (Int × Int × Int)) (a : Int × Int × Int) : (riseF es.length (es ++ [a]) es.length).length = es.length + 1 := by
  rw [rise_len]; simp
/-- What is behind the one at the top. -/
theorem take_count {es : List (Int × Int × Int)} {m : Nat} (hm : es.length = m + 1) (e : Int × Int × Int) :
    es.count e = (sinkF (m + 1) ((sw es 0 m).take m) m 0).count e + if e = enAt es 0 then 1 else 0 := by
  have hl : ((sw es 0 m).take m).length = m := by rw [List.length_take, sw_len]; omega
  have h1 : (sinkF (m + 1) ((sw es 0 m).take m) m 0).count e = ((sw es 0 m).take m).count e := by
    rcases Nat.eq_zero_or_pos m with h0 | h0
    · subst h0
      have : (sw es 0 0).take 0 = [] := rfl
      rw [this]
      have hk : lk [] 0 0 4 = 0 := by decide
      simp [sinkF, hk]
    · have := sink_count (m + 1) ((sw es 0 m).take m) 0 (by omega) e
      rw [hl] at this
      exact this
  have h2 := sw_count es 0 m (by omega) (by omega) e
  have h3 : sw es 0 m = (sw es 0 m).take m ++ [enAt es 0] := by
    have hsl : (sw es 0 m).length = m + 1 := by rw [sw_len]; exact hm
    have h4 := List.take_append_drop m (sw es 0 m)
    have h5 : (sw es 0 m).drop m = [enAt es 0] := by
      rw [List.drop_eq_getElem_cons (by omega)]
      have h6 : (sw es 0 m)[m] = enAt es 0 := by
        have := enAt_sw es 0 m m (by omega)
        rw [if_pos rfl] at this
        rw [← this, enAt_get]
      rw [h6, List.drop_eq_nil_of_le (by omega)]
    rw [h5] at h4
    exact h4.symm
  rw [h1, ← h2]
  conv => lhs; rw [h3]
  rw [List.count_append, List.count_cons, List.count_nil]
  by_cases h : e = enAt es 0
  · simp [h]
  · simp only [beq_iff_eq, if_neg h]; rw [if_neg (fun q => h q.symm)]
theorem take_len {es : List (Int × Int × Int)} {m : Nat} (hm : es.length = m + 1) : (sinkF (m + 1) ((sw es 0 m).take m) m 0).length = m := by
  rw [sink_len, List.length_take, sw_len]; omega
/-- What is left isn't ahead of the one that was taken. -/
theorem take_le {es : List (Int × Int × Int)} {m : Nat} (ho : Ord es) (hm : es.length = m + 1) : ∀ e, 0 < (sinkF (m + 1) ((sw es 0 m).take m) m 0).count e → leE (enAt es 0) e := by
  intro e he
  have h1 := take_count hm e
  have h2 : 0 < es.count e := by omega
  obtain ⟨i, hi, h3⟩ := List.mem_iff_getElem.1 (List.count_pos_iff.1 h2)
  have := root_le ho i i (Nat.le_refl _) hi
  rw [enAt_get hi, h3] at this
  exact this
theorem enAt_pos {es : List (Int × Int × Int)} (h : 0 < es.length) : 0 < es.count (enAt es 0) := by
  rw [List.count_pos_iff, enAt_get h]
  exact List.getElem_mem h

theorem sort_perm {l m : List (Int × Int × Int)} (h : l.Perm m) : sortE l = sortE m :=
  ord_unique _ _ ((sortE_perm l).trans (h.trans (sortE_perm m).symm)) (sortE_ord l) (sortE_ord m)
theorem sort_put (es : List (Int × Int × Int)) (x : Int × Int × Int) : sortE (riseF es.length (es ++ [x]) es.length) = insF x (sortE es) := by
  refine ord_unique _ _ ((sortE_perm _).trans ?_) (sortE_ord _) (insF_ord x _ (sortE_ord es))
  refine List.Perm.trans (List.perm_iff_count.2 fun e => rise_count _ _ _ (by simp) e) ?_
  refine List.Perm.trans ?_ (insF_perm x _).symm
  exact (List.perm_append_comm).trans ((sortE_perm es).symm.cons x)
theorem take_perm {es : List (Int × Int × Int)} {m : Nat} (hm : es.length = m + 1) : es.Perm (enAt es 0 :: sinkF (m + 1) ((sw es 0 m).take m) m 0) := by
  refine List.perm_iff_count.2 fun e => ?_
  rw [take_count hm e, List.count_cons]
  by_cases h : e = enAt es 0
  · simp [h]
  · simp only [beq_iff_eq, if_neg h]; rw [if_neg (fun q => h q.symm)]
theorem sort_take {es : List (Int × Int × Int)} {m : Nat} (ho : Ord es) (hm : es.length = m + 1) : sortE es = enAt es 0 :: sortE (sinkF (m + 1) ((sw es 0 m).take m) m 0) := by
  refine ord_unique _ _ ((sortE_perm _).trans ((take_perm hm).trans ((sortE_perm _).symm.cons _))) (sortE_ord _) (List.pairwise_cons.2 ⟨fun y hy => ?_, sortE_ord _⟩)
  exact take_le ho hm y (List.count_pos_iff.2 ((sortE_perm _).mem_iff.1 hy))
theorem sort_head {es : List (Int × Int × Int)} (ho : Ord es) (h : 0 < es.length) : ∃ l, sortE es = enAt es 0 :: l := by
  obtain ⟨m, hm⟩ : ∃ m, es.length = m + 1 := ⟨es.length - 1, by omega⟩
  exact ⟨_, sort_take ho hm⟩
theorem sort_len (es : List (Int × Int × Int)) : (sortE es).length = es.length := (sortE_perm es).length_eq
theorem sort_filter (p : Int × Int × Int → Bool) (es T : List (Int × Int × Int)) (h : T.Perm (es.filter p)) : sortE T = (sortE es).filter p :=
  ord_unique _ _ ((sortE_perm T).trans (h.trans ((sortE_perm es).symm.filter p))) (sortE_ord T) ((sortE_ord es).sublist (List.filter_sublist))
end Go.Proofs.Ytaogpodncphpjaa.Tk
/-! Maps with integer keys, as functions: what a look-up, a store, a deletion run to. Of no program of its own. -/
namespace Go.Proofs.Ytaogpodncphpjaa
set_option linter.unusedVariables false
set_option linter.unusedSimpArgs false
open Go.RowKit Go.MapKept

/-- Block b is a map of n entries with integer keys: key a has g a. -/
structure MapI (w : World) (b : Nat) (q : IntKind) (g : Int → Option Value) (n : Nat) : Prop where
  h : ∃ es clock, w.heap[b]? = some (.map es clock) ∧ Stamped es clock ∧ (∀ x ∈ es.toList, IsKey (.int q) x.key) ∧ es.size = n ∧ ∀ a v, g a = some v ↔ ∃ x ∈ es.toList, x.key = .int q a ∧ x.val = v
/-- With another answer for one key. -/
def updG (g : Int → Option Value) (a : Int) (v : Option Value) : Int → Option Value := fun x => if x = a then v else g x
theorem updG_same (g : Int → Option Value) (a : Int) (v : Option Value) : updG g a v a = v := by simp [updG]
theorem updG_ne (g : Int → Option Value) {a x : Int} (v : Option Value) (h : x ≠ a) : updG g a v x = g x := by simp [updG, h]
namespace MapI
variable {w : World} {b : Nat} {q : IntKind} {g : Int → Option Value} {n : Nat}
theorem lt (h : MapI w b q g n) : b < w.heap.size := by
  obtain ⟨es, clock, h1, _⟩ := h.h
  rw [Array.getElem?_eq_some_iff] at h1; exact h1.1
theorem kept (h : MapI w b q g n) {w' : World} (e : w'.heap[b]? = w.heap[b]?) : MapI w' b q g n := by
  obtain ⟨es, clock, h1, h2⟩ := h.h
  exact ⟨es, clock, e.trans h1, h2⟩
theorem new (w : World) (q : IntKind) : MapI (w.alloc (.map #[] 0)) w.heap.size q (fun _ => none) 0 :=
  ⟨#[], 0, (heap_alloc w _).1, stamped_empty 0, by simp, rfl, by simp⟩
theorem isKey (q : IntKind) (a : Int) : IsKey (.int q) (.int q a) := by simp [IsKey]
theorem find (h : MapI w b q g n) (a : Int) : ∃ es clock, w.heap[b]? = some (.map es clock) ∧ ((g a = none ∧ Instr.findNow (.int q) (.int q a) es.toList 0 = some none ∧ ∀ x ∈ es.toList, x.key ≠ .int q a) ∨ ∃ j e, g a = some e.val ∧ Instr.findNow (.int q) (.int q a) es.toList 0 = some (some (j, e.val)) ∧ es[j]? = some e ∧ e.key = .int q a) := by
  obtain ⟨es, clock, h1, h2, h3, h4, h5⟩ := h.h
  refine ⟨es, clock, h1, ?_⟩
  rcases findNow_spec (isKey q a) es.toList 0 h3 with ⟨e1, e2⟩ | ⟨j, e, e1, e2, e3⟩
  · refine .inl ⟨?_, e1, e2⟩
    rcases hg : g a with _ | v
    · rfl
    · obtain ⟨x, hx, hk, _⟩ := (h5 a v).1 hg
      exact absurd hk (e2 x hx)
  · refine .inr ⟨j, e, (h5 a e.val).2 ⟨e, List.mem_of_getElem? e2, e3, rfl⟩, by simpa using e1, by simpa using e2, e3⟩
variable {P : Program} {t kt et : TypeId}
theorem look_hit (h : MapI w b q g n) (hm : P.underlying t = some (.map kt et)) (hd : P.underlying kt = some (.int q)) {a : Int} {v : Value} (ha : g a = some v) (ok : Bool) :
    (Instr.lookup t (.map (some b)) (.int q a) ok).run P w = .ok (if ok then .tuple #[v, .bool true] else v) w := by
  obtain ⟨es, clock, h1, h2 | ⟨j, e, h2, h3, h4, h5⟩⟩ := h.find a
  · rw [ha] at h2; cases h2.1
  · rw [ha] at h2; simp only [Option.some.injEq] at h2; subst h2
    have hck := run_checkKey (P := P) (w := w) hd (isKey q a) es.isEmpty 9999
    simp only [Instr.lookup, Sem.run_bind, run_underlying hm, MapKept.run_getObj_map h1, Sem.run_pure, Result.andThen]
    simp [hck, run_findKey hd h3, Result.andThen]
theorem look_miss (h : MapI w b q g n) (hm : P.underlying t = some (.map kt et)) (hd : P.underlying kt = some (.int q)) {z : Value} (hz : ∀ w, (zeroValue et).run P w = .ok z w) {a : Int} (ha : g a = none) (ok : Bool) :
    (Instr.lookup t (.map (some b)) (.int q a) ok).run P w = .ok (if ok then .tuple #[z, .bool false] else z) w := by
  obtain ⟨es, clock, h1, h2 | ⟨j, e, h2, h3, h4, h5⟩⟩ := h.find a
  · have hck := run_checkKey (P := P) (w := w) hd (isKey q a) es.isEmpty 9999
    simp only [Instr.lookup, Sem.run_bind, run_underlying hm, MapKept.run_getObj_map h1, Sem.run_pure, Result.andThen]
    simp [hck, run_findKey hd h2.2.1, hz, Result.andThen]
  · rw [ha] at h2; cases h2
theorem len (h : MapI w b q g n) (hm : P.underlying t = some (.map kt et)) (ty : TypeId) : (Builtin.len_ #[t] ty #[.map (some b)]).run P w = .ok (.int .i64 n) w := by
  obtain ⟨es, clock, h1, _, _, h2, _⟩ := h.h
  subst h2
  simp [Builtin.len_, run_underlying hm, MapKept.run_getObj_map h1, Result.andThen, goInt]
theorem set_only {o : Obj} {w : World} {b : Nat} {es : Array MapEntry} {clock : Nat} (h1 : w.heap[b]? = some (.map es clock)) : Only b b w { w with heap := w.heap.setIfInBounds b o } :=
  ⟨rfl, rfl, rfl, by simp, fun k _ hk _ => (heap_set h1).2 k hk⟩
theorem store (h : MapI w b q g n) (hm : P.underlying t = some (.map kt et)) (hd : P.underlying kt = some (.int q)) (a : Int) (v : Value) :
    ∃ w', (Instr.mapUpdate t (.map (some b)) (.int q a) v).run P w = .ok () w' ∧ MapI w' b q (updG g a (some v)) (if g a = none then n + 1 else n) ∧ Only b b w w' := by
  obtain ⟨es, clock, h1, hs, hk, hn, hg⟩ := h.h
  rcases findNow_spec (isKey q a) es.toList 0 hk with ⟨e1, e2⟩ | ⟨j, e, e1, e2, e3⟩
  · have hga : g a = none := by
      rcases hga : g a with _ | v
      · rfl
      · obtain ⟨x, hx, hk, _⟩ := (hg a v).1 hga
        exact absurd hk (e2 x hx)
    rw [if_pos hga]
    refine ⟨{ w with heap := w.heap.setIfInBounds b (.map (es.push { key := .int q a, val := v, born := clock }) (clock + 1)) }, by simp [Instr.mapUpdate, run_underlying hm, MapKept.run_getObj_map h1, run_checkKey hd (isKey q a), run_findKey hd e1, run_setObj_map _ h1, Result.andThen], ⟨_, _, (heap_set h1).1, stamped_push hs e2, ?_, by simp [hn], ?_⟩, set_only h1⟩
    · intro x hx
      simp only [Array.toList_push, List.mem_append, List.mem_singleton] at hx
      rcases hx with hx | rfl
      · exact hk x hx
      · exact isKey q a
    · intro c u
      simp only [Array.toList_push, List.mem_append, List.mem_singleton, updG]
      split
      · rename_i e; subst e
        constructor
        · intro hu; simp only [Option.some.injEq] at hu; exact ⟨_, .inr rfl, rfl, hu⟩
        · rintro ⟨x, hx | rfl, hxk, hxv⟩
          · exact absurd hxk (e2 x hx)
          · rw [← hxv]
      · rename_i hne
        rw [hg]
        constructor
        · rintro ⟨x, hx, r⟩; exact ⟨x, .inl hx, r⟩
        · rintro ⟨x, hx | rfl, hxk, hxv⟩
          · exact ⟨x, hx, hxk, hxv⟩
          · simp only [Value.int.injEq] at hxk; exact absurd hxk.2.symm hne
  · have hj : es[j]? = some e := by simpa using e2
    have hga : g a ≠ none := fun hc => by
      have := (hg a e.val).2 ⟨e, List.mem_of_getElem? e2, e3, rfl⟩
      rw [hc] at this; cases this
    rw [if_neg hga]
    have hkey : ∀ e', es[j]? = some e' → ({ e' with key := .int q a, val := v } : MapEntry).key = e'.key := fun e' he' => by rw [hj] at he'; cases he'; exact e3.symm
    refine ⟨{ w with heap := w.heap.setIfInBounds b (.map (es.modify j fun e => { e with key := .int q a, val := v }) clock) }, by simp [Instr.mapUpdate, run_underlying hm, MapKept.run_getObj_map h1, run_checkKey hd (isKey q a), run_findKey hd e1, hj, e3, run_keyThatStays (isKey q a), run_setObj_map _ h1, Result.andThen], ⟨_, _, (heap_set h1).1, stamped_modify hs _ _ (fun _ _ => rfl) (fun e' _ he' => hkey e' he'), isKey_modify hk _ _ hkey, by simpa using hn, ?_⟩, set_only h1⟩
    have hst := (stamped_iff es clock).1 hs
    intro c u
    have hmem : ∀ x, x ∈ (es.modify j fun e => { e with key := .int q a, val := v }).toList ↔ (x ∈ es.toList ∧ x.key ≠ .int q a) ∨ x = { e with key := .int q a, val := v } := by
      intro x
      have hp := hst.2.2
      constructor
      · intro hx
        obtain ⟨i, hi⟩ := List.mem_iff_getElem?.1 hx
        rw [Array.getElem?_toList, Array.getElem?_modify] at hi
        split at hi
        · rename_i e; subst e
          rw [hj] at hi; simp only [Option.map_some, Option.some.injEq] at hi
          exact .inr hi.symm
        · rename_i hne
          refine .inl ⟨by rw [← Array.getElem?_toList] at hi; exact List.mem_of_getElem? hi, fun hxk => ?_⟩
          have hi' : es.toList[i]? = some x := by rw [Array.getElem?_toList]; exact hi
          obtain ⟨hi1, hi2⟩ := List.getElem?_eq_some_iff.1 hi'
          obtain ⟨hj1, hj2⟩ := List.getElem?_eq_some_iff.1 e2
          rcases Nat.lt_or_gt_of_ne hne with h | h
          · exact List.pairwise_iff_getElem.1 hp j i hj1 hi1 h (by rw [hi2, hj2, e3, hxk])
          · exact List.pairwise_iff_getElem.1 hp i j hi1 hj1 h (by rw [hi2, hj2, e3, hxk])
      · rintro (⟨hx, hxk⟩ | rfl)
        · obtain ⟨i, hi⟩ := List.mem_iff_getElem?.1 hx
          have hne : j ≠ i := fun e => by
            subst e
            rw [e2] at hi; simp only [Option.some.injEq] at hi; subst hi; exact hxk e3
          refine List.mem_iff_getElem?.2 ⟨i, ?_⟩
          rw [Array.getElem?_toList, Array.getElem?_modify, if_neg hne, ← Array.getElem?_toList]; exact hi
        · refine List.mem_iff_getElem?.2 ⟨j, ?_⟩
          rw [Array.getElem?_toList, Array.getElem?_modify, if_pos rfl, hj]; rfl
    simp only [updG]
    split
    · rename_i ec; subst ec
      constructor
      · intro hu; simp only [Option.some.injEq] at hu; exact ⟨_, (hmem _).2 (.inr rfl), rfl, hu⟩
      · rintro ⟨x, hx, hxk, hxv⟩
        rcases (hmem x).1 hx with ⟨_, h⟩ | rfl
        · exact absurd hxk h
        · rw [← hxv]
    · rename_i hne
      rw [hg]
      constructor
      · rintro ⟨x, hx, hxk, hxv⟩
        exact ⟨x, (hmem x).2 (.inl ⟨hx, fun h => hne (by rw [hxk] at h; simp only [Value.int.injEq] at h; exact h.2)⟩), hxk, hxv⟩
      · rintro ⟨x, hx, hxk, hxv⟩
        rcases (hmem x).1 hx with ⟨h, _⟩ | rfl
        · exact ⟨x, h, hxk, hxv⟩
        · simp only [Value.int.injEq] at hxk; exact absurd hxk.2.symm hne
theorem del (h : MapI w b q g n) (hm : P.underlying t = some (.map kt et)) (hd : P.underlying kt = some (.int q)) (ty : TypeId) (a : Int) :
    ∃ w', (Builtin.delete_ #[t, kt] ty #[.map (some b), .int q a]).run P w = .ok (.tuple #[]) w' ∧ MapI w' b q (updG g a none) (if g a = none then n else n - 1) ∧ Only b b w w' := by
  obtain ⟨es, clock, h1, hs, hk, hn, hg⟩ := h.h
  rcases findNow_spec (isKey q a) es.toList 0 hk with ⟨e1, e2⟩ | ⟨j, e, e1, e2, e3⟩
  · have hga : g a = none := by
      rcases hga : g a with _ | v
      · rfl
      · obtain ⟨x, hx, hk, _⟩ := (hg a v).1 hga
        exact absurd hk (e2 x hx)
    rw [if_pos hga]
    refine ⟨_, by simp [Builtin.delete_, run_underlying hm, MapKept.run_getObj_map h1, run_checkKey hd (isKey q a), run_findKey hd e1, run_setObj_map _ h1, Result.andThen], ⟨_, _, (heap_set h1).1, hs, hk, hn, fun c u => ?_⟩, set_only h1⟩
    simp only [updG]
    split
    · rename_i ec; subst ec
      rw [← hga]; exact hg _ u
    · exact hg c u
  · have hj : es[j]? = some e := by simpa using e2
    have hga : g a ≠ none := fun hc => by
      have := (hg a e.val).2 ⟨e, List.mem_of_getElem? e2, e3, rfl⟩
      rw [hc] at this; cases this
    rw [if_neg hga]
    have hjs : j < es.size := by rw [Array.getElem?_eq_some_iff] at hj; exact hj.1
    have hlist : (es.eraseIdxIfInBounds j).toList = es.toList.eraseIdx j := by
      unfold Array.eraseIdxIfInBounds
      rw [dif_pos hjs, Array.toList_eraseIdx]
    have hst := (stamped_iff es clock).1 hs
    have hmem : ∀ x, x ∈ (es.eraseIdxIfInBounds j).toList ↔ x ∈ es.toList ∧ x.key ≠ .int q a := by
      intro x
      rw [hlist, List.mem_eraseIdx_iff_getElem?]
      constructor
      · rintro ⟨i, hne, hi⟩
        refine ⟨List.mem_of_getElem? hi, fun hxk => ?_⟩
        obtain ⟨hi1, hi2⟩ := List.getElem?_eq_some_iff.1 hi
        obtain ⟨hj1, hj2⟩ := List.getElem?_eq_some_iff.1 e2
        rcases Nat.lt_or_gt_of_ne hne with h | h
        · exact List.pairwise_iff_getElem.1 hst.2.2 i j hi1 hj1 h (by rw [hi2, hj2, e3, hxk])
        · exact List.pairwise_iff_getElem.1 hst.2.2 j i hj1 hi1 h (by rw [hi2, hj2, e3, hxk])
      · rintro ⟨hx, hxk⟩
        obtain ⟨i, hi⟩ := List.mem_iff_getElem?.1 hx
        refine ⟨i, fun e => ?_, hi⟩
        subst e
        rw [e2] at hi; simp only [Option.some.injEq] at hi; subst hi; exact hxk e3
    refine ⟨_, by simp [Builtin.delete_, run_underlying hm, MapKept.run_getObj_map h1, run_checkKey hd (isKey q a), run_findKey hd e1, run_setObj_map _ h1, Result.andThen], ⟨_, _, (heap_set h1).1, stamped_erase hs _, fun x hx => hk x ((hmem x).1 hx).1, ?_, fun c u => ?_⟩, set_only h1⟩
    · have : (es.eraseIdxIfInBounds j).toList.length = es.toList.length - 1 := by rw [hlist, List.length_eraseIdx]; simp [hjs]
      rw [Array.length_toList, Array.length_toList, hn] at this; exact this
    · simp only [updG]
      split
      · rename_i ec; subst ec
        constructor
        · intro h; cases h
        · rintro ⟨x, hx, hxk, _⟩
          exact absurd hxk ((hmem x).1 hx).2
      · rename_i hne
        rw [hg]
        constructor
        · rintro ⟨x, hx, hxk, hxv⟩
          exact ⟨x, (hmem x).2 ⟨hx, fun h => hne (by rw [hxk] at h; simp only [Value.int.injEq] at h; exact h.2)⟩, hxk, hxv⟩
        · rintro ⟨x, hx, hxk, hxv⟩
          exact ⟨x, ((hmem x).1 hx).1, hxk, hxv⟩
end MapI
end Go.Proofs.Ytaogpodncphpjaa
/-! timer.Timers: heaps side by side, a map, a count; what it is, what a deed on one heap leaves. -/
namespace Go.Proofs.Ytaogpodncphpjaa
set_option linter.unusedVariables false
set_option linter.unusedSimpArgs false
open Go.RowKit

abbrev En := Int × Int × Int
def updN {α : Type} (f : Nat → α) (i : Nat) (x : α) : Nat → α := fun j => if j = i then x else f j
def updI {α : Type} (f : Int → α) (i : Int) (x : α) : Int → α := fun j => if j = i then x else f j
theorem updN_same {α : Type} (f : Nat → α) (i : Nat) (x : α) : updN f i x i = x := by simp [updN]
theorem updN_ne {α : Type} (f : Nat → α) {i j : Nat} (x : α) (h : j ≠ i) : updN f i x j = f j := by simp [updN, h]
/-- The timers at block t: n heaps (es), who has one (inn: k of them), how many were added; Z: foreign blocks. -/
structure Tq (Z : Nat → Prop) (w : World) (t hb mb n c : Nat) (hp : Nat → Nat) (v : Nat → Value) (es : Nat → List En) (inn : Int → Bool) (k ad : Nat) : Prop where
  box : w.heap[t]? = some (.cells #[.slice (some ⟨hb, 0, none⟩) n c, .map (some mb), .int .u64 ad] 96 (0, 0))
  row : hb < w.heap.size ∧ ∀ i, i < n → w.cell? ⟨hb, i, none⟩ = some (.pointer (some ⟨hp i, 0, none⟩))
  hc : n ≤ c ∧ c ≤ maxLen
  mp : ∃ g, MapI w mb .i64 g k ∧ ∀ a, (g a = some (.bool true) ∧ inn a = true) ∨ (g a = none ∧ inn a = false)
  he : ∀ i, i < n → Hp w 0 (hp i) (v i) (es i)
  ord : ∀ i, i < n → Ord (es i)
  fix : t ≠ hb ∧ t ≠ mb ∧ hb ≠ mb
  hpx : ∀ i, i < n → hp i ≠ t ∧ hp i ≠ hb ∧ hp i ≠ mb
  hpi : ∀ i j, i < n → j < n → hp i = hp j → i = j
  own : ∀ i, i < n → ∀ q, (v i).ownBlock = some q → (q ≠ t ∧ q ≠ hb ∧ q ≠ mb) ∧ (∀ j, j < n → q ≠ hp j) ∧ (∀ j, j < n → j ≠ i → (v j).ownBlock ≠ some q)
  zf : (¬ Z t ∧ ¬ Z hb ∧ ¬ Z mb) ∧ (∀ i, i < n → ¬ Z (hp i)) ∧ (∀ i, i < n → ∀ q, (v i).ownBlock = some q → ¬ Z q)
def Tm (Z : Nat → Prop) (w : World) (t n : Nat) (es : Nat → List En) (inn : Int → Bool) (k ad : Nat) : Prop := ∃ hb mb c hp v, Tq Z w t hb mb n c hp v es inn k ad
variable {Z : Nat → Prop} {w w' : World} {t hb mb n c : Nat} {hp : Nat → Nat} {v : Nat → Value} {es : Nat → List En} {inn : Int → Bool} {k ad : Nat}
theorem own_lt0 {p : Nat} {v : Value} {es : List En} (h : Hp w 0 p v es) {q : Nat} (hq : v.ownBlock = some q) : q < w.heap.size := (h.own_lt q hq).2
theorem Tq.lt (h : Tq Z w t hb mb n c hp v es inn k ad) : t < w.heap.size ∧ hb < w.heap.size ∧ mb < w.heap.size := by
  obtain ⟨g, h1, _⟩ := h.mp
  obtain ⟨hl, _⟩ := Array.getElem?_eq_some_iff.1 h.box
  exact ⟨hl, h.row.1, h1.lt⟩
/-- All that is as it was keeps the timers. -/
theorem Tq.kept (h : Tq Z w t hb mb n c hp v es inn k ad) (ht : w'.heap[t]? = w.heap[t]?) (hh : w'.heap[hb]? = w.heap[hb]?) (hm : w'.heap[mb]? = w.heap[mb]?) (hs : w.heap.size ≤ w'.heap.size)
    (hx : ∀ i, i < n → w'.heap[hp i]? = w.heap[hp i]?) (hv : ∀ i, i < n → ∀ q, (v i).ownBlock = some q → w'.heap[q]? = w.heap[q]?) : Tq Z w' t hb mb n c hp v es inn k ad := by
  obtain ⟨g, h1, h2⟩ := h.mp
  refine ⟨ht.trans h.box, ⟨Nat.lt_of_lt_of_le h.row.1 hs, fun i hi => ?_⟩, h.hc, ⟨g, h1.kept hm, h2⟩, fun i hi => (h.he i hi).kept (hx i hi) (hv i hi), h.ord, h.fix, h.hpx, h.hpi, h.own, h.zf⟩
  have := h.row.2 i hi
  simpa [World.cell?, hh] using this
theorem Tq.below (h : Tq Z w t hb mb n c hp v es inn k ad) (hb' : Below w.heap.size w w') : Tq Z w' t hb mb n c hp v es inn k ad :=
  h.kept (hb'.block _ h.lt.1) (hb'.block _ h.lt.2.1) (hb'.block _ h.lt.2.2) hb'.size (fun i hi => hb'.block _ (h.he i hi).lt) (fun i hi q hq => hb'.block _ (own_lt0 (h.he i hi) hq))
theorem Tm.below (h : Tm Z w t n es inn k ad) (hb' : Below w.heap.size w w') : Tm Z w' t n es inn k ad := by
  obtain ⟨hb, mb, c, hp, v, h⟩ := h
  exact ⟨hb, mb, c, hp, v, h.below hb'⟩
/-- One heap is another one. -/
theorem Tq.up (h : Tq Z w t hb mb n c hp v es inn k ad) {i : Nat} (hi : i < n) {v' : Value} {T : List En} (hH : Hp w' 0 (hp i) v' T) (hO : Ord T) (hq : OnlyQ (hp i) (v i) w w')
    (hn : ∀ q, v'.ownBlock = some q → (v i).ownBlock = some q ∨ w.heap.size ≤ q) (hz : ∀ k, Z k → k < w.heap.size) : Tq Z w' t hb mb n c hp (updN v i v') (updN es i T) inn k ad := by
  obtain ⟨g, h1, h2⟩ := h.mp
  obtain ⟨lt, lh, lm⟩ := h.lt
  have oi := h.own i hi
  have xi := h.hpx i hi
  have no : ∀ x, (∀ q, (v i).ownBlock = some q → q ≠ x) → (v i).ownBlock ≠ some x := fun x hx e => hx x e rfl
  have kt : w'.heap[t]? = w.heap[t]? := hq.block t lt (fun e => xi.1 e.symm) (no t fun q e => (oi q e).1.1)
  have kh : w'.heap[hb]? = w.heap[hb]? := hq.block hb lh (fun e => xi.2.1 e.symm) (no hb fun q e => (oi q e).1.2.1)
  have km : w'.heap[mb]? = w.heap[mb]? := hq.block mb lm (fun e => xi.2.2 e.symm) (no mb fun q e => (oi q e).1.2.2)
  have kj : ∀ j, j < n → j ≠ i → w'.heap[hp j]? = w.heap[hp j]? := fun j hj hji => hq.block (hp j) (h.he j hj).lt (fun e => hji (h.hpi j i hj hi e)) (no (hp j) fun q e => (oi q e).2.1 j hj)
  have kv : ∀ j, j < n → j ≠ i → ∀ q, (v j).ownBlock = some q → w'.heap[q]? = w.heap[q]? := fun j hj hji q e =>
    hq.block q (own_lt0 (h.he j hj) e) ((h.own j hj q e).2.1 i hi) (fun e2 => (oi q e2).2.2 j hj hji e)
  have nw : ∀ q, v'.ownBlock = some q → (q ≠ t ∧ q ≠ hb ∧ q ≠ mb) ∧ (∀ j, j < n → q ≠ hp j) ∧ (∀ j, j < n → j ≠ i → (v j).ownBlock ≠ some q) ∧ ¬ Z q := fun q e => by
    rcases hn q e with e | e
    · exact ⟨(oi q e).1, (oi q e).2.1, (oi q e).2.2, h.zf.2.2 i hi q e⟩
    · refine ⟨⟨by omega, by omega, by omega⟩, fun j hj e2 => ?_, fun j hj _ e2 => ?_, fun hzq => ?_⟩
      · have := (h.he j hj).lt; omega
      · have := own_lt0 (h.he j hj) e2; omega
      · have := hz q hzq; omega
  refine ⟨kt.trans h.box, ⟨Nat.lt_of_lt_of_le lh hq.size, fun j hj => ?_⟩, h.hc, ⟨g, h1.kept km, h2⟩, fun j hj => ?_, fun j hj => ?_, h.fix, h.hpx, h.hpi, fun j hj q e => ?_, h.zf.1, h.zf.2.1, fun j hj q e => ?_⟩
  · have := h.row.2 j hj
    simpa [World.cell?, kh] using this
  · by_cases hji : j = i
    · subst hji; rw [updN_same, updN_same]; exact hH
    · rw [updN_ne _ _ hji, updN_ne _ _ hji]; exact (h.he j hj).kept (kj j hj hji) (kv j hj hji)
  · by_cases hji : j = i
    · subst hji; rw [updN_same]; exact hO
    · rw [updN_ne _ _ hji]; exact h.ord j hj
  · by_cases hji : j = i
    · subst hji
      rw [updN_same] at e
      obtain ⟨a1, a2, a3, a4⟩ := nw q e
      exact ⟨a1, a2, fun l hl hlj => by rw [updN_ne _ _ hlj]; exact a3 l hl hlj⟩
    · rw [updN_ne _ _ hji] at e
      obtain ⟨a1, a2, a3⟩ := h.own j hj q e
      refine ⟨a1, a2, fun l hl hlj => ?_⟩
      by_cases hli : l = i
      · subst hli
        rw [updN_same]
        exact fun e2 => (nw q e2).2.2.1 j hj hji e
      · rw [updN_ne _ _ hli]; exact a3 l hl hlj
  · by_cases hji : j = i
    · subst hji
      rw [updN_same] at e
      exact (nw q e).2.2.2
    · rw [updN_ne _ _ hji] at e
      exact h.zf.2.2 j hj q e
theorem FrZ.of_q (h : Tq Z w t hb mb n c hp v es inn k ad) {i : Nat} (hi : i < n) (hq : OnlyQ (hp i) (v i) w w') (ho : w'.os = w.os ∧ w'.tape = w.tape ∧ w'.output = w.output) : FrZ Z w w' :=
  ⟨ho.1, ho.2.1, ho.2.2, hq.size, fun x hx hz => hq.block x hx (fun e => h.zf.2.1 i hi (e ▸ hz)) (fun e => h.zf.2.2 i hi x e hz)⟩
theorem undT : Try.prog.underlying 93 = some (.map 3 4) := by kernel_rfl
theorem undTI : Try.prog.underlying 3 = some (.int .i64) := by kernel_rfl
theorem zeroTB (w : World) : (zeroValue 4).run Try.prog w = .ok (.bool false) w := by kernel_rfl
theorem Tq.look (h : Tq Z w t hb mb n c hp v es inn k ad) (a : Int) : (Instr.lookup 93 (.map (some mb)) (.int .i64 a) false).run Try.prog w = .ok (.bool (inn a)) w := by
  obtain ⟨g, h1, h2⟩ := h.mp
  rcases h2 a with ⟨e, e2⟩ | ⟨e, e2⟩
  · rw [e2]; exact h1.look_hit undT undTI e false
  · rw [e2]; exact h1.look_miss undT undTI zeroTB e false
theorem Tq.len (h : Tq Z w t hb mb n c hp v es inn k ad) (ty : TypeId) : (Builtin.len_ #[93] ty #[.map (some mb)]).run Try.prog w = .ok (.int .i64 k) w := by
  obtain ⟨g, h1, _⟩ := h.mp
  exact h1.len undT ty
theorem Tq.onlyM (h : Tq Z w t hb mb n c hp v es inn k ad) (o : Only mb mb w w') {inn' : Int → Bool} {k' : Nat} (hm : ∃ g, MapI w' mb .i64 g k' ∧ ∀ a, (g a = some (.bool true) ∧ inn' a = true) ∨ (g a = none ∧ inn' a = false)) :
    Tq Z w' t hb mb n c hp v es inn' k' ad ∧ FrZ Z w w' := by
  obtain ⟨lt, lh, lm⟩ := h.lt
  have b := fun x hx (e : x ≠ mb) => o.block x hx e e
  refine ⟨⟨(b t lt h.fix.2.1).trans h.box, ⟨Nat.lt_of_lt_of_le lh o.size, fun i hi => ?_⟩, h.hc, hm, fun i hi => (h.he i hi).kept (b _ (h.he i hi).lt (h.hpx i hi).2.2) (fun q hq => b q (own_lt0 (h.he i hi) hq) (h.own i hi q hq).1.2.2), h.ord, h.fix, h.hpx, h.hpi, h.own, h.zf⟩,
    ⟨o.os, o.tape, o.output, o.size, fun x hx hz => b x hx (fun e => h.zf.1.2.2 (e ▸ hz))⟩⟩
  have := h.row.2 i hi
  simpa [World.cell?, b hb lh h.fix.2.2] using this
theorem Tq.store (h : Tq Z w t hb mb n c hp v es inn k ad) (a : Int) (ha : inn a = false) :
    ∃ w', (Instr.mapUpdate 93 (.map (some mb)) (.int .i64 a) (.bool true)).run Try.prog w = .ok () w' ∧ Tq Z w' t hb mb n c hp v es (updI inn a true) (k + 1) ad ∧ FrZ Z w w' := by
  obtain ⟨g, h1, h2⟩ := h.mp
  obtain ⟨w', r, m, o⟩ := h1.store undT undTI a (.bool true)
  have hg : g a = none := by rcases h2 a with ⟨_, e⟩ | ⟨e, _⟩; · rw [ha] at e; cases e
                             · exact e
  rw [if_pos hg] at m
  obtain ⟨h3, h4⟩ := h.onlyM o (inn' := updI inn a true) ⟨_, m, fun x => by
    simp only [updG, updI]
    by_cases hx : x = a
    · simp [hx]
    · simp only [if_neg hx]; exact h2 x⟩
  exact ⟨w', r, h3, h4⟩
theorem Tq.del (h : Tq Z w t hb mb n c hp v es inn k ad) (a : Int) (ha : inn a = true) (ty : TypeId) :
    ∃ w', (Builtin.delete_ #[93, 3] ty #[.map (some mb), .int .i64 a]).run Try.prog w = .ok (.tuple #[]) w' ∧ Tq Z w' t hb mb n c hp v es (updI inn a false) (k - 1) ad ∧ FrZ Z w w' := by
  obtain ⟨g, h1, h2⟩ := h.mp
  obtain ⟨w', r, m, o⟩ := h1.del undT undTI ty a
  have hg : g a ≠ none := by rcases h2 a with ⟨e, _⟩ | ⟨_, e⟩; · rw [e]; simp
                             · rw [ha] at e; cases e
  rw [if_neg hg] at m
  obtain ⟨h3, h4⟩ := h.onlyM o (inn' := updI inn a false) ⟨_, m, fun x => by
    simp only [updG, updI]
    by_cases hx : x = a
    · simp [hx]
    · simp only [if_neg hx]; exact h2 x⟩
  exact ⟨w', r, h3, h4⟩
/-- The count. -/
theorem Tq.count (h : Tq Z w t hb mb n c hp v es inn k ad) (ad' : Nat) : Tq Z (w.setCell ⟨t, 2, none⟩ (.int .u64 ad')) t hb mb n c hp v es inn k ad' ∧ FrZ Z w (w.setCell ⟨t, 2, none⟩ (.int .u64 ad')) := by
  obtain ⟨lt, lh, lm⟩ := h.lt
  have b : ∀ x, x ≠ t → (w.setCell ⟨t, 2, none⟩ (.int .u64 ad')).heap[x]? = w.heap[x]? := fun x hx => Below.heap_setCell _ _ _ _ hx
  have hs : (w.setCell ⟨t, 2, none⟩ (.int .u64 ad')).heap.size = w.heap.size := by simp [World.setCell]
  obtain ⟨g, h1, h2⟩ := h.mp
  refine ⟨⟨by simp [World.setCell, Array.getElem?_modify, h.box], ⟨by rw [hs]; exact lh, fun i hi => ?_⟩, h.hc, ⟨g, h1.kept (b mb h.fix.2.1.symm), h2⟩, fun i hi => (h.he i hi).kept (b _ (h.hpx i hi).1) (fun q hq => b q (h.own i hi q hq).1.1), h.ord, h.fix, h.hpx, h.hpi, h.own, h.zf⟩,
    ⟨rfl, rfl, rfl, by rw [hs]; exact Nat.le_refl _, fun x hx hz => b x (fun e => h.zf.1.1 (e ▸ hz))⟩⟩
  have := h.row.2 i hi
  simpa [World.cell?, b hb h.fix.1.symm] using this
end Go.Proofs.Ytaogpodncphpjaa
/-! What timer.Timers' methods that only read answer. -/
namespace Go.Proofs.Ytaogpodncphpjaa
set_option linter.unusedVariables false
set_option linter.unusedSimpArgs false
open Go.RowKit
variable {Z : Nat → Prop} {w w' : World} {t hb mb n c : Nat} {hp : Nat → Nat} {v : Nat → Value} {es : Nat → List En} {inn : Int → Bool} {k ad : Nat}

set_option maxHeartbeats 4000000 in
theorem tlen (h : Tq Z w t hb mb n c hp v es inn k ad) : Calls Try.prog 35 #[.pointer (some ⟨t, 0, none⟩)] w fun e w' => e = .returned (.int .i64 k) ∧ w' = w := by
  have c1 : w.cell? ⟨t, 1, none⟩ = some (.map (some mb)) := cell_ent h.box rfl
  have L := h.len
  clear h
  go_enter Try.func35, Try.ntmps35
  go_wp2
  go_ret
  exact ⟨rfl, rfl⟩
set_option maxHeartbeats 4000000 in
theorem thas (h : Tq Z w t hb mb n c hp v es inn k ad) (a : Int) : Calls Try.prog 36 #[.pointer (some ⟨t, 0, none⟩), .int .i64 a] w fun e w' => e = .returned (.bool (inn a)) ∧ w' = w := by
  have c1 : w.cell? ⟨t, 1, none⟩ = some (.map (some mb)) := cell_ent h.box rfl
  have L := h.look a
  clear h
  go_enter Try.func36, Try.ntmps36
  go_wp2
  go_ret
  exact ⟨rfl, rfl⟩
/-- While the first one is looked for. -/
structure Fi (w : World) (L0 L1 : Nat) (x1 x2 x3 : Int) (wr : World) : Prop where
  bl : Below w.heap.size w wr
  r0 : wr.heap[L0]? = some (.cells #[.int .i64 0, .int .u64 0, .int .i64 0] 88 (0, 0))
  r1 : wr.heap[L1]? = some (.cells #[.int .i64 x1, .int .u64 x2, .int .i64 x3] 88 (0, 0))
  ge : w.heap.size ≤ L0 ∧ w.heap.size ≤ L1 ∧ L0 ≠ L1
theorem Fi.below {L0 L1 : Nat} {x1 x2 x3 : Int} {wr : World} (h : Fi w L0 L1 x1 x2 x3 wr) (hb' : Below wr.heap.size wr w') : Fi w L0 L1 x1 x2 x3 w' :=
  ⟨h.bl.trans (hb'.mono h.bl.size), (hb'.block _ (by obtain ⟨hl, _⟩ := Array.getElem?_eq_some_iff.1 h.r0; exact hl)).trans h.r0, (hb'.block _ (by obtain ⟨hl, _⟩ := Array.getElem?_eq_some_iff.1 h.r1; exact hl)).trans h.r1, h.ge⟩
theorem Fi.set {L0 L1 : Nat} {x1 x2 x3 : Int} {wr : World} (h : Fi w L0 L1 x1 x2 x3 wr) (y1 y2 y3 : Int) : Fi w L0 L1 y1 y2 y3 (((wr.setCell ⟨L1, 0, none⟩ (.int .i64 y1)).setCell ⟨L1, 1, none⟩ (.int .u64 y2)).setCell ⟨L1, 2, none⟩ (.int .i64 y3)) := by
  obtain ⟨o, b⟩ := (set3 h.r1 (.int .i64 y1) (.int .u64 y2) (.int .i64 y3)).out
  obtain ⟨g0, g1, g2⟩ := h.ge
  exact ⟨h.bl.trans (o.below g1 g1 h.bl.size), (o.block L0 (by obtain ⟨hl, _⟩ := Array.getElem?_eq_some_iff.1 h.r0; exact hl) g2 g2).trans h.r0, b, h.ge⟩
def Fsp (n : Nat) (es : Nat → List En) (m : Nat) (x1 x2 x3 : Int) : Prop := m < n ∧ 0 < (es m).length ∧ enAt (es m) 0 = (x1, x2, x3) ∧ ∀ j, j < n → 0 < (es j).length → leE (x1, x2, x3) (enAt (es j) 0)
theorem fsp_empty {q : Nat} {es : Nat → List En} (h : ∀ j, j < q → es j = []) (hn : es q = []) : ∀ j, j < q + 1 → es j = [] := fun j hj => by
  rcases Nat.lt_or_ge j q with h1 | h1
  · exact h j h1
  · rw [show j = q by omega]; exact hn
theorem Fsp.skip {q m : Nat} {es : Nat → List En} {x1 x2 x3 : Int} (h : Fsp q es m x1 x2 x3) (hn : es q = []) : Fsp (q + 1) es m x1 x2 x3 :=
  ⟨by have := h.1; omega, h.2.1, h.2.2.1, fun j hj hl => by
    rcases Nat.lt_or_ge j q with h1 | h1
    · exact h.2.2.2 j h1 hl
    · rw [show j = q by omega, hn] at hl; simp at hl⟩
theorem fsp_first {q : Nat} {es : Nat → List En} {y1 y2 y3 : Int} (h : ∀ j, j < q → es j = []) (hp : 0 < (es q).length) (hy : enAt (es q) 0 = (y1, y2, y3)) : Fsp (q + 1) es q y1 y2 y3 :=
  ⟨by omega, hp, hy, fun j hj hl => by
    rcases Nat.lt_or_ge j q with h1 | h1
    · rw [h j h1] at hl; simp at hl
    · rw [show j = q by omega, hy]; exact leE_refl _⟩
theorem Fsp.stay {q m : Nat} {es : Nat → List En} {x1 x2 x3 y1 y2 y3 : Int} (h : Fsp q es m x1 x2 x3) (hy : enAt (es q) 0 = (y1, y2, y3)) (hr : aheadE (y1, y2, y3) (x1, x2, x3) = false) : Fsp (q + 1) es m x1 x2 x3 :=
  ⟨by have := h.1; omega, h.2.1, h.2.2.1, fun j hj hl => by
    rcases Nat.lt_or_ge j q with h1 | h1
    · exact h.2.2.2 j h1 hl
    · rw [show j = q by omega, hy]; exact hr⟩
theorem Fsp.next {q m : Nat} {es : Nat → List En} {x1 x2 x3 y1 y2 y3 : Int} (h : Fsp q es m x1 x2 x3) (hp : 0 < (es q).length) (hy : enAt (es q) 0 = (y1, y2, y3)) (hr : aheadE (y1, y2, y3) (x1, x2, x3) = true) : Fsp (q + 1) es q y1 y2 y3 :=
  ⟨by omega, hp, hy, fun j hj hl => by
    rcases Nat.lt_or_ge j q with h1 | h1
    · exact leE_trans (leE_of hr) (h.2.2.2 j h1 hl)
    · rw [show j = q by omega, hy]; exact leE_refl _⟩
def FirPost (n : Nat) (hp : Nat → Nat) (es : Nat → List En) (w : World) (e : Ending) (w' : World) : Prop :=
  (e = .returned (.tuple #[.pointer none, .agg #[.int .i64 0, .int .u64 0, .int .i64 0], .bool false]) ∧ (∀ j, j < n → es j = []) ∧ Below w.heap.size w w') ∨
  ∃ m x1 x2 x3, Fsp n es m x1 x2 x3 ∧ e = .returned (.tuple #[.pointer (some ⟨hp m, 0, none⟩), .agg #[.int .i64 x1, .int .u64 x2, .int .i64 x3], .bool true]) ∧ Below w.heap.size w w'
theorem res3q (w6 : World) (s : Nat) {y1 y2 y3 : Value} {t : TypeId} (h : w6.heap[s]? = some (.cells #[y1, y2, y3] t (0, 0))) (x1 x2 x3 : Int) :
    (w6.setCell ⟨s, 0, none⟩ (.int .i64 x1)).cell? ⟨s, 0, none⟩ = some (.int .i64 x1) ∧
    ((w6.setCell ⟨s, 0, none⟩ (.int .i64 x1)).setCell ⟨s, 1, none⟩ (.int .u64 x2)).cell? ⟨s, 1, none⟩ = some (.int .u64 x2) ∧
    (((w6.setCell ⟨s, 0, none⟩ (.int .i64 x1)).setCell ⟨s, 1, none⟩ (.int .u64 x2)).setCell ⟨s, 2, none⟩ (.int .i64 x3)).cell? ⟨s, 2, none⟩ = some (.int .i64 x3) := by
  simp [World.cell?, World.setCell, Array.getElem?_modify, h]
set_option maxRecDepth 100000 in
set_option maxHeartbeats 16000000 in
theorem tfirst (h : Tq Z w t hb mb n c hp v es inn k ad) : Calls Try.prog 57 #[.pointer (some ⟨t, 0, none⟩)] w (FirPost n hp es w) := by
  have TQ := hid h
  have S0 : Hid (Fi w w.heap.size (w.heap.size + 1) 0 0 0 ((w.alloc (.cells #[.int .i64 0, .int .u64 0, .int .i64 0] 88)).alloc (.cells #[.int .i64 0, .int .u64 0, .int .i64 0] 88))) := by
    have hN := Deep.blk_alloc_new (w.alloc (.cells #[.int .i64 0, .int .u64 0, .int .i64 0] 88)) (.cells #[.int .i64 0, .int .u64 0, .int .i64 0] 88)
    rw [World.size_alloc] at hN
    exact ⟨(bl_al w _).trans ((bl_al _ _).mono (by simp)), (Below.heap_alloc _ _ _ (by simp)).trans (Deep.blk_alloc_new _ _), hN, by omega, by omega, by omega⟩
  have c0 : ((w.alloc (.cells #[.int .i64 0, .int .u64 0, .int .i64 0] 88)).alloc (.cells #[.int .i64 0, .int .u64 0, .int .i64 0] 88)).cell? ⟨t, 0, none⟩ = some (.slice (some ⟨hb, 0, none⟩) n c) := cell_ent (h.below S0.out.bl).box rfl
  have hcc := h.hc
  unfold maxLen at hcc
  clear h
  go_enter Try.func57, Try.ntmps57
  go_wp2_with fail
  clear c0
  obtain ⟨L0, hL0⟩ : ∃ x, x = w.heap.size := ⟨_, rfl⟩
  obtain ⟨L1, hL1⟩ : ∃ x, x = w.heap.size + 1 := ⟨_, rfl⟩
  have HL := hid (And.intro hL0 hL1)
  rw [← hL1, ← hL0] at S0
  rw [← hL1, ← hL0]
  clear hL0 hL1
  go_loopw [5, 16] (fun fv i wr => ∃ (q : Nat), q ≤ n ∧ i = .int .i64 q ∧ ((fv = .pointer none ∧ Hid (∀ j, j < q → es j = []) ∧ Hid (Fi w L0 L1 0 0 0 wr)) ∨
      ∃ (a m : Nat) (x1 x2 x3 : Int), fv = .pointer (some ⟨a, 0, none⟩) ∧ Hid (a = hp m) ∧ Hid (Fsp q es m x1 x2 x3) ∧ Hid (Fi w L0 L1 x1 x2 x3 wr)))
    (fun _ i _ => n - (intOf i).toNat)
  case atStart => exact ⟨0, by omega, rfl, .inl ⟨rfl, hid (fun j hj => by omega), S0⟩⟩
  case round =>
    clear S0
    obtain ⟨q, hq, rfl, hst⟩ := hrel
    by_cases hlt : q < n
    · rcases hst with ⟨rfl, HE, F⟩ | ⟨a, m, x1, x2, x3, rfl, HA, HS, F⟩
      · have TW := hid (TQ.out.below F.out.bl)
        have r0 := TW.out.row.2 q hlt
        have HH := hid (TW.out.he q hlt)
        obtain ⟨a2, ha2⟩ : ∃ a, a = hp q := ⟨_, rfl⟩
        have HA2 := hid ha2
        rw [← ha2] at r0 HH
        clear ha2
        rcases List.eq_nil_or_concat (es q) with hnil | ⟨_, _, hcon⟩
        · have FN := hid (first_none wr 0 a2 (v q) (by have := HH.out; rwa [hnil] at this))
          have HN := hid hnil
          clear hnil
          go_wp2_with fail
          refine (FN.out).mono ?_
          rintro e w5 ⟨rfl, h5⟩
          have F5 := hid ((F.out.below h5).below (bl_al _ (.cells #[.int .i64 0, .int .u64 0, .int .i64 0] 88)))
          clear h5 FN F TW HH r0
          go_wp2
          go_roundw
          case rel => exact ⟨q + 1, by omega, by go_num, .inl ⟨rfl, hid (fsp_empty HE.out HN.out), F5⟩⟩
          case measure => simp [intOf]; omega
        · have hpos : 0 < (es q).length := by rw [hcon]; simp
          have HP := hid hpos
          obtain ⟨g, c2, hv2, hs⟩ := HH.out.hs hpos
          obtain ⟨y1, y2, y3, hy⟩ : ∃ y1 y2 y3, enAt (es q) 0 = (y1, y2, y3) := ⟨_, _, _, rfl⟩
          have HY := hid hy
          have FS := hid (first_some wr 0 a2 g (es q).length c2 (es q) hs hpos y1 y2 y3 hy)
          clear hv2 hs hy hpos hcon HH
          go_wp2_with fail
          refine (FS.out).mono ?_
          rintro e w5 ⟨rfl, h5⟩
          have F5 := hid ((F.out.below h5).below (bl_al _ (.cells #[.int .i64 y1, .int .u64 y2, .int .i64 y3] 88)))
          have XB := hid (Deep.blk_alloc_new w5 (.cells #[.int .i64 y1, .int .u64 y2, .int .i64 y3] 88))
          clear h5 FS F TW r0
          have F6 := F5
          have X6 := XB

          have b1 := F6.out.r1
          have l0 : (w5.alloc (.cells #[.int .i64 y1, .int .u64 y2, .int .i64 y3] 88)).drew.cell? ⟨L1, 0, none⟩ = some (.int .i64 0) := cell_ent b1 rfl
          have l0' : (w5.alloc (.cells #[.int .i64 y1, .int .u64 y2, .int .i64 y3] 88)).cell? ⟨L1, 0, none⟩ = some (.int .i64 0) := cell_ent b1 rfl
          have l1 : (w5.alloc (.cells #[.int .i64 y1, .int .u64 y2, .int .i64 y3] 88)).drew.cell? ⟨L1, 1, none⟩ = some (.int .u64 0) := cell_ent b1 rfl
          have l1' : (w5.alloc (.cells #[.int .i64 y1, .int .u64 y2, .int .i64 y3] 88)).cell? ⟨L1, 1, none⟩ = some (.int .u64 0) := cell_ent b1 rfl
          have l2 : (w5.alloc (.cells #[.int .i64 y1, .int .u64 y2, .int .i64 y3] 88)).drew.cell? ⟨L1, 2, none⟩ = some (.int .i64 0) := cell_ent b1 rfl
          have l2' : (w5.alloc (.cells #[.int .i64 y1, .int .u64 y2, .int .i64 y3] 88)).cell? ⟨L1, 2, none⟩ = some (.int .i64 0) := cell_ent b1 rfl
          have f0 : (w5.alloc (.cells #[.int .i64 y1, .int .u64 y2, .int .i64 y3] 88)).drew.frozen? ⟨L1, 0, none⟩ = false := by have h : (w5.alloc (.cells #[.int .i64 y1, .int .u64 y2, .int .i64 y3] 88)).drew.heap[L1]? = _ := b1; simp only [World.frozen?, h]; rfl
          have f0' : (w5.alloc (.cells #[.int .i64 y1, .int .u64 y2, .int .i64 y3] 88)).frozen? ⟨L1, 0, none⟩ = false := by have h : (w5.alloc (.cells #[.int .i64 y1, .int .u64 y2, .int .i64 y3] 88)).heap[L1]? = _ := b1; simp only [World.frozen?, h]; rfl
          have f1 : (w5.alloc (.cells #[.int .i64 y1, .int .u64 y2, .int .i64 y3] 88)).drew.frozen? ⟨L1, 1, none⟩ = false := by have h : (w5.alloc (.cells #[.int .i64 y1, .int .u64 y2, .int .i64 y3] 88)).drew.heap[L1]? = _ := b1; simp only [World.frozen?, h]; rfl
          have f1' : (w5.alloc (.cells #[.int .i64 y1, .int .u64 y2, .int .i64 y3] 88)).frozen? ⟨L1, 1, none⟩ = false := by have h : (w5.alloc (.cells #[.int .i64 y1, .int .u64 y2, .int .i64 y3] 88)).heap[L1]? = _ := b1; simp only [World.frozen?, h]; rfl
          have f2 : (w5.alloc (.cells #[.int .i64 y1, .int .u64 y2, .int .i64 y3] 88)).drew.frozen? ⟨L1, 2, none⟩ = false := by have h : (w5.alloc (.cells #[.int .i64 y1, .int .u64 y2, .int .i64 y3] 88)).drew.heap[L1]? = _ := b1; simp only [World.frozen?, h]; rfl
          have f2' : (w5.alloc (.cells #[.int .i64 y1, .int .u64 y2, .int .i64 y3] 88)).frozen? ⟨L1, 2, none⟩ = false := by have h : (w5.alloc (.cells #[.int .i64 y1, .int .u64 y2, .int .i64 y3] 88)).heap[L1]? = _ := b1; simp only [World.frozen?, h]; rfl
          have e0 : (w5.alloc (.cells #[.int .i64 y1, .int .u64 y2, .int .i64 y3] 88)).drew.cell? ⟨w5.heap.size, 0, none⟩ = some (.int .i64 y1) := cell_ent X6.out rfl
          have e1 : (w5.alloc (.cells #[.int .i64 y1, .int .u64 y2, .int .i64 y3] 88)).drew.cell? ⟨w5.heap.size, 1, none⟩ = some (.int .u64 y2) := cell_ent X6.out rfl
          have e2 : (w5.alloc (.cells #[.int .i64 y1, .int .u64 y2, .int .i64 y3] 88)).drew.cell? ⟨w5.heap.size, 2, none⟩ = some (.int .i64 y3) := cell_ent X6.out rfl
          have F7 := hid ((F6.out.below (bl_drw _ _)).set y1 y2 y3)
          clear b1
          go_wp2_with fail
          go_region
          all_goals
            clear l0 l1 l2 f0 f1 f2 e0 e1 e2 l0' l1' l2' f0' f1' f2'
            go_wp2
            go_roundw
            case rel => exact ⟨q + 1, by omega, by go_num, .inr ⟨a2, q, y1, y2, y3, rfl, HA2, hid (fsp_first HE.out HP.out HY.out), F7⟩⟩
            case measure => simp [intOf]; omega
      · have TW := hid (TQ.out.below F.out.bl)
        have r0 := TW.out.row.2 q hlt
        have HH := hid (TW.out.he q hlt)
        obtain ⟨a2, ha2⟩ : ∃ a, a = hp q := ⟨_, rfl⟩
        have HA2 := hid ha2
        rw [← ha2] at r0 HH
        clear ha2
        rcases List.eq_nil_or_concat (es q) with hnil | ⟨_, _, hcon⟩
        · have FN := hid (first_none wr 0 a2 (v q) (by have := HH.out; rwa [hnil] at this))
          have HN := hid hnil
          clear hnil
          go_wp2_with fail
          refine (FN.out).mono ?_
          rintro e w5 ⟨rfl, h5⟩
          have F5 := hid ((F.out.below h5).below (bl_al _ (.cells #[.int .i64 0, .int .u64 0, .int .i64 0] 88)))
          clear h5 FN F TW HH r0
          go_wp2
          go_roundw
          case rel => exact ⟨q + 1, by omega, by go_num, .inr ⟨a, m, x1, x2, x3, rfl, HA, hid (HS.out.skip HN.out), F5⟩⟩
          case measure => simp [intOf]; omega
        · have hpos : 0 < (es q).length := by rw [hcon]; simp
          have HP := hid hpos
          obtain ⟨g, c2, hv2, hs⟩ := HH.out.hs hpos
          obtain ⟨y1, y2, y3, hy⟩ : ∃ y1 y2 y3, enAt (es q) 0 = (y1, y2, y3) := ⟨_, _, _, rfl⟩
          have HY := hid hy
          have FS := hid (first_some wr 0 a2 g (es q).length c2 (es q) hs hpos y1 y2 y3 hy)
          clear hv2 hs hy hpos hcon HH
          go_wp2_with fail
          refine (FS.out).mono ?_
          rintro e w5 ⟨rfl, h5⟩
          have F5 := hid ((F.out.below h5).below (bl_al _ (.cells #[.int .i64 y1, .int .u64 y2, .int .i64 y3] 88)))
          have XB := hid (Deep.blk_alloc_new w5 (.cells #[.int .i64 y1, .int .u64 y2, .int .i64 y3] 88))
          clear h5 FS F TW r0
          obtain ⟨r, hr⟩ : ∃ r, aheadE (y1, y2, y3) (x1, x2, x3) = r := ⟨_, rfl⟩
          have HR := hid hr
          have AH := hid (fun w => ahead_r y1 y2 y3 x1 x2 x3 r hr w)
          have p0 : (w5.alloc (.cells #[.int .i64 y1, .int .u64 y2, .int .i64 y3] 88)).cell? ⟨L1, 0, none⟩ = some (.int .i64 x1) := cell_ent F5.out.r1 rfl
          have p1 : (w5.alloc (.cells #[.int .i64 y1, .int .u64 y2, .int .i64 y3] 88)).cell? ⟨L1, 1, none⟩ = some (.int .u64 x2) := cell_ent F5.out.r1 rfl
          have p2 : (w5.alloc (.cells #[.int .i64 y1, .int .u64 y2, .int .i64 y3] 88)).cell? ⟨L1, 2, none⟩ = some (.int .i64 x3) := cell_ent F5.out.r1 rfl
          clear hr
          go_wp2_with fail
          refine (AH.out _).mono ?_
          rintro e w6 ⟨rfl, h6⟩
          have F6 := hid (F5.out.below h6)
          have X6 := hid ((h6.block w5.heap.size (by simp)).trans XB.out)
          clear h6 AH p0 p1 p2 F5 XB
          cases r
          · have FS2 := hid (HS.out.stay HY.out HR.out)
            go_wp2
            go_roundw
            case rel => exact ⟨q + 1, by omega, by go_num, .inr ⟨a, m, x1, x2, x3, rfl, HA, FS2, F6⟩⟩
            case measure => simp [intOf]; omega
          · have FS2 := hid (HS.out.next HP.out HY.out HR.out)
            have b1 := F6.out.r1
            have l0 : w6.drew.cell? ⟨L1, 0, none⟩ = some (.int .i64 x1) := cell_ent b1 rfl
            have l0' : w6.cell? ⟨L1, 0, none⟩ = some (.int .i64 x1) := cell_ent b1 rfl
            have l1 : w6.drew.cell? ⟨L1, 1, none⟩ = some (.int .u64 x2) := cell_ent b1 rfl
            have l1' : w6.cell? ⟨L1, 1, none⟩ = some (.int .u64 x2) := cell_ent b1 rfl
            have l2 : w6.drew.cell? ⟨L1, 2, none⟩ = some (.int .i64 x3) := cell_ent b1 rfl
            have l2' : w6.cell? ⟨L1, 2, none⟩ = some (.int .i64 x3) := cell_ent b1 rfl
            have f0 : w6.drew.frozen? ⟨L1, 0, none⟩ = false := by have h : w6.drew.heap[L1]? = _ := b1; simp only [World.frozen?, h]; rfl
            have f0' : w6.frozen? ⟨L1, 0, none⟩ = false := by have h : w6.heap[L1]? = _ := b1; simp only [World.frozen?, h]; rfl
            have f1 : w6.drew.frozen? ⟨L1, 1, none⟩ = false := by have h : w6.drew.heap[L1]? = _ := b1; simp only [World.frozen?, h]; rfl
            have f1' : w6.frozen? ⟨L1, 1, none⟩ = false := by have h : w6.heap[L1]? = _ := b1; simp only [World.frozen?, h]; rfl
            have f2 : w6.drew.frozen? ⟨L1, 2, none⟩ = false := by have h : w6.drew.heap[L1]? = _ := b1; simp only [World.frozen?, h]; rfl
            have f2' : w6.frozen? ⟨L1, 2, none⟩ = false := by have h : w6.heap[L1]? = _ := b1; simp only [World.frozen?, h]; rfl
            have e0 : w6.drew.cell? ⟨w5.heap.size, 0, none⟩ = some (.int .i64 y1) := cell_ent X6.out rfl
            have e1 : w6.drew.cell? ⟨w5.heap.size, 1, none⟩ = some (.int .u64 y2) := cell_ent X6.out rfl
            have e2 : w6.drew.cell? ⟨w5.heap.size, 2, none⟩ = some (.int .i64 y3) := cell_ent X6.out rfl
            have F7 := hid ((F6.out.below (bl_drw _ _)).set y1 y2 y3)
            clear b1
            go_wp2_with fail
            go_region
            all_goals
              clear l0 l1 l2 f0 f1 f2 e0 e1 e2 l0' l1' l2' f0' f1' f2'
              go_wp2
              go_roundw
              case rel => exact ⟨q + 1, by omega, by go_num, .inr ⟨a2, q, y1, y2, y3, rfl, HA2, FS2, F7⟩⟩
              case measure => simp [intOf]; omega
    · obtain rfl : q = n := by omega
      rcases hst with ⟨rfl, HE, F⟩ | ⟨a, m, x1, x2, x3, rfl, HA, HS, F⟩
      · have l0 : wr.drew.cell? ⟨L1, 0, none⟩ = some (.int .i64 0) := cell_ent F.out.r1 rfl
        have l0' : wr.cell? ⟨L1, 0, none⟩ = some (.int .i64 0) := cell_ent F.out.r1 rfl
        have l1 : wr.drew.cell? ⟨L1, 1, none⟩ = some (.int .u64 0) := cell_ent F.out.r1 rfl
        have l1' : wr.cell? ⟨L1, 1, none⟩ = some (.int .u64 0) := cell_ent F.out.r1 rfl
        have l2 : wr.drew.cell? ⟨L1, 2, none⟩ = some (.int .i64 0) := cell_ent F.out.r1 rfl
        have l2' : wr.cell? ⟨L1, 2, none⟩ = some (.int .i64 0) := cell_ent F.out.r1 rfl
        have k0 : wr.drew.cell? ⟨L0, 0, none⟩ = some (.int .i64 0) := cell_ent F.out.r0 rfl
        have k0' : wr.cell? ⟨L0, 0, none⟩ = some (.int .i64 0) := cell_ent F.out.r0 rfl
        have k1 : wr.drew.cell? ⟨L0, 1, none⟩ = some (.int .u64 0) := cell_ent F.out.r0 rfl
        have k1' : wr.cell? ⟨L0, 1, none⟩ = some (.int .u64 0) := cell_ent F.out.r0 rfl
        have k2 : wr.drew.cell? ⟨L0, 2, none⟩ = some (.int .i64 0) := cell_ent F.out.r0 rfl
        have k2' : wr.cell? ⟨L0, 2, none⟩ = some (.int .i64 0) := cell_ent F.out.r0 rfl
        have f0 : wr.drew.frozen? ⟨L0, 0, none⟩ = false := by have h : wr.drew.heap[L0]? = _ := F.out.r0; simp only [World.frozen?, h]; rfl
        have f0' : wr.frozen? ⟨L0, 0, none⟩ = false := by have h : wr.heap[L0]? = _ := F.out.r0; simp only [World.frozen?, h]; rfl
        have f1 : wr.drew.frozen? ⟨L0, 1, none⟩ = false := by have h : wr.drew.heap[L0]? = _ := F.out.r0; simp only [World.frozen?, h]; rfl
        have f1' : wr.frozen? ⟨L0, 1, none⟩ = false := by have h : wr.heap[L0]? = _ := F.out.r0; simp only [World.frozen?, h]; rfl
        have f2 : wr.drew.frozen? ⟨L0, 2, none⟩ = false := by have h : wr.drew.heap[L0]? = _ := F.out.r0; simp only [World.frozen?, h]; rfl
        have f2' : wr.frozen? ⟨L0, 2, none⟩ = false := by have h : wr.heap[L0]? = _ := F.out.r0; simp only [World.frozen?, h]; rfl
        have R3 := hid (res3q wr L0 F.out.r0 0 0 0)
        have HB := hid (show Below w.heap.size w (((wr.drew.setCell ⟨L0, 0, none⟩ (.int .i64 0)).setCell ⟨L0, 1, none⟩ (.int .u64 0)).setCell ⟨L0, 2, none⟩ (.int .i64 0)) from by
          have F9 := F.out.below (bl_drw _ _)
          exact F9.bl.trans ((set3 F9.r0 (.int .i64 0) (.int .u64 0) (.int .i64 0)).out.1.below F.out.ge.1 F.out.ge.1 F9.bl.size))
        go_wp2_with fail
        go_region
        all_goals
          clear l0 l1 l2 k0 k1 k2 f0 f1 f2 l0' l1' l2' k0' k1' k2' f0' f1' f2'
          go_wp2
          obtain ⟨r0, r1, r2⟩ := R3.out
          exact bodyPost_ret (v := .tuple #[.pointer none, .agg #[.int .i64 0, .int .u64 0, .int .i64 0], .bool false]) (by simp [results, Try.results57, go_sem, r0, r1, r2]) rfl (.inl ⟨rfl, HE.out, HB.out⟩)
      · have l0 : wr.drew.cell? ⟨L1, 0, none⟩ = some (.int .i64 x1) := cell_ent F.out.r1 rfl
        have l0' : wr.cell? ⟨L1, 0, none⟩ = some (.int .i64 x1) := cell_ent F.out.r1 rfl
        have l1 : wr.drew.cell? ⟨L1, 1, none⟩ = some (.int .u64 x2) := cell_ent F.out.r1 rfl
        have l1' : wr.cell? ⟨L1, 1, none⟩ = some (.int .u64 x2) := cell_ent F.out.r1 rfl
        have l2 : wr.drew.cell? ⟨L1, 2, none⟩ = some (.int .i64 x3) := cell_ent F.out.r1 rfl
        have l2' : wr.cell? ⟨L1, 2, none⟩ = some (.int .i64 x3) := cell_ent F.out.r1 rfl
        have k0 : wr.drew.cell? ⟨L0, 0, none⟩ = some (.int .i64 0) := cell_ent F.out.r0 rfl
        have k0' : wr.cell? ⟨L0, 0, none⟩ = some (.int .i64 0) := cell_ent F.out.r0 rfl
        have k1 : wr.drew.cell? ⟨L0, 1, none⟩ = some (.int .u64 0) := cell_ent F.out.r0 rfl
        have k1' : wr.cell? ⟨L0, 1, none⟩ = some (.int .u64 0) := cell_ent F.out.r0 rfl
        have k2 : wr.drew.cell? ⟨L0, 2, none⟩ = some (.int .i64 0) := cell_ent F.out.r0 rfl
        have k2' : wr.cell? ⟨L0, 2, none⟩ = some (.int .i64 0) := cell_ent F.out.r0 rfl
        have f0 : wr.drew.frozen? ⟨L0, 0, none⟩ = false := by have h : wr.drew.heap[L0]? = _ := F.out.r0; simp only [World.frozen?, h]; rfl
        have f0' : wr.frozen? ⟨L0, 0, none⟩ = false := by have h : wr.heap[L0]? = _ := F.out.r0; simp only [World.frozen?, h]; rfl
        have f1 : wr.drew.frozen? ⟨L0, 1, none⟩ = false := by have h : wr.drew.heap[L0]? = _ := F.out.r0; simp only [World.frozen?, h]; rfl
        have f1' : wr.frozen? ⟨L0, 1, none⟩ = false := by have h : wr.heap[L0]? = _ := F.out.r0; simp only [World.frozen?, h]; rfl
        have f2 : wr.drew.frozen? ⟨L0, 2, none⟩ = false := by have h : wr.drew.heap[L0]? = _ := F.out.r0; simp only [World.frozen?, h]; rfl
        have f2' : wr.frozen? ⟨L0, 2, none⟩ = false := by have h : wr.heap[L0]? = _ := F.out.r0; simp only [World.frozen?, h]; rfl
        have R3 := hid (res3q wr L0 F.out.r0 x1 x2 x3)
        have HB := hid (show Below w.heap.size w (((wr.drew.setCell ⟨L0, 0, none⟩ (.int .i64 x1)).setCell ⟨L0, 1, none⟩ (.int .u64 x2)).setCell ⟨L0, 2, none⟩ (.int .i64 x3)) from by
          have F9 := F.out.below (bl_drw _ _)
          exact F9.bl.trans ((set3 F9.r0 (.int .i64 x1) (.int .u64 x2) (.int .i64 x3)).out.1.below F.out.ge.1 F.out.ge.1 F9.bl.size))
        go_wp2_with fail
        go_region
        all_goals
          clear l0 l1 l2 k0 k1 k2 f0 f1 f2 l0' l1' l2' k0' k1' k2' f0' f1' f2'
          go_wp2
          obtain ⟨r0, r1, r2⟩ := R3.out
          exact bodyPost_ret (v := .tuple #[.pointer (some ⟨a, 0, none⟩), .agg #[.int .i64 x1, .int .u64 x2, .int .i64 x3], .bool true]) (by simp [results, Try.results57, go_sem, r0, r1, r2]) rfl (.inr ⟨m, x1, x2, x3, HS.out, by rw [← HA.out], HB.out⟩)
end Go.Proofs.Ytaogpodncphpjaa
