/- source.Source: a clock, timers, a poll; what it is, and what its methods that only read answer. -/
import Derived.Test.YtoljicfpphnlcaaClk
import Derived.Test.YtoljicfpphnlcaaTimZ
import Derived.Test.YtoljicfpphnlcaaPollX
import Derived.Deep.RegionWith
namespace Go.Proofs.Ytoljicfpphnlcaa
set_option linter.unusedVariables false
set_option linter.unusedSimpArgs false
open Go.RowKit

/-- What the poll never writes: all but its own four blocks. -/
def Zp (p b1 b2 b3 : Nat) : Nat → Prop := fun q => q ≠ p ∧ q ≠ b1 ∧ q ≠ b2 ∧ q ≠ b3
/-- What the timers never write: what is foreign, the source's block, the poll's. -/
def Zt (Z : Nat → Prop) (s p b1 b2 b3 : Nat) : Nat → Prop := fun q => Z q ∨ q = s ∨ q = p ∨ q = b1 ∨ q = b2 ∨ q = b3
/-- The source at block s: the time, the timers in order (L), who waits (W), what is ready (R). -/
structure Sq (Z : Nat → Prop) (w : World) (s t p b1 b2 b3 n : Nat) (now : Int) (es : Nat → List En) (L : List En) (ad : Nat) (W : List (Int × Int)) (R : List Int) : Prop where
  box : w.heap[s]? = some (.cells #[.int .i64 now, .pointer (some ⟨t, 0, none⟩), .pointer (some ⟨p, 0, none⟩), .int .i64 n, .int .i64 W.length] 78 (0, 0))
  te : Te (Zt Z s p b1 b2 b3) w t n es L ad
  pq : Pq (Zp p b1 b2 b3) w p b1 b2 b3 W R
  now : inI now
  whn : ∀ e ∈ L, inI e.1
  dis : ∀ g, hasG L g = true → waitsG W g = false
  zf : ¬ Z s ∧ ¬ Z p ∧ ¬ Z b1 ∧ ¬ Z b2 ∧ ¬ Z b3
  ne : s ≠ p ∧ s ≠ b1 ∧ s ≠ b2 ∧ s ≠ b3
  hz : ∀ q, Z q → q < w.heap.size
section
variable {Z : Nat → Prop} {w w' : World} {s t p b1 b2 b3 n : Nat} {now : Int} {es : Nat → List En} {L : List En} {ad : Nat} {W : List (Int × Int)} {R : List Int}
theorem Sq.below (h : Sq Z w s t p b1 b2 b3 n now es L ad W R) (hb : Below w.heap.size w w') : Sq Z w' s t p b1 b2 b3 n now es L ad W R :=
  ⟨(hb.block _ (Array.getElem?_eq_some_iff.1 h.box).1).trans h.box, h.te.below hb, h.pq.below hb, h.now, h.whn, h.dis, h.zf, h.ne, fun q hq => Nat.lt_of_lt_of_le (h.hz q hq) hb.size⟩
theorem Sq.lt (h : Sq Z w s t p b1 b2 b3 n now es L ad W R) : s < w.heap.size := (Array.getElem?_eq_some_iff.1 h.box).1
theorem Sq.hzt (h : Sq Z w s t p b1 b2 b3 n now es L ad W R) : ∀ q, Zt Z s p b1 b2 b3 q → q < w.heap.size := fun q hq => by
  obtain ⟨l1, l2, l3, l4⟩ := h.pq.lt
  have l0 := h.lt
  rcases hq with hq | hq | hq | hq | hq | hq
  · exact h.hz q hq
  all_goals omega
/-- Is something due? -/
def dueS (now : Int) (L : List En) (W : List (Int × Int)) (R : List Int) : Bool := dueL L now || anyDue W R
set_option maxHeartbeats 4000000 in
theorem snow (h : Sq Z w s t p b1 b2 b3 n now es L ad W R) : Calls Try.prog 16 #[.pointer (some ⟨s, 0, none⟩)] w fun e w' => e = .returned (.int .i64 now) ∧ w' = w := by
  have A := hid (cnow s now w (cellx h.box rfl))
  clear h
  go_enter Try.func16, Try.ntmps16
  go_wp2_with fail
  refine (A.out).mono ?_
  rintro e w' ⟨rfl, rfl⟩
  go_wp2
  go_ret
  exact ⟨rfl, rfl⟩
set_option maxHeartbeats 4000000 in
theorem sout (h : Sq Z w s t p b1 b2 b3 n now es L ad W R) (g : Int) (r : Bool) (hr : (hasG L g || waitsG W g) = r) : Calls Try.prog 22 #[.pointer (some ⟨s, 0, none⟩), .int .i64 g] w fun e w' => e = .returned (.bool r) ∧ w' = w := by
  have c1 : w.cell? ⟨s, 1, none⟩ = some (.pointer (some ⟨t, 0, none⟩)) := cellx h.box rfl
  have c2 : w.cell? ⟨s, 2, none⟩ = some (.pointer (some ⟨p, 0, none⟩)) := cellx h.box rfl
  rcases hg : hasG L g with _ | _
  · have A := hid (te_has h.te g false hg)
    have B := phas h.pq g
    rw [hg, Bool.false_or] at hr
    rw [hr] at B
    have HB := hid B
    clear h hr B hg
    go_enter Try.func22, Try.ntmps22
    go_wp2_with fail
    refine (A.out).mono ?_
    rintro e w' ⟨rfl, rfl⟩
    go_wp2_with fail
    refine (HB.out).mono ?_
    rintro e w' ⟨rfl, rfl⟩
    go_wp2
    go_ret
    exact ⟨rfl, rfl⟩
  · have A := hid (te_has h.te g true hg)
    obtain rfl : r = true := by rw [← hr, hg]; rfl
    clear h hr hg
    go_enter Try.func22, Try.ntmps22
    go_wp2_with fail
    refine (A.out).mono ?_
    rintro e w' ⟨rfl, rfl⟩
    go_wp2
    go_ret
    exact ⟨rfl, rfl⟩
set_option maxHeartbeats 4000000 in
theorem slen (h : Sq Z w s t p b1 b2 b3 n now es L ad W R) (hl : L.length < 1000000 ∧ W.length < 1000000) (m : Nat) (hm : L.length + W.length = m) : Calls Try.prog 15 #[.pointer (some ⟨s, 0, none⟩)] w fun e w' => e = .returned (.int .i64 m) ∧ Below w.heap.size w w' := by
  have c1 : w.cell? ⟨s, 1, none⟩ = some (.pointer (some ⟨t, 0, none⟩)) := cellx h.box rfl
  have c4 : w.cell? ⟨s, 4, none⟩ = some (.int .i64 W.length) := cellx h.box rfl
  obtain ⟨a, ha⟩ : ∃ a, a = L.length := ⟨_, rfl⟩
  obtain ⟨b, hb⟩ : ∃ b, b = W.length := ⟨_, rfl⟩
  have A : Hid (∀ n, Calls Try.prog 36 #[.pointer (some ⟨t, 0, none⟩)] (w.drewN n) fun e w' => e = .returned (.int .i64 a) ∧ w.drewN n = w') := hid fun n => by
    rw [ha]
    exact (te_len (h.te.below (bl_dN w n))).mono fun e w' ⟨h1, h2⟩ => ⟨h1, h2.symm⟩
  rw [← hb] at c4 hl hm
  rw [← ha] at hl hm
  have W1 : IntKind.i64.wrap ((a : Int) + b) = (m : Int) := by
    have hb : IntKind.i64.bits = 64 := rfl
    have hs : IntKind.i64.signed = true := rfl
    simp [IntKind.wrap, hb, hs]
    split <;> omega
  clear h ha hb
  go_enter Try.func15, Try.ntmps15
  go_wp2_with fail
  go_quiet ((go_at_call 36; exact quiet_call0 (A.out _)))
  go_wp2
  go_ret
  exact ⟨rfl, bl_dN _ _⟩
end
end Go.Proofs.Ytoljicfpphnlcaa
