/- Scripts: bytes as they are read, steps as they come; script.next, the document's at. -/
import Derived.Test.YtpgamdnkdoebgaaGreatDoorPre1
import Derived.Lib.SlBytesRow
import Derived.BigQuiet
import Derived.WalkLawsBesides
import Derived.WalkSpells
import Derived.OwnWalk
namespace Go.Proofs.YtpgamdnkdoebgaaGreatDoor
open Go.RowKit
set_option linter.unusedVariables false
set_option linter.unusedSimpArgs false
set_option maxRecDepth 20000
/-- A byte, or 0. -/
def atB (s : ByteArray) (i : Nat) : Int := if h : i < s.size then (s[i].toNat : Int) else 0
theorem atB_in {s : ByteArray} {i : Nat} (h : i < s.size) : atB s i = (s[i].toNat : Int) := by unfold atB; rw [dif_pos h]
theorem atB_out {s : ByteArray} {i : Nat} (h : ¬ i < s.size) : atB s i = 0 := by unfold atB; rw [dif_neg h]
theorem atB_rng (s : ByteArray) (i : Nat) : 0 ≤ atB s i ∧ atB s i ≤ 255 := by
  unfold atB
  split
  · have := s[i].toNat_lt; omega
  · omega
/-- A step: its kind, act, machine, other one, time. -/
abbrev Sp := Int × Int × Int × Int × Int
/-- What stands at a place: the step, how often, the next place. -/
def stepS (s : ByteArray) (m g : Int) (i : Nat) : Sp × Int × Nat :=
  let k := atB s i
  if k % 16 = 10 ∨ k % 16 = 11 then ((0, atB s (i + 1) % 8, k / 16 % m, (if atB s (i + 1) % 8 = 7 then atB s (i + 2) else atB s (i + 2) % g), 0), 1, i + 3)
  else if k % 16 = 12 then ((0, 6, k / 16 % m, 0, atB s (i + 1) - 4), 1, i + 2)
  else if k % 16 = 13 then ((1, 0, 0, 0, atB s (i + 1)), 1, i + 2)
  else if k % 16 = 14 then ((2, 0, k / 16, 0, 0), 1, i + 1)
  else if k % 16 = 15 then ((0, 0, k / 16 % m, 0, 0), atB s (i + 1) % 64, i + 2)
  else ((0, 0, k / 16 % m, 0, 0), 1, i + 1)
theorem stepS_next (s : ByteArray) (m g : Int) (i : Nat) : i + 1 ≤ (stepS s m g i).2.2 ∧ (stepS s m g i).2.2 ≤ i + 3 := by
  unfold stepS
  simp only
  split
  · simp
  · split
    · simp
    · split
      · simp
      · split
        · simp
        · split <;> simp
theorem stepS_times (s : ByteArray) (m g : Int) (i : Nat) : 0 ≤ (stepS s m g i).2.1 ∧ (stepS s m g i).2.1 ≤ 63 := by
  have h := atB_rng s (i + 1)
  unfold stepS
  simp only
  split
  · simp
  · split
    · simp
    · split
      · simp
      · split
        · simp
        · split
          · simp only; omega
          · simp
/-- A script's rounds: the place, the steps so far. -/
def goS (s : ByteArray) (m g : Int) : Nat → Nat × List Sp
  | 0 => (3, [])
  | n + 1 => let (i, l) := goS s m g n
    ((stepS s m g i).2.2, l ++ List.replicate (min (stepS s m g i).2.1.toNat (2000 - l.length)) (stepS s m g i).1)
/-- It goes on. -/
def onS (s : ByteArray) (x : Nat × List Sp) : Prop := x.1 < s.size ∧ x.2.length < 2000
/-- So many rounds, and no more. -/
def EndS (s : ByteArray) (m g : Int) (n : Nat) : Prop := (∀ j, j < n → onS s (goS s m g j)) ∧ ¬ onS s (goS s m g n)
theorem EndS.unique {s : ByteArray} {m g : Int} {a b : Nat} (h1 : EndS s m g a) (h2 : EndS s m g b) : a = b := by
  rcases Nat.lt_trichotomy a b with h | h | h
  · exact absurd (h2.1 a h) h1.2
  · exact h
  · exact absurd (h1.1 b h) h2.2
theorem goS_len (s : ByteArray) (m g : Int) : ∀ n, (goS s m g n).2.length ≤ 2000
  | 0 => by simp [goS]
  | n + 1 => by
    have ih := goS_len s m g n
    unfold goS
    simp only [List.length_append, List.length_replicate]
    omega
/-- What is left of the bytes, in the script's box. -/
def Lf (w : World) (p g off : Nat) (s : ByteArray) (i : Nat) : Prop :=
  ∃ a c, w.heap[p]? = some (.cells #[.slice a (s.size - i) c] 61 (0, 0)) ∧ s.size - i ≤ c ∧ c ≤ maxLen ∧ (i < s.size → a = some ⟨g, off + i, none⟩ ∧ g ≠ p ∧ g < w.heap.size ∧ Lib.Bytes w g off s)
theorem Lf.lt {w : World} {p g off i : Nat} {s : ByteArray} (h : Lf w p g off s i) : p < w.heap.size := by obtain ⟨a, c, h, _⟩ := h; exact (Array.getElem?_eq_some_iff.1 h).1
theorem Lf.below {w w' : World} {p g off i : Nat} {s : ByteArray} (h : Lf w p g off s i) (hb : Below w.heap.size w w') : Lf w' p g off s i := by
  have hl := h.lt
  obtain ⟨a, c, h1, h2, h3, h4⟩ := h
  refine ⟨a, c, (hb.block p hl).trans h1, h2, h3, fun hi => ?_⟩
  obtain ⟨e, ne, hg, hc⟩ := h4 hi
  have := hb.size
  exact ⟨e, ne, by omega, fun j hj => (hb.cell (p := ⟨g, off + j, none⟩) hg).trans (hc j hj)⟩
/-- Only one block of those that were there was written. -/
structure O1 (p : Nat) (w w' : World) : Prop where
  os : w'.os = w.os
  tape : w'.tape = w.tape
  output : w'.output = w.output
  size : w.heap.size ≤ w'.heap.size
  block : ∀ k, k < w.heap.size → k ≠ p → w'.heap[k]? = w.heap[k]?
theorem O1.refl (p : Nat) (w : World) : O1 p w w := ⟨rfl, rfl, rfl, Nat.le_refl _, fun _ _ _ => rfl⟩
theorem O1.trans {p : Nat} {w1 w2 w3 : World} (h1 : O1 p w1 w2) (h2 : O1 p w2 w3) : O1 p w1 w3 :=
  ⟨h2.os.trans h1.os, h2.tape.trans h1.tape, h2.output.trans h1.output, Nat.le_trans h1.size h2.size, fun k hk hn => (h2.block k (Nat.lt_of_lt_of_le hk h1.size) hn).trans (h1.block k hk hn)⟩
theorem O1.of_below {p : Nat} {w w' : World} (h : Below w.heap.size w w') : O1 p w w' := ⟨h.os, h.tape, h.output, h.size, fun k hk _ => h.block k hk⟩
theorem O1.set {p : Nat} (w : World) (v : Value) : O1 p w (w.setCell ⟨p, 0, none⟩ v) := ⟨rfl, rfl, rfl, by simp [World.setCell], fun k hk hn => heap_setCell_other w _ _ _ (by simpa using hn)⟩
theorem O1.below {p B : Nat} {w w' : World} (h : O1 p w w') (hB : B ≤ p) (hs : B ≤ w.heap.size) : Below B w w' := ⟨h.os, h.tape, h.output, h.size, fun k hk => h.block k (by omega) (by omega)⟩
/-- .. and only that box was written. -/
def NxP (p g off : Nat) (s : ByteArray) (i : Nat) (w : World) (e : Ending) (w' : World) : Prop :=
  e = .returned (.int .i64 (atB s i)) ∧ Lf w' p g off s (i + 1) ∧ O1 p w w'
theorem w64 (x : Int) (h0 : 0 ≤ x) (h1 : x ≤ 255) : wrap64 x = x := by unfold wrap64; omega
theorem lf_next {w : World} {p g off i n : Nat} {s : ByteArray} (h : Lf w p g off s i) (hi : i < s.size) (hn : s.size - i = n + 1) (a : Option Addr) (c : Nat) (h2 : n ≤ c) (h3 : c ≤ maxLen) (ha : 0 < n → a = some ⟨g, off + i + 1, none⟩) :
    Lf (w.setCell ⟨p, 0, none⟩ (.slice a n c)) p g off s (i + 1) := by
  obtain ⟨a', c', e1, e2, e3, e4⟩ := h
  obtain ⟨_, ne, hg, hb⟩ := e4 hi
  refine ⟨a, c, ?_, by omega, h3, fun hi2 => ⟨ha (by omega), ne, by simp [World.setCell]; exact hg, fun j hj => ?_⟩⟩
  · rw [heap_setCell_same w _ 0 _ _ _ e1, show s.size - (i + 1) = n by omega]
    rfl
  · have hh : (w.setCell ⟨p, 0, none⟩ (.slice a n c)).heap[g]? = w.heap[g]? := heap_setCell_other w _ _ _ (by simpa using ne)
    rw [World.cell?_of_block hh]
    exact hb j hj
set_option maxHeartbeats 4000000 in
theorem snext (w : World) (p g off : Nat) (s : ByteArray) (i : Nat) (h : Lf w p g off s i) (hs : s.size ≤ 100000) : Calls Tryz.prog 42 #[.pointer (some ⟨p, 0, none⟩)] w (NxP p g off s i w) := by
  have HH := hid h
  obtain ⟨a, c, h1, h2, h3, h4⟩ := h
  have c0 : w.cell? ⟨p, 0, none⟩ = some (.slice a (s.size - i) c) := by simp [World.cell?, h1]
  by_cases hi : i < s.size
  · obtain ⟨rfl, ne, hg, hb⟩ := h4 hi
    have c1 := hb i hi
    have f0 : w.frozen? ⟨p, 0, none⟩ = false := by simp [World.frozen?, h1]
    have AT := hid (atB_in hi)
    obtain ⟨n, hn⟩ : ∃ n, s.size - i = n + 1 := ⟨s.size - i - 1, by omega⟩
    obtain ⟨c', hc'⟩ : ∃ c', c = c' + 1 := ⟨c - 1, by omega⟩
    have HN := hid hn
    rw [hn] at c0 h2
    subst hc'
    have hx := s[i].toNat_lt
    have hm : c' + 1 ≤ 9223372036854775807 := by unfold maxLen at h3; omega
    have xw := w64 (s[i].toNat : Int) (by omega) (by omega)
    have hc2 : c' ≤ maxLen := by omega
    have FIN := hid (fun a c h2 h3 ha => lf_next HH.out hi hn a c h2 h3 ha)
    generalize (s[i].toNat : Int) = x at *
    clear h4 hb hn HH
    go_enter Tryz.func42, Tryz.ntmps42
    go_wp2
    · go_ret
      exact ⟨by rw [AT.out]; rfl, FIN.out _ _ (by omega) (by unfold maxLen; omega) (fun h => by omega), O1.set _ _⟩
    · go_ret
      exact ⟨by rw [AT.out]; rfl, FIN.out _ _ (by omega) hc2 (fun _ => rfl), O1.set _ _⟩
  · have hz : s.size - i = 0 := by omega
    rw [hz] at c0
    have AT := hid (atB_out hi)
    have L2 := hid (show Lf w p g off s (i + 1) from ⟨a, c, by rw [show s.size - (i + 1) = s.size - i by omega]; exact h1, by omega, h3, fun h => by omega⟩)
    clear h1 h4 hz HH
    go_enter Tryz.func42, Tryz.ntmps42
    go_wp2
    go_ret
    exact ⟨by rw [AT.out]; rfl, L2.out, O1.refl _ _⟩
set_option maxHeartbeats 4000000 in
theorem rat_any (s : ByteArray) (i : Nat) (hs : s.size ≤ 100000) (w : World) : Calls Tryz.prog 23 #[.string s, .int .i64 i] w fun e w' => e = .returned (.int .i64 (atB s i)) ∧ w' = w := by
  by_cases hi : i < s.size
  · have AT := hid (atB_in hi)
    have h1 : (i : Int) < (s.size : Int) := by omega
    have hx := s[i].toNat_lt
    have xw := w64 (s[i].toNat : Int) (by omega) (by omega)
    go_enter Tryz.func23, Tryz.ntmps23
    go_wp2
    go_ret
    exact ⟨by rw [AT.out]; rfl, rfl⟩
  · have AT := hid (atB_out hi)
    have h1 : ¬ (i : Int) < (s.size : Int) := by omega
    go_enter Tryz.func23, Tryz.ntmps23
    go_wp2
    go_ret
    exact ⟨by rw [AT.out]; rfl, rfl⟩
end Go.Proofs.YtpgamdnkdoebgaaGreatDoor
