/- What other texts are built of: ScP, ScC, ScT, ScR, ScL, ScI. -/
import Derived.Test.YtfpkgkjmpcoppaaGreatDoorPre1
import Derived.Lib.SlBytesRow
import Derived.BigQuiet
import Derived.WalkLawsBesides
import Derived.WalkSpells
import Derived.OwnWalk
import Derived.Deep.RegionHeld3
import Derived.Deep.CutRange
import Derived.Deep.CutBlock
import Derived.Maps.AppendAt
import Derived.Laws.BytesArg
import Derived.Laws.AppendOwnNone
/-! Scripts: bytes as they are read, steps as they come; script.next, the document's at. -/
namespace Go.Proofs.YtfpkgkjmpcoppaaGreatDoor
open Go.RowKit
set_option linter.unusedVariables false
set_option linter.unusedSimpArgs false
set_option maxRecDepth 20000
/-- A byte, or 0. -/
def atB (s : ByteArray) (i : Nat) : Int := if h : i < s.size then (s[i].toNat : Int) else 0
theorem atB_in {s : ByteArray} {i : Nat} (h : i < s.size) : atB s i = (s[i].toNat : Int) := by unfold atB; rw [dif_pos h]
theorem atB_out {s : ByteArray} {i : Nat} (h : ¬ i < s.size) : atB s i = 0 := by unfold atB; rw [dif_neg h]
theorem atB_rng (s : ByteArray) (i : Nat) : 0 ≤ atB s i ∧ atB s i ≤ 255 := by
  unfold atB
  split
  · have := s[i].toNat_lt; omega
  · omega
/-- A step: its kind, act, machine, other one, time. -/
abbrev Sp := Int × Int × Int × Int × Int
/-- What stands at a place: the step, how often, the next place. -/
def stepS (s : ByteArray) (m g : Int) (i : Nat) : Sp × Int × Nat :=
  let k := atB s i
  if k % 16 = 10 ∨ k % 16 = 11 then ((0, atB s (i + 1) % 8, k / 16 % m, (if atB s (i + 1) % 8 = 7 then atB s (i + 2) else atB s (i + 2) % g), 0), 1, i + 3)
  else if k % 16 = 12 then ((0, 6, k / 16 % m, 0, atB s (i + 1) - 4), 1, i + 2)
  else if k % 16 = 13 then ((1, 0, 0, 0, atB s (i + 1)), 1, i + 2)
  else if k % 16 = 14 then ((2, 0, k / 16, 0, 0), 1, i + 1)
  else if k % 16 = 15 then ((0, 0, k / 16 % m, 0, 0), atB s (i + 1) % 64, i + 2)
  else ((0, 0, k / 16 % m, 0, 0), 1, i + 1)
theorem stepS_next (s : ByteArray) (m g : Int) (i : Nat) : i + 1 ≤ (stepS s m g i).2.2 ∧ (stepS s m g i).2.2 ≤ i + 3 := by
  unfold stepS
  simp only
  split
  · simp
  · split
    · simp
    · split
      · simp
      · split
        · simp
        · split <;> simp
theorem stepS_times (s : ByteArray) (m g : Int) (i : Nat) : 0 ≤ (stepS s m g i).2.1 ∧ (stepS s m g i).2.1 ≤ 63 := by
  have h := atB_rng s (i + 1)
  unfold stepS
  simp only
  split
  · simp
  · split
    · simp
    · split
      · simp
      · split
        · simp
        · split
          · simp only; omega
          · simp
/-- A script's rounds: the place, the steps so far. -/
def goS (s : ByteArray) (m g : Int) : Nat → Nat × List Sp
  | 0 => (3, [])
  | n + 1 => let (i, l) := goS s m g n
    ((stepS s m g i).2.2, l ++ List.replicate (min (stepS s m g i).2.1.toNat (2000 - l.length)) (stepS s m g i).1)
/-- It goes on. -/
def onS (s : ByteArray) (x : Nat × List Sp) : Prop := x.1 < s.size ∧ x.2.length < 2000
/-- So many rounds, and no more. -/
def EndS (s : ByteArray) (m g : Int) (n : Nat) : Prop := (∀ j, j < n → onS s (goS s m g j)) ∧ ¬ onS s (goS s m g n)
theorem EndS.unique {s : ByteArray} {m g : Int} {a b : Nat} (h1 : EndS s m g a) (h2 : EndS s m g b) : a = b := by
  rcases Nat.lt_trichotomy a b with h | h | h
  · exact absurd (h2.1 a h) h1.2
  · exact h
  · exact absurd (h1.1 b h) h2.2
theorem goS_len (s : ByteArray) (m g : Int) : ∀ n, (goS s m g n).2.length ≤ 2000
  | 0 => by simp [goS]
  | n + 1 => by
    have ih := goS_len s m g n
    unfold goS
    simp only [List.length_append, List.length_replicate]
    omega
/-- What is left of the bytes, in the script's box. -/
def Lf (w : World) (p g off : Nat) (s : ByteArray) (i : Nat) : Prop :=
  ∃ a c, w.heap[p]? = some (.cells #[.slice a (s.size - i) c] 111 (0, 0)) ∧ s.size - i ≤ c ∧ c ≤ maxLen ∧ (i < s.size → a = some ⟨g, off + i, none⟩ ∧ g ≠ p ∧ g < w.heap.size ∧ Lib.Bytes w g off s)
theorem Lf.lt {w : World} {p g off i : Nat} {s : ByteArray} (h : Lf w p g off s i) : p < w.heap.size := by obtain ⟨a, c, h, _⟩ := h; exact (Array.getElem?_eq_some_iff.1 h).1
theorem Lf.below {w w' : World} {p g off i : Nat} {s : ByteArray} (h : Lf w p g off s i) (hb : Below w.heap.size w w') : Lf w' p g off s i := by
  have hl := h.lt
  obtain ⟨a, c, h1, h2, h3, h4⟩ := h
  refine ⟨a, c, (hb.block p hl).trans h1, h2, h3, fun hi => ?_⟩
  obtain ⟨e, ne, hg, hc⟩ := h4 hi
  have := hb.size
  exact ⟨e, ne, by omega, fun j hj => (hb.cell (p := ⟨g, off + j, none⟩) hg).trans (hc j hj)⟩
/-- Only one block of those that were there was written. -/
structure O1 (p : Nat) (w w' : World) : Prop where
  os : w'.os = w.os
  tape : w'.tape = w.tape
  output : w'.output = w.output
  size : w.heap.size ≤ w'.heap.size
  block : ∀ k, k < w.heap.size → k ≠ p → w'.heap[k]? = w.heap[k]?
theorem O1.refl (p : Nat) (w : World) : O1 p w w := ⟨rfl, rfl, rfl, Nat.le_refl _, fun _ _ _ => rfl⟩
theorem O1.trans {p : Nat} {w1 w2 w3 : World} (h1 : O1 p w1 w2) (h2 : O1 p w2 w3) : O1 p w1 w3 :=
  ⟨h2.os.trans h1.os, h2.tape.trans h1.tape, h2.output.trans h1.output, Nat.le_trans h1.size h2.size, fun k hk hn => (h2.block k (Nat.lt_of_lt_of_le hk h1.size) hn).trans (h1.block k hk hn)⟩
theorem O1.of_below {p : Nat} {w w' : World} (h : Below w.heap.size w w') : O1 p w w' := ⟨h.os, h.tape, h.output, h.size, fun k hk _ => h.block k hk⟩
theorem O1.set {p : Nat} (w : World) (v : Value) : O1 p w (w.setCell ⟨p, 0, none⟩ v) := ⟨rfl, rfl, rfl, by simp [World.setCell], fun k hk hn => heap_setCell_other w _ _ _ (by simpa using hn)⟩
theorem O1.below {p B : Nat} {w w' : World} (h : O1 p w w') (hB : B ≤ p) (hs : B ≤ w.heap.size) : Below B w w' := ⟨h.os, h.tape, h.output, h.size, fun k hk => h.block k (by omega) (by omega)⟩
/-- .. and only that box was written. -/
def NxP (p g off : Nat) (s : ByteArray) (i : Nat) (w : World) (e : Ending) (w' : World) : Prop :=
  e = .returned (.int .i64 (atB s i)) ∧ Lf w' p g off s (i + 1) ∧ O1 p w w'
theorem w64 (x : Int) (h0 : 0 ≤ x) (h1 : x ≤ 255) : wrap64 x = x := by unfold wrap64; omega
theorem lf_next {w : World} {p g off i n : Nat} {s : ByteArray} (h : Lf w p g off s i) (hi : i < s.size) (hn : s.size - i = n + 1) (a : Option Addr) (c : Nat) (h2 : n ≤ c) (h3 : c ≤ maxLen) (ha : 0 < n → a = some ⟨g, off + i + 1, none⟩) :
    Lf (w.setCell ⟨p, 0, none⟩ (.slice a n c)) p g off s (i + 1) := by
  obtain ⟨a', c', e1, e2, e3, e4⟩ := h
  obtain ⟨_, ne, hg, hb⟩ := e4 hi
  refine ⟨a, c, ?_, by omega, h3, fun hi2 => ⟨ha (by omega), ne, by simp [World.setCell]; exact hg, fun j hj => ?_⟩⟩
  · rw [heap_setCell_same w _ 0 _ _ _ e1, show s.size - (i + 1) = n by omega]
    rfl
  · have hh : (w.setCell ⟨p, 0, none⟩ (.slice a n c)).heap[g]? = w.heap[g]? := heap_setCell_other w _ _ _ (by simpa using ne)
    rw [World.cell?_of_block hh]
    exact hb j hj
set_option maxHeartbeats 4000000 in
theorem snext (w : World) (p g off : Nat) (s : ByteArray) (i : Nat) (h : Lf w p g off s i) (hs : s.size ≤ 100000) : Calls Tryz.prog 88 #[.pointer (some ⟨p, 0, none⟩)] w (NxP p g off s i w) := by
  have HH := hid h
  obtain ⟨a, c, h1, h2, h3, h4⟩ := h
  have c0 : w.cell? ⟨p, 0, none⟩ = some (.slice a (s.size - i) c) := by simp [World.cell?, h1]
  by_cases hi : i < s.size
  · obtain ⟨rfl, ne, hg, hb⟩ := h4 hi
    have c1 := hb i hi
    have f0 : w.frozen? ⟨p, 0, none⟩ = false := by simp [World.frozen?, h1]
    have AT := hid (atB_in hi)
    obtain ⟨n, hn⟩ : ∃ n, s.size - i = n + 1 := ⟨s.size - i - 1, by omega⟩
    obtain ⟨c', hc'⟩ : ∃ c', c = c' + 1 := ⟨c - 1, by omega⟩
    have HN := hid hn
    rw [hn] at c0 h2
    subst hc'
    have hx := s[i].toNat_lt
    have hm : c' + 1 ≤ 9223372036854775807 := by unfold maxLen at h3; omega
    have xw := w64 (s[i].toNat : Int) (by omega) (by omega)
    have hc2 : c' ≤ maxLen := by omega
    have FIN := hid (fun a c h2 h3 ha => lf_next HH.out hi hn a c h2 h3 ha)
    generalize (s[i].toNat : Int) = x at *
    clear h4 hb hn HH
    go_enter Tryz.func88, Tryz.ntmps88
    go_wp2
    · go_ret
      exact ⟨by rw [AT.out]; rfl, FIN.out _ _ (by omega) (by unfold maxLen; omega) (fun h => by omega), O1.set _ _⟩
    · go_ret
      exact ⟨by rw [AT.out]; rfl, FIN.out _ _ (by omega) hc2 (fun _ => rfl), O1.set _ _⟩
  · have hz : s.size - i = 0 := by omega
    rw [hz] at c0
    have AT := hid (atB_out hi)
    have L2 := hid (show Lf w p g off s (i + 1) from ⟨a, c, by rw [show s.size - (i + 1) = s.size - i by omega]; exact h1, by omega, h3, fun h => by omega⟩)
    clear h1 h4 hz HH
    go_enter Tryz.func88, Tryz.ntmps88
    go_wp2
    go_ret
    exact ⟨by rw [AT.out]; rfl, L2.out, O1.refl _ _⟩
end Go.Proofs.YtfpkgkjmpcoppaaGreatDoor
/-! script.config, script.step. -/
namespace Go.Proofs.YtfpkgkjmpcoppaaGreatDoor
open Go.RowKit
set_option linter.unusedVariables false
set_option linter.unusedSimpArgs false
set_option maxRecDepth 20000
/-- The config that bytes say. -/
def cfP (s : ByteArray) : Int := 1 + atB s 0 % 4
def cfM (s : ByteArray) : Int := cfP s + atB s 1 % 4
def cfG (s : ByteArray) : Int := 1 + atB s 2 % 32
theorem cf_rng (s : ByteArray) : (1 ≤ cfP s ∧ cfP s ≤ 4) ∧ (1 ≤ cfM s ∧ cfM s ≤ 7) ∧ (1 ≤ cfG s ∧ cfG s ≤ 32) := by
  have h0 := atB_rng s 0
  have h1 := atB_rng s 1
  have h2 := atB_rng s 2
  unfold cfM cfP cfG
  omega
theorem cells3 {w : World} {B : Nat} {a b c : Value} {t : TypeId} (h : w.heap[B]? = some (.cells #[a, b, c] t (0, 0))) :
    (w.cell? ⟨B, 0, none⟩ = some a ∧ w.cell? ⟨B, 1, none⟩ = some b ∧ w.cell? ⟨B, 2, none⟩ = some c) ∧ w.frozen? ⟨B, 0, none⟩ = false ∧ w.frozen? ⟨B, 1, none⟩ = false ∧ w.frozen? ⟨B, 2, none⟩ = false := by simp [World.cell?, World.frozen?, h]
/-- The boxes of config: the answer, the config so far. -/
structure Cf (w0 : World) (p g off : Nat) (s : ByteArray) (i : Nat) (a b c : Int) (w : World) : Prop where
  lf : Lf w p g off s i
  b0 : w.heap[w0.heap.size]? = some (.cells #[.int .i64 0, .int .i64 0, .int .i64 0] 24 (0, 0))
  b1 : w.heap[w0.heap.size + 1]? = some (.cells #[.int .i64 a, .int .i64 b, .int .i64 c] 24 (0, 0))
  o : O1 p w0 w
  pl : p < w0.heap.size
  gl : 0 < s.size → g < w0.heap.size
theorem Cf.next {w0 w w' : World} {p g off i : Nat} {s : ByteArray} {a b c : Int} (h : Cf w0 p g off s i a b c w) (hl : Lf w' p g off s (i + 1)) (ho : O1 p w w') : Cf w0 p g off s (i + 1) a b c w' :=
  ⟨hl, (ho.block _ (Array.getElem?_eq_some_iff.1 h.b0).1 (by have := h.pl; omega)).trans h.b0, (ho.block _ (Array.getElem?_eq_some_iff.1 h.b1).1 (by have := h.pl; omega)).trans h.b1, h.o.trans ho, h.pl, h.gl⟩
theorem lf_other {w : World} {p g off i : Nat} {s : ByteArray} (h : Lf w p g off s i) (b j : Nat) (v : Value) (hp : b ≠ p) (hg : i < s.size → b ≠ g) : Lf (w.setCell ⟨b, j, none⟩ v) p g off s i := by
  obtain ⟨a, c, h1, h2, h3, h4⟩ := h
  refine ⟨a, c, (heap_setCell_other w _ _ _ (by simpa using Ne.symm hp)).trans h1, h2, h3, fun hi => ?_⟩
  obtain ⟨e, ne, hgl, hc⟩ := h4 hi
  refine ⟨e, ne, by simpa [World.setCell] using hgl, fun k hk => ?_⟩
  have hh : (w.setCell ⟨b, j, none⟩ v).heap[g]? = w.heap[g]? := heap_setCell_other w _ _ _ (by simpa using Ne.symm (hg hi))
  rw [World.cell?_of_block hh]
  exact hc k hk
theorem Cf.set {w0 w : World} {p g off i : Nat} {s : ByteArray} {a b c : Int} (h : Cf w0 p g off s i a b c w) (j : Nat) (x a' b' c' : Int) (hx : (#[Value.int .i64 a, .int .i64 b, .int .i64 c].setIfInBounds j (.int .i64 x)) = #[Value.int .i64 a', .int .i64 b', .int .i64 c']) : Cf w0 p g off s i a' b' c' (w.setCell ⟨w0.heap.size + 1, j, none⟩ (.int .i64 x)) := by
  have hpl := h.pl
  refine ⟨lf_other h.lf _ _ _ (by omega) (fun hi => by have := h.gl (by omega); omega), (heap_setCell_other w _ _ _ (by simp)).trans h.b0, ?_, ⟨h.o.os, h.o.tape, h.o.output, by simp [World.setCell]; exact h.o.size, fun k hk hn => (heap_setCell_other w _ _ _ (by simp; omega)).trans (h.o.block k hk hn)⟩, h.pl, h.gl⟩
  rw [heap_setCell_same w _ j _ _ _ h.b1, hx]
theorem Cf.new {w : World} {p g off : Nat} {s : ByteArray} (h : Lf w p g off s 0) (a b c : Int) : Cf w p g off s 0 a b c ((w.alloc (.cells #[.int .i64 0, .int .i64 0, .int .i64 0] 24)).alloc (.cells #[.int .i64 a, .int .i64 b, .int .i64 c] 24)) := by
  have hb : Below w.heap.size w ((w.alloc (.cells #[.int .i64 0, .int .i64 0, .int .i64 0] 24)).alloc (.cells #[.int .i64 a, .int .i64 b, .int .i64 c] 24)) := ((Below.refl _ _).alloc (Nat.le_refl _) _).alloc (by simp) _
  refine ⟨h.below hb, ?_, ?_, O1.of_below hb, h.lt, fun h0 => by obtain ⟨_, _, _, _, _, h4⟩ := h; exact (h4 h0).2.2.1⟩
  · rw [Below.heap_alloc _ _ _ (by simp)]; exact heap_alloc_new _ _
  · have := heap_alloc_new (w.alloc (.cells #[.int .i64 0, .int .i64 0, .int .i64 0] 24)) (.cells #[.int .i64 a, .int .i64 b, .int .i64 c] 24)
    rw [World.size_alloc] at this
    exact this
set_option maxHeartbeats 8000000 in
theorem sconfig (w : World) (p g off : Nat) (s : ByteArray) (h : Lf w p g off s 0) (hs : s.size ≤ 100000) : Calls Tryz.prog 54 #[.pointer (some ⟨p, 0, none⟩)] w fun e w' => e = .returned (.agg #[.int .i64 (cfP s), .int .i64 (cfM s), .int .i64 (cfG s)]) ∧ Lf w' p g off s 3 ∧ O1 p w w' := by
  have K0 := hid (Cf.new h 0 0 0)
  have NX := hid (fun w i (h : Lf w p g off s i) => snext w p g off s i h hs)
  have A0 := atB_rng s 0
  have A1 := atB_rng s 1
  have A2 := atB_rng s 2
  obtain ⟨P, hP⟩ : ∃ P, P = cfP s := ⟨_, rfl⟩
  obtain ⟨M, hM⟩ : ∃ M, M = cfM s := ⟨_, rfl⟩
  obtain ⟨G, hG⟩ : ∃ G, G = cfG s := ⟨_, rfl⟩
  have eP : 1 + atB s 0 % 4 = P := hP.symm
  have eM : P + atB s 1 % 4 = M := by rw [hP, hM]; rfl
  have eG : 1 + atB s 2 % 32 = G := hG.symm
  have HE := hid (And.intro eP (And.intro eM eG))
  rw [← hP, ← hM, ← hG]
  have rP : 1 ≤ P ∧ P ≤ 4 := by omega
  have NX0 := hid (fun w h => NX.out w 0 h)
  have NX1 := hid (fun w h => NX.out w 1 h)
  have NX2 := hid (fun w h => NX.out w 2 h)
  unfold NxP at NX0 NX1 NX2
  generalize atB s 0 = x0 at *
  generalize atB s 1 = x1 at *
  generalize atB s 2 = x2 at *
  clear h hP hM hG NX eP eM eG
  go_enter Tryz.func54, Tryz.ntmps54
  go_upto_region 2 with (fail)
  generalize ((w.alloc (.cells #[.int .i64 0, .int .i64 0, .int .i64 0] 24)).alloc (.cells #[.int .i64 0, .int .i64 0, .int .i64 0] 24)) = W0 at *
  have C0 := hid (NX0.out W0 K0.out.lf)
  go_wp2_with fail
  refine C0.out.mono ?_
  rintro e w1 ⟨rfl, hl, ho⟩
  have K1 := hid (K0.out.next hl ho)
  clear hl ho C0 K0 NX0
  have K2 := hid (K1.out.set 0 (1 + x0 % 4) (1 + x0 % 4) 0 0 rfl)
  obtain ⟨⟨c0, c1, c2⟩, f0, f1, f2⟩ := cells3 K1.out.b1
  go_upto_region 3 with (fail)
  clear c0 c1 c2 f0 f1 f2 K1
  generalize w1.setCell ⟨w.heap.size + 1, 0, none⟩ (.int .i64 (1 + x0 % 4)) = w2 at *
  have K3 := hid (show Cf w p g off s 1 (1 + x0 % 4) 0 0 w2.drew from ⟨K2.out.lf.below (Quiet.below ⟨1, rfl⟩ _), K2.out.b0, K2.out.b1, K2.out.o.trans (O1.of_below (Quiet.below ⟨1, rfl⟩ _)), K2.out.pl, K2.out.gl⟩)
  have C1 := hid (NX1.out w2.drew K3.out.lf)
  have S3 := hid (cells3 K3.out.b1).1.1
  have ht : x1.tmod 4 = x1 % 4 := Int.tmod_eq_emod_of_nonneg (by omega)
  have hw : IntKind.i64.wrap (1 + x0 % 4 + x1 % 4) = 1 + x0 % 4 + x1 % 4 := by
    have hb : IntKind.i64.bits = 64 := rfl
    have hs : IntKind.i64.signed = true := rfl
    simp [IntKind.wrap, hb, hs]; split <;> omega
  clear K2
  go_region_held3 (fun y => y.cell? ⟨w.heap.size + 1, 0, none⟩ = some (.int .i64 (1 + x0 % 4)))
    (first
      | exact S3.out
      | exact (cells3 K4.out.b1).1.1
      | exact (cells3 (K4.out.set 1 _ _ _ _ rfl).b1).1.1)
    (first
      | (go_at_call 88; (with_reducible refine C1.out.mono ?_); rintro e y ⟨rfl, hl, ho⟩; have K4 := hid (K3.out.next hl ho); obtain ⟨⟨c0, c1, c2⟩, f0, f1, f2⟩ := cells3 K4.out.b1; clear hl ho))
  have K5 := hid (K4.out.set 1 (1 + x0 % 4 + x1 % 4) (1 + x0 % 4) (1 + x0 % 4 + x1 % 4) 0 rfl)
  clear c0 c1 c2 f0 f1 f2 K4 S3 C1 K3 NX1
  generalize y.setCell ⟨w.heap.size + 1, 1, none⟩ (.int .i64 (1 + x0 % 4 + x1 % 4)) = w3 at *
  have C2 := hid (NX2.out w3 K5.out.lf)
  go_wp2_with fail
  refine C2.out.mono ?_
  rintro e w4 ⟨rfl, hl, ho⟩
  have K6 := hid (K5.out.next hl ho)
  clear hl ho C2 K5 NX2
  have K7 := hid (K6.out.set 2 (1 + x2 % 32) (1 + x0 % 4) (1 + x0 % 4 + x1 % 4) (1 + x2 % 32) rfl)
  obtain ⟨⟨c0, c1, c2⟩, f0, f1, f2⟩ := cells3 K6.out.b1
  go_upto_region 5 with (fail)
  clear c0 c1 c2 f0 f1 f2 K6
  generalize w4.setCell ⟨w.heap.size + 1, 2, none⟩ (.int .i64 (1 + x2 % 32)) = w5 at *
  obtain ⟨⟨c0, c1, c2⟩, f0, f1, f2⟩ := cells3 K7.out.b1
  obtain ⟨⟨d0, d1, d2⟩, h0, h1, h2⟩ := cells3 K7.out.b0
  have FIN : Hid (((((w5.setCell ⟨w.heap.size, 0, none⟩ (.int .i64 (1 + x0 % 4))).setCell ⟨w.heap.size, 1, none⟩ (.int .i64 (1 + x0 % 4 + x1 % 4))).setCell ⟨w.heap.size, 2, none⟩ (.int .i64 (1 + x2 % 32))).heap[w.heap.size]? = some (.cells #[.int .i64 (1 + x0 % 4), .int .i64 (1 + x0 % 4 + x1 % 4), .int .i64 (1 + x2 % 32)] 24 (0, 0))) ∧
      Lf (((w5.setCell ⟨w.heap.size, 0, none⟩ (.int .i64 (1 + x0 % 4))).setCell ⟨w.heap.size, 1, none⟩ (.int .i64 (1 + x0 % 4 + x1 % 4))).setCell ⟨w.heap.size, 2, none⟩ (.int .i64 (1 + x2 % 32))) p g off s 3 ∧ O1 p w (((w5.setCell ⟨w.heap.size, 0, none⟩ (.int .i64 (1 + x0 % 4))).setCell ⟨w.heap.size, 1, none⟩ (.int .i64 (1 + x0 % 4 + x1 % 4))).setCell ⟨w.heap.size, 2, none⟩ (.int .i64 (1 + x2 % 32)))) := hid (by
    have hp := K7.out.pl
    have hg := K7.out.gl
    have e0 := heap_setCell_same w5 _ 0 _ _ (.int .i64 (1 + x0 % 4)) K7.out.b0
    have e1 := heap_setCell_same _ _ 1 _ _ (.int .i64 (1 + x0 % 4 + x1 % 4)) e0
    have e2 := heap_setCell_same _ _ 2 _ _ (.int .i64 (1 + x2 % 32)) e1
    refine ⟨e2, lf_other (lf_other (lf_other K7.out.lf _ _ _ (by omega) (fun hi => by have := hg (by omega); omega)) _ _ _ (by omega) (fun hi => by have := hg (by omega); omega)) _ _ _ (by omega) (fun hi => by have := hg (by omega); omega), K7.out.o.os, K7.out.o.tape, K7.out.o.output, by simp [World.setCell]; exact K7.out.o.size, fun k hk hn => ?_⟩
    rw [heap_setCell_other _ _ _ _ (by simp; omega), heap_setCell_other _ _ _ _ (by simp; omega), heap_setCell_other _ _ _ _ (by simp; omega)]
    exact K7.out.o.block k hk hn)
  obtain ⟨q1, q2, q3⟩ := HE.out
  have HR := hid (show (1 + x0 % 4, 1 + x0 % 4 + x1 % 4, 1 + x2 % 32) = (P, M, G) by rw [← q3, ← q2, ← q1])
  clear q1 q2 q3 K7
  go_wp2
  obtain ⟨⟨e0, e1, e2⟩, _⟩ := cells3 FIN.out.1
  refine bodyPost_ret (v := .agg #[.int .i64 (1 + x0 % 4), .int .i64 (1 + x0 % 4 + x1 % 4), .int .i64 (1 + x2 % 32)]) (by simp [results, Tryz.results54, go_sem, e0, e1, e2]) rfl ⟨?_, FIN.out.2.1, FIN.out.2.2⟩
  have h := HR.out
  simp only [Prod.mk.injEq] at h
  obtain ⟨h1, h2, h3⟩ := h
  rw [h2, h1, h3]
end Go.Proofs.YtfpkgkjmpcoppaaGreatDoor
/-! script.step (written by wip/tools/genst7.py). -/
namespace Go.Proofs.YtfpkgkjmpcoppaaGreatDoor
open Go.RowKit
set_option linter.unusedVariables false
set_option linter.unusedSimpArgs false
set_option maxRecDepth 20000
theorem cells5 {w : World} {B : Nat} {a b c d e : Value} {t : TypeId} (h : w.heap[B]? = some (.cells #[a, b, c, d, e] t (0, 0))) :
    (w.cell? ⟨B, 0, none⟩ = some a ∧ w.cell? ⟨B, 1, none⟩ = some b ∧ w.cell? ⟨B, 2, none⟩ = some c ∧ w.cell? ⟨B, 3, none⟩ = some d ∧ w.cell? ⟨B, 4, none⟩ = some e) ∧
    w.frozen? ⟨B, 0, none⟩ = false ∧ w.frozen? ⟨B, 1, none⟩ = false ∧ w.frozen? ⟨B, 2, none⟩ = false ∧ w.frozen? ⟨B, 3, none⟩ = false ∧ w.frozen? ⟨B, 4, none⟩ = false := by simp [World.cell?, World.frozen?, h]
def spV (x : Sp) : Array Value := #[.int .u8 x.1, .int .u8 x.2.1, .int .i64 x.2.2.1, .int .i64 x.2.2.2.1, .int .i64 x.2.2.2.2]
/-- The boxes of step: the config, the answer, what is picked. -/
structure Sbx (w0 : World) (p g off : Nat) (s : ByteArray) (i : Nat) (P M G : Int) (E : Nat) (pk : Array Value) (w : World) : Prop where
  lf : Lf w p g off s i
  bc : w.heap[w0.heap.size]? = some (.cells #[.int .i64 P, .int .i64 M, .int .i64 G] 24 (0, 0))
  ba : w.heap[w0.heap.size + 1]? = some (.cells #[.int .u8 0, .int .u8 0, .int .i64 0, .int .i64 0, .int .i64 0] 79 (0, 0))
  be : E ≠ 0 → w.heap[E]? = some (.cells pk 79 (0, 0))
  o : O1 p w0 w
  pl : p < w0.heap.size
  gl : 0 < s.size → g < w0.heap.size
  El : E ≠ 0 → w0.heap.size + 2 ≤ E
theorem Sbx.next {w0 w w' : World} {p g off i E : Nat} {s : ByteArray} {P M G : Int} {pk : Array Value} (h : Sbx w0 p g off s i P M G E pk w) (hl : Lf w' p g off s (i + 1)) (ho : O1 p w w') : Sbx w0 p g off s (i + 1) P M G E pk w' := by
  have hp := h.pl
  exact ⟨hl, (ho.block _ (Array.getElem?_eq_some_iff.1 h.bc).1 (by omega)).trans h.bc, (ho.block _ (Array.getElem?_eq_some_iff.1 h.ba).1 (by omega)).trans h.ba, fun hE => (ho.block _ (Array.getElem?_eq_some_iff.1 (h.be hE)).1 (by have := h.El hE; omega)).trans (h.be hE), h.o.trans ho, h.pl, h.gl, h.El⟩
theorem Sbx.drew {w0 w : World} {p g off i E : Nat} {s : ByteArray} {P M G : Int} {pk : Array Value} (h : Sbx w0 p g off s i P M G E pk w) : Sbx w0 p g off s i P M G E pk w.drew :=
  ⟨h.lf.below (Quiet.below ⟨1, rfl⟩ _), h.bc, h.ba, h.be, h.o.trans (O1.of_below (Quiet.below ⟨1, rfl⟩ _)), h.pl, h.gl, h.El⟩
theorem Sbx.new {w : World} {p g off i : Nat} {s : ByteArray} (h : Lf w p g off s i) (hg : 0 < s.size → g < w.heap.size) (P M G : Int) : Sbx w p g off s i P M G 0 #[] ((w.alloc (.cells #[.int .i64 P, .int .i64 M, .int .i64 G] 24)).alloc (.cells #[.int .u8 0, .int .u8 0, .int .i64 0, .int .i64 0, .int .i64 0] 79)) := by
  have hb : Below w.heap.size w ((w.alloc (.cells #[.int .i64 P, .int .i64 M, .int .i64 G] 24)).alloc (.cells #[.int .u8 0, .int .u8 0, .int .i64 0, .int .i64 0, .int .i64 0] 79)) := ((Below.refl _ _).alloc (Nat.le_refl _) _).alloc (by simp) _
  refine ⟨h.below hb, ?_, ?_, fun h => absurd rfl h, O1.of_below hb, h.lt, hg, fun h => absurd rfl h⟩
  · rw [Below.heap_alloc _ _ _ (by simp)]; exact heap_alloc_new _ _
  · have := heap_alloc_new (w.alloc (.cells #[.int .i64 P, .int .i64 M, .int .i64 G] 24)) (.cells #[.int .u8 0, .int .u8 0, .int .i64 0, .int .i64 0, .int .i64 0] 79)
    rw [World.size_alloc] at this
    exact this
theorem Sbx.pick {w0 w : World} {p g off i : Nat} {s : ByteArray} {P M G : Int} {pk0 : Array Value} (h : Sbx w0 p g off s i P M G 0 pk0 w) (pk : Array Value) : Sbx w0 p g off s i P M G w.heap.size pk (w.alloc (.cells pk 79)) := by
  have hb : Below w.heap.size w (w.alloc (.cells pk 79)) := (Below.refl _ _).alloc (Nat.le_refl _) _
  have h1 := (Array.getElem?_eq_some_iff.1 h.ba).1
  exact ⟨h.lf.below hb, (hb.block _ (by omega)).trans h.bc, (hb.block _ h1).trans h.ba, fun _ => heap_alloc_new _ _, h.o.trans (O1.of_below hb), h.pl, h.gl, fun _ => by omega⟩
theorem Sbx.set {w0 w : World} {p g off i E : Nat} {s : ByteArray} {P M G : Int} {pk : Array Value} (h : Sbx w0 p g off s i P M G E pk w) (hE : E ≠ 0) (j : Nat) (x : Value) (pk' : Array Value) (hx : pk.setIfInBounds j x = pk') : Sbx w0 p g off s i P M G E pk' (w.setCell ⟨E, j, none⟩ x) := by
  have hp := h.pl
  have hEl := h.El hE
  refine ⟨lf_other h.lf _ _ _ (by omega) (fun hi => by have := h.gl (by omega); omega), (heap_setCell_other w _ _ _ (by simp; omega)).trans h.bc, (heap_setCell_other w _ _ _ (by simp; omega)).trans h.ba, fun _ => ?_, ⟨h.o.os, h.o.tape, h.o.output, by simp [World.setCell]; exact h.o.size, fun k hk hn => (heap_setCell_other w _ _ _ (by simp; omega)).trans (h.o.block k hk hn)⟩, h.pl, h.gl, h.El⟩
  rw [heap_setCell_same w _ j _ _ _ (h.be hE), hx]
theorem o1_set {p : Nat} {w0 w : World} (h : O1 p w0 w) (B j : Nat) (v : Value) (hB : w0.heap.size ≤ B) : O1 p w0 (w.setCell ⟨B, j, none⟩ v) :=
  ⟨h.os, h.tape, h.output, by simp [World.setCell]; exact h.size, fun k hk hn => (heap_setCell_other w _ _ _ (by simp; omega)).trans (h.block k hk hn)⟩
/-- The answer is stored. -/
def ansW (w : World) (B : Nat) (x : Sp) : World := ((((w.setCell ⟨B, 0, none⟩ (.int .u8 x.1)).setCell ⟨B, 1, none⟩ (.int .u8 x.2.1)).setCell ⟨B, 2, none⟩ (.int .i64 x.2.2.1)).setCell ⟨B, 3, none⟩ (.int .i64 x.2.2.2.1)).setCell ⟨B, 4, none⟩ (.int .i64 x.2.2.2.2)
theorem Sbx.fin {w0 w : World} {p g off i E : Nat} {s : ByteArray} {P M G : Int} {pk : Array Value} (h : Sbx w0 p g off s i P M G E pk w) (x : Sp) :
    (ansW w (w0.heap.size + 1) x).heap[w0.heap.size + 1]? = some (.cells (spV x) 79 (0, 0)) ∧ Lf (ansW w (w0.heap.size + 1) x) p g off s i ∧ O1 p w0 (ansW w (w0.heap.size + 1) x) := by
  have hp := h.pl
  have hg := h.gl
  have e0 := heap_setCell_same w _ 0 _ _ (.int .u8 x.1) h.ba
  have e1 := heap_setCell_same _ _ 1 _ _ (.int .u8 x.2.1) e0
  have e2 := heap_setCell_same _ _ 2 _ _ (.int .i64 x.2.2.1) e1
  have e3 := heap_setCell_same _ _ 3 _ _ (.int .i64 x.2.2.2.1) e2
  have e4 := heap_setCell_same _ _ 4 _ _ (.int .i64 x.2.2.2.2) e3
  have lo := fun (w : World) (hl : Lf w p g off s i) (j : Nat) (v : Value) => lf_other hl (w0.heap.size + 1) j v (by omega) (fun hi => by have := hg (by omega); omega)
  have oo := fun (w : World) (ho : O1 p w0 w) (j : Nat) (v : Value) => o1_set ho (w0.heap.size + 1) j v (by omega)
  unfold ansW spV
  simp only [List.setIfInBounds_toArray, List.set_cons_succ, List.set_cons_zero] at e4
  exact ⟨e4, lo _ (lo _ (lo _ (lo _ (lo _ h.lf _ _) _ _) _ _) _ _) _ _, oo _ (oo _ (oo _ (oo _ (oo _ h.o _ _) _ _) _ _) _ _) _ _⟩
theorem Sbx.finE {w0 w : World} {p g off i E : Nat} {s : ByteArray} {P M G : Int} {pk : Array Value} (h : Sbx w0 p g off s i P M G E pk w) (hE : E ≠ 0) (x : Sp) :
    (ansW w (w0.heap.size + 1) x).heap[E]? = some (.cells pk 79 (0, 0)) := by
  have hEl := h.El hE
  unfold ansW
  rw [heap_setCell_other _ _ _ _ (by simp; omega), heap_setCell_other _ _ _ _ (by simp; omega), heap_setCell_other _ _ _ _ (by simp; omega), heap_setCell_other _ _ _ _ (by simp; omega), heap_setCell_other _ _ _ _ (by simp; omega)]
  exact h.be hE
/-- What step answers. -/
def StP (p g off : Nat) (s : ByteArray) (M G : Int) (i : Nat) (w : World) (e : Ending) (w' : World) : Prop :=
  e = .returned (.tuple #[.agg (spV (stepS s M G i).1), .int .i64 (stepS s M G i).2.1]) ∧ Lf w' p g off s (stepS s M G i).2.2 ∧ O1 p w w'
theorem StP.mk {w w1 : World} {p g off i j : Nat} {s : ByteArray} {M G P : Int} {E : Nat} {pk : Array Value} (x : Sp) (n : Int) (h : stepS s M G i = (x, n, j)) (hS : Sbx w p g off s j P M G E pk w1) :
    StP p g off s M G i w (.returned (.tuple #[.agg #[.int .u8 x.1, .int .u8 x.2.1, .int .i64 x.2.2.1, .int .i64 x.2.2.2.1, .int .i64 x.2.2.2.2], .int .i64 n])) (ansW w1 (w.heap.size + 1) x) := by
  unfold StP
  rw [h]
  exact ⟨rfl, (hS.fin x).2⟩
set_option maxHeartbeats 16000000 in
theorem sstep (w : World) (p g off : Nat) (s : ByteArray) (i : Nat) (P M G : Int) (h : Lf w p g off s i) (hg : 0 < s.size → g < w.heap.size) (hs : s.size ≤ 100000) (hM : 1 ≤ M) (hG : 1 ≤ G) : Calls Tryz.prog 55 #[.pointer (some ⟨p, 0, none⟩), .agg #[.int .i64 P, .int .i64 M, .int .i64 G]] w (StP p g off s M G i w) := by
  have K0 := hid (Sbx.new h hg P M G)
  have NX := hid (fun w i (h : Lf w p g off s i) => snext w p g off s i h hs)
  have A0 := atB_rng s i
  have A1 := atB_rng s (i + 1)
  have A2 := atB_rng s (i + 2)
  obtain ⟨SS, hSS⟩ : ∃ SS, SS = stepS s M G i := ⟨_, rfl⟩
  have HSS := hid hSS.symm
  unfold stepS at hSS
  simp only at hSS
  have NX0 := hid (fun w h => NX.out w i h)
  have NX1 := hid (fun w h => NX.out w (i + 1) h)
  have NX2 := hid (fun w h => NX.out w (i + 2) h)
  unfold NxP at NX0 NX1 NX2
  generalize atB s i = k at *
  generalize atB s (i + 1) = a at *
  generalize atB s (i + 2) = x at *
  have hk16 : 0 ≤ k / 16 := by omega
  have hkm0 : 0 ≤ k / 16 % M := Int.emod_nonneg _ (by omega)
  have hM0 : ¬ M = 0 := by omega
  have hG0 : ¬ G = 0 := by omega
  clear h hg NX
  rcases (show (k % 16 = 10 ∨ k % 16 = 11) ∨ k % 16 = 12 ∨ k % 16 = 13 ∨ k % 16 = 14 ∨ k % 16 = 15 ∨ (k % 16 ≠ 10 ∧ k % 16 ≠ 11 ∧ k % 16 ≠ 12 ∧ k % 16 ≠ 13 ∧ k % 16 ≠ 14 ∧ k % 16 ≠ 15) by omega) with r | r | r | r | r | ⟨r1, r2, r3, r4, r5, r6⟩
  · rw [if_pos r] at hSS
    have a8 : 0 ≤ a % 8 ∧ a % 8 ≤ 7 := by omega
    have aw : IntKind.u8.wrap (a % 8) = a % 8 := by
      have hb : IntKind.u8.bits = 8 := rfl
      have hs : IntKind.u8.signed = false := rfl
      simp [IntKind.wrap, hb, hs]; omega
    have TR : Hid (((k % 16 == 10) = true ∨ ((k % 16 == 10) = false ∧ (k % 16 == 11) = true))) := hid (by rcases r with e | e <;> simp [e])
    clear r
    by_cases a7 : a % 8 = 7
    · rw [if_pos a7] at hSS
      have a7b : (a % 8 == 7) = true := by simpa using a7
      clear a7
      rcases TR.out with t1 | ⟨t1, t2⟩
      all_goals
        have HX : Hid (stepS s M G i = (((0, a % 8, k / 16 % M, x, 0) : Sp), 1, i + 3)) := hid (HSS.out.trans hSS)
        clear hSS HSS
        go_enter Tryz.func55, Tryz.ntmps55
        go_upto_region 1 with (fail)
        generalize ((w.alloc (.cells #[.int .i64 P, .int .i64 M, .int .i64 G] 24)).alloc (.cells #[.int .u8 0, .int .u8 0, .int .i64 0, .int .i64 0, .int .i64 0] 79)) = W0 at *
        have C0 := hid (NX0.out W0 K0.out.lf)
        go_wp2_with fail
        refine C0.out.mono ?_
        rintro e w1 ⟨rfl, hl, ho⟩
        have K1 := hid (K0.out.next hl ho)
        clear hl ho C0 K0 NX0
        obtain ⟨⟨c0, c1, c2⟩, _⟩ := cells3 K1.out.bc
        have K2 := hid (K1.out.pick #[.int .u8 0, .int .u8 0, .int .i64 (k / 16 % M), .int .i64 0, .int .i64 0])
        have hE := hid (show w1.heap.size ≠ 0 from by have := (Array.getElem?_eq_some_iff.1 K1.out.bc).1; omega)
        go_upto_region 3 with (fail)
        clear c0 c1 c2 K1
        generalize hEE : w1.heap.size = E at *
        generalize w1.alloc (.cells #[.int .u8 0, .int .u8 0, .int .i64 (k / 16 % M), .int .i64 0, .int .i64 0] 79) = w2 at *
        clear hEE
        have C1 := hid (NX1.out w2 K2.out.lf)
        go_wp2_with fail
        refine C1.out.mono ?_
        rintro e w3 ⟨rfl, hl, ho⟩
        have K3 := hid (K2.out.next hl ho)
        clear hl ho C1 NX1
        have C1 := hid (NX2.out w3 K3.out.lf)
        go_wp2_with fail
        refine C1.out.mono ?_
        rintro e w4 ⟨rfl, hl, ho⟩
        have K4 := hid (K3.out.next hl ho)
        clear hl ho C1 NX2
        obtain ⟨⟨b0, b1, b2, b3, b4⟩, g0, g1, g2, g3, g4⟩ := cells5 (K4.out.be hE.out)
        have K5 := hid ((K4.out.set hE.out 1 (.int .u8 (a % 8)) _ rfl).set hE.out 3 (.int .i64 x) _ rfl)
        simp only [List.setIfInBounds_toArray, List.set_cons_succ, List.set_cons_zero] at K5
        go_upto_region 7 with (fail)
        clear b0 b1 b2 b3 b4 g0 g1 g2 g3 g4 K2 K3 K4
        generalize (w4.setCell ⟨E, 1, none⟩ (.int .u8 (a % 8))).setCell ⟨E, 3, none⟩ (.int .i64 x) = w5 at *
        have FN := hid (K5.out.fin ((0, a % 8, k / 16 % M, x, 0) : Sp))
        have SP := hid (StP.mk ((0, a % 8, k / 16 % M, x, 0) : Sp) 1 HX.out K5.out)
        unfold ansW at FN SP
        simp only at FN SP
        obtain ⟨⟨a0, a1, a2, a3, a4⟩, f0, f1, f2, f3, f4⟩ := cells5 K5.out.ba
        obtain ⟨⟨b0, b1, b2, b3, b4⟩, _⟩ := cells5 (K5.out.be hE.out)
        go_wp2
        obtain ⟨⟨e0, e1, e2, e3, e4⟩, _⟩ := cells5 FN.out.1
        exact bodyPost_ret (by simp [results, Tryz.results55, go_sem, e0, e1, e2, e3, e4]) rfl SP.out
    · rw [if_neg a7] at hSS
      have a7b : (a % 8 == 7) = false := by simpa using a7
      clear a7
      rcases TR.out with t1 | ⟨t1, t2⟩
      all_goals
        have HX : Hid (stepS s M G i = (((0, a % 8, k / 16 % M, x % G, 0) : Sp), 1, i + 3)) := hid (HSS.out.trans hSS)
        clear hSS HSS
        go_enter Tryz.func55, Tryz.ntmps55
        go_upto_region 1 with (fail)
        generalize ((w.alloc (.cells #[.int .i64 P, .int .i64 M, .int .i64 G] 24)).alloc (.cells #[.int .u8 0, .int .u8 0, .int .i64 0, .int .i64 0, .int .i64 0] 79)) = W0 at *
        have C0 := hid (NX0.out W0 K0.out.lf)
        go_wp2_with fail
        refine C0.out.mono ?_
        rintro e w1 ⟨rfl, hl, ho⟩
        have K1 := hid (K0.out.next hl ho)
        clear hl ho C0 K0 NX0
        obtain ⟨⟨c0, c1, c2⟩, _⟩ := cells3 K1.out.bc
        have K2 := hid (K1.out.pick #[.int .u8 0, .int .u8 0, .int .i64 (k / 16 % M), .int .i64 0, .int .i64 0])
        have hE := hid (show w1.heap.size ≠ 0 from by have := (Array.getElem?_eq_some_iff.1 K1.out.bc).1; omega)
        go_upto_region 3 with (fail)
        clear c0 c1 c2 K1
        generalize hEE : w1.heap.size = E at *
        generalize w1.alloc (.cells #[.int .u8 0, .int .u8 0, .int .i64 (k / 16 % M), .int .i64 0, .int .i64 0] 79) = w2 at *
        clear hEE
        have C1 := hid (NX1.out w2 K2.out.lf)
        go_wp2_with fail
        refine C1.out.mono ?_
        rintro e w3 ⟨rfl, hl, ho⟩
        have K3 := hid (K2.out.next hl ho)
        clear hl ho C1 NX1
        have C1 := hid (NX2.out w3 K3.out.lf)
        go_wp2_with fail
        refine C1.out.mono ?_
        rintro e w4 ⟨rfl, hl, ho⟩
        have K4 := hid (K3.out.next hl ho)
        clear hl ho C1 NX2
        obtain ⟨⟨b0, b1, b2, b3, b4⟩, g0, g1, g2, g3, g4⟩ := cells5 (K4.out.be hE.out)
        have K5 := hid ((K4.out.set hE.out 1 (.int .u8 (a % 8)) _ rfl).set hE.out 3 (.int .i64 x) _ rfl)
        simp only [List.setIfInBounds_toArray, List.set_cons_succ, List.set_cons_zero] at K5
        go_upto_region 7 with (fail)
        clear b0 b1 b2 b3 b4 g0 g1 g2 g3 g4 K2 K3 K4
        generalize (w4.setCell ⟨E, 1, none⟩ (.int .u8 (a % 8))).setCell ⟨E, 3, none⟩ (.int .i64 x) = w5 at *
        obtain ⟨⟨b0, b1, b2, b3, b4⟩, g0, g1, g2, g3, g4⟩ := cells5 (K5.out.be hE.out)
        obtain ⟨⟨c0, c1, c2⟩, _⟩ := cells3 K5.out.bc
        have hx0 : 0 ≤ x := by omega
        have K6 := hid (K5.out.set hE.out 3 (.int .i64 (x % G)) _ rfl)
        simp only [List.setIfInBounds_toArray, List.set_cons_succ, List.set_cons_zero] at K6
        go_upto_region 17 with (fail)
        clear b0 b1 b2 b3 b4 g0 g1 g2 g3 g4 c0 c1 c2 K5
        generalize w5.setCell ⟨E, 3, none⟩ (.int .i64 (x % G)) = w6 at *
        have FN := hid (K6.out.fin ((0, a % 8, k / 16 % M, x % G, 0) : Sp))
        have SP := hid (StP.mk ((0, a % 8, k / 16 % M, x % G, 0) : Sp) 1 HX.out K6.out)
        unfold ansW at FN SP
        simp only at FN SP
        obtain ⟨⟨a0, a1, a2, a3, a4⟩, f0, f1, f2, f3, f4⟩ := cells5 K6.out.ba
        obtain ⟨⟨b0, b1, b2, b3, b4⟩, _⟩ := cells5 (K6.out.be hE.out)
        go_wp2
        obtain ⟨⟨e0, e1, e2, e3, e4⟩, _⟩ := cells5 FN.out.1
        exact bodyPost_ret (by simp [results, Tryz.results55, go_sem, e0, e1, e2, e3, e4]) rfl SP.out
  · rw [if_neg (by omega), if_pos r] at hSS
    have n10 : (k % 16 == 10) = false := by simpa using (show ¬ k % 16 = 10 by omega)
    have n11 : (k % 16 == 11) = false := by simpa using (show ¬ k % 16 = 11 by omega)
    have n12 : (k % 16 == 12) = true := by simpa using (show k % 16 = 12 by omega)
    clear r
    have HX : Hid (stepS s M G i = (((0, 6, k / 16 % M, 0, a - 4) : Sp), 1, i + 2)) := hid (HSS.out.trans hSS)
    clear hSS HSS
    go_enter Tryz.func55, Tryz.ntmps55
    go_upto_region 1 with (fail)
    generalize ((w.alloc (.cells #[.int .i64 P, .int .i64 M, .int .i64 G] 24)).alloc (.cells #[.int .u8 0, .int .u8 0, .int .i64 0, .int .i64 0, .int .i64 0] 79)) = W0 at *
    have C0 := hid (NX0.out W0 K0.out.lf)
    go_wp2_with fail
    refine C0.out.mono ?_
    rintro e w1 ⟨rfl, hl, ho⟩
    have K1 := hid (K0.out.next hl ho)
    clear hl ho C0 K0 NX0
    obtain ⟨⟨c0, c1, c2⟩, _⟩ := cells3 K1.out.bc
    have K2 := hid (K1.out.pick #[.int .u8 0, .int .u8 0, .int .i64 (k / 16 % M), .int .i64 0, .int .i64 0])
    have hE := hid (show w1.heap.size ≠ 0 from by have := (Array.getElem?_eq_some_iff.1 K1.out.bc).1; omega)
    go_upto_region 3 with (fail)
    clear c0 c1 c2 K1
    generalize hEE : w1.heap.size = E at *
    generalize w1.alloc (.cells #[.int .u8 0, .int .u8 0, .int .i64 (k / 16 % M), .int .i64 0, .int .i64 0] 79) = w2 at *
    clear hEE
    have C1 := hid (NX1.out w2 K2.out.lf)
    go_wp2_with fail
    refine C1.out.mono ?_
    rintro e w3 ⟨rfl, hl, ho⟩
    have K3 := hid (K2.out.next hl ho)
    clear hl ho C1 NX1
    obtain ⟨⟨b0, b1, b2, b3, b4⟩, g0, g1, g2, g3, g4⟩ := cells5 (K3.out.be hE.out)
    have K5 := hid ((K3.out.set hE.out 1 (.int .u8 6) _ rfl).set hE.out 4 (.int .i64 (a - 4)) _ rfl)
    simp only [List.setIfInBounds_toArray, List.set_cons_succ, List.set_cons_zero] at K5
    go_upto_region 17 with (fail)
    clear b0 b1 b2 b3 b4 g0 g1 g2 g3 g4 K2 K3
    generalize (w3.setCell ⟨E, 1, none⟩ (.int .u8 6)).setCell ⟨E, 4, none⟩ (.int .i64 (a - 4)) = w5 at *
    have FN := hid (K5.out.fin ((0, 6, k / 16 % M, 0, a - 4) : Sp))
    have SP := hid (StP.mk ((0, 6, k / 16 % M, 0, a - 4) : Sp) 1 HX.out K5.out)
    unfold ansW at FN SP
    simp only at FN SP
    obtain ⟨⟨a0, a1, a2, a3, a4⟩, f0, f1, f2, f3, f4⟩ := cells5 K5.out.ba
    obtain ⟨⟨b0, b1, b2, b3, b4⟩, _⟩ := cells5 (K5.out.be hE.out)
    go_wp2
    obtain ⟨⟨e0, e1, e2, e3, e4⟩, _⟩ := cells5 FN.out.1
    exact bodyPost_ret (by simp [results, Tryz.results55, go_sem, e0, e1, e2, e3, e4]) rfl SP.out
  · rw [if_neg (by omega), if_neg (by omega), if_pos r] at hSS
    have n10 : (k % 16 == 10) = false := by simpa using (show ¬ k % 16 = 10 by omega)
    have n11 : (k % 16 == 11) = false := by simpa using (show ¬ k % 16 = 11 by omega)
    have n12 : (k % 16 == 12) = false := by simpa using (show ¬ k % 16 = 12 by omega)
    have n13 : (k % 16 == 13) = true := by simpa using (show k % 16 = 13 by omega)
    clear r
    have HX : Hid (stepS s M G i = (((1, 0, 0, 0, a) : Sp), 1, i + 2)) := hid (HSS.out.trans hSS)
    clear hSS HSS
    go_enter Tryz.func55, Tryz.ntmps55
    go_upto_region 1 with (fail)
    generalize ((w.alloc (.cells #[.int .i64 P, .int .i64 M, .int .i64 G] 24)).alloc (.cells #[.int .u8 0, .int .u8 0, .int .i64 0, .int .i64 0, .int .i64 0] 79)) = W0 at *
    have C0 := hid (NX0.out W0 K0.out.lf)
    go_wp2_with fail
    refine C0.out.mono ?_
    rintro e w1 ⟨rfl, hl, ho⟩
    have K1 := hid (K0.out.next hl ho)
    clear hl ho C0 K0 NX0
    obtain ⟨⟨c0, c1, c2⟩, _⟩ := cells3 K1.out.bc
    have K2 := hid (K1.out.pick #[.int .u8 0, .int .u8 0, .int .i64 (k / 16 % M), .int .i64 0, .int .i64 0])
    have hE := hid (show w1.heap.size ≠ 0 from by have := (Array.getElem?_eq_some_iff.1 K1.out.bc).1; omega)
    go_upto_region 3 with (fail)
    clear c0 c1 c2 K1
    generalize hEE : w1.heap.size = E at *
    generalize w1.alloc (.cells #[.int .u8 0, .int .u8 0, .int .i64 (k / 16 % M), .int .i64 0, .int .i64 0] 79) = w2 at *
    clear hEE
    have C1 := hid (NX1.out w2 K2.out.lf)
    go_wp2_with fail
    refine C1.out.mono ?_
    rintro e w3 ⟨rfl, hl, ho⟩
    have K3 := hid (K2.out.next hl ho)
    clear hl ho C1 NX1
    have FN := hid (K3.out.fin ((1, 0, 0, 0, a) : Sp))
    have SP := hid (StP.mk ((1, 0, 0, 0, a) : Sp) 1 HX.out K3.out)
    unfold ansW at FN SP
    simp only at FN SP
    obtain ⟨⟨a0, a1, a2, a3, a4⟩, f0, f1, f2, f3, f4⟩ := cells5 K3.out.ba
    go_wp2
    obtain ⟨⟨e0, e1, e2, e3, e4⟩, _⟩ := cells5 FN.out.1
    exact bodyPost_ret (by simp [results, Tryz.results55, go_sem, e0, e1, e2, e3, e4]) rfl SP.out
  · rw [if_neg (by omega), if_neg (by omega), if_neg (by omega), if_pos r] at hSS
    have n10 : (k % 16 == 10) = false := by simpa using (show ¬ k % 16 = 10 by omega)
    have n11 : (k % 16 == 11) = false := by simpa using (show ¬ k % 16 = 11 by omega)
    have n12 : (k % 16 == 12) = false := by simpa using (show ¬ k % 16 = 12 by omega)
    have n13 : (k % 16 == 13) = false := by simpa using (show ¬ k % 16 = 13 by omega)
    have n14 : (k % 16 == 14) = true := by simpa using (show k % 16 = 14 by omega)
    clear r
    have HX : Hid (stepS s M G i = (((2, 0, k / 16, 0, 0) : Sp), 1, i + 1)) := hid (HSS.out.trans hSS)
    clear hSS HSS
    go_enter Tryz.func55, Tryz.ntmps55
    go_upto_region 1 with (fail)
    generalize ((w.alloc (.cells #[.int .i64 P, .int .i64 M, .int .i64 G] 24)).alloc (.cells #[.int .u8 0, .int .u8 0, .int .i64 0, .int .i64 0, .int .i64 0] 79)) = W0 at *
    have C0 := hid (NX0.out W0 K0.out.lf)
    go_wp2_with fail
    refine C0.out.mono ?_
    rintro e w1 ⟨rfl, hl, ho⟩
    have K1 := hid (K0.out.next hl ho)
    clear hl ho C0 K0 NX0
    obtain ⟨⟨c0, c1, c2⟩, _⟩ := cells3 K1.out.bc
    have K2 := hid (K1.out.pick #[.int .u8 0, .int .u8 0, .int .i64 (k / 16 % M), .int .i64 0, .int .i64 0])
    have hE := hid (show w1.heap.size ≠ 0 from by have := (Array.getElem?_eq_some_iff.1 K1.out.bc).1; omega)
    go_upto_region 3 with (fail)
    clear c0 c1 c2 K1
    generalize hEE : w1.heap.size = E at *
    generalize w1.alloc (.cells #[.int .u8 0, .int .u8 0, .int .i64 (k / 16 % M), .int .i64 0, .int .i64 0] 79) = w2 at *
    clear hEE
    have FN := hid (K2.out.fin ((2, 0, k / 16, 0, 0) : Sp))
    have SP := hid (StP.mk ((2, 0, k / 16, 0, 0) : Sp) 1 HX.out K2.out)
    unfold ansW at FN SP
    simp only at FN SP
    obtain ⟨⟨a0, a1, a2, a3, a4⟩, f0, f1, f2, f3, f4⟩ := cells5 K2.out.ba
    go_wp2
    obtain ⟨⟨e0, e1, e2, e3, e4⟩, _⟩ := cells5 FN.out.1
    exact bodyPost_ret (by simp [results, Tryz.results55, go_sem, e0, e1, e2, e3, e4]) rfl SP.out
  · rw [if_neg (by omega), if_neg (by omega), if_neg (by omega), if_neg (by omega), if_pos r] at hSS
    have n10 : (k % 16 == 10) = false := by simpa using (show ¬ k % 16 = 10 by omega)
    have n11 : (k % 16 == 11) = false := by simpa using (show ¬ k % 16 = 11 by omega)
    have n12 : (k % 16 == 12) = false := by simpa using (show ¬ k % 16 = 12 by omega)
    have n13 : (k % 16 == 13) = false := by simpa using (show ¬ k % 16 = 13 by omega)
    have n14 : (k % 16 == 14) = false := by simpa using (show ¬ k % 16 = 14 by omega)
    have n15 : (k % 16 == 15) = true := by simpa using (show k % 16 = 15 by omega)
    clear r
    have HX : Hid (stepS s M G i = (((0, 0, k / 16 % M, 0, 0) : Sp), a % 64, i + 2)) := hid (HSS.out.trans hSS)
    clear hSS HSS
    go_enter Tryz.func55, Tryz.ntmps55
    go_upto_region 1 with (fail)
    generalize ((w.alloc (.cells #[.int .i64 P, .int .i64 M, .int .i64 G] 24)).alloc (.cells #[.int .u8 0, .int .u8 0, .int .i64 0, .int .i64 0, .int .i64 0] 79)) = W0 at *
    have C0 := hid (NX0.out W0 K0.out.lf)
    go_wp2_with fail
    refine C0.out.mono ?_
    rintro e w1 ⟨rfl, hl, ho⟩
    have K1 := hid (K0.out.next hl ho)
    clear hl ho C0 K0 NX0
    obtain ⟨⟨c0, c1, c2⟩, _⟩ := cells3 K1.out.bc
    have K2 := hid (K1.out.pick #[.int .u8 0, .int .u8 0, .int .i64 (k / 16 % M), .int .i64 0, .int .i64 0])
    have hE := hid (show w1.heap.size ≠ 0 from by have := (Array.getElem?_eq_some_iff.1 K1.out.bc).1; omega)
    go_upto_region 3 with (fail)
    clear c0 c1 c2 K1
    generalize hEE : w1.heap.size = E at *
    generalize w1.alloc (.cells #[.int .u8 0, .int .u8 0, .int .i64 (k / 16 % M), .int .i64 0, .int .i64 0] 79) = w2 at *
    clear hEE
    go_upto_region 16 with (fail)
    have K3 := hid K2.out.drew
    have C1 := hid (NX1.out w2.drew K3.out.lf)
    have S3 := hid (cells5 (K3.out.be hE.out)).1
    have ht : a.tmod 64 = a % 64 := Int.tmod_eq_emod_of_nonneg (by omega)
    have a64 : 0 ≤ a % 64 ∧ a % 64 ≤ 63 := by omega
    clear K2
    go_region_held3 (fun y => y.cell? ⟨E, 0, none⟩ = some (.int .u8 0) ∧ y.cell? ⟨E, 1, none⟩ = some (.int .u8 0) ∧ y.cell? ⟨E, 2, none⟩ = some (.int .i64 (k / 16 % M)) ∧ y.cell? ⟨E, 3, none⟩ = some (.int .i64 0) ∧ y.cell? ⟨E, 4, none⟩ = some (.int .i64 0))
      (first
        | ((try dsimp only); with_reducible exact S3.out)
        | ((try dsimp only); with_reducible exact S4.out)
        | ((try dsimp only); with_reducible exact S5.out))
      (first
        | (go_at_call 88; (with_reducible refine C1.out.mono ?_); rintro e y ⟨rfl, hl, ho⟩; have K4 := hid (K3.out.next hl ho); obtain ⟨⟨b0, b1, b2, b3, b4⟩, g0, g1, g2, g3, g4⟩ := cells5 (K4.out.be hE.out); obtain ⟨⟨a0, a1, a2, a3, a4⟩, f0, f1, f2, f3, f4⟩ := cells5 K4.out.ba; have S4 := hid (cells5 (K4.out.be hE.out)).1; have FE := K4.out.finE hE.out ((0, 0, k / 16 % M, 0, 0) : Sp); unfold ansW at FE; simp only at FE; have S5 := hid (cells5 FE).1; clear FE hl ho))
    clear S3 S4 S5 b0 b1 b2 b3 b4 g0 g1 g2 g3 g4
    have FN := hid (K4.out.fin ((0, 0, k / 16 % M, 0, 0) : Sp))
    have SP := hid (StP.mk ((0, 0, k / 16 % M, 0, 0) : Sp) (a % 64) HX.out K4.out)
    unfold ansW at FN SP
    simp only at FN SP
    go_wp2
    obtain ⟨⟨e0, e1, e2, e3, e4⟩, _⟩ := cells5 FN.out.1
    exact bodyPost_ret (by simp [results, Tryz.results55, go_sem, e0, e1, e2, e3, e4]) rfl SP.out
  · rw [if_neg (by omega), if_neg (by omega), if_neg (by omega), if_neg (by omega), if_neg (by omega)] at hSS
    have n10 : (k % 16 == 10) = false := by simpa using (show ¬ k % 16 = 10 by omega)
    have n11 : (k % 16 == 11) = false := by simpa using (show ¬ k % 16 = 11 by omega)
    have n12 : (k % 16 == 12) = false := by simpa using (show ¬ k % 16 = 12 by omega)
    have n13 : (k % 16 == 13) = false := by simpa using (show ¬ k % 16 = 13 by omega)
    have n14 : (k % 16 == 14) = false := by simpa using (show ¬ k % 16 = 14 by omega)
    have n15 : (k % 16 == 15) = false := by simpa using (show ¬ k % 16 = 15 by omega)
    clear r1 r2 r3 r4 r5 r6
    have HX : Hid (stepS s M G i = (((0, 0, k / 16 % M, 0, 0) : Sp), 1, i + 1)) := hid (HSS.out.trans hSS)
    clear hSS HSS
    go_enter Tryz.func55, Tryz.ntmps55
    go_upto_region 1 with (fail)
    generalize ((w.alloc (.cells #[.int .i64 P, .int .i64 M, .int .i64 G] 24)).alloc (.cells #[.int .u8 0, .int .u8 0, .int .i64 0, .int .i64 0, .int .i64 0] 79)) = W0 at *
    have C0 := hid (NX0.out W0 K0.out.lf)
    go_wp2_with fail
    refine C0.out.mono ?_
    rintro e w1 ⟨rfl, hl, ho⟩
    have K1 := hid (K0.out.next hl ho)
    clear hl ho C0 K0 NX0
    obtain ⟨⟨c0, c1, c2⟩, _⟩ := cells3 K1.out.bc
    have K2 := hid (K1.out.pick #[.int .u8 0, .int .u8 0, .int .i64 (k / 16 % M), .int .i64 0, .int .i64 0])
    have hE := hid (show w1.heap.size ≠ 0 from by have := (Array.getElem?_eq_some_iff.1 K1.out.bc).1; omega)
    go_upto_region 3 with (fail)
    clear c0 c1 c2 K1
    generalize hEE : w1.heap.size = E at *
    generalize w1.alloc (.cells #[.int .u8 0, .int .u8 0, .int .i64 (k / 16 % M), .int .i64 0, .int .i64 0] 79) = w2 at *
    clear hEE
    have FN := hid (K2.out.fin ((0, 0, k / 16 % M, 0, 0) : Sp))
    have SP := hid (StP.mk ((0, 0, k / 16 % M, 0, 0) : Sp) 1 HX.out K2.out)
    unfold ansW at FN SP
    simp only at FN SP
    obtain ⟨⟨a0, a1, a2, a3, a4⟩, f0, f1, f2, f3, f4⟩ := cells5 K2.out.ba
    obtain ⟨⟨b0, b1, b2, b3, b4⟩, _⟩ := cells5 (K2.out.be hE.out)
    go_wp2
    obtain ⟨⟨e0, e1, e2, e3, e4⟩, _⟩ := cells5 FN.out.1
    exact bodyPost_ret (by simp [results, Tryz.results55, go_sem, e0, e1, e2, e3, e4]) rfl SP.out
end Go.Proofs.YtfpkgkjmpcoppaaGreatDoor
/-! Rows of steps: a script's rounds as memory. -/
namespace Go.Proofs.YtfpkgkjmpcoppaaGreatDoor
open Go.RowKit
set_option linter.unusedVariables false
set_option linter.unusedSimpArgs false
set_option maxRecDepth 20000
/-- A step's cells. -/
def stc (x : Sp) : List Value := [.int .u8 x.1, .int .u8 x.2.1, .int .i64 x.2.2.1, .int .i64 x.2.2.2.1, .int .i64 x.2.2.2.2]
def ft (l : List Sp) : List Value := l.flatMap stc
theorem ft_cons (e : Sp) (es : List Sp) : ft (e :: es) = .int .u8 e.1 :: .int .u8 e.2.1 :: .int .i64 e.2.2.1 :: .int .i64 e.2.2.2.1 :: .int .i64 e.2.2.2.2 :: ft es := by simp [ft, stc]
theorem ft_len : ∀ es : List Sp, (ft es).length = es.length * 5
  | [] => rfl
  | e :: es => by rw [ft_cons]; simp [ft_len es]; omega
theorem ft_app (xs ys : List Sp) : ft (xs ++ ys) = ft xs ++ ft ys := by simp [ft]
def spAt (es : List Sp) (i : Nat) : Sp := es.getD i (0, 0, 0, 0, 0)
theorem ft_get : ∀ (es : List Sp) (i : Nat), i < es.length →
    (ft es)[i * 5]? = some (.int .u8 (spAt es i).1) ∧ (ft es)[i * 5 + 1]? = some (.int .u8 (spAt es i).2.1) ∧ (ft es)[i * 5 + 2]? = some (.int .i64 (spAt es i).2.2.1) ∧ (ft es)[i * 5 + 3]? = some (.int .i64 (spAt es i).2.2.2.1) ∧ (ft es)[i * 5 + 4]? = some (.int .i64 (spAt es i).2.2.2.2)
  | [], i, h => by simp at h
  | e :: es, 0, _ => by rw [ft_cons]; simp [spAt]
  | e :: es, i + 1, h => by
    have := ft_get es i (by simpa using h)
    rw [ft_cons]
    simp only [show (i + 1) * 5 = i * 5 + 1 + 1 + 1 + 1 + 1 by omega, List.getElem?_cons_succ]
    simpa [spAt] using this
theorem ft_ones (es : List Sp) : ∀ u ∈ ft es, u.oneCell' = true := by
  intro u hu
  obtain ⟨e, _, he⟩ := List.mem_flatMap.1 hu
  simp [stc] at he
  rcases he with rfl | rfl | rfl | rfl | rfl <;> rfl
/-- A slice of five cells each that reads as steps. -/
def RdS (w : World) (v : Value) (es : List Sp) : Prop :=
  ∃ a c, v = .slice a es.length c ∧ es.length ≤ c ∧ c ≤ maxLen ∧ (0 < es.length → ∃ g off, a = some ⟨g, off, none⟩ ∧ g < w.heap.size ∧ ∀ i, i < es.length →
    w.cell? ⟨g, off + i * 5, none⟩ = some (.int .u8 (spAt es i).1) ∧ w.cell? ⟨g, off + i * 5 + 1, none⟩ = some (.int .u8 (spAt es i).2.1) ∧ w.cell? ⟨g, off + i * 5 + 2, none⟩ = some (.int .i64 (spAt es i).2.2.1) ∧ w.cell? ⟨g, off + i * 5 + 3, none⟩ = some (.int .i64 (spAt es i).2.2.2.1) ∧ w.cell? ⟨g, off + i * 5 + 4, none⟩ = some (.int .i64 (spAt es i).2.2.2.2))
theorem RdS.below {w w' : World} {v : Value} {es : List Sp} (h : RdS w v es) (hb : Below w.heap.size w w') : RdS w' v es := by
  obtain ⟨a, c, h1, h2, h3, h4⟩ := h
  refine ⟨a, c, h1, h2, h3, fun h0 => ?_⟩
  obtain ⟨g, off, e, hg, hc⟩ := h4 h0
  have hs := hb.size
  refine ⟨g, off, e, by omega, fun i hi => ?_⟩
  obtain ⟨q0, q1, q2, q3, q4⟩ := hc i hi
  exact ⟨(hb.cell (p := ⟨g, _, none⟩) hg).trans q0, (hb.cell (p := ⟨g, _, none⟩) hg).trans q1, (hb.cell (p := ⟨g, _, none⟩) hg).trans q2, (hb.cell (p := ⟨g, _, none⟩) hg).trans q3, (hb.cell (p := ⟨g, _, none⟩) hg).trans q4⟩
theorem own_rdS {w : World} {base : Nat} {t : TypeId} {v : Value} {es : List Sp} (h : w.ownsRow base t 5 v es.length (ft es)) : RdS w v es := by
  obtain ⟨h0, ⟨h1, h2⟩ | ⟨q, cap, cur, h1, h2, h3, h4, h5, h6, h7⟩⟩ := id h
  · exact ⟨none, 0, by rw [h1, h2], by omega, by simp, fun h => by omega⟩
  · refine ⟨_, cap, h1, h4, h5, fun hn => ⟨q, 0, rfl, by obtain ⟨hl, _⟩ := Array.getElem?_eq_some_iff.1 h3; exact hl, fun i hi => ?_⟩⟩
    subst h1
    obtain ⟨k0, k1, k2, k3, k4⟩ := ft_get es i hi
    have k := fun j => h.cellAt (g := q) (cap := cap) j
    have hl := ft_len es
    simp only [Nat.zero_add]
    exact ⟨(k _ (by omega)).trans k0, (k _ (by omega)).trans k1, (k _ (by omega)).trans k2, (k _ (by omega)).trans k3, (k _ (by omega)).trans k4⟩
theorem own_sliceS {w : World} {base sz n : Nat} {t : TypeId} {v : Value} {xs : List Value} (h : w.ownsRow base t sz v n xs) : ∃ a c, v = .slice a n c := by
  obtain ⟨h0, ⟨h1, h2⟩ | ⟨g, cap, cur, h1, _⟩⟩ := h
  · exact ⟨none, 0, by rw [h1, h2]⟩
  · exact ⟨_, _, h1⟩
theorem news_st (w : World) (x : Sp) (t : TypeId) : ∀ j u, (ft [x])[j]? = some u → (w.alloc (.cells #[.int .u8 x.1, .int .u8 x.2.1, .int .i64 x.2.2.1, .int .i64 x.2.2.2.1, .int .i64 x.2.2.2.2] t)).cell? ((⟨w.heap.size, 0, none⟩ : Addr).add j) = some u := by
  intro j u hj
  have hn := heap_alloc_new w (.cells #[.int .u8 x.1, .int .u8 x.2.1, .int .i64 x.2.2.1, .int .i64 x.2.2.2.1, .int .i64 x.2.2.2.2] t)
  rw [Addr.add_lit, Nat.zero_add]
  simp only [World.cell?, hn]
  match j, hj with
  | 0, hj => simp [ft, stc] at hj; subst hj; rfl
  | 1, hj => simp [ft, stc] at hj; subst hj; rfl
  | 2, hj => simp [ft, stc] at hj; subst hj; rfl
  | 3, hj => simp [ft, stc] at hj; subst hj; rfl
  | 4, hj => simp [ft, stc] at hj; subst hj; rfl
  | n + 5, hj => simp [ft, stc] at hj
/-- A script's rounds: its boxes, and the steps so far. -/
structure Pz (w0 : World) (p g off cb base : Nat) (s : ByteArray) (P M G : Int) (i : Nat) (L : List Sp) (v : Value) (w : World) : Prop where
  lf : Lf w p g off s i
  cf : w.heap[cb]? = some (.cells #[.int .i64 P, .int .i64 M, .int .i64 G] 24 (0, 0))
  rb : w.heap[w0.heap.size]? = some (.cells #[.int .i64 0, .int .i64 0, .int .i64 0] 24 (0, 0))
  ow : w.ownsRow base 79 5 v L.length (ft L)
  bl : Below w0.heap.size w0 w
  hp : p = w0.heap.size + 1
  hc : p < cb
  hb : cb < base
  bs : base ≤ w.heap.size
  gl : 0 < s.size → g < w0.heap.size
section
variable {w0 w w' : World} {p g off cb base : Nat} {s : ByteArray} {P M G : Int} {i : Nat} {L : List Sp} {v : Value}
theorem Pz.size (h : Pz w0 p g off cb base s P M G i L v w) : w0.heap.size ≤ w.heap.size := by have := h.hp; have := h.hc; have := h.hb; have := h.bs; omega
theorem Pz.next (h : Pz w0 p g off cb base s P M G i L v w) {j : Nat} (hl : Lf w' p g off s j) (ho : O1 p w w') : Pz w0 p g off cb base s P M G j L v w' := by
  have h1 := h.hp
  have h2 := h.hc
  have h3 := h.hb
  have h4 := h.bs
  have h5 := ho.size
  exact ⟨hl, (ho.block _ (by omega) (by omega)).trans h.cf, (ho.block _ (by omega) (by omega)).trans h.rb,
    h.ow.kept (row := some p) ⟨ho.os, ho.tape, ho.output, ho.size, fun k hk hn => ho.block k hk (fun e => hn (by rw [e]))⟩ (by
      rcases hv : v.ownBlock with _ | q
      · exact .inl rfl
      · have := (World.ownsRow.lt h.ow q hv).1
        exact .inr (by simp; omega)),
    h.bl.trans (ho.below (by omega) (by omega)), h1, h2, h3, by omega, h.gl⟩
theorem Pz.below (h : Pz w0 p g off cb base s P M G i L v w) (hb : Below w.heap.size w w') : Pz w0 p g off cb base s P M G i L v w' := h.next (h.lf.below hb) (O1.of_below hb)
theorem Pz.grow (h : Pz w0 p g off cb base s P M G i L v w) {L' : List Sp} {v' : Value} (ho : w'.ownsRow base 79 5 v' L'.length (ft L')) (hg : w.grownBy w' v.ownBlock) : Pz w0 p g off cb base s P M G i L' v' w' := by
  have h1 := h.hp
  have h2 := h.hc
  have h3 := h.hb
  have h4 := h.bs
  have h5 := hg.size
  have hv : ∀ k, v.ownBlock = some k → base ≤ k := fun k hk => (World.ownsRow.lt h.ow k hk).1
  have hB : Below base w w' := (Below.refl base w).grown hg (by omega) hv
  obtain ⟨a, c, e1, e2, e3, e4⟩ := h.lf
  have hgl := h.gl
  refine ⟨⟨a, c, (hB.block _ (by omega)).trans e1, e2, e3, fun hi => ?_⟩, (hB.block _ (by omega)).trans h.cf, (hB.block _ (by omega)).trans h.rb, ho, h.bl.trans (hB.mono (by omega)), h1, h2, h3, by omega, h.gl⟩
  obtain ⟨q1, q2, q3, q4⟩ := e4 hi
  have := hgl (by omega)
  exact ⟨q1, q2, by omega, fun j hj => (hB.cell (p := ⟨g, off + j, none⟩) (by simp; omega)).trans (q4 j hj)⟩
/-- .. with the step that is taken again and again. -/
structure Pj (w0 : World) (p g off cb base : Nat) (s : ByteArray) (P M G : Int) (i : Nat) (L : List Sp) (v : Value) (sb : Nat) (x : Sp) (w : World) : Prop where
  z : Pz w0 p g off cb base s P M G i L v w
  bx : w.heap[sb]? = some (.cells #[.int .u8 x.1, .int .u8 x.2.1, .int .i64 x.2.2.1, .int .i64 x.2.2.2.1, .int .i64 x.2.2.2.2] 79 (0, 0))
  ne : v.ownBlock ≠ some sb
theorem Pz.box (h : Pz w0 p g off cb base s P M G i L v w) (x : Sp) : Pj w0 p g off cb base s P M G i L v w.heap.size x (w.alloc (.cells #[.int .u8 x.1, .int .u8 x.2.1, .int .i64 x.2.2.1, .int .i64 x.2.2.2.1, .int .i64 x.2.2.2.2] 79)) :=
  ⟨h.below ((Below.refl _ _).alloc (Nat.le_refl _) _), heap_alloc_new _ _, fun e => by have := (World.ownsRow.lt h.ow _ e).2; omega⟩
theorem Pj.alloc {sb : Nat} {x : Sp} (h : Pj w0 p g off cb base s P M G i L v sb x w) (o : Obj) : Pj w0 p g off cb base s P M G i L v sb x (w.alloc o) := by
  have hb : Below w.heap.size w (w.alloc o) := (Below.refl _ _).alloc (Nat.le_refl _) o
  exact ⟨h.z.below hb, (hb.block _ (Array.getElem?_eq_some_iff.1 h.bx).1).trans h.bx, h.ne⟩
theorem Pj.grow {sb : Nat} {x : Sp} (h : Pj w0 p g off cb base s P M G i L v sb x w) {L' : List Sp} {v' : Value} (ho : w'.ownsRow base 79 5 v' L'.length (ft L')) (hg : w.grownBy w' v.ownBlock) (hx : v'.ownBlock = v.ownBlock ∨ v'.ownBlock = some w.heap.size) : Pj w0 p g off cb base s P M G i L' v' sb x w' := by
  have hl := (Array.getElem?_eq_some_iff.1 h.bx).1
  refine ⟨h.z.grow ho hg, (hg.block _ hl (fun e => h.ne e.symm)).trans h.bx, ?_⟩
  rcases hx with e | e
  · rw [e]; exact h.ne
  · rw [e]; simp; omega
end
/-- How much is left to read. -/
def leftN (p : Nat) (w : World) : Nat := match w.cell? ⟨p, 0, none⟩ with
  | some (.slice _ n _) => n
  | _ => 0
theorem Lf.left {w : World} {p g off i : Nat} {s : ByteArray} (h : Lf w p g off s i) : leftN p w = s.size - i ∧ ∃ a c, w.cell? ⟨p, 0, none⟩ = some (.slice a (s.size - i) c) ∧ w.frozen? ⟨p, 0, none⟩ = false := by
  obtain ⟨a, c, h1, _⟩ := h
  have hc : w.cell? ⟨p, 0, none⟩ = some (.slice a (s.size - i) c) := by simp [World.cell?, h1]
  exact ⟨by unfold leftN; rw [hc], a, c, hc, by simp [World.frozen?, h1]⟩
theorem infoSt : (Tryz.prog.info? 79).map (fun i => (i.zero, i.size, i.bytes)) = some (some (.agg #[.int .u8 0, .int .u8 0, .int .i64 0, .int .i64 0, .int .i64 0]), 5, 32) := by kernel_rfl
end Go.Proofs.YtfpkgkjmpcoppaaGreatDoor
/-! script.Parse: it ends, and what it answers. -/
namespace Go.Proofs.YtfpkgkjmpcoppaaGreatDoor
open Go.RowKit
set_option linter.unusedVariables false
set_option linter.unusedSimpArgs false
set_option maxRecDepth 20000
/-- What a script reads as. -/
def SpP (w : World) (s : ByteArray) (e : Ending) (w' : World) : Prop :=
  ∃ n v, EndS s (cfM s) (cfG s) n ∧ e = .returned (.tuple #[.agg #[.int .i64 (cfP s), .int .i64 (cfM s), .int .i64 (cfG s)], v]) ∧ RdS w' v (goS s (cfM s) (cfG s) n).2 ∧ Below w.heap.size w w'
theorem SpP.mk {w w1 : World} {p g off cb base i n : Nat} {s : ByteArray} {L : List Sp} {v : Value} (h : Pz w p g off cb base s (cfP s) (cfM s) (cfG s) i L v w1) (hn : EndS s (cfM s) (cfG s) n) (hg : goS s (cfM s) (cfG s) n = (i, L)) :
    (((w1.setCell ⟨w.heap.size, 0, none⟩ (.int .i64 (cfP s))).setCell ⟨w.heap.size, 1, none⟩ (.int .i64 (cfM s))).setCell ⟨w.heap.size, 2, none⟩ (.int .i64 (cfG s))).heap[w.heap.size]? = some (.cells #[.int .i64 (cfP s), .int .i64 (cfM s), .int .i64 (cfG s)] 24 (0, 0)) ∧
    SpP w s (.returned (.tuple #[.agg #[.int .i64 (cfP s), .int .i64 (cfM s), .int .i64 (cfG s)], v])) (((w1.setCell ⟨w.heap.size, 0, none⟩ (.int .i64 (cfP s))).setCell ⟨w.heap.size, 1, none⟩ (.int .i64 (cfM s))).setCell ⟨w.heap.size, 2, none⟩ (.int .i64 (cfG s))) := by
  have h1 := h.hp
  have h2 := h.hc
  have h3 := h.hb
  have e0 := heap_setCell_same w1 _ 0 _ _ (.int .i64 (cfP s)) h.rb
  have e1 := heap_setCell_same _ _ 1 _ _ (.int .i64 (cfM s)) e0
  have e2 := heap_setCell_same _ _ 2 _ _ (.int .i64 (cfG s)) e1
  simp only [List.setIfInBounds_toArray, List.set_cons_succ, List.set_cons_zero] at e2
  have ho : ∀ (j : Nat) (x : Value) (y : World), O1 w.heap.size y (y.setCell ⟨w.heap.size, j, none⟩ x) := fun j x y => ⟨rfl, rfl, rfl, by simp [World.setCell], fun k hk hn => heap_setCell_other y _ _ _ (by simpa using hn)⟩
  have hO := ((ho 0 (.int .i64 (cfP s)) w1).trans (ho 1 (.int .i64 (cfM s)) _)).trans (ho 2 (.int .i64 (cfG s)) _)
  refine ⟨e2, n, v, hn, rfl, ?_, h.bl.trans (hO.below (Nat.le_refl _) h.size)⟩
  rw [hg]
  refine own_rdS (base := base) (t := 79) ?_
  exact h.ow.kept (row := some w.heap.size) ⟨hO.os, hO.tape, hO.output, hO.size, fun k hk hn => hO.block k hk (fun e => hn (by rw [e]))⟩ (by
    rcases hv : v.ownBlock with _ | q
    · exact .inl rfl
    · have := (World.ownsRow.lt h.ow q hv).1
      exact .inr (by simp; omega))
theorem goS_succ {s : ByteArray} {M G : Int} {n i : Nat} {L : List Sp} (h : goS s M G n = (i, L)) : goS s M G (n + 1) = ((stepS s M G i).2.2, L ++ List.replicate (min (stepS s M G i).2.1.toNat (2000 - L.length)) (stepS s M G i).1) := by
  simp only [goS, h]
set_option maxHeartbeats 16000000 in
theorem sparse (w : World) (g off : Nat) (s : ByteArray) (a : Option Addr) (c : Nat) (h1 : s.size ≤ c) (h2 : c ≤ maxLen) (h : 0 < s.size → a = some ⟨g, off, none⟩ ∧ g < w.heap.size ∧ Lib.Bytes w g off s) (hs : s.size ≤ 100000) : Calls Tryz.prog 24 #[.slice a s.size c] w (SpP w s) := by
  have A0 := atB_rng s 0
  have A1 := atB_rng s 1
  have A2 := atB_rng s 2
  have hP1 : 1 ≤ cfP s := by unfold cfP; omega
  have hM1 : 1 ≤ cfM s := by unfold cfM cfP; omega
  have hG1 : 1 ≤ cfG s := by unfold cfG; omega
  have hb0 : Below w.heap.size w ((w.alloc (.cells #[.int .i64 0, .int .i64 0, .int .i64 0] 24)).alloc (.cells #[.slice a s.size c] 111)) := ((Below.refl _ _).alloc (Nat.le_refl _) _).alloc (by simp) _
  have LF := hid (show Lf ((w.alloc (.cells #[.int .i64 0, .int .i64 0, .int .i64 0] 24)).alloc (.cells #[.slice a s.size c] 111)) (w.heap.size + 1) g off s 0 from
    ⟨a, c, by have := heap_alloc_new (w.alloc (.cells #[.int .i64 0, .int .i64 0, .int .i64 0] 24)) (.cells #[.slice a s.size c] 111); rw [World.size_alloc] at this; exact this, by omega, h2, fun hi => ⟨(h hi).1, by have := (h hi).2.1; omega, by simp; have := (h hi).2.1; omega, fun j hj => (hb0.cell (p := ⟨g, off + j, none⟩) (h hi).2.1).trans ((h hi).2.2 j hj)⟩⟩)
  have RB := hid (show ((w.alloc (.cells #[.int .i64 0, .int .i64 0, .int .i64 0] 24)).alloc (.cells #[.slice a s.size c] 111)).heap[w.heap.size]? = some (.cells #[.int .i64 0, .int .i64 0, .int .i64 0] 24 (0, 0)) by rw [Below.heap_alloc _ _ _ (by simp)]; exact heap_alloc_new _ _)
  have HB := hid hb0
  have HSZ := hid (show ((w.alloc (.cells #[.int .i64 0, .int .i64 0, .int .i64 0] 24)).alloc (.cells #[.slice a s.size c] 111)).heap.size = w.heap.size + 2 by simp)
  have CF := hid (sconfig _ _ _ _ _ LF.out hs)
  have GL := hid (fun hi => (h hi).2.1)
  have MK := hid (fun (i n : Nat) (cb base : Nat) (L : List Sp) (v : Value) (w1 : World) (h : Pz w (w.heap.size + 1) g off cb base s (cfP s) (cfM s) (cfG s) i L v w1) hn hg => SpP.mk (n := n) h hn hg)
  have ST := hid (fun w1 i (h : Lf w1 (w.heap.size + 1) g off s i) (hg : 0 < s.size → g < w1.heap.size) => sstep w1 (w.heap.size + 1) g off s i (cfP s) (cfM s) (cfG s) h hg hs hM1 hG1)
  clear h hb0
  generalize hP : cfP s = P at *
  generalize hM : cfM s = M at *
  generalize hG : cfG s = G at *
  have HPM := hid (And.intro hP (And.intro hM hG))
  clear hP hM hG A0 A1 A2
  obtain ⟨i0, hi, hz0, hz1, hz2⟩ := info_parts infoSt
  have HI := hid (And.intro hi (And.intro hz0 (And.intro hz1 hz2)))
  clear hi hz0 hz1 hz2
  go_enter Tryz.func24, Tryz.ntmps24
  go_upto_region 2 with (fail)
  generalize ((w.alloc (.cells #[.int .i64 0, .int .i64 0, .int .i64 0] 24)).alloc (.cells #[.slice a s.size c] 111)) = W0 at *
  go_wp2_with fail
  refine CF.out.mono ?_
  rintro e w2 ⟨rfl, hl, ho⟩
  have Z0 := hid (show Pz w (w.heap.size + 1) g off w2.heap.size (w2.heap.size + 1) s P M G 3 [] (.slice none 0 0) (w2.alloc (.cells #[.int .i64 P, .int .i64 M, .int .i64 G] 24)) from by
    have hz := HSZ.out
    have ho5 := ho.size
    refine ⟨hl.below ((Below.refl _ _).alloc (Nat.le_refl _) _), heap_alloc_new _ _, ?_, World.ownsRow_nil _ _ _ _, (HB.out.trans (ho.below (by omega) (by omega))).alloc (by omega) _, rfl, by omega, by omega, by simp, GL.out⟩
    rw [Below.heap_alloc _ _ _ (by omega), ho.block _ (by omega) (by omega)]
    exact RB.out)
  clear hl ho CF LF RB HB
  generalize hcb : w2.heap.size = cb at *
  generalize hw3 : w2.alloc (.cells #[.int .i64 P, .int .i64 M, .int .i64 G] 24) = w3 at *
  have HW3 := hid hw3
  have HCB := hid hcb
  clear hw3 hcb
  go_wp2_with fail
  rw [HCB.out, HW3.out]
  go_loopw [6] (fun v6 wr => ∃ (n i : Nat) (L : List Sp) (a3 : Option Addr) (m c3 : Nat), .slice a3 m c3 = v6 ∧ Hid (L.length = m) ∧ Hid (goS s M G n = (i, L)) ∧ Hid (∀ j, j < n → onS s (goS s M G j)) ∧ Hid (Pz w (w.heap.size + 1) g off cb (cb + 1) s P M G i L (.slice a3 m c3) wr)) (fun _ wr => leftN (w.heap.size + 1) wr)
  case atStart => exact ⟨0, 3, [], none, 0, 0, rfl, hid rfl, hid rfl, hid (fun j hj => by omega), Z0⟩
  case round =>
    obtain ⟨n, i, L, a3, m, c3, rfl, LN, GO, ON, Z⟩ := hrel
    obtain ⟨lf0, a1, c1, q1, qf⟩ := Z.out.lf.left
    have HLF := hid lf0
    obtain ⟨⟨k0, k1, k2⟩, _⟩ := cells3 Z.out.cf
    have LE := goS_len s M G n
    rw [GO.out] at LE
    simp only [LN.out] at LE
    have hm63 : (m : Int) ≤ 2000 := by omega
    have hm0 : (0 : Int) ≤ m := by omega
    clear lf0
    by_cases hon : i < s.size ∧ m < 2000
    · obtain ⟨hi, hm2⟩ := hon
      have hm3 : (m : Int) < 2000 := by omega
      have hl0 : (0 : Int) < ((s.size - i : Nat) : Int) := by omega
      have HI1 := hid hi
      have STC : Calls Tryz.prog 55 #[.pointer (some ⟨w.heap.size + 1, 0, none⟩), .agg #[.int .i64 P, .int .i64 M, .int .i64 G]] wr (StP (w.heap.size + 1) g off s M G i wr) := ST.out wr i Z.out.lf (fun h => by have := GL.out h; have := Z.out.size; omega)
      have GS := goS_succ GO.out
      have TM := stepS_times s M G i
      have NX := (stepS_next s M G i).1
      unfold StP spV at STC
      rcases hst : stepS s M G i with ⟨⟨x0, x1, x2, x3, x4⟩, t, j⟩
      rw [hst] at STC GS TM NX
      simp only at STC GS TM NX
      have STC := hid STC
      have GS := hid GS
      clear hst
      generalize s.size - i = ln at q1 hl0
      obtain ⟨T, hT⟩ : ∃ T : Nat, T = min t.toNat (2000 - m) := ⟨_, rfl⟩
      have HT := hid hT
      have hw : IntKind.i64.wrap (2000 - (m : Int)) = 2000 - m := by
        have hb : IntKind.i64.bits = 64 := rfl
        have hs : IntKind.i64.signed = true := rfl
        simp [IntKind.wrap, hb, hs]; split <;> omega
      have hmin : min t (2000 - (m : Int)) = (T : Int) := by omega
      have hT0 : T ≤ 2000 - m := by omega
      have HJ0 := hid hi
      clear hT
      go_wp2_with fail
      refine STC.out.mono ?_
      rintro e w4 ⟨rfl, hl, ho⟩
      have Z4 := hid (Z.out.next hl ho)
      have J := hid (Z4.out.box (x0, x1, x2, x3, x4))
      simp only at J
      clear hl ho STC k0 k1 k2 q1
      go_upto_region 6 with (fail)
      generalize hsb : w4.heap.size = sb at *
      generalize hw5 : w4.alloc (.cells #[.int .u8 x0, .int .u8 x1, .int .i64 x2, .int .i64 x3, .int .i64 x4] 79) = w5 at *
      clear hsb hw5 Z4
      go_wp2_with fail
      go_loopw [6, 36] (fun v6 v36 wr => ∃ (k mm : Nat) (a4 : Option Addr) (c4 : Nat), k ≤ T ∧ Hid (mm = m + k) ∧ .slice a4 mm c4 = v6 ∧ v36 = .int .i64 k ∧ Hid ((L ++ List.replicate k (x0, x1, x2, x3, x4)).length = mm) ∧ Hid (Pj w (w.heap.size + 1) g off cb (cb + 1) s P M G j (L ++ List.replicate k (x0, x1, x2, x3, x4)) (.slice a4 mm c4) sb (x0, x1, x2, x3, x4) wr)) (fun _ v36 _ => T - (intOf v36).toNat)
      case atStart => exact ⟨0, m, a3, c3, Nat.zero_le _, hid rfl, rfl, rfl, hid (by simp [LN.out]), hid (by simpa using J.out)⟩
      case round =>
        obtain ⟨k, mm, a4, c4, hk, hmm, rfl, rfl, LK, JK⟩ := hrel
        by_cases hkT : k < T
        · have hk2 : (k : Int) < (T : Int) := by omega
          have hmx : mm + 1 ≤ 2000 := by have := hmm.out; omega
          obtain ⟨⟨b0, b1, b2, b3, b4⟩, _⟩ := cells5 JK.out.bx
          have J2 := hid (JK.out.alloc (.cells #[.int .u8 x0, .int .u8 x1, .int .i64 x2, .int .i64 x3, .int .i64 x4] 79))
          have OW := hid (show (wr.alloc (.cells #[.int .u8 x0, .int .u8 x1, .int .i64 x2, .int .i64 x3, .int .i64 x4] 79)).ownsRow (cb + 1) 79 5 (.slice a4 mm c4) mm (ft (L ++ List.replicate k (x0, x1, x2, x3, x4))) by have h := J2.out.z.ow; rw [LK.out] at h; exact h)
          have NW := hid (news_st wr (x0, x1, x2, x3, x4) 79)
          simp only at NW b0 b1 b2 b3 b4
          clear JK
          go_wp2_with (at_builtin; refine wpList_append_own_at _ rfl _ _ 56 rfl (cb + 1) 79 i0 _ 5 32 Tryz.underlying56 HI.out.1 HI.out.2.1 HI.out.2.2.1 HI.out.2.2.2 rfl (by decide) _ _ _ rfl OW.out ⟨wr.heap.size, 0, none⟩ 1 1 (ft [(x0, x1, x2, x3, x4)]) rfl rfl NW.out (ft_ones _) (by unfold maxLen; omega) (by omega) (by have := J2.out.z.bs; exact this) ?_)
          intro v' w8 hown hgrow _ hxo
          obtain ⟨a', cap', rfl⟩ := own_sliceS hown
          have RP := hid (show L ++ List.replicate (k + 1) ((x0, x1, x2, x3, x4) : Sp) = (L ++ List.replicate k (x0, x1, x2, x3, x4)) ++ [(x0, x1, x2, x3, x4)] by rw [List.replicate_succ', List.append_assoc])
          have LK2 := hid (show (L ++ List.replicate (k + 1) ((x0, x1, x2, x3, x4) : Sp)).length = mm + 1 by rw [RP.out, List.length_append, LK.out]; rfl)
          have J3 := hid (J2.out.grow (L' := L ++ List.replicate (k + 1) (x0, x1, x2, x3, x4)) (v' := .slice a' (mm + 1) cap') (by rw [LK2.out, RP.out, ft_app]; exact hown) hgrow (by simpa using hxo))
          clear hown hgrow hxo J2 OW NW b0 b1 b2 b3 b4
          go_wp2_with fail
          go_roundw
          case rel => exact ⟨k + 1, mm + 1, _, _, by omega, hid (by have := hmm.out; omega), rfl, by go_num, LK2, J3⟩
          case measure => simp [intOf]; omega
        · obtain rfl : k = T := by omega
          go_wp2_with fail
          refine ⟨⟨n + 1, j, L ++ List.replicate k (x0, x1, x2, x3, x4), a4, mm, c4, rfl, LK, hid ?_, hid ?_, hid JK.out.z⟩, ?_⟩
          · rw [GS.out, LN.out, ← HT.out]
          · intro q hq
            rcases Nat.lt_or_ge q n with h | h
            · exact ON.out q h
            · obtain rfl : q = n := by omega
              rw [GO.out]
              exact ⟨HJ0.out, by show L.length < 2000; rw [LN.out]; exact hm2⟩
          · rw [JK.out.z.lf.left.1, HLF.out]
            have := HJ0.out
            omega
    · have EN := hid (show EndS s M G n from ⟨ON.out, by rw [GO.out]; intro h; exact hon ⟨h.1, by have := h.2; simp only [LN.out] at this; exact this⟩⟩)
      obtain ⟨FB, FS⟩ := MK.out i n cb (cb + 1) L _ wr Z.out EN.out GO.out
      obtain ⟨⟨e0, e1, e2⟩, _⟩ := cells3 FB
      obtain ⟨⟨d0, d1, d2⟩, f0, f1, f2⟩ := cells3 Z.out.rb
      have FS := hid FS
      clear FB MK EN
      by_cases hi : i < s.size
      · have hm3 : ¬ (m : Int) < 2000 := by intro h; exact hon ⟨hi, by omega⟩
        have hl0 : (0 : Int) < ((s.size - i : Nat) : Int) := by omega
        generalize s.size - i = ln at q1 hl0
        clear hon
        go_wp2
        exact bodyPost_ret (by simp [results, Tryz.results24, go_sem, e0, e1, e2]) rfl FS.out
      · rw [show s.size - i = 0 by omega] at q1
        clear hon
        go_wp2
        exact bodyPost_ret (by simp [results, Tryz.results24, go_sem, e0, e1, e2]) rfl FS.out
end Go.Proofs.YtfpkgkjmpcoppaaGreatDoor
/-! Bytes that came in, appended to a row of bytes of one's own. -/
namespace Go.Proofs.YtfpkgkjmpcoppaaGreatDoor
open Go.RowKit
set_option linter.unusedVariables false
set_option linter.unusedSimpArgs false
set_option maxRecDepth 20000
def bv (s : ByteArray) : List Value := s.data.toList.map fun x => .int .u8 (x.toNat : Int)
theorem bv_len (s : ByteArray) : (bv s).length = s.size := by simp [bv]
theorem bv_ones (s : ByteArray) : ∀ u ∈ bv s, u.oneCell' = true := by
  intro u hu
  obtain ⟨x, _, rfl⟩ := List.mem_map.1 hu
  rfl
theorem bv_at (s : ByteArray) (j : Nat) (h : j < s.size) : (bv s)[j]? = some (.int .u8 (s[j].toNat : Int)) := by
  unfold bv
  rw [List.getElem?_map, List.getElem?_eq_getElem (by simpa using h)]
  rfl
/-- What is known of the bytes that came in. -/
structure InB (w : World) (a : Option Addr) (len cap : Nat) (s : ByteArray) : Prop where
  size : s.size = len
  lc : len ≤ cap
  cm : cap ≤ maxLen
  at' : (a = none ∧ len = 0 ∧ cap = 0) ∨ ∃ ad, a = some ad ∧ ∀ w', Below w.heap.size w w' → ∀ j u, (bv s)[j]? = some u → w'.cell? (ad.add j) = some u
theorem InB.of {w : World} {a : Option Addr} {len cap : Nat} {zs : List Int} (h : IsRow .u8 w a len cap zs) : ∃ s, InB w a len cap s := by
  have ho := h.open
  rcases id h with ⟨rfl, rfl, rfl, rfl⟩ | ⟨x, rfl, hl, hm, hz, hc, hw⟩
  · exact ⟨ByteArray.empty, rfl, Nat.le_refl _, by unfold maxLen; omega, .inl ⟨rfl, rfl, rfl⟩⟩
  · rcases Nat.eq_zero_or_pos len with h0 | h0
    · subst h0
      exact ⟨⟨#[]⟩, rfl, hl, hm, .inr ⟨x, rfl, fun w' _ j u hj => by simp [bv] at hj⟩⟩
    · obtain ⟨bx, off, he, hlz, hwf, hcl⟩ := ho.resolve_left (by omega)
      simp only [Option.some.injEq] at he
      subst he
      have hts : (zs.take len).length = len := by rw [List.length_take]; omega
      have hd : (strOfNums (zs.take len)).data.toList = (zs.take len).map fun n => UInt8.ofNat n.toNat := by simp [strOfNums]
      have hsz : (strOfNums (zs.take len)).size = len := by rw [Lib.size_eq, hd, List.length_map, hts]
      have hat : ∀ j, j < len → (zs.take len).getD j 0 = zs.getD j 0 := fun j hj => by simp [List.getD, List.getElem?_take_of_lt hj]
      refine ⟨strOfNums (zs.take len), hsz, hl, hm, .inr ⟨_, rfl, fun w' hb j u hj => ?_⟩⟩
      have hjl : j < len := by
        have := (List.getElem?_eq_some_iff.1 hj).1
        rw [bv_len, hsz] at this
        exact this
      rw [Addr.add_lit, hcl w' hb j hjl, ← hj]
      unfold bv
      rw [hd, List.map_map, List.getElem?_map, List.getElem?_take_of_lt hjl]
      have hzl : j < zs.length := by omega
      have hb := bounds_u8 (hwf _ (List.getElem_mem hzl))
      simp [List.getD, List.getElem?_eq_getElem hzl]
      omega
theorem infoB : (Tryz.prog.info? 5).map (fun i => (i.zero, i.size, i.bytes)) = some (some (.int .u8 0), 1, 1) := by kernel_rfl
/-- Append of the bytes that came in. -/
theorem wpList_app_in {w0 w : World} {ops : Array Oper} {rest : List Oper} {o : Oper} {a : Act} {Q : Exit → Act → World → Prop} (hgd : o.guard = none) (s x : Operand)
    (ho : o.op = .call { callee := .builtin .append, args := #[s, x], argTypes := #[55, 55] })
    (base : Nat) (v : Value) (n : Nat) (xs : List Value) (hs : a.eval s = v) (hown : w.ownsRow base 5 1 v n xs)
    {ad : Option Addr} {len cap : Nat} {bs : ByteArray} (I : InB w0 ad len cap bs) (hw : Below w0.heap.size w0 w) (hx : a.eval x = .slice ad len cap)
    (hn : n ≤ 1000) (hl : len ≤ 100000) (hbase : base ≤ w.heap.size)
    (h : ∀ v' w', w'.ownsRow base 5 1 v' (n + len) (xs ++ bv bs) → w.grownBy w' v.ownBlock → (v'.ownBlock = v.ownBlock ∨ v'.ownBlock = some w.heap.size) → wpList Tryz.prog ops Q rest (a.put o.dst v') w') :
    wpList Tryz.prog ops Q (o :: rest) a w := by
  obtain ⟨i0, hi, hz0, hz1, hz2⟩ := info_parts infoB
  have hsz := I.size
  have hbl : (bv bs).length = len := by rw [bv_len, hsz]
  rcases I.at' with ⟨rfl, rfl, rfl⟩ | ⟨ad, rfl, hat⟩
  · have hb0 : bv bs = [] := List.length_eq_zero_iff.1 hbl
    rw [hb0] at h
    exact wpList_append_own_none hgd s x 55 ho base 5 i0 1 Tryz.underlying55 hi v n xs hs hown hx (h v w (by simpa using hown) (.refl _ _) (.inl rfl))
  · exact wpList_append_own_at w hgd s x 55 ho base 5 i0 (.int .u8 0) 1 1 Tryz.underlying55 hi hz0 hz1 hz2 rfl (by decide) v n xs hs hown ad len cap (bv bs) hx (by rw [hbl, Nat.mul_one]) (hat w hw) (bv_ones bs) (by unfold maxLen; omega) (by omega) hbase (fun v' w' h1 h2 _ h3 => h v' w' h1 h2 h3)
theorem own_bytes {w : World} {base : Nat} {t : TypeId} {v : Value} {s : ByteArray} (h : w.ownsRow base t 1 v s.size (bv s)) (h0 : 0 < s.size) :
    ∃ g c, v = .slice (some ⟨g, 0, none⟩) s.size c ∧ Lib.Bytes w g 0 s ∧ g < w.heap.size ∧ s.size ≤ c ∧ c ≤ maxLen := by
  obtain ⟨_, ⟨e, h2⟩ | ⟨g, c, cur, e, h2, h3, h4, h5, h6, h7⟩⟩ := id h
  · omega
  · subst e
    refine ⟨g, c, rfl, fun j hj => ?_, (Array.getElem?_eq_some_iff.1 h3).1, h4, h5⟩
    rw [Nat.zero_add, h.cellAt j (by omega)]
    exact bv_at s j hj
/-- Three bytes ahead of others. -/
def s3 (x y z : Int) : ByteArray := ⟨#[UInt8.ofNat x.toNat, UInt8.ofNat y.toNat, UInt8.ofNat z.toNat]⟩
def s3b (x y z : Int) (s : ByteArray) : ByteArray := ⟨#[UInt8.ofNat x.toNat, UInt8.ofNat y.toNat, UInt8.ofNat z.toNat] ++ s.data⟩
theorem u8_ofNat {x : Int} (h0 : 0 ≤ x) (h1 : x ≤ 255) : (((UInt8.ofNat x.toNat).toNat : Nat) : Int) = x := by
  simp; omega
theorem bv_s3 {x y z : Int} (hx : 0 ≤ x ∧ x ≤ 255) (hy : 0 ≤ y ∧ y ≤ 255) (hz : 0 ≤ z ∧ z ≤ 255) : bv (s3 x y z) = [.int .u8 x, .int .u8 y, .int .u8 z] := by
  unfold bv s3
  simp only [List.map_cons, List.map_nil]
  rw [u8_ofNat hx.1 hx.2, u8_ofNat hy.1 hy.2, u8_ofNat hz.1 hz.2]
theorem bv_s3b {x y z : Int} (s : ByteArray) (hx : 0 ≤ x ∧ x ≤ 255) (hy : 0 ≤ y ∧ y ≤ 255) (hz : 0 ≤ z ∧ z ≤ 255) : bv (s3b x y z s) = [.int .u8 x, .int .u8 y, .int .u8 z] ++ bv s := by
  rw [← bv_s3 hx hy hz]
  unfold bv s3b s3
  simp
theorem s3_size (x y z : Int) : (s3 x y z).size = 3 := rfl
theorem s3b_size (x y z : Int) (s : ByteArray) : (s3b x y z s).size = 3 + s.size := by
  show (#[UInt8.ofNat x.toNat, UInt8.ofNat y.toNat, UInt8.ofNat z.toNat] ++ s.data).size = _
  rw [Array.size_append]; rfl
theorem atB_s3 (x y z : Int) (s : ByteArray) (i : Nat) (hi : i < 3) : atB (s3b x y z s) i = atB (s3 x y z) i := by
  have h1 : i < (s3 x y z).size := hi
  have h2 : i < (s3b x y z s).size := by rw [s3b_size]; omega
  rw [atB_in h1, atB_in h2]
  have e : (s3b x y z s)[i] = (s3 x y z)[i] := Array.getElem_append_left hi
  rw [e]
theorem cf_s3 (x y z : Int) (s : ByteArray) : cfP (s3b x y z s) = cfP (s3 x y z) ∧ cfM (s3b x y z s) = cfM (s3 x y z) ∧ cfG (s3b x y z s) = cfG (s3 x y z) := by
  unfold cfM cfG cfP
  rw [atB_s3 x y z s 0 (by omega), atB_s3 x y z s 1 (by omega), atB_s3 x y z s 2 (by omega)]
  exact ⟨rfl, rfl, rfl⟩
end Go.Proofs.YtfpkgkjmpcoppaaGreatDoor
