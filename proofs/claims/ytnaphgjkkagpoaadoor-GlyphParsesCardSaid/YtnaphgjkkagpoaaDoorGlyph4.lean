/- Glyphs: how many runes a text has, and its first ones. -/
import Derived.Test.YtnaphgjkkagpoaaDoorGlyph2
import Derived.Lib.OthersKept
import Derived.Lib.RuneCount
import Derived.Lib.Explode
namespace Go.Proofs.YtnaphgjkkagpoaaDoor
set_option linter.unusedVariables false
set_option linter.unusedSimpArgs false
open Go.RowKit

/-- Where the rune behind n runes begins. -/
def ps (s : ByteArray) : Nat → Nat
  | 0 => 0
  | n + 1 => if ps s n < s.size then ps s n + (Utf8.decode s (ps s n)).2 else ps s n
theorem ps_succ {s : ByteArray} {n : Nat} (h : ps s n < s.size) : ps s (n + 1) = ps s n + (Utf8.decode s (ps s n)).2 := by
  show (if ps s n < s.size then _ else _) = _
  rw [if_pos h]
theorem ps_ge {s : ByteArray} : ∀ n, (∀ m, m < n → ps s m < s.size) → n ≤ ps s n
  | 0, _ => Nat.zero_le _
  | n + 1, h => by
    have ih := ps_ge n (fun m hm => h m (by omega))
    have h1 := h n (by omega)
    have := Lib.decode_width_pos s (ps s n) h1
    rw [ps_succ h1]; omega
/-- So many runes it has. -/
def IsCnt (s : ByteArray) (N : Nat) : Prop := (∀ m, m < N → ps s m < s.size) ∧ ¬ ps s N < s.size
theorem IsCnt.le {s : ByteArray} {N : Nat} (h : IsCnt s N) : N ≤ s.size := by
  rcases Nat.eq_zero_or_pos N with h0 | h0
  · omega
  · have h1 := h.1 (N - 1) (by omega)
    have h2 := ps_ge (N - 1) (fun m hm => h.1 m (by omega))
    omega
theorem cnt_ex (s : ByteArray) : ∃ N, IsCnt s N := by
  have go : ∀ n, (∃ N, IsCnt s N) ∨ ∀ m, m < n → ps s m < s.size := by
    intro n
    induction n with
    | zero => exact .inr (fun m hm => by omega)
    | succ n ih =>
      rcases ih with h | h
      · exact .inl h
      · by_cases hx : ps s n < s.size
        · exact .inr fun m hm => by
            by_cases hmn : m = n
            · rw [hmn]; exact hx
            · exact h m (by omega)
        · exact .inl ⟨n, h, hx⟩
  rcases go (s.size + 1) with h | h
  · exact h
  · have h1 := h s.size (by omega)
    have h2 := ps_ge s.size (fun m hm => h m (by omega))
    omega
/-- An iterator of s stands behind n runes. -/
structure It (w0 : World) (K : Nat) (s : ByteArray) (n : Nat) (w : World) : Prop where
  k : w.heap[K]? = some (.stringIter s (ps s n))
  bl : Below w0.heap.size w0 w
  g : w0.heap.size ≤ K
theorem It.new {w0 w : World} (s : ByteArray) (hb : Below w0.heap.size w0 w) : It w0 w.heap.size s 0 (w.iter s 0) :=
  ⟨World.iter_heap w s 0, hb.trans (((Below.refl _ _).alloc (Nat.le_refl _) _).mono hb.size), hb.size⟩
theorem It.next {w0 w : World} {K n : Nat} {s : ByteArray} (h : It w0 K s n w) (hn : ps s n < s.size) : It w0 K s (n + 1) (w.iterAt K s (ps s n + (Utf8.decode s (ps s n)).2)) :=
  ⟨by rw [ps_succ hn]; exact Lib.iterAt_heap w K s _ _ h.k, Lib.below_iterAt h.bl h.g s _, h.g⟩
set_option maxHeartbeats 4000000 in
theorem count_any (s : ByteArray) (N : Nat) (hN : IsCnt s N) (hl : s.size ≤ 1000000) (w : World) :
    Calls Tryd.prog 8 #[.string s] w fun e w' => e = .returned (.int .i64 N) ∧ Below w.heap.size w w' := by
  have HN := hid hN
  have hNs := hN.le
  have I0 := hid (It.new s (Below.refl w.heap.size w))
  clear hN
  go_enter Tryd.func8, Tryd.ntmps8
  go_wp2
  go_loopw [3] (fun i wr => ∃ (j : Nat), j ≤ N ∧ i = .int .i64 j ∧ Hid (It w w.heap.size s j wr)) (fun i _ => N - (intOf i).toNat)
  case atStart => exact ⟨0, by omega, rfl, I0⟩
  case round =>
    clear I0
    obtain ⟨j, hj, rfl, I⟩ := hrel
    by_cases hlt : j < N
    · have hp := HN.out.1 j hlt
      have hnext : ∀ ty, (Instr.next (.pointer (some ⟨w.heap.size, 0, none⟩)) true ty).run Tryd.prog wr = _ := fun ty => Lib.run_next_any_at wr w.heap.size s (ps s j) ty I.out.k hp
      have I2 := hid (I.out.next hp)
      generalize wr.iterAt w.heap.size s (ps s j + (Utf8.decode s (ps s j)).2) = W1 at hnext I2
      generalize (Utf8.decode s (ps s j)).1 = rn at hnext
      generalize ps s j = P at hnext hp
      go_wp2
      go_roundw
      case rel => exact ⟨j + 1, by omega, by go_num, I2⟩
      case measure => simp [intOf]; omega
    · obtain rfl : j = N := by omega
      have hp := HN.out.2
      have hnext : ∀ ty, (Instr.next (.pointer (some ⟨w.heap.size, 0, none⟩)) true ty).run Tryd.prog wr = _ := fun ty => Lib.run_next_end_at wr w.heap.size s (ps s j) ty I.out.k hp
      clear hp
      go_wp2
      go_ret
      exact ⟨rfl, I.out.bl⟩
set_option maxHeartbeats 4000000 in
theorem rcount_any (s : ByteArray) (N : Nat) (hN : IsCnt s N) (hl : s.size ≤ 1000000) (w : World) :
    Calls Tryd.prog 28 #[.string s] w fun e w' => e = .returned (.int .i64 N) ∧ Below w.heap.size w w' := by
  have HN := hid hN
  have hNs := hN.le
  have I0 := hid (It.new s (Below.refl w.heap.size w))
  clear hN
  go_enter Tryd.func28, Tryd.ntmps28
  go_wp2
  go_loopw [3] (fun i wr => ∃ (j : Nat), j ≤ N ∧ i = .int .i64 j ∧ Hid (It w w.heap.size s j wr)) (fun i _ => N - (intOf i).toNat)
  case atStart => exact ⟨0, by omega, rfl, I0⟩
  case round =>
    clear I0
    obtain ⟨j, hj, rfl, I⟩ := hrel
    by_cases hlt : j < N
    · have hp := HN.out.1 j hlt
      have hnext : ∀ ty, (Instr.next (.pointer (some ⟨w.heap.size, 0, none⟩)) true ty).run Tryd.prog wr = _ := fun ty => Lib.run_next_any_at wr w.heap.size s (ps s j) ty I.out.k hp
      have I2 := hid (I.out.next hp)
      generalize wr.iterAt w.heap.size s (ps s j + (Utf8.decode s (ps s j)).2) = W1 at hnext I2
      generalize (Utf8.decode s (ps s j)).1 = rn at hnext
      generalize ps s j = P at hnext hp
      go_wp2
      go_roundw
      case rel => exact ⟨j + 1, by omega, by go_num, I2⟩
      case measure => simp [intOf]; omega
    · obtain rfl : j = N := by omega
      have hp := HN.out.2
      have hnext : ∀ ty, (Instr.next (.pointer (some ⟨w.heap.size, 0, none⟩)) true ty).run Tryd.prog wr = _ := fun ty => Lib.run_next_end_at wr w.heap.size s (ps s j) ty I.out.k hp
      clear hp
      go_wp2
      go_ret
      exact ⟨rfl, I.out.bl⟩
/-- What Cut answers: r. -/
structure CutR (s : ByteArray) (N : Nat) (n : Int) (r : ByteArray) : Prop where
  a : ∀ j : Nat, j < N → n - j ≤ 0 → (j = 0 ∨ (j : Int) ≤ n) → r = s.extract 0 (ps s j)
  b : (N = 0 ∨ (N : Int) ≤ n) → r = s
end Go.Proofs.YtnaphgjkkagpoaaDoor
