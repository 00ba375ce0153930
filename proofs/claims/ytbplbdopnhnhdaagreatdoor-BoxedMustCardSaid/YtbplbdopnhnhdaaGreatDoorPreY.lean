/- What other texts are built of: BxR, BxS, ByB, ByT, ByU, ByL, ByH. -/
import Derived.Test.YtbplbdopnhnhdaaGreatDoorPre1
import Derived.Laws.RangeAny
import Derived.Laws.Runes
import Derived.Test.YtbplbdopnhnhdaaGreatDoorBig
import Derived.OwnWalk
import Derived.Maps.AppendAt
import Derived.Deep.CutRange
import Derived.Test.YtbplbdopnhnhdaaGreatDoorShelf
import Derived.Test.YtbplbdopnhnhdaaGreatDoorLives20
/-! Runes of a text, as a range over it tells them. Of no program of its own. -/
namespace Go.Proofs.YtbplbdopnhnhdaaGreatDoor
set_option linter.unusedVariables false
set_option linter.unusedSimpArgs false
open Go.RowKit
/-- The iterator at g turned. -/
def itSet (w : World) (g : Nat) (s : ByteArray) (p : Nat) : World := { w with heap := w.heap.setIfInBounds g (.stringIter s p) }
theorem itSet_only (w : World) (g : Nat) (s : ByteArray) (p : Nat) : Only g g w (itSet w g s p) :=
  ⟨rfl, rfl, rfl, by simp [itSet], fun k hk h _ => by simp [itSet, Array.getElem?_setIfInBounds, Ne.symm h]⟩
theorem itSet_at {w : World} {g : Nat} (s : ByteArray) (p : Nat) (h : g < w.heap.size) : (itSet w g s p).heap[g]? = some (.stringIter s p) := by
  simp [itSet, Array.getElem?_setIfInBounds, h]
theorem itSet_pos {w : World} {g : Nat} (s : ByteArray) (p : Nat) (h : g < w.heap.size) : (itSet w g s p).iterPos g = p := by
  simp [World.iterPos, itSet_at s p h]
section
variable {P : Program}
theorem next_at {w : World} {g pos : Nat} {s : ByteArray} (hb : w.heap[g]? = some (.stringIter s pos)) (ty : TypeId) (h : pos < s.size) :
    (Instr.next (.pointer (some ⟨g, 0, none⟩)) true ty).run P w = .ok (.tuple #[.bool true, .int .i64 pos, .int .i32 (Utf8.decode s pos).1]) (itSet w g s (pos + (Utf8.decode s pos).2)) := by
  simp only [Instr.next, getObj, setObj, Sem.run_bind, Sem.run, hb, Result.andThen, h, if_true]
  simp [goInt, itSet, hb]
theorem next_end {w : World} {g pos : Nat} {s : ByteArray} (hb : w.heap[g]? = some (.stringIter s pos)) (ty : TypeId) (h : ¬ pos < s.size) :
    (Instr.next (.pointer (some ⟨g, 0, none⟩)) true ty).run P w = .ok (.tuple #[.bool false]) w := by
  simp [Instr.next, getObj, Sem.run, hb, h]
end
theorem dec_pos (s : ByteArray) (pos : Nat) : 1 ≤ (Utf8.decode s pos).2 := by
  simp only [Utf8.decode]
  repeat' split
  all_goals simp
/-- What a range over s tells from a place on. -/
def rnn (s : ByteArray) : Nat → Nat → List Nat
  | 0, _ => []
  | n + 1, i => if i < s.size then (Utf8.decode s i).1 :: rnn s n (i + (Utf8.decode s i).2) else []
def runesOf (s : ByteArray) : List Nat := rnn s s.size 0
theorem rnn_more (s : ByteArray) : ∀ (n m i : Nat), s.size ≤ i + n → s.size ≤ i + m → rnn s n i = rnn s m i
  | 0, 0, i, _, _ => rfl
  | 0, m + 1, i, h, _ => by simp [rnn]; omega
  | n + 1, 0, i, _, h => by simp [rnn]; omega
  | n + 1, m + 1, i, h1, h2 => by
    simp only [rnn]
    split
    · have := dec_pos s i
      rw [rnn_more s n m _ (by omega) (by omega)]
    · rfl
theorem rnn_step (s : ByteArray) (i : Nat) (h : i < s.size) : rnn s s.size i = (Utf8.decode s i).1 :: rnn s s.size (i + (Utf8.decode s i).2) := by
  have h1 : rnn s s.size i = rnn s (s.size + 1) i := rnn_more s _ _ _ (by omega) (by omega)
  rw [h1]
  simp only [rnn, if_pos h]
theorem rnn_end (s : ByteArray) (i : Nat) (h : ¬ i < s.size) : rnn s s.size i = [] := by
  rw [rnn_more s s.size 0 i (by omega) (by omega)]
  rfl
theorem rnn_le (s : ByteArray) : ∀ (n i c : Nat), c ∈ rnn s n i → c ≤ 1114111
  | 0, _, _, h => by simp [rnn] at h
  | n + 1, i, c, h => by
    simp only [rnn] at h
    split at h
    · rcases List.mem_cons.1 h with rfl | h
      · have hb : ∀ k, (s.get! (i + k)).toNat < 256 := fun k => (s.get! (i + k)).toNat_lt
        have h0 := hb 0; have h1 := hb 1; have h2 := hb 2; have h3 := hb 3
        simp only [Utf8.decode]
        repeat' split
        all_goals simp_all [Utf8.runeError, Utf8.valid]
        all_goals omega
      · exact rnn_le s n _ c h
    · simp at h
/-- A digit's rune. -/
def dgB (c : Nat) : Bool := decide (48 ≤ c ∧ c ≤ 57)
def dgs (l : List Nat) : List Int := (l.filter dgB).map fun (c : Nat) => (c : Int) - 48
theorem dgs_app (a b : List Nat) : dgs (a ++ b) = dgs a ++ dgs b := by simp [dgs]
theorem dgs_none {l : List Nat} (h : ∀ c ∈ l, dgB c = false) : dgs l = [] := by
  unfold dgs
  rw [List.filter_eq_nil_iff.2 (fun c hc => by rw [h c hc]; simp)]
  rfl
theorem dgs_yes {c : Nat} (h : dgB c = true) : dgs [c] = [(c : Int) - 48] := by simp [dgs, h]
theorem dgs_no {c : Nat} (h : dgB c = false) : dgs [c] = [] := by simp [dgs, h]
theorem high_runes (s : ByteArray) (hs : ∀ i (h : i < s.size), 128 ≤ (s[i]'h).toNat) : ∀ (n i c : Nat), c ∈ rnn s n i → 128 ≤ c
  | 0, _, _, h => by simp [rnn] at h
  | n + 1, i, c, h => by
    simp only [rnn] at h
    split at h
    · rename_i hi
      rcases List.mem_cons.1 h with rfl | h
      · exact (decode_high s i hi (hs i hi)).1
      · exact high_runes s hs n _ c h
    · simp at h
theorem ofNat_toNat {n : Nat} (h : n < 256) : (UInt8.ofNat n).toNat = n := by simp; omega
theorem enc_code (m : Nat) (h1 : 128 ≤ m) (h2 : m ≤ 1114111) (b : UInt8)
    (hb : b ∈ (if m < 2048 then (⟨#[UInt8.ofNat (192 + m / 64), UInt8.ofNat (128 + m % 64)]⟩ : ByteArray) else if m < 65536 then ⟨#[UInt8.ofNat (224 + m / 4096), UInt8.ofNat (128 + m / 64 % 64), UInt8.ofNat (128 + m % 64)]⟩ else ⟨#[UInt8.ofNat (240 + m / 262144), UInt8.ofNat (128 + m / 4096 % 64), UInt8.ofNat (128 + m / 64 % 64), UInt8.ofNat (128 + m % 64)]⟩).data.toList) : 128 ≤ b.toNat := by
  have hy : ∀ k, 128 ≤ k → k < 256 → 128 ≤ (UInt8.ofNat k).toNat := fun k h1 h2 => by rw [ofNat_toNat h2]; exact h1
  split at hb
  · have hb : b ∈ [UInt8.ofNat (192 + m / 64), UInt8.ofNat (128 + m % 64)] := hb
    simp only [List.mem_cons, List.not_mem_nil, or_false] at hb
    rcases hb with rfl | rfl <;> exact hy _ (by omega) (by omega)
  · split at hb
    · have hb : b ∈ [UInt8.ofNat (224 + m / 4096), UInt8.ofNat (128 + m / 64 % 64), UInt8.ofNat (128 + m % 64)] := hb
      simp only [List.mem_cons, List.not_mem_nil, or_false] at hb
      rcases hb with rfl | rfl | rfl <;> exact hy _ (by omega) (by omega)
    · have hb : b ∈ [UInt8.ofNat (240 + m / 262144), UInt8.ofNat (128 + m / 4096 % 64), UInt8.ofNat (128 + m / 64 % 64), UInt8.ofNat (128 + m % 64)] := hb
      simp only [List.mem_cons, List.not_mem_nil, or_false] at hb
      rcases hb with rfl | rfl | rfl | rfl <;> exact hy _ (by omega) (by omega)
theorem enc_num (c : Nat) (h : c ≤ 1114111) (hc : ¬ c < 128) : 128 ≤ (if Utf8.valid (c : Int) then ((c : Int)).toNat else Utf8.runeError) ∧ (if Utf8.valid (c : Int) then ((c : Int)).toNat else Utf8.runeError) ≤ 1114111 := by
  split
  · rw [Int.toNat_natCast]; omega
  · unfold Utf8.runeError; omega
theorem enc_bytes (c : Nat) (h : c ≤ 1114111) (hc : ¬ c < 128) : ∀ b ∈ (Utf8.encode (c : Int)).data.toList, 128 ≤ b.toNat := by
  have hn := enc_num c h hc
  unfold Utf8.encode
  generalize (if Utf8.valid (c : Int) then ((c : Int)).toNat else Utf8.runeError) = m at hn
  intro b hb
  simp only at hb
  rw [if_neg (by omega)] at hb
  exact enc_code m hn.1 hn.2 b hb
theorem enc_low (c : Nat) (hc : c < 128) : Utf8.encode (c : Int) = ⟨#[UInt8.ofNat c]⟩ := by
  have hv : Utf8.valid (c : Int) = true := by simp [Utf8.valid]; omega
  unfold Utf8.encode
  simp only [hv, if_true, Int.toNat_natCast, hc]
theorem runes_one (b : UInt8) (hb : b.toNat < 128) : runesOf ⟨#[b]⟩ = [b.toNat] := by
  have h1 : (0 : Nat) < (⟨#[b]⟩ : ByteArray).size := Nat.zero_lt_one
  have hd := decode_ascii ⟨#[b]⟩ 0 h1 hb
  have e : runesOf ⟨#[b]⟩ = rnn ⟨#[b]⟩ 1 0 := rfl
  rw [e]
  simp only [rnn, if_pos h1, hd]
  rfl
theorem runes_high (s : ByteArray) (h : ∀ b ∈ s.data.toList, 128 ≤ b.toNat) : dgs (runesOf s) = [] := by
  refine dgs_none fun x hx => ?_
  have : 128 ≤ x := high_runes s (fun i hi => h _ (Array.getElem_mem_toList (xs := s.data) hi)) _ _ x hx
  unfold dgB
  exact decide_eq_false (by omega)
/-- A rune that is no digit has no digit in its text. -/
theorem dgs_enc (c : Nat) (h : c ≤ 1114111) : dgs (runesOf (Utf8.encode c)) = dgs [c] := by
  by_cases hc : c < 128
  · rw [enc_low c hc, runes_one _ (by rw [ofNat_toNat (by omega)]; exact hc), ofNat_toNat (by omega)]
  · rw [runes_high _ (enc_bytes c h hc), dgs_no (by unfold dgB; exact decide_eq_false (by omega))]
/-- The texts of runes. -/
def txt (l : List Nat) : List UInt8 := l.flatMap fun (c : Nat) => (Utf8.encode (c : Int)).data.toList
theorem getb (s : ByteArray) (k : Nat) (h : k < s.size) : s.data.toList[k]? = some (s.get! k) := by
  have e : s.get! k = s[k]'h := by
    have := get_at s k h
    simpa using this
  rw [e]
  have : s.data[k]? = some (s.data[k]'h) := Array.getElem?_eq_getElem h
  rw [Array.getElem?_toList, this]
  rfl
theorem drop_cons {l : List UInt8} {k : Nat} {b : UInt8} (h : l[k]? = some b) : l.drop k = b :: l.drop (k + 1) := by
  obtain ⟨h1, h2⟩ := List.getElem?_eq_some_iff.1 h
  rw [List.drop_eq_getElem_cons h1, h2]
theorem byte_back (b : UInt8) {n : Nat} (h : n = b.toNat) : UInt8.ofNat n = b := by subst h; simp
/-- What was decoded, and is no fault, is encoded so. -/
theorem enc_dec (s : ByteArray) (i : Nat) (hi : i < s.size) (h : (Utf8.decode s i).1 ≠ 65533) : s.data.toList.drop i = (Utf8.encode ((Utf8.decode s i).1 : Nat)).data.toList ++ s.data.toList.drop (i + (Utf8.decode s i).2) := by
  have hb : ∀ k, (s.get! (i + k)).toNat < 256 := fun k => (s.get! (i + k)).toNat_lt
  have g0 := getb s i hi
  have h0 := hb 0; have h1 := hb 1; have h2 := hb 2; have h3 := hb 3
  simp only [Utf8.decode, Nat.add_zero] at h ⊢
  simp only [Nat.add_zero] at h0
  obtain ⟨b0, e0⟩ : ∃ b, b = s.get! i := ⟨_, rfl⟩
  obtain ⟨b1, e1⟩ : ∃ b, b = s.get! (i + 1) := ⟨_, rfl⟩
  obtain ⟨b2, e2⟩ : ∃ b, b = s.get! (i + 2) := ⟨_, rfl⟩
  obtain ⟨b3, e3⟩ : ∃ b, b = s.get! (i + 3) := ⟨_, rfl⟩
  rw [← e0] at g0
  simp only [← e0, ← e1, ← e2, ← e3] at h0 h1 h2 h3 h ⊢
  split at h
  · rename_i c1
    rw [if_pos c1]
    have hv : Utf8.valid (b0.toNat : Int) = true := by simp [Utf8.valid]; omega
    have he : Utf8.encode (b0.toNat : Int) = ⟨#[UInt8.ofNat b0.toNat]⟩ := by
      unfold Utf8.encode
      simp only [hv, if_true, Int.toNat_natCast, c1]
    simp only [he]
    rw [drop_cons g0, byte_back b0 rfl]
    rfl
  · rename_i c1
    rw [if_neg c1]
    split at h
    · rename_i c2
      rw [if_pos c2]
      simp only [Bool.and_eq_true, decide_eq_true_eq, beq_iff_eq] at c2
      obtain ⟨d1, d2, d3⟩ := c2
      split at h
      · rename_i c3
        rw [if_pos c3]
        have g1 := getb s (i + 1) d2
        rw [← e1] at g1
        obtain ⟨c, hc⟩ : ∃ c, c = b0.toNat % 32 * 64 + b1.toNat % 64 := ⟨_, rfl⟩
        simp only [← hc] at c3 ⊢
        have hv : Utf8.valid (c : Int) = true := by simp [Utf8.valid]; omega
        have he : Utf8.encode (c : Int) = ⟨#[UInt8.ofNat (192 + c / 64), UInt8.ofNat (128 + c % 64)]⟩ := by
          unfold Utf8.encode
          simp only [hv, if_true, Int.toNat_natCast]
          rw [if_neg (by omega), if_pos (by omega)]
        rw [he, drop_cons g0, drop_cons g1, byte_back b0 (by omega), byte_back b1 (by omega)]
        rfl
      · exact absurd rfl h
    · rename_i c2
      rw [if_neg c2]
      split at h
      · rename_i c4
        rw [if_pos c4]
        simp only [Bool.and_eq_true, decide_eq_true_eq, beq_iff_eq] at c4
        obtain ⟨⟨d1, d2, d3⟩, d4, d5⟩ := c4
        split at h
        · rename_i c3
          rw [if_pos c3]
          have g1 := getb s (i + 1) d2
          have g2 := getb s (i + 2) d4
          rw [← e1] at g1
          rw [← e2] at g2
          obtain ⟨c, hc⟩ : ∃ c, c = b0.toNat % 16 * 4096 + b1.toNat % 64 * 64 + b2.toNat % 64 := ⟨_, rfl⟩
          simp only [← hc] at c3 ⊢
          simp only [Bool.and_eq_true, decide_eq_true_eq] at c3
          have he : Utf8.encode (c : Int) = ⟨#[UInt8.ofNat (224 + c / 4096), UInt8.ofNat (128 + c / 64 % 64), UInt8.ofNat (128 + c % 64)]⟩ := by
            unfold Utf8.encode
            simp only [c3.2, if_true, Int.toNat_natCast]
            rw [if_neg (by omega), if_neg (by omega), if_pos (by omega)]
          rw [he, drop_cons g0, drop_cons g1, drop_cons g2, byte_back b0 (by omega), byte_back b1 (by omega), byte_back b2 (by omega)]
          rfl
        · exact absurd rfl h
      · rename_i c4
        rw [if_neg c4]
        split at h
        · rename_i c5
          rw [if_pos c5]
          simp only [Bool.and_eq_true, decide_eq_true_eq, beq_iff_eq] at c5
          obtain ⟨⟨⟨d1, d2, d3⟩, d4, d5⟩, d6, d7⟩ := c5
          split at h
          · rename_i c3
            rw [if_pos c3]
            have g1 := getb s (i + 1) d2
            have g2 := getb s (i + 2) d4
            have g3 := getb s (i + 3) d6
            rw [← e1] at g1
            rw [← e2] at g2
            rw [← e3] at g3
            obtain ⟨c, hc⟩ : ∃ c, c = b0.toNat % 8 * 262144 + b1.toNat % 64 * 4096 + b2.toNat % 64 * 64 + b3.toNat % 64 := ⟨_, rfl⟩
            simp only [← hc] at c3 ⊢
            simp only [Bool.and_eq_true, decide_eq_true_eq] at c3
            have he : Utf8.encode (c : Int) = ⟨#[UInt8.ofNat (240 + c / 262144), UInt8.ofNat (128 + c / 4096 % 64), UInt8.ofNat (128 + c / 64 % 64), UInt8.ofNat (128 + c % 64)]⟩ := by
              unfold Utf8.encode
              simp only [c3.2, if_true, Int.toNat_natCast]
              rw [if_neg (by omega), if_neg (by omega), if_neg (by omega)]
            rw [he, drop_cons g0, drop_cons g1, drop_cons g2, drop_cons g3, byte_back b0 (by omega), byte_back b1 (by omega), byte_back b2 (by omega), byte_back b3 (by omega)]
            rfl
          · exact absurd rfl h
        · exact absurd rfl h
theorem txt_back (s : ByteArray) : ∀ (n i : Nat), s.size ≤ i + n → (∀ c ∈ rnn s n i, c ≠ 65533) → txt (rnn s n i) = s.data.toList.drop i
  | 0, i, h, _ => by
    rw [List.drop_eq_nil_of_le (by show s.data.toList.length ≤ i; rw [Array.length_toList]; exact Nat.le_trans (by exact h) (Nat.le_refl _))]
    rfl
  | n + 1, i, h, hc => by
    simp only [rnn] at hc ⊢
    split
    · rename_i hi
      rw [if_pos hi] at hc
      rw [enc_dec s i hi (hc _ (by simp))]
      have := dec_pos s i
      rw [← txt_back s n (i + (Utf8.decode s i).2) (by omega) (fun c hx => hc c (by simp [hx]))]
      simp [txt]
    · rename_i hi
      rw [List.drop_eq_nil_of_le (by show s.data.toList.length ≤ i; rw [Array.length_toList]; exact Nat.le_of_not_lt hi)]
      rfl
theorem txt_runes (s : ByteArray) (h : ∀ c ∈ runesOf s, c ≠ 65533) : txt (runesOf s) = s.data.toList := by
  have := txt_back s s.size 0 (by omega) h
  rw [List.drop_zero] at this
  exact this
end Go.Proofs.YtbplbdopnhnhdaaGreatDoor
/-! Package boxed: steps as rows; pick, digits. -/
namespace Go.Proofs.YtbplbdopnhnhdaaGreatDoor
open Go.RowKit
set_option linter.unusedVariables false
set_option linter.unusedSimpArgs false
set_option maxRecDepth 20000
abbrev Stb := Int × Int × Int × Int × Int
/-- A step's cells. -/
def sbc (x : Stb) : List Value := [.int .u8 x.1, .int .u8 x.2.1, .int .i64 x.2.2.1, .int .i64 x.2.2.2.1, .int .i64 x.2.2.2.2]
def fb (l : List Stb) : List Value := l.flatMap sbc
theorem fb_cons (e : Stb) (es : List Stb) : fb (e :: es) = .int .u8 e.1 :: .int .u8 e.2.1 :: .int .i64 e.2.2.1 :: .int .i64 e.2.2.2.1 :: .int .i64 e.2.2.2.2 :: fb es := by simp [fb, sbc]
theorem fb_len : ∀ es : List Stb, (fb es).length = es.length * 5
  | [] => rfl
  | e :: es => by rw [fb_cons]; simp [fb_len es]; omega
theorem fb_app (xs ys : List Stb) : fb (xs ++ ys) = fb xs ++ fb ys := by simp [fb]
def sbAt (es : List Stb) (i : Nat) : Stb := es.getD i (0, 0, 0, 0, 0)
theorem fb_get : ∀ (es : List Stb) (i : Nat), i < es.length →
    (fb es)[i * 5]? = some (.int .u8 (sbAt es i).1) ∧ (fb es)[i * 5 + 1]? = some (.int .u8 (sbAt es i).2.1) ∧ (fb es)[i * 5 + 2]? = some (.int .i64 (sbAt es i).2.2.1) ∧ (fb es)[i * 5 + 3]? = some (.int .i64 (sbAt es i).2.2.2.1) ∧ (fb es)[i * 5 + 4]? = some (.int .i64 (sbAt es i).2.2.2.2)
  | [], i, h => by simp at h
  | e :: es, 0, _ => by rw [fb_cons]; simp [sbAt]
  | e :: es, i + 1, h => by
    have := fb_get es i (by simpa using h)
    rw [fb_cons]
    simp only [show (i + 1) * 5 = i * 5 + 1 + 1 + 1 + 1 + 1 by omega, List.getElem?_cons_succ]
    simpa [sbAt] using this
theorem fb_ones (es : List Stb) : ∀ u ∈ fb es, u.oneCell' = true := by
  intro u hu
  obtain ⟨e, _, he⟩ := List.mem_flatMap.1 hu
  simp [sbc] at he
  rcases he with rfl | rfl | rfl | rfl | rfl <;> rfl
/-- A slice of five cells each that reads as steps. -/
def RdB (w : World) (v : Value) (es : List Stb) : Prop :=
  ∃ a c, v = .slice a es.length c ∧ es.length ≤ c ∧ c ≤ maxLen ∧ (0 < es.length → ∃ g off, a = some ⟨g, off, none⟩ ∧ g < w.heap.size ∧ ∀ i, i < es.length →
    w.cell? ⟨g, off + i * 5, none⟩ = some (.int .u8 (sbAt es i).1) ∧ w.cell? ⟨g, off + i * 5 + 1, none⟩ = some (.int .u8 (sbAt es i).2.1) ∧ w.cell? ⟨g, off + i * 5 + 2, none⟩ = some (.int .i64 (sbAt es i).2.2.1) ∧ w.cell? ⟨g, off + i * 5 + 3, none⟩ = some (.int .i64 (sbAt es i).2.2.2.1) ∧ w.cell? ⟨g, off + i * 5 + 4, none⟩ = some (.int .i64 (sbAt es i).2.2.2.2))
theorem RdB.below {w w' : World} {v : Value} {es : List Stb} (h : RdB w v es) (hb : Below w.heap.size w w') : RdB w' v es := by
  obtain ⟨a, c, h1, h2, h3, h4⟩ := h
  refine ⟨a, c, h1, h2, h3, fun h0 => ?_⟩
  obtain ⟨g, off, e, hg, hc⟩ := h4 h0
  have hs := hb.size
  refine ⟨g, off, e, by omega, fun i hi => ?_⟩
  obtain ⟨q0, q1, q2, q3, q4⟩ := hc i hi
  exact ⟨(hb.cell (p := ⟨g, _, none⟩) hg).trans q0, (hb.cell (p := ⟨g, _, none⟩) hg).trans q1, (hb.cell (p := ⟨g, _, none⟩) hg).trans q2, (hb.cell (p := ⟨g, _, none⟩) hg).trans q3, (hb.cell (p := ⟨g, _, none⟩) hg).trans q4⟩
theorem own_rdB {w : World} {base : Nat} {t : TypeId} {v : Value} {es : List Stb} (h : w.ownsRow base t 5 v es.length (fb es)) : RdB w v es := by
  obtain ⟨h0, ⟨h1, h2⟩ | ⟨q, cap, cur, h1, h2, h3, h4, h5, h6, h7⟩⟩ := id h
  · exact ⟨none, 0, by rw [h1, h2], by omega, by simp, fun h => by omega⟩
  · refine ⟨_, cap, h1, h4, h5, fun hn => ⟨q, 0, rfl, by obtain ⟨hl, _⟩ := Array.getElem?_eq_some_iff.1 h3; exact hl, fun i hi => ?_⟩⟩
    subst h1
    obtain ⟨k0, k1, k2, k3, k4⟩ := fb_get es i hi
    have k := fun j => h.cellAt (g := q) (cap := cap) j
    have hl := fb_len es
    simp only [Nat.zero_add]
    exact ⟨(k _ (by omega)).trans k0, (k _ (by omega)).trans k1, (k _ (by omega)).trans k2, (k _ (by omega)).trans k3, (k _ (by omega)).trans k4⟩
theorem own_sliceB {w : World} {base sz n : Nat} {t : TypeId} {v : Value} {xs : List Value} (h : w.ownsRow base t sz v n xs) : ∃ a c, v = .slice a n c := by
  obtain ⟨h0, ⟨h1, h2⟩ | ⟨g, cap, cur, h1, _⟩⟩ := h
  · exact ⟨none, 0, by rw [h1, h2]⟩
  · exact ⟨_, _, h1⟩
theorem news_sb (w : World) (x : Stb) (t : TypeId) : ∀ j u, (fb [x])[j]? = some u → (w.alloc (.cells #[.int .u8 x.1, .int .u8 x.2.1, .int .i64 x.2.2.1, .int .i64 x.2.2.2.1, .int .i64 x.2.2.2.2] t)).cell? ((⟨w.heap.size, 0, none⟩ : Addr).add j) = some u := by
  intro j u hj
  have hn := heap_alloc_new w (.cells #[.int .u8 x.1, .int .u8 x.2.1, .int .i64 x.2.2.1, .int .i64 x.2.2.2.1, .int .i64 x.2.2.2.2] t)
  rw [Addr.add_lit, Nat.zero_add]
  simp only [World.cell?, hn]
  match j, hj with
  | 0, hj => simp [fb, sbc] at hj; subst hj; rfl
  | 1, hj => simp [fb, sbc] at hj; subst hj; rfl
  | 2, hj => simp [fb, sbc] at hj; subst hj; rfl
  | 3, hj => simp [fb, sbc] at hj; subst hj; rfl
  | 4, hj => simp [fb, sbc] at hj; subst hj; rfl
  | n + 5, hj => simp [fb, sbc] at hj
theorem infoSb : (Tryz.prog.info? 28).map (fun i => (i.zero, i.size, i.bytes)) = some (some (.agg #[.int .u8 0, .int .u8 0, .int .i64 0, .int .i64 0, .int .i64 0]), 5, 32) := by kernel_rfl
/-- A pick of a machine. -/
def pk (n : Int) : Stb := (0, 0, n, 0, 0)
theorem pick_any (n : Int) (w : World) : Calls Tryz.prog 16 #[.int .i64 n] w fun e w' => e = .returned (.agg #[.int .u8 0, .int .u8 0, .int .i64 n, .int .i64 0, .int .i64 0]) ∧ Below w.heap.size w w' := by
  go_enter Tryz.func16, Tryz.ntmps16
  go_wp2
  refine bodyPost_ret (v := .agg #[.int .u8 0, .int .u8 0, .int .i64 n, .int .i64 0, .int .i64 0]) (by simp [results, Tryz.results16, go_sem]) rfl ⟨rfl, (Below.refl _ _).alloc (Nat.le_refl _) _⟩
theorem own_belowB {w w' : World} {base n sz : Nat} {t : TypeId} {v : Value} {xs : List Value} (h : w.ownsRow base t sz v n xs) (hb : Below w.heap.size w w') : w'.ownsRow base t sz v n xs :=
  h.kept (row := none) ⟨hb.os, hb.tape, hb.output, hb.size, fun k hk _ => hb.block k hk⟩ (by rcases v.ownBlock with _ | q; exact .inl rfl; exact .inr (by simp))
/-- The row grew. -/
def Grew (base : Nat) (v0 : Value) (L : List Stb) (w : World) (e : Ending) (w' : World) : Prop :=
  ∃ v, e = .returned v ∧ w'.ownsRow base 28 5 v L.length (fb L) ∧ w.grownBy w' v0.ownBlock ∧ (v.ownBlock = v0.ownBlock ∨ ∃ q, v.ownBlock = some q ∧ w.heap.size ≤ q)
theorem grB_trans {w1 w2 w3 : World} {row : Option Nat} (h1 : w1.grownBy w2 row) (h2 : w2.grownBy w3 row) : w1.grownBy w3 row := ⟨h2.os.trans h1.os, h2.tape.trans h1.tape, h2.output.trans h1.output, Nat.le_trans h1.size h2.size, fun k hk hn => (h2.block k (Nat.lt_of_lt_of_le hk h1.size) hn).trans (h1.block k hk hn)⟩
theorem grB_below {w w' : World} {row : Option Nat} (h : Below w.heap.size w w') : w.grownBy w' row := ⟨h.os, h.tape, h.output, h.size, fun k hk _ => h.block k hk⟩
/-- One after the other: the second row is the first one's, or newer. -/
theorem grB_then {w1 w2 w3 : World} {r1 r2 : Option Nat} (h1 : w1.grownBy w2 r1) (hr : r2 = r1 ∨ ∃ q, r2 = some q ∧ w1.heap.size ≤ q) (h2 : w2.grownBy w3 r2) : w1.grownBy w3 r1 := by
  refine ⟨h2.os.trans h1.os, h2.tape.trans h1.tape, h2.output.trans h1.output, Nat.le_trans h1.size h2.size, fun k hk hn => (h2.block k (Nat.lt_of_lt_of_le hk h1.size) ?_).trans (h1.block k hk hn)⟩
  rcases hr with e | ⟨q, e, hq⟩
  · rw [e]; exact hn
  · rw [e]; simp; omega
/-- What stands in digits' loop. -/
structure DgW (w0 : World) (base g : Nat) (s : ByteArray) (v0 : Value) (pos : Nat) (L : List Stb) (v : Value) (w : World) : Prop where
  it : w.heap[g]? = some (.stringIter s pos)
  ow : w.ownsRow base 28 5 v L.length (fb L)
  gr : w0.grownBy w v0.ownBlock
  ob : v.ownBlock = v0.ownBlock ∨ ∃ q, v.ownBlock = some q ∧ w0.heap.size ≤ q
  gn : v.ownBlock ≠ some g
  hg : g = w0.heap.size
  hb : base ≤ w0.heap.size
theorem DgW.turn {w0 w : World} {base g pos : Nat} {s : ByteArray} {v0 v : Value} {L : List Stb} (h : DgW w0 base g s v0 pos L v w) (p : Nat) : DgW w0 base g s v0 p L v (itSet w g s p) := by
  have hg := h.hg
  have hl : g < w.heap.size := blk_lt h.it
  have o := itSet_only w g s p
  refine ⟨itSet_at s p hl, h.ow.kept (row := some g) ⟨o.os, o.tape, o.output, o.size, fun k hk hn => o.block k hk (fun e => hn (by rw [e])) (fun e => hn (by rw [e]))⟩ (by
    rcases hv : v.ownBlock with _ | q
    · exact .inl rfl
    · exact .inr (fun e => h.gn (by rw [hv, e]))), ⟨o.os.trans h.gr.os, o.tape.trans h.gr.tape, o.output.trans h.gr.output, Nat.le_trans h.gr.size o.size, fun k hk hn => (o.block k (Nat.lt_of_lt_of_le hk h.gr.size) (by omega) (by omega)).trans (h.gr.block k hk hn)⟩, h.ob, h.gn, hg, h.hb⟩
theorem DgW.grow {w0 w w1 w' : World} {base g pos : Nat} {s : ByteArray} {v0 v v' : Value} {L L' : List Stb} (h : DgW w0 base g s v0 pos L v w) (h1 : Below w.heap.size w w1) (ho : w'.ownsRow base 28 5 v' L'.length (fb L')) (hgr : w1.grownBy w' v.ownBlock)
    (hx : v'.ownBlock = v.ownBlock ∨ v'.ownBlock = some w1.heap.size) : DgW w0 base g s v0 pos L' v' w' := by
  have hl : g < w.heap.size := blk_lt h.it
  have hs1 := h1.size
  have hs0 := h.gr.size
  have hgg := h.hg
  refine ⟨(hgr.block g (by omega) (fun e => h.gn e.symm)).trans ((h1.block g hl).trans h.it), ho, grB_then h.gr h.ob (grB_trans (grB_below h1) hgr), ?_, ?_, h.hg, h.hb⟩
  · rcases hx with e | e
    · rw [e]; exact h.ob
    · exact .inr ⟨_, e, by omega⟩
  · rcases hx with e | e
    · rw [e]; exact h.gn
    · rw [e]; simp; omega
set_option maxHeartbeats 8000000 in
theorem digits_any (base : Nat) (v0 : Value) (L0 : List Stb) (s : ByteArray) (w : World) (ho : w.ownsRow base 28 5 v0 L0.length (fb L0)) (hb : base ≤ w.heap.size) (hl : L0.length + s.size ≤ 1000000) :
    Calls Tryz.prog 17 #[v0, .string s] w (Grew base v0 (L0 ++ (dgs (runesOf s)).map pk) w) := by
  obtain ⟨a0, c0, rfl⟩ := own_sliceB ho
  have P0 := hid (show DgW w base w.heap.size s (.slice a0 L0.length c0) 0 L0 (.slice a0 L0.length c0) (w.iter s 0) from
    ⟨World.iter_heap w s 0, ho.alloc _, grB_below ((Below.refl _ _).alloc (Nat.le_refl _) _), .inl rfl, fun e => by have := (World.ownsRow.lt ho _ e).2; omega, rfl, hb⟩)
  obtain ⟨i0, hi, hz0, hz1, hz2⟩ := info_parts infoSb
  have HI := hid (And.intro hi (And.intro hz0 (And.intro hz1 hz2)))
  have RS := run_range_string (P := Tryz.prog) w 9 s Tryz.underlying9
  clear hi hz0 hz1 hz2
  have HL := hid hl
  have HB := hid hb
  clear ho hb hl
  go_enter Tryz.func17, Tryz.ntmps17
  go_wp2_with fail
  clear RS
  obtain ⟨g, hg⟩ : ∃ g, g = w.heap.size := ⟨_, rfl⟩
  rw [← hg] at P0 ⊢
  have HG := hid hg
  clear hg
  go_loopw [0] (fun x wr => ∃ (pos : Nat) (L : List Stb) (a : Option Addr) (m c : Nat), x = .slice a m c ∧ Hid (m = L.length) ∧ pos = wr.iterPos g ∧ Hid (L ++ (dgs (rnn s s.size pos)).map pk = L0 ++ (dgs (runesOf s)).map pk ∧ L.length ≤ L0.length + pos) ∧ Hid (DgW w base g s (.slice a0 L0.length c0) pos L (.slice a m c) wr)) (fun _ wr => s.size - wr.iterPos g)
  case atStart => exact ⟨0, L0, a0, L0.length, c0, rfl, hid rfl, by simp [World.iterPos, P0.out.it], hid ⟨rfl, by omega⟩, P0⟩
  case round =>
    clear P0
    obtain ⟨pos, L, a, m, c, rfl, HM, hpos, HE, D⟩ := hrel
    have hrl := HM.out
    subst hrl
    clear HM
    by_cases hlt : pos < s.size
    · have NX := fun ty => next_at (P := Tryz.prog) D.out.it ty hlt
      have D1 := hid (D.out.turn (pos + (Utf8.decode s pos).2))
      have ST := hid (rnn_step s pos hlt)
      have DP := hid (dec_pos s pos)
      have HP := hid (itSet_pos (w := wr) s (pos + (Utf8.decode s pos).2) (blk_lt D.out.it))
      obtain ⟨r, hr⟩ : ∃ r, r = (Utf8.decode s pos).1 := ⟨_, rfl⟩
      obtain ⟨k, hk⟩ : ∃ k, k = (Utf8.decode s pos).2 := ⟨_, rfl⟩
      have RL := hid (show r ≤ 1114111 from by rw [hr]; exact rnn_le s s.size pos _ (by rw [ST.out]; simp))
      rw [← hr, ← hk] at NX ST
      rw [← hk] at D1 DP HP
      clear hr hk D
      generalize itSet wr g s (pos + k) = w2 at *
      by_cases hd : dgB r = true
      · have hd1 : (48 : Int) ≤ r := by have := of_decide_eq_true hd; omega
        have hd2 : (r : Int) ≤ 57 := by have := of_decide_eq_true hd; omega
        have hw : IntKind.i32.wrap ((r : Int) - 48) = (r : Int) - 48 := by
          have hb : IntKind.i32.bits = 32 := rfl
          have hs : IntKind.i32.signed = true := rfl
          simp [IntKind.wrap, hb, hs]; split <;> omega
        have hw2 : IntKind.i64.wrap ((r : Int) - 48) = (r : Int) - 48 := IntWalk.i64_in _ (by omega)
        have PK := hid (pick_any ((r : Int) - 48) w2)
        have HE2 := hid (show (L ++ [pk ((r : Int) - 48)]) ++ (dgs (rnn s s.size (pos + k))).map pk = L0 ++ (dgs (runesOf s)).map pk from by
          rw [← HE.out.1, ST.out, show r :: rnn s s.size (pos + k) = [r] ++ rnn s s.size (pos + k) from rfl, dgs_app, dgs_yes hd]; simp)
        have S2 := hid (show base ≤ w2.heap.size from by have := D1.out.gr.size; have := HB.out; omega)
        clear hd
        go_wp2_with fail
        refine PK.out.mono ?_
        rintro e w4 ⟨rfl, hb4⟩
        have B3 := hid (hb4.alloc hb4.size (.cells #[.int .u8 0, .int .u8 0, .int .i64 ((r : Int) - 48), .int .i64 0, .int .i64 0] 28))
        have O3 := hid (World.ownsRow.alloc (own_belowB D1.out.ow hb4) (.cells #[.int .u8 0, .int .u8 0, .int .i64 ((r : Int) - 48), .int .i64 0, .int .i64 0] 28))
        have NW := hid (news_sb w4 (pk ((r : Int) - 48)) 28)
        have hs3 : (w4.alloc (.cells #[.int .u8 0, .int .u8 0, .int .i64 ((r : Int) - 48), .int .i64 0, .int .i64 0] 28)).heap.size = w4.heap.size + 1 := by simp
        have S4 := hid hb4.size
        clear PK hb4
        go_wp2_with (at_builtin; refine wpList_append_own_at _ rfl _ _ 24 rfl base 28 i0 _ 5 32 Tryz.underlying24 HI.out.1 HI.out.2.1 HI.out.2.2.1 HI.out.2.2.2 rfl (by decide) _ _ _ rfl O3.out ⟨w4.heap.size, 0, none⟩ 1 1 (fb [pk ((r : Int) - 48)]) rfl rfl NW.out (fb_ones _) ?c1 ?c2 ?c3 ?_)
        case c1 => have := HL.out; have := HE.out.2; unfold maxLen; omega
        case c2 => have := HL.out; have := HE.out.2; omega
        case c3 => rw [hs3]; have := S2.out; have := S4.out; omega
        intro v' w6 hown6 hgrow _ hx
        have own6 : w6.ownsRow base 28 5 v' (L ++ [pk ((r : Int) - 48)]).length (fb (L ++ [pk ((r : Int) - 48)])) := by
          rw [List.length_append, fb_app]
          exact hown6
        have D6 := hid (D1.out.grow B3.out own6 hgrow (by rw [hs3]; exact hx))
        obtain ⟨a', c', rfl⟩ := own_sliceB own6
        have hp6 : w6.iterPos g = pos + k := by simp [World.iterPos, D6.out.it]
        clear hown6 own6 hgrow hx O3 NW B3
        go_wp2
        go_roundw
        case rel => exact ⟨pos + k, _, a', _, c', rfl, hid rfl, hp6.symm, hid ⟨HE2.out, by have := HE.out.2; have := DP.out; simp; omega⟩, D6⟩
        case measure => rw [hp6, ← hpos]; have := DP.out; omega
      · have hd : dgB r = false := by simpa using hd
        have HE2 := hid (show L ++ (dgs (rnn s s.size (pos + k))).map pk = L0 ++ (dgs (runesOf s)).map pk from by
          rw [← HE.out.1, ST.out, show r :: rnn s s.size (pos + k) = [r] ++ rnn s s.size (pos + k) from rfl, dgs_app, dgs_no hd]; simp)
        rcases (show (r : Int) < 48 ∨ (48 ≤ (r : Int) ∧ 57 < (r : Int)) by have := of_decide_eq_false hd; omega) with h1 | ⟨h1, h2⟩
        all_goals
          clear hd
          go_wp2
          go_roundw
          case rel => exact ⟨pos + k, L, a, _, c, rfl, hid rfl, HP.out.symm, hid ⟨HE2.out, by have := HE.out.2; omega⟩, D1⟩
          case measure => rw [HP.out, ← hpos]; have := DP.out; omega
    · have NX := fun ty => next_end (P := Tryz.prog) D.out.it ty hlt
      have FN := hid (show Grew base (.slice a0 L0.length c0) (L0 ++ (dgs (runesOf s)).map pk) w (.returned (.slice a L.length c)) wr from by
        have he := HE.out.1
        rw [rnn_end s pos hlt] at he
        rw [show dgs [] = [] from rfl, List.map_nil, List.append_nil] at he
        rw [← he]
        exact ⟨_, rfl, D.out.ow, D.out.gr, D.out.ob⟩)
      clear D HE
      go_wp2
      go_ret
      exact FN.out
end Go.Proofs.YtbplbdopnhnhdaaGreatDoor
/-! A text's digits, byte by byte, and rune by rune. Of no program of its own. -/
namespace Go.Proofs.YtbplbdopnhnhdaaGreatDoor
set_option linter.unusedVariables false
set_option linter.unusedSimpArgs false
open Go.RowKit
def d8 (b : UInt8) : Bool := dgB b.toNat
/-- The digits among bytes. -/
def bd (l : List UInt8) : List Int := (l.filter d8).map fun b => (b.toNat : Int) - 48
theorem bd_cons (b : UInt8) (l : List UInt8) : bd (b :: l) = dgs [b.toNat] ++ bd l := by
  unfold bd dgs
  by_cases h : dgB b.toNat = true
  · rw [List.filter_cons, if_pos (show d8 b = true from h)]
    simp [h]
  · rw [List.filter_cons, if_neg (show ¬ d8 b = true from h)]
    simp [h]
theorem bd_high {l : List UInt8} : ∀ (k i : Nat), (∀ j, j < k → ∃ b, l[i + j]? = some b ∧ 128 ≤ b.toNat) → bd (l.drop i) = bd (l.drop (i + k))
  | 0, i, _ => rfl
  | k + 1, i, h => by
    obtain ⟨b, hb, h1⟩ := h 0 (by omega)
    rw [Nat.add_zero] at hb
    rw [drop_cons hb, bd_cons, dgs_no (by unfold dgB; exact decide_eq_false (by omega)), List.nil_append, bd_high k (i + 1) (fun j hj => by
      have := h (j + 1) (by omega)
      rwa [show i + (j + 1) = i + 1 + j by omega] at this), show i + 1 + k = i + (k + 1) by omega]
/-- What is no ASCII takes bytes that are none. -/
theorem dec_high (s : ByteArray) (i : Nat) (hi : i < s.size) (h : 128 ≤ (s.get! i).toNat) : 128 ≤ (Utf8.decode s i).1 ∧ ∀ j, j < (Utf8.decode s i).2 → ∃ b, s.data.toList[i + j]? = some b ∧ 128 ≤ b.toNat := by
  have e0 : s.get! i = s[i]'hi := by
    have := get_at s i hi
    simpa using this
  refine ⟨(decode_high s i hi (by rw [← e0]; exact h)).1, ?_⟩
  have g0 := getb s i hi
  have one : ∀ j, j < 1 → ∃ b, s.data.toList[i + j]? = some b ∧ 128 ≤ b.toNat := fun j hj => by
    obtain rfl : j = 0 := by omega
    exact ⟨_, g0, h⟩
  have at1 : ∀ k, i + k < s.size → (s.get! (i + k)).toNat / 64 = 2 → ∃ b, s.data.toList[i + k]? = some b ∧ 128 ≤ b.toNat := fun k h1 h2 => ⟨_, getb s (i + k) h1, by omega⟩
  simp only [Utf8.decode, Nat.add_zero]
  rw [if_neg (by omega)]
  split
  · rename_i c
    simp only [Bool.and_eq_true, decide_eq_true_eq, beq_iff_eq] at c
    split
    · intro j hj
      rcases (show j = 0 ∨ j = 1 by omega) with rfl | rfl
      · exact one 0 (by omega)
      · exact at1 1 c.2.1 c.2.2
    · exact one
  · split
    · rename_i c
      simp only [Bool.and_eq_true, decide_eq_true_eq, beq_iff_eq] at c
      split
      · intro j hj
        rcases (show j = 0 ∨ j = 1 ∨ j = 2 by omega) with rfl | rfl | rfl
        · exact one 0 (by omega)
        · exact at1 1 c.1.2.1 c.1.2.2
        · exact at1 2 c.2.1 c.2.2
      · exact one
    · split
      · rename_i c
        simp only [Bool.and_eq_true, decide_eq_true_eq, beq_iff_eq] at c
        split
        · intro j hj
          rcases (show j = 0 ∨ j = 1 ∨ j = 2 ∨ j = 3 by omega) with rfl | rfl | rfl | rfl
          · exact one 0 (by omega)
          · exact at1 1 c.1.1.2.1 c.1.1.2.2
          · exact at1 2 c.1.2.1 c.1.2.2
          · exact at1 3 c.2.1 c.2.2
        · exact one
      · exact one
theorem dec_low (s : ByteArray) (i : Nat) (hi : i < s.size) (h : (s.get! i).toNat < 128) : Utf8.decode s i = ((s.get! i).toNat, 1) := by
  simp only [Utf8.decode, Nat.add_zero]
  rw [if_pos h]
theorem bd_rnn (s : ByteArray) : ∀ (n i : Nat), s.size ≤ i + n → bd (s.data.toList.drop i) = dgs (rnn s n i)
  | 0, i, h => by
    rw [List.drop_eq_nil_of_le (by show s.data.toList.length ≤ i; rw [Array.length_toList]; exact h)]
    rfl
  | n + 1, i, h => by
    simp only [rnn]
    split
    · rename_i hi
      rcases Nat.lt_or_ge (s.get! i).toNat 128 with hb | hb
      · rw [dec_low s i hi hb, drop_cons (getb s i hi), bd_cons, bd_rnn s n (i + 1) (by omega)]
        rw [show ((s.get! i).toNat, 1).1 :: rnn s n (i + ((s.get! i).toNat, 1).2) = [(s.get! i).toNat] ++ rnn s n (i + 1) from rfl, dgs_app]
      · obtain ⟨h1, h2⟩ := dec_high s i hi hb
        have := dec_pos s i
        rw [bd_high _ i h2, bd_rnn s n _ (by omega), show (Utf8.decode s i).1 :: rnn s n (i + (Utf8.decode s i).2) = [(Utf8.decode s i).1] ++ rnn s n (i + (Utf8.decode s i).2) from rfl, dgs_app, dgs_no (by unfold dgB; exact decide_eq_false (by omega)), List.nil_append]
    · rename_i hi
      rw [List.drop_eq_nil_of_le (by show s.data.toList.length ≤ i; rw [Array.length_toList]; exact Nat.le_of_not_lt hi)]
      rfl
theorem bd_runes (s : ByteArray) : bd s.data.toList = dgs (runesOf s) := by
  have := bd_rnn s s.size 0 (by omega)
  rw [List.drop_zero] at this
  exact this
end Go.Proofs.YtbplbdopnhnhdaaGreatDoor
/-! boxed.Steps of any row of things. -/
namespace Go.Proofs.YtbplbdopnhnhdaaGreatDoor
open Go.RowKit
set_option linter.unusedVariables false
set_option linter.unusedSimpArgs false
set_option maxRecDepth 20000
/-- The rune that is written for a number. -/
def nm (c : Int) : Nat := if Utf8.valid c then c.toNat else 65533
theorem nm_le (c : Int) : nm c ≤ 1114111 := by
  unfold nm
  split
  · rename_i h
    simp only [Utf8.valid, Bool.or_eq_true, Bool.and_eq_true, decide_eq_true_eq] at h
    omega
  · omega
theorem nm_valid (c : Int) : Utf8.valid ((nm c : Nat) : Int) = true := by
  unfold nm
  split
  · rename_i h
    have h2 := h
    simp only [Utf8.valid, Bool.or_eq_true, Bool.and_eq_true, decide_eq_true_eq] at h
    rw [Int.toNat_of_nonneg (by omega)]
    exact h2
  · rfl
theorem enc_nm (c : Int) : Utf8.encode c = Utf8.encode ((nm c : Nat) : Int) := by
  have h1 : (if Utf8.valid c then c.toNat else Utf8.runeError) = nm c := rfl
  have h2 : (if Utf8.valid ((nm c : Nat) : Int) then ((nm c : Nat) : Int).toNat else Utf8.runeError) = nm c := by rw [if_pos (nm_valid c), Int.toNat_natCast]
  unfold Utf8.encode
  simp only [h1, h2]
theorem dgs_encI (c : Int) : dgs (runesOf (Utf8.encode c)) = dgs [nm c] := by rw [enc_nm, dgs_enc (nm c) (nm_le c)]
/-- Things: a step, a number, a rune, a text, anything else, nothing. -/
inductive Bx where
  | st (x : Stb)
  | nu (n : Int)
  | ru (c : Int)
  | tx (s : ByteArray)
  | ot (t : TypeId) (v : Value)
  | no
def bxV : Bx → Value
  | .st x => .iface 28 (.agg #[.int .u8 x.1, .int .u8 x.2.1, .int .i64 x.2.2.1, .int .i64 x.2.2.2.1, .int .i64 x.2.2.2.2])
  | .nu n => .iface 3 (.int .i64 n)
  | .ru c => .iface 21 (.int .i32 c)
  | .tx s => .iface 9 (.string s)
  | .ot t v => .iface t v
  | .no => .nilIface
theorem ta_S (v : Value) (w : World) : (Instr.typeAssert (.iface 28 v) 20 28 true).run Tryz.prog w = .ok (.tuple #[v, .bool true]) w := by kernel_rfl
theorem ta_IS (v : Value) (w : World) : (Instr.typeAssert (.iface 3 v) 20 28 true).run Tryz.prog w = .ok (.tuple #[(.agg #[.int .u8 0, .int .u8 0, .int .i64 0, .int .i64 0, .int .i64 0]), .bool false]) w := by kernel_rfl
theorem ta_RS (v : Value) (w : World) : (Instr.typeAssert (.iface 21 v) 20 28 true).run Tryz.prog w = .ok (.tuple #[(.agg #[.int .u8 0, .int .u8 0, .int .i64 0, .int .i64 0, .int .i64 0]), .bool false]) w := by kernel_rfl
theorem ta_TS (v : Value) (w : World) : (Instr.typeAssert (.iface 9 v) 20 28 true).run Tryz.prog w = .ok (.tuple #[(.agg #[.int .u8 0, .int .u8 0, .int .i64 0, .int .i64 0, .int .i64 0]), .bool false]) w := by kernel_rfl
theorem ta_oS {t : TypeId} (h : (t = 28) = False) (v : Value) (w : World) : (Instr.typeAssert (.iface t v) 20 28 true).run Tryz.prog w = .ok (.tuple #[(.agg #[.int .u8 0, .int .u8 0, .int .i64 0, .int .i64 0, .int .i64 0]), .bool false]) w := by
  have hz : (zeroValue 28).run Tryz.prog w = .ok (.agg #[.int .u8 0, .int .u8 0, .int .i64 0, .int .i64 0, .int .i64 0]) w := by kernel_rfl
  simp [Instr.typeAssert, run_underlying Tryz.underlying28, h, hz, Result.andThen]
theorem ta_I (v : Value) (w : World) : (Instr.typeAssert (.iface 3 v) 20 3 true).run Tryz.prog w = .ok (.tuple #[v, .bool true]) w := by kernel_rfl
theorem ta_SI (v : Value) (w : World) : (Instr.typeAssert (.iface 28 v) 20 3 true).run Tryz.prog w = .ok (.tuple #[(.int .i64 0), .bool false]) w := by kernel_rfl
theorem ta_RI (v : Value) (w : World) : (Instr.typeAssert (.iface 21 v) 20 3 true).run Tryz.prog w = .ok (.tuple #[(.int .i64 0), .bool false]) w := by kernel_rfl
theorem ta_TI (v : Value) (w : World) : (Instr.typeAssert (.iface 9 v) 20 3 true).run Tryz.prog w = .ok (.tuple #[(.int .i64 0), .bool false]) w := by kernel_rfl
theorem ta_oI {t : TypeId} (h : (t = 3) = False) (v : Value) (w : World) : (Instr.typeAssert (.iface t v) 20 3 true).run Tryz.prog w = .ok (.tuple #[(.int .i64 0), .bool false]) w := by
  have hz : (zeroValue 3).run Tryz.prog w = .ok (.int .i64 0) w := by kernel_rfl
  simp [Instr.typeAssert, run_underlying Tryz.underlying3, h, hz, Result.andThen]
theorem ta_R (v : Value) (w : World) : (Instr.typeAssert (.iface 21 v) 20 21 true).run Tryz.prog w = .ok (.tuple #[v, .bool true]) w := by kernel_rfl
theorem ta_SR (v : Value) (w : World) : (Instr.typeAssert (.iface 28 v) 20 21 true).run Tryz.prog w = .ok (.tuple #[(.int .i32 0), .bool false]) w := by kernel_rfl
theorem ta_IR (v : Value) (w : World) : (Instr.typeAssert (.iface 3 v) 20 21 true).run Tryz.prog w = .ok (.tuple #[(.int .i32 0), .bool false]) w := by kernel_rfl
theorem ta_TR (v : Value) (w : World) : (Instr.typeAssert (.iface 9 v) 20 21 true).run Tryz.prog w = .ok (.tuple #[(.int .i32 0), .bool false]) w := by kernel_rfl
theorem ta_oR {t : TypeId} (h : (t = 21) = False) (v : Value) (w : World) : (Instr.typeAssert (.iface t v) 20 21 true).run Tryz.prog w = .ok (.tuple #[(.int .i32 0), .bool false]) w := by
  have hz : (zeroValue 21).run Tryz.prog w = .ok (.int .i32 0) w := by kernel_rfl
  simp [Instr.typeAssert, run_underlying Tryz.underlying21, h, hz, Result.andThen]
theorem ta_T (v : Value) (w : World) : (Instr.typeAssert (.iface 9 v) 20 9 true).run Tryz.prog w = .ok (.tuple #[v, .bool true]) w := by kernel_rfl
theorem ta_ST (v : Value) (w : World) : (Instr.typeAssert (.iface 28 v) 20 9 true).run Tryz.prog w = .ok (.tuple #[(.string { data := #[] }), .bool false]) w := by kernel_rfl
theorem ta_IT (v : Value) (w : World) : (Instr.typeAssert (.iface 3 v) 20 9 true).run Tryz.prog w = .ok (.tuple #[(.string { data := #[] }), .bool false]) w := by kernel_rfl
theorem ta_RT (v : Value) (w : World) : (Instr.typeAssert (.iface 21 v) 20 9 true).run Tryz.prog w = .ok (.tuple #[(.string { data := #[] }), .bool false]) w := by kernel_rfl
theorem ta_oT {t : TypeId} (h : (t = 9) = False) (v : Value) (w : World) : (Instr.typeAssert (.iface t v) 20 9 true).run Tryz.prog w = .ok (.tuple #[(.string { data := #[] }), .bool false]) w := by
  have hz : (zeroValue 9).run Tryz.prog w = .ok (.string { data := #[] }) w := by kernel_rfl
  simp [Instr.typeAssert, run_underlying Tryz.underlying9, h, hz, Result.andThen]
theorem ta_nS (w : World) : (Instr.typeAssert .nilIface 20 28 true).run Tryz.prog w = .ok (.tuple #[(.agg #[.int .u8 0, .int .u8 0, .int .i64 0, .int .i64 0, .int .i64 0]), .bool false]) w := by kernel_rfl
theorem ta_nI (w : World) : (Instr.typeAssert .nilIface 20 3 true).run Tryz.prog w = .ok (.tuple #[(.int .i64 0), .bool false]) w := by kernel_rfl
theorem ta_nR (w : World) : (Instr.typeAssert .nilIface 20 21 true).run Tryz.prog w = .ok (.tuple #[(.int .i32 0), .bool false]) w := by kernel_rfl
theorem ta_nT (w : World) : (Instr.typeAssert .nilIface 20 9 true).run Tryz.prog w = .ok (.tuple #[(.string { data := #[] }), .bool false]) w := by kernel_rfl
/-- Others are of no type that is asked for; runes and texts are not too long. -/
def BxOk : Bx → Prop
  | .ot t _ => (t = 28) = False ∧ (t = 3) = False ∧ (t = 21) = False ∧ (t = 9) = False
  | .ru c => -2147483648 ≤ c ∧ c ≤ 2147483647
  | .tx s => s.size ≤ 1000
  | _ => True
/-- Its steps. -/
def bxS : Bx → List Stb
  | .st x => [x]
  | .nu n => [pk n]
  | .ru c => (dgs [nm c]).map pk
  | .tx s => (dgs (runesOf s)).map pk
  | _ => []
def bxAll (l : List Bx) : List Stb := l.flatMap bxS
theorem bxAll_snoc (l : List Bx) (x : Bx) : bxAll (l ++ [x]) = bxAll l ++ bxS x := by simp [bxAll]
theorem rnn_len (s : ByteArray) : ∀ (n i : Nat), (rnn s n i).length ≤ n
  | 0, _ => Nat.le_refl _
  | n + 1, i => by
    simp only [rnn]
    split
    · simp; exact rnn_len s n _
    · simp
theorem dgs_len (l : List Nat) : (dgs l).length ≤ l.length := by unfold dgs; rw [List.length_map]; exact List.length_filter_le _ _
theorem bxS_len {x : Bx} (h : BxOk x) : (bxS x).length ≤ 1000 := by
  cases x with
  | st x => simp [bxS]
  | nu n => simp [bxS]
  | ru c => unfold bxS; rw [List.length_map]; exact Nat.le_trans (dgs_len _) (by simp)
  | tx s => unfold bxS; rw [List.length_map]; exact Nat.le_trans (dgs_len _) (Nat.le_trans (rnn_len s _ _) h)
  | ot t v => simp [bxS]
  | no => simp [bxS]
theorem bxAll_len : ∀ {l : List Bx}, (∀ x ∈ l, BxOk x) → (bxAll l).length ≤ l.length * 1000
  | [], _ => by simp [bxAll]
  | x :: l, h => by
    have h1 := bxS_len (h x (by simp))
    have h2 := bxAll_len (l := l) (fun y hy => h y (by simp [hy]))
    simp [bxAll] at h2 ⊢
    omega
theorem enc_size (c : Int) : (Utf8.encode c).size ≤ 4 := by
  unfold Utf8.encode
  simp only
  repeat' split
  · show 1 ≤ 4; omega
  · show 2 ≤ 4; omega
  · show 3 ≤ 4; omega
  · show 4 ≤ 4; omega
  all_goals first | (show 1 ≤ 4; omega) | (show 2 ≤ 4; omega) | (show 3 ≤ 4; omega) | (show 4 ≤ 4; omega)
def bxAt (l : List Bx) (i : Nat) : Bx := l.getD i .no
theorem bx_take {l : List Bx} {k : Nat} (h : k < l.length) : l.take (k + 1) = l.take k ++ [bxAt l k] := by
  rw [List.take_add_one, List.getElem?_eq_getElem h]
  simp [bxAt, List.getElem?_eq_getElem h]
/-- A slice that reads as things. -/
def RdX (w : World) (v : Value) (l : List Bx) : Prop :=
  ∃ a c, v = .slice a l.length c ∧ l.length ≤ c ∧ c ≤ maxLen ∧ (0 < l.length → ∃ g off, a = some ⟨g, off, none⟩ ∧ g < w.heap.size ∧ ∀ i, i < l.length → w.cell? ⟨g, off + i, none⟩ = some (bxV (bxAt l i)))
theorem RdX.below {w w' : World} {v : Value} {l : List Bx} (h : RdX w v l) (hb : Below w.heap.size w w') : RdX w' v l := by
  obtain ⟨a, c, h1, h2, h3, h4⟩ := h
  refine ⟨a, c, h1, h2, h3, fun h0 => ?_⟩
  obtain ⟨g, off, e, hg, hc⟩ := h4 h0
  have hs := hb.size
  exact ⟨g, off, e, by omega, fun i hi => (hb.cell (p := ⟨g, _, none⟩) hg).trans (hc i hi)⟩
theorem own_rdX {w : World} {base : Nat} {t : TypeId} {v : Value} {l : List Bx} (h : w.ownsRow base t 1 v l.length (l.map bxV)) : RdX w v l := by
  obtain ⟨h0, ⟨h1, h2⟩ | ⟨q, cap, cur, h1, h2, h3, h4, h5, h6, h7⟩⟩ := id h
  · exact ⟨none, 0, by rw [h1, h2], by omega, by simp, fun h => by omega⟩
  · refine ⟨_, cap, h1, h4, h5, fun hn => ⟨q, 0, rfl, by obtain ⟨hl, _⟩ := Array.getElem?_eq_some_iff.1 h3; exact hl, fun i hi => ?_⟩⟩
    subst h1
    rw [Nat.zero_add, h.cellAt (g := q) (cap := cap) i (by simpa using hi)]
    simp [bxAt, hi]
/-- What stands in the loop of Steps. -/
structure StW (w0 : World) (L : List Stb) (v : Value) (w : World) : Prop where
  ow : w.ownsRow w0.heap.size 28 5 v L.length (fb L)
  bl : Below w0.heap.size w0 w
theorem StW.grew {w0 w w' : World} {L L' : List Stb} {v v' : Value} (h : StW w0 L v w) (ho : w'.ownsRow w0.heap.size 28 5 v' L'.length (fb L')) (hg : w.grownBy w' v.ownBlock) : StW w0 L' v' w' :=
  ⟨ho, h.bl.grown hg h.bl.size (fun q hq => (World.ownsRow.lt h.ow q hq).1)⟩
theorem StW.below {w0 w w' : World} {L : List Stb} {v : Value} (h : StW w0 L v w) (hb : Below w.heap.size w w') : StW w0 L v w' :=
  ⟨own_belowB h.ow hb, h.bl.trans (hb.mono h.bl.size)⟩
def StepsP (l : List Bx) (w : World) (e : Ending) (w' : World) : Prop := ∃ v, e = .returned v ∧ w'.ownsRow w.heap.size 28 5 v (bxAll l).length (fb (bxAll l)) ∧ Below w.heap.size w w'
set_option maxHeartbeats 8000000 in
theorem steps_any (v : Value) (l : List Bx) (w : World) (hr : RdX w v l) (hk : ∀ x ∈ l, BxOk x) (hl : l.length ≤ 100) :
    Calls Tryz.prog 7 #[v] w (StepsP l w) := by
  have RD := hid hr
  obtain ⟨a, c, rfl, _, _⟩ := hr
  obtain ⟨n, hn⟩ : ∃ n, n = l.length := ⟨_, rfl⟩
  have HN := hid hn
  have OK := hid hk
  rw [← hn] at hl ⊢
  obtain ⟨i0, hi, hz0, hz1, hz2⟩ := info_parts infoSb
  have HI := hid (And.intro hi (And.intro hz0 (And.intro hz1 hz2)))
  clear hn hk hi hz0 hz1 hz2
  go_enter Tryz.func7, Tryz.ntmps7
  go_wp2_with fail
  go_loopw [3, 12] (fun x i wr => ∃ (k : Nat) (a : Option Addr) (m c : Nat), k ≤ n ∧ i = .int .i64 k ∧ x = .slice a m c ∧ Hid (m = (bxAll (l.take k)).length) ∧ Hid (StW w (bxAll (l.take k)) (.slice a m c) wr)) (fun _ i _ => n - (intOf i).toNat)
  case atStart => exact ⟨0, none, 0, 0, Nat.zero_le _, rfl, rfl, hid rfl, hid ⟨World.ownsRow_nil w _ _ _, Below.refl _ _⟩⟩
  case round =>
    obtain ⟨k, a3, m, c3, hk, rfl, rfl, HM, W⟩ := hrel
    by_cases hlt : k < n
    · obtain ⟨a', c', e, _, _, hh⟩ := RD.out.below (w' := wr) W.out.bl
      simp only [Value.slice.injEq] at e
      obtain ⟨rfl, e9, rfl⟩ := e
      clear e9
      obtain ⟨q, off, rfl, _, hc⟩ := hh (by have := HN.out; omega)
      have hx := hc k (by have := HN.out; omega)
      have TK := hid (show bxAll (l.take (k + 1)) = bxAll (l.take k) ++ bxS (bxAt l k) from by rw [bx_take (by have := HN.out; omega), bxAll_snoc])
      have hok : BxOk (bxAt l k) := OK.out _ (by unfold bxAt; rw [List.getD_eq_getElem?_getD, List.getElem?_eq_getElem (by have := HN.out; omega)]; exact List.getElem_mem _)
      have BL := hid (show (bxAll (l.take k)).length ≤ 100000 from by
        have h1 := bxAll_len (l := l.take k) (fun x hx => OK.out x (List.mem_of_mem_take hx))
        have h2 : (l.take k).length ≤ k := by rw [List.length_take]; omega
        omega)
      have hrl := HM.out
      subst hrl
      clear HM hh hc
      generalize bxAt l k = x at *
      cases x with
      | st x =>
        obtain ⟨x0, x1, x2, x3, x4⟩ := x
        simp only [bxV] at hx
        have b1 := (Below.refl wr.heap.size wr).alloc (Nat.le_refl _) (.cells #[.int .u8 x0, .int .u8 x1, .int .i64 x2, .int .i64 x3, .int .i64 x4] 28)
        have W4 := hid (W.out.below b1)
        have NB := hid (Deep.blk_alloc_new wr (.cells #[.int .u8 x0, .int .u8 x1, .int .i64 x2, .int .i64 x3, .int .i64 x4] 28))
        have S4 := hid W4.out.bl.size
        simp only [bxS] at TK
        have q1 := ta_S (.agg #[.int .u8 x0, .int .u8 x1, .int .i64 x2, .int .i64 x3, .int .i64 x4]) wr
        clear hok b1 W
        go_upto_region 8 with (fail)
        generalize wr.alloc (.cells #[.int .u8 x0, .int .u8 x1, .int .i64 x2, .int .i64 x3, .int .i64 x4] 28) = w4 at *
        have O3 := hid (World.ownsRow.alloc W4.out.ow (.cells #[.int .u8 x0, .int .u8 x1, .int .i64 x2, .int .i64 x3, .int .i64 x4] 28))
        have NW := hid (news_sb w4 (x0, x1, x2, x3, x4) 28)
        have y0 : w4.cell? ⟨wr.heap.size, 0, none⟩ = some (.int .u8 x0) := blk_cell NB.out rfl
        have y1 : w4.cell? ⟨wr.heap.size, 1, none⟩ = some (.int .u8 x1) := blk_cell NB.out rfl
        have y2 : w4.cell? ⟨wr.heap.size, 2, none⟩ = some (.int .i64 x2) := blk_cell NB.out rfl
        have y3 : w4.cell? ⟨wr.heap.size, 3, none⟩ = some (.int .i64 x3) := blk_cell NB.out rfl
        have y4 : w4.cell? ⟨wr.heap.size, 4, none⟩ = some (.int .i64 x4) := blk_cell NB.out rfl
        go_wp2_with (at_builtin; refine wpList_append_own_at _ rfl _ _ 24 rfl w.heap.size 28 i0 _ 5 32 Tryz.underlying24 HI.out.1 HI.out.2.1 HI.out.2.2.1 HI.out.2.2.2 rfl (by decide) _ _ _ rfl O3.out ⟨w4.heap.size, 0, none⟩ 1 1 (fb [(x0, x1, x2, x3, x4)]) rfl rfl NW.out (fb_ones _) ?c1 ?c2 ?c3 ?_)
        case c1 => have := BL.out; unfold maxLen; omega
        case c2 => have := BL.out; omega
        case c3 => have := S4.out; simp; omega
        intro v' w6 hown6 hgrow _ _
        have own6 : w6.ownsRow w.heap.size 28 5 v' (bxAll (l.take k) ++ [(x0, x1, x2, x3, x4)]).length (fb (bxAll (l.take k) ++ [(x0, x1, x2, x3, x4)])) := by
          rw [List.length_append, fb_app]
          exact hown6
        have W6 := hid ((W4.out.below ((Below.refl _ _).alloc (Nat.le_refl _) _)).grew own6 hgrow)
        obtain ⟨a6, c6, rfl⟩ := own_sliceB own6
        clear hown6 own6 hgrow O3 NW W4 S4
        go_wp2
        go_roundw
        case rel => exact ⟨k + 1, a6, _, c6, by omega, by go_num, rfl, hid (by rw [TK.out]), hid (by rw [TK.out]; exact W6.out)⟩
        case measure => simp [intOf]; omega
      | nu y =>
        simp only [bxV] at hx
        simp only [bxS] at TK
        have q1 := ta_IS (.int .i64 y) wr
        have q2 := ta_I (.int .i64 y) wr
        have PK := hid (pick_any y wr)
        clear hok
        go_wp2_with fail
        refine PK.out.mono ?_
        rintro e w4 ⟨rfl, hb4⟩
        have W4 := hid (W.out.below hb4)
        have O3 := hid (World.ownsRow.alloc W4.out.ow (.cells #[.int .u8 0, .int .u8 0, .int .i64 y, .int .i64 0, .int .i64 0] 28))
        have NW := hid (news_sb w4 (pk y) 28)
        have S4 := hid W4.out.bl.size
        clear PK hb4 W
        go_wp2_with (at_builtin; refine wpList_append_own_at _ rfl _ _ 24 rfl w.heap.size 28 i0 _ 5 32 Tryz.underlying24 HI.out.1 HI.out.2.1 HI.out.2.2.1 HI.out.2.2.2 rfl (by decide) _ _ _ rfl O3.out ⟨w4.heap.size, 0, none⟩ 1 1 (fb [pk y]) rfl rfl NW.out (fb_ones _) ?c1 ?c2 ?c3 ?_)
        case c1 => have := BL.out; unfold maxLen; omega
        case c2 => have := BL.out; omega
        case c3 => have := S4.out; simp; omega
        intro v' w6 hown6 hgrow _ _
        have own6 : w6.ownsRow w.heap.size 28 5 v' (bxAll (l.take k) ++ [pk y]).length (fb (bxAll (l.take k) ++ [pk y])) := by
          rw [List.length_append, fb_app]
          exact hown6
        have W6 := hid ((W4.out.below ((Below.refl _ _).alloc (Nat.le_refl _) _)).grew own6 hgrow)
        obtain ⟨a6, c6, rfl⟩ := own_sliceB own6
        clear hown6 own6 hgrow O3 NW W4 S4
        go_wp2
        go_roundw
        case rel => exact ⟨k + 1, a6, _, c6, by omega, by go_num, rfl, hid (by rw [TK.out]), hid (by rw [TK.out]; exact W6.out)⟩
        case measure => simp [intOf]; omega
      | ru y =>
        simp only [bxV] at hx
        simp only [bxS] at TK
        have q1 := ta_RS (.int .i32 y) wr
        have q2 := ta_RI (.int .i32 y) wr
        have q3 := ta_R (.int .i32 y) wr
        have hsz : (Utf8.encode y).size ≤ 4 := enc_size y
        have DG := hid (digits_any w.heap.size _ _ (Utf8.encode y) wr W.out.ow W.out.bl.size (by have := BL.out; omega))
        rw [dgs_encI y] at DG
        clear hok
        go_wp2_with fail
        refine DG.out.mono ?_
        rintro e w6 ⟨v6, rfl, own6, hgrow, _⟩
        have W6 := hid (W.out.grew own6 hgrow)
        clear W DG hgrow
        generalize bxAll (l.take k) ++ (dgs [nm y]).map pk = L6 at *
        obtain ⟨a6, c6, rfl⟩ := own_sliceB own6
        clear own6
        go_wp2
        go_roundw
        case rel => exact ⟨k + 1, a6, _, c6, by omega, by go_num, rfl, hid (by rw [TK.out]), hid (by rw [TK.out]; exact W6.out)⟩
        case measure => simp [intOf]; omega
      | tx y =>
        simp only [bxV] at hx
        simp only [bxS] at TK
        have q1 := ta_TS (.string y) wr
        have q2 := ta_TI (.string y) wr
        have q3 := ta_TR (.string y) wr
        have q4 := ta_T (.string y) wr
        have DG := hid (digits_any w.heap.size _ _ y wr W.out.ow W.out.bl.size (by have := BL.out; have : y.size ≤ 1000 := hok; omega))
        clear hok
        go_wp2_with fail
        refine DG.out.mono ?_
        rintro e w6 ⟨v6, rfl, own6, hgrow, _⟩
        have W6 := hid (W.out.grew own6 hgrow)
        clear W DG hgrow
        generalize bxAll (l.take k) ++ (dgs (runesOf y)).map pk = L6 at *
        obtain ⟨a6, c6, rfl⟩ := own_sliceB own6
        clear own6
        go_wp2
        go_roundw
        case rel => exact ⟨k + 1, a6, _, c6, by omega, by go_num, rfl, hid (by rw [TK.out]), hid (by rw [TK.out]; exact W6.out)⟩
        case measure => simp [intOf]; omega
      | ot t y =>
        simp only [bxV] at hx
        simp only [bxS, List.append_nil] at TK
        obtain ⟨t1, t2, t3, t4⟩ := hok
        have q1 := ta_oS t1 y wr
        have q2 := ta_oI t2 y wr
        have q3 := ta_oR t3 y wr
        have q4 := ta_oT t4 y wr
        clear t1 t2 t3 t4
        go_wp2
        go_roundw
        case rel => exact ⟨k + 1, a3, _, c3, by omega, by go_num, rfl, hid (by rw [TK.out]), hid (by rw [TK.out]; exact W.out)⟩
        case measure => simp [intOf]; omega
      | no =>
        simp only [bxV] at hx
        simp only [bxS, List.append_nil] at TK
        have q1 := ta_nS wr
        have q2 := ta_nI wr
        have q3 := ta_nR wr
        have q4 := ta_nT wr
        clear hok
        go_wp2
        go_roundw
        case rel => exact ⟨k + 1, a3, _, c3, by omega, by go_num, rfl, hid (by rw [TK.out]), hid (by rw [TK.out]; exact W.out)⟩
        case measure => simp [intOf]; omega
    · obtain rfl : k = n := by omega
      have ht : l.take k = l := List.take_of_length_le (by have := HN.out; omega)
      rw [ht] at W HM
      obtain rfl := HM.out
      have FN := hid (show StepsP l w (.returned (.slice a3 (bxAll l).length c3)) wr from ⟨_, rfl, W.out.ow, W.out.bl⟩)
      clear W
      go_wp2
      go_ret
      exact FN.out
end Go.Proofs.YtbplbdopnhnhdaaGreatDoor
/-! boxed.Runes of any row of things (module Shelf: strings.Builder, by wip/tools/shelf.sh with extra_builder.lean). -/
namespace Go.Proofs.YtbplbdopnhnhdaaGreatDoor
open Go.RowKit
set_option linter.unusedVariables false
set_option linter.unusedSimpArgs false
set_option maxRecDepth 20000
theorem toU8 {z : Int} {n : Nat} (h : z = (n : Int)) : z.toNat.toUInt8 = UInt8.ofNat n := by subst h; rfl
/-- The library's words for a rune's bytes, and the model's. -/
theorem enc_eq (c : Nat) (h : c ≤ 1114111) : Lib.encodeRune (c : Int) = (Utf8.encode (c : Int)).data.toList := by
  unfold Lib.encodeRune
  by_cases h1 : c < 128
  · rw [Lib.encodeRuneZ_one (by omega) (by omega), enc_low c h1]
    rfl
  · by_cases hv : Utf8.valid (c : Int) = true
    · have hv2 : c < 55296 ∨ (57344 ≤ c ∧ c ≤ 1114111) := by
        simp only [Utf8.valid, Bool.or_eq_true, Bool.and_eq_true, decide_eq_true_eq] at hv
        omega
      by_cases h2 : c < 2048
      · have he : Utf8.encode (c : Int) = ⟨#[UInt8.ofNat (192 + c / 64), UInt8.ofNat (128 + c % 64)]⟩ := by
          unfold Utf8.encode
          simp only [hv, if_true, Int.toNat_natCast]
          rw [if_neg (by omega), if_pos (by omega)]
        rw [Lib.encodeRuneZ_two (by omega) (by omega), he]
        simp only [List.map_cons, List.map_nil]
        rw [toU8 (n := 192 + c / 64) (by omega), toU8 (n := 128 + c % 64) (by omega)]
      · by_cases h3 : c < 65536
        · have he : Utf8.encode (c : Int) = ⟨#[UInt8.ofNat (224 + c / 4096), UInt8.ofNat (128 + c / 64 % 64), UInt8.ofNat (128 + c % 64)]⟩ := by
            unfold Utf8.encode
            simp only [hv, if_true, Int.toNat_natCast]
            rw [if_neg (by omega), if_neg (by omega), if_pos (by omega)]
          rw [Lib.encodeRuneZ_three (by omega), he]
          simp only [List.map_cons, List.map_nil]
          rw [toU8 (n := 224 + c / 4096) (by omega), toU8 (n := 128 + c / 64 % 64) (by omega), toU8 (n := 128 + c % 64) (by omega)]
        · have he : Utf8.encode (c : Int) = ⟨#[UInt8.ofNat (240 + c / 262144), UInt8.ofNat (128 + c / 4096 % 64), UInt8.ofNat (128 + c / 64 % 64), UInt8.ofNat (128 + c % 64)]⟩ := by
            unfold Utf8.encode
            simp only [hv, if_true, Int.toNat_natCast]
            rw [if_neg (by omega), if_neg (by omega), if_neg (by omega)]
          rw [Lib.encodeRuneZ_four (by omega) (by omega), he]
          simp only [List.map_cons, List.map_nil]
          rw [toU8 (n := 240 + c / 262144) (by omega), toU8 (n := 128 + c / 4096 % 64) (by omega), toU8 (n := 128 + c / 64 % 64) (by omega), toU8 (n := 128 + c % 64) (by omega)]
    · have hv' : Utf8.valid (c : Int) = false := by simpa using hv
      have hv2 : 55296 ≤ c ∧ c ≤ 57343 := by
        simp only [Utf8.valid, Bool.or_eq_true, Bool.and_eq_true, decide_eq_true_eq] at hv
        omega
      have he : Utf8.encode (c : Int) = ⟨#[239, 191, 189]⟩ := by
        unfold Utf8.encode
        simp only [hv', Bool.false_eq_true, if_false, Utf8.runeError]
        simp
      rw [Lib.encodeRuneZ_bad (by omega), he]
      rfl
theorem enc_eqI (c : Int) : Lib.encodeRune c = (Utf8.encode c).data.toList := by
  by_cases hv : Utf8.valid c = true
  · have h2 := hv
    simp only [Utf8.valid, Bool.or_eq_true, Bool.and_eq_true, decide_eq_true_eq] at h2
    obtain ⟨n, rfl⟩ : ∃ n : Nat, c = n := ⟨c.toNat, by omega⟩
    exact enc_eq n (by omega)
  · have h2 : c < 0 ∨ (55296 ≤ c ∧ c ≤ 57343) ∨ 1114111 < c := by
      simp only [Utf8.valid, Bool.or_eq_true, Bool.and_eq_true, decide_eq_true_eq] at hv
      omega
    have h3 : nm c = 65533 := by unfold nm; rw [if_neg hv]
    rw [enc_nm, h3, ← enc_eq 65533 (by omega)]
    unfold Lib.encodeRune
    rw [Lib.encodeRuneZ_bad h2]
    rfl
/-- A thing's text. -/
def bxT : Bx → List UInt8
  | .ru c => (Utf8.encode c).data.toList
  | .tx s => s.data.toList
  | _ => []
def bxTs (l : List Bx) : List UInt8 := l.flatMap bxT
theorem bxTs_snoc (l : List Bx) (x : Bx) : bxTs (l ++ [x]) = bxTs l ++ bxT x := by simp [bxTs]
theorem enc_len (c : Int) : (Utf8.encode c).data.toList.length ≤ 1000 := by
  have h := enc_size c
  generalize Utf8.encode c = e at *
  rw [Array.length_toList]
  exact Nat.le_trans h (by decide)
theorem bxT_len {x : Bx} (h : BxOk x) : (bxT x).length ≤ 1000 := by
  cases x with
  | ru c => exact enc_len c
  | tx s =>
    show s.data.toList.length ≤ 1000
    rw [Array.length_toList]
    exact h
  | _ => simp [bxT]
theorem bxTs_len : ∀ {l : List Bx}, (∀ x ∈ l, BxOk x) → (bxTs l).length ≤ l.length * 1000
  | [], _ => by simp [bxTs]
  | x :: l, h => by
    have h1 := bxT_len (h x (by simp))
    have h2 := bxTs_len (l := l) (fun y hy => h y (by simp [hy]))
    simp [bxTs] at h2 ⊢
    omega
/-- What stands in the loop of Runes. -/
structure RuW (w0 : World) (L : List UInt8) (w : World) : Prop where
  bd : Lib.IsBuilderF 58 5 w0.heap.size w0.heap.size (Lib.byteCells L) w
  bl : Below w0.heap.size w0 w
theorem wr_any {w0 w : World} {L : List UInt8} (h : RuW w0 L w) (hl : L.length ≤ 1000000) (c : Int) (hc : -2147483648 ≤ c ∧ c ≤ 2147483647) :
    Calls Tryz.prog 18 #[.pointer (some ⟨w0.heap.size, 0, none⟩), .int .i32 c] w fun e w' => (∃ v, e = .returned v) ∧ RuW w0 (L ++ bxT (.ru c)) w' := by
  refine (Any.Builder_WriteRune_k Tryz.laysWR Tryz.Builder_Extra_168 w0.heap.size w0.heap.size (Lib.byteCells L) c hc.1 hc.2 w h.bd (by rw [Lib.byteCells_length]; omega) h.bl.size).mono ?_
  rintro e w' ⟨rfl, h1, h2, _⟩
  refine ⟨⟨_, rfl⟩, .inr ?_, h.bl.trans h2⟩
  rw [Lib.byteCells_append, show bxT (.ru c) = (Utf8.encode c).data.toList from rfl, ← enc_eqI c, Lib.byteCells_encodeRune]
  exact h1
theorem ws_any {w0 w : World} {L : List UInt8} (h : RuW w0 L w) (hl : L.length ≤ 1000000) (s : ByteArray) (hs : s.size ≤ 1000) :
    Calls Tryz.prog 19 #[.pointer (some ⟨w0.heap.size, 0, none⟩), .string s] w fun e w' => (∃ v, e = .returned v) ∧ RuW w0 (L ++ bxT (.tx s)) w' := by
  refine (Any.Builder_WriteString_k Tryz.laysWS Tryz.Builder_Extra_166 w0.heap.size w0.heap.size (Lib.byteCells L) s w h.bd (by rw [Lib.byteCells_length]; omega) h.bl.size).mono ?_
  rintro e w' ⟨rfl, h1, h2, _⟩
  refine ⟨⟨_, rfl⟩, .inr ?_, h.bl.trans h2⟩
  rw [Lib.byteCells_append, show bxT (.tx s) = s.data.toList from rfl, ← Lib.strCells_eq]
  exact h1
theorem bs_any {w0 w : World} {L : List UInt8} (h : RuW w0 L w) :
    Calls Tryz.prog 20 #[.pointer (some ⟨w0.heap.size, 0, none⟩)] w fun e w' => e = .returned (.string ⟨L.toArray⟩) ∧ Below w0.heap.size w0 w' := by
  refine (Any.Builder_String_any_k Tryz.laysBS Tryz.Builder_Extra_169 w0.heap.size w0.heap.size L w h.bd h.bl.size).mono ?_
  rintro e w' ⟨rfl, _, h2, _⟩
  exact ⟨rfl, h.bl.trans h2⟩
theorem ru_new (w : World) : RuW w [] (w.alloc (.cells #[.pointer none, .slice none 0 0] 58)) :=
  ⟨.inl ⟨Nat.le_refl _, .slice none 0 0, Deep.blk_alloc_new _ _, World.ownsRowF_of (World.ownsRow_nil _ _ _ _), by simp [Value.ownBlock]⟩, (Below.refl _ _).alloc (Nat.le_refl _) _⟩
set_option maxHeartbeats 8000000 in
theorem runes_any (v : Value) (l : List Bx) (w : World) (hr : RdX w v l) (hk : ∀ x ∈ l, BxOk x) (hl : l.length ≤ 200) :
    Calls Tryz.prog 8 #[v] w fun e w' => e = .returned (.string ⟨(bxTs l).toArray⟩) ∧ Below w.heap.size w w' := by
  have RD := hid hr
  obtain ⟨a, c, rfl, _, _⟩ := hr
  obtain ⟨n, hn⟩ : ∃ n, n = l.length := ⟨_, rfl⟩
  have HN := hid hn
  have OK := hid hk
  rw [← hn] at hl ⊢
  have P0 := hid (ru_new w)
  clear hn hk
  go_enter Tryz.func8, Tryz.ntmps8
  go_wp2_with fail
  generalize hb0 : w.heap.size = b0 at *
  go_loopw [10] (fun i wr => ∃ (k : Nat), k ≤ n ∧ i = .int .i64 k ∧ Hid (RuW w (bxTs (l.take k)) wr)) (fun i _ => n - (intOf i).toNat)
  case atStart => exact ⟨0, Nat.zero_le _, rfl, P0⟩
  case round =>
    clear P0
    obtain ⟨k, hk, rfl, W⟩ := hrel
    by_cases hlt : k < n
    · obtain ⟨a', c', e, _, _, hh⟩ := RD.out.below (w' := wr) (by rw [hb0]; exact hb0 ▸ W.out.bl)
      simp only [Value.slice.injEq] at e
      obtain ⟨rfl, e9, rfl⟩ := e
      clear e9
      obtain ⟨q, off, rfl, _, hc⟩ := hh (by have := HN.out; omega)
      have hx := hc k (by have := HN.out; omega)
      have TK := hid (show bxTs (l.take (k + 1)) = bxTs (l.take k) ++ bxT (bxAt l k) from by rw [bx_take (by have := HN.out; omega), bxTs_snoc])
      have hok : BxOk (bxAt l k) := OK.out _ (by unfold bxAt; rw [List.getD_eq_getElem?_getD, List.getElem?_eq_getElem (by have := HN.out; omega)]; exact List.getElem_mem _)
      have BL : (bxTs (l.take k)).length ≤ 1000000 := by
        have h1 := bxTs_len (l := l.take k) (fun x hx => OK.out x (List.mem_of_mem_take hx))
        have h2 : (l.take k).length ≤ k := by rw [List.length_take]; omega
        omega
      clear hh hc
      generalize bxAt l k = x at *
      cases x with
      | ru y =>
        simp only [bxV] at hx
        have q1 := ta_R (.int .i32 y) wr
        have WR := hid (wr_any W.out BL y hok)
        rw [hb0] at WR
        clear hok W BL
        go_wp2_with fail
        refine WR.out.mono ?_
        rintro e w6 ⟨⟨v6, rfl⟩, h6⟩
        have W6 := hid h6
        clear WR h6
        go_wp2
        go_roundw
        case rel => exact ⟨k + 1, by omega, by go_num, hid (by rw [TK.out]; exact W6.out)⟩
        case measure => simp [intOf]; omega
      | tx y =>
        simp only [bxV] at hx
        have q1 := ta_TR (.string y) wr
        have q2 := ta_T (.string y) wr
        have WR := hid (ws_any W.out BL y hok)
        rw [hb0] at WR
        clear hok W BL
        go_wp2_with fail
        refine WR.out.mono ?_
        rintro e w6 ⟨⟨v6, rfl⟩, h6⟩
        have W6 := hid h6
        clear WR h6
        go_wp2
        go_roundw
        case rel => exact ⟨k + 1, by omega, by go_num, hid (by rw [TK.out]; exact W6.out)⟩
        case measure => simp [intOf]; omega
      | st y =>
        simp only [bxV] at hx
        simp only [bxT, List.append_nil] at TK
        have q1 := ta_SR (.agg #[.int .u8 y.1, .int .u8 y.2.1, .int .i64 y.2.2.1, .int .i64 y.2.2.2.1, .int .i64 y.2.2.2.2]) wr
        have q2 := ta_ST (.agg #[.int .u8 y.1, .int .u8 y.2.1, .int .i64 y.2.2.1, .int .i64 y.2.2.2.1, .int .i64 y.2.2.2.2]) wr
        clear hok BL
        go_wp2
        go_roundw
        case rel => exact ⟨k + 1, by omega, by go_num, hid (by rw [TK.out]; exact W.out)⟩
        case measure => simp [intOf]; omega
      | nu y =>
        simp only [bxV] at hx
        simp only [bxT, List.append_nil] at TK
        have q1 := ta_IR (.int .i64 y) wr
        have q2 := ta_IT (.int .i64 y) wr
        clear hok BL
        go_wp2
        go_roundw
        case rel => exact ⟨k + 1, by omega, by go_num, hid (by rw [TK.out]; exact W.out)⟩
        case measure => simp [intOf]; omega
      | ot t y =>
        simp only [bxV] at hx
        simp only [bxT, List.append_nil] at TK
        obtain ⟨t1, t2, t3, t4⟩ := hok
        have q1 := ta_oR t3 y wr
        have q2 := ta_oT t4 y wr
        clear t1 t2 t3 t4 BL
        go_wp2
        go_roundw
        case rel => exact ⟨k + 1, by omega, by go_num, hid (by rw [TK.out]; exact W.out)⟩
        case measure => simp [intOf]; omega
      | no =>
        simp only [bxV] at hx
        simp only [bxT, List.append_nil] at TK
        have q1 := ta_nR wr
        have q2 := ta_nT wr
        clear hok BL
        go_wp2
        go_roundw
        case rel => exact ⟨k + 1, by omega, by go_num, hid (by rw [TK.out]; exact W.out)⟩
        case measure => simp [intOf]; omega
    · obtain rfl : k = n := by omega
      have ht : l.take k = l := List.take_of_length_le (by have := HN.out; omega)
      rw [ht] at W
      have BS := hid (bs_any W.out)
      rw [hb0] at BS
      clear W
      go_wp2_with fail
      refine BS.out.mono ?_
      rintro e w6 ⟨rfl, h6⟩
      have B6 := hid h6
      clear BS h6
      go_wp2
      go_ret
      exact ⟨rfl, by rw [hb0]; exact B6.out⟩
end Go.Proofs.YtbplbdopnhnhdaaGreatDoor
/-! hostlerlaw26.lives: Lives, and the steps of two things. -/
namespace Go.Proofs.YtbplbdopnhnhdaaGreatDoor
open Go.RowKit
set_option linter.unusedVariables false
set_option linter.unusedSimpArgs false
set_option maxRecDepth 20000
/-- Things that were built. -/
theorem rdX_built (w : World) (l : List Bx) (cs : Array Value) (t : TypeId) (h : cs = (l.map bxV).toArray) (hl : l.length ≤ maxLen) : RdX (w.alloc (.cells cs t)) (.slice (some ⟨w.heap.size, 0, none⟩) l.length l.length) l := by
  have hn := Deep.blk_alloc_new w (.cells cs t)
  refine ⟨_, _, rfl, Nat.le_refl _, hl, fun h0 => ⟨w.heap.size, 0, rfl, by simp, fun i hi => ?_⟩⟩
  rw [Nat.zero_add]
  exact blk_cell hn (by rw [h]; simp [bxAt, hi])
theorem runes_0a1 : dgs (runesOf { data := #[48, 97, 49] }) = [0, 1] := by decide
theorem ok_26 : ∀ x ∈ [Bx.tx { data := #[48, 97, 49] }, Bx.nu 2], BxOk x := by
  intro x hx
  simp only [List.mem_cons, List.not_mem_nil, or_false] at hx
  rcases hx with rfl | rfl
  · exact (by decide : (3 : Nat) ≤ 1000)
  · trivial
theorem all_26 : bxAll [Bx.tx { data := #[48, 97, 49] }, Bx.nu 2] = [pk 0, pk 1, pk 2] := by
  simp only [bxAll, List.flatMap_cons, List.flatMap_nil, bxS, runes_0a1]
  rfl
set_option maxHeartbeats 4000000 in
theorem lives26 (w : World) (T1 : MaPlaces w) (T2 : EvNames w) (T3 : EvSteps w) (U1 : 0 < w.heap.size) (U2 : 2 < w.heap.size) (U3 : 1 < w.heap.size) :
    Calls Tryz.prog 6 #[] w fun e w' => e = .returned (.bool true) ∧ Below w.heap.size w w' := by
  have ST := hid (steps_any _ [Bx.tx { data := #[48, 97, 49] }, Bx.nu 2] _ (rdX_built w _ #[.iface 9 (.string { data := #[48, 97, 49] }), .iface 3 (.int .i64 2)] 20 rfl (by simp [maxLen])) ok_26 (by decide))
  have LV := hid (fun (w2 : World) (hb : Below w.heap.size w w2) => lives20 w2 (T1.at hb) (T2.at hb) (T3.at hb) (by have := hb.size; omega) (by have := hb.size; omega) (by have := hb.size; omega))
  have B1 := hid ((Below.refl w.heap.size w).alloc (Nat.le_refl _) (.cells #[.iface 9 (.string { data := #[48, 97, 49] }), .iface 3 (.int .i64 2)] 20))
  clear T1 T2 T3 U1 U2 U3
  go_enter Tryz.func6, Tryz.ntmps6
  go_wp2_with fail
  refine ST.out.mono ?_
  rintro e w2 ⟨v2, rfl, ho, hb⟩
  rw [all_26] at ho
  have RD := hid (own_rdB ho)
  have B2 := hid (B1.out.trans (hb.mono B1.out.size))
  obtain ⟨a2, c2, rfl⟩ := own_sliceB ho
  clear ho hb ST B1
  go_wp2_with fail
  refine (LV.out w2 B2.out).mono ?_
  rintro e w3 ⟨rfl, hb⟩
  have R3 := hid (RD.out.below hb)
  have B3 := hid (B2.out.trans (hb.mono B2.out.size))
  clear hb LV RD B2
  obtain ⟨a', c', e, _, _, hh⟩ := R3.out
  simp only [Value.slice.injEq] at e
  obtain ⟨rfl, _, rfl⟩ := e
  obtain ⟨q, off, rfl, _, hc⟩ := hh (by decide)
  have h0 : w3.cell? ⟨q, off + 2, none⟩ = some (.int .i64 0) := by simpa [sbAt, pk] using (hc 0 (by decide)).2.2.1
  have h1 : w3.cell? ⟨q, off + 5 + 2, none⟩ = some (.int .i64 1) := by simpa [sbAt, pk] using (hc 1 (by decide)).2.2.1
  have h2 : w3.cell? ⟨q, off + 10 + 2, none⟩ = some (.int .i64 2) := by simpa [sbAt, pk] using (hc 2 (by decide)).2.2.1
  clear hh hc R3
  go_wp2
  go_ret
  exact ⟨rfl, B3.out⟩
end Go.Proofs.YtbplbdopnhnhdaaGreatDoor
/-! A raw thing: what it is made to (wip/tools/genth.py). -/
namespace Go.Proofs.YtbplbdopnhnhdaaGreatDoor
open Go.RowKit
set_option linter.unusedVariables false
set_option linter.unusedSimpArgs false
set_option maxRecDepth 20000
/-- A raw thing's cells. -/
structure Raw where
  k : Int
  c : Int × Int × Int
  s : Stb
  e : Int × Int × Int × Int × Int
  n : Int
  r : Int
  t : ByteArray
def rawc (x : Raw) : Array Value := #[.int .u8 x.k, .int .i64 x.c.1, .int .i64 x.c.2.1, .int .i64 x.c.2.2, .int .u8 x.s.1, .int .u8 x.s.2.1, .int .i64 x.s.2.2.1, .int .i64 x.s.2.2.2.1, .int .i64 x.s.2.2.2.2,
  .int .i64 x.e.1, .int .i64 x.e.2.1, .int .i64 x.e.2.2.1, .int .i64 x.e.2.2.2.1, .int .i64 x.e.2.2.2.2, .int .i64 x.n, .int .i32 x.r, .string x.t]
/-- .. as numbers and texts may be. -/
structure RawOk (x : Raw) : Prop where
  k0 : 0 ≤ x.k
  k1 : x.k < 256
  r0 : -2147483648 ≤ x.r
  r1 : x.r ≤ 2147483647
  t1 : x.t.size ≤ 1000
/-- The document's thing. -/
structure Tg where
  k : Int
  p : Int × Int × Int
  s : Stb
  n : Int
  t : ByteArray
def tgc (x : Tg) : Array Value := #[.int .i64 x.k, .int .i64 x.p.1, .int .i64 x.p.2.1, .int .i64 x.p.2.2, .int .u8 x.s.1, .int .u8 x.s.2.1, .int .i64 x.s.2.2.1, .int .i64 x.s.2.2.2.1, .int .i64 x.s.2.2.2.2, .int .i64 x.n, .string x.t]
def tgS (x : Tg) : List Stb := if x.k = 2 then [x.s] else if x.k = 4 then [pk x.n] else if x.k = 5 ∨ x.k = 6 then (bd x.t.data.toList).map pk else []
def tgT (x : Tg) : List UInt8 := if x.k = 5 ∨ x.k = 6 then x.t.data.toList else []
/-- What a raw thing is made to: a thing, and the document's, that tell the same. -/
structure ThRel (x : Raw) (b : Bx) (g : Tg) : Prop where
  ok : BxOk b
  st : bxS b = tgS g
  tx : bxT b = tgT g
  ln : g.t.size ≤ 1000
  yes : g.k = 2 → b = .st x.s
  no : g.k ≠ 2 → ∀ y, b ≠ .st y
def ThP (x : Raw) (w : World) (e : Ending) (w' : World) : Prop := ∃ b g, e = .returned (.tuple #[bxV b, .agg (tgc g)]) ∧ ThRel x b g ∧ Below w.heap.size w w'
theorem results_tmp_row {P : Program} {fn : Func} {p u : Tmp} {ty : TypeId} (h : fn.results = #[.tmp u, .cell p ty]) (tmps : Array Value) (w : World) (g : Nat) (t : TypeId) (cs : Array Value) (fr : Nat × Nat) (d : TypeDesc)
    (hp : tmps.getD p undef = .pointer (some ⟨g, 0, none⟩)) (hg : w.heap[g]? = some (.cells cs t fr))
    (hu : P.underlying ty = some d) (hd : (match d with | .struct _ | .array _ _ => true | _ => false) = true) (hi : (P.info? ty).map (·.size) = some cs.size) (b : Value) (hb : tmps.getD u undef = b) :
    (results fn tmps).run P w = .ok (.tuple #[b, .agg cs]) w := by
  have e : (results fn tmps).run P w = ((asAddr (tmps.getD p undef)).run P w).andThen fun a w₁ => ((loadVar ty a).run P w₁).andThen fun v w₂ => .ok (.tuple #[tmps.getD u undef, v]) w₂ := by
    simp only [results, h]
    simp [Sem.run_bind, Result.andThen]
  rw [e, hp, hb]
  simp [asAddr, run_loadVar_row w g t ty cs fr d hg hu hd hi, Result.andThen]
theorem two_blk (w : World) (a b : Obj) : (w.alloc a).heap.size = w.heap.size + 1 ∧ ((w.alloc a).alloc b).heap[w.heap.size + 1]? = some b := by
  have := Deep.blk_alloc_new (w.alloc a) b
  rw [World.size_alloc] at this
  exact ⟨World.size_alloc _ _, this⟩
theorem two_below (w : World) (a b : Obj) : Below w.heap.size w ((w.alloc a).alloc b) := ((Below.refl _ _).alloc (Nat.le_refl _) _).alloc (by simp) _
theorem setRow_heapH {w : World} {g : Nat} {cs cs' : Array Value} {t : TypeId} {fr : Nat × Nat} (h : w.heap[g]? = some (.cells cs t fr)) : (w.setRow g cs').heap[g]? = some (.cells cs' t fr) := by
  simp [World.setRow, Array.getElem?_modify, h]
theorem enew_any (s : ByteArray) (w : World) : Calls Tryz.prog 21 #[.string s] w fun e w' => ∃ q, e = .returned (.iface 92 (.pointer (some ⟨q, 0, none⟩))) ∧ Below w.heap.size w w' := by
  go_enter Tryz.func21, Tryz.ntmps21
  go_wp2
  go_ret
  exact ⟨_, rfl, (Below.refl _ _).alloc (Nat.le_refl _) _⟩
set_option maxHeartbeats 8000000 in
theorem thing_0 (k c0 c1 c2 s0 s1 s2 s3 s4 e0 e1 e2 e3 e4 n r : Int) (t : ByteArray) (h : RawOk ⟨k, (c0, c1, c2), (s0, s1, s2, s3, s4), (e0, e1, e2, e3, e4), n, r, t⟩) (hk : k % 10 = 0) (w : World) :
    Calls Tryz.prog 10 #[.agg (rawc ⟨k, (c0, c1, c2), (s0, s1, s2, s3, s4), (e0, e1, e2, e3, e4), n, r, t⟩)] w (ThP ⟨k, (c0, c1, c2), (s0, s1, s2, s3, s4), (e0, e1, e2, e3, e4), n, r, t⟩ w) := by
    have OK := hid h
    have k0 := h.k0
    have k1 := h.k1
    simp only at k0 k1
    have hm : k.tmod 10 = 0 := by rw [Int.tmod_eq_emod_of_nonneg k0]; exact hk
    unfold rawc
    clear h
    have RL := hid (show ThRel ⟨k, (c0, c1, c2), (s0, s1, s2, s3, s4), (e0, e1, e2, e3, e4), n, r, t⟩ (.no) ⟨0, (0, 0, 0), (0, 0, 0, 0, 0), 0, { data := #[] }⟩ from
      ⟨by trivial, rfl, rfl, (Nat.zero_le _), fun h => by simp at h, fun _ y h => by cases h⟩)
    go_enter Tryz.func10, Tryz.ntmps10
    go_wp2_with fail
    refine bodyPost_ret (v := .tuple #[bxV (.no), .agg (tgc ⟨0, (0, 0, 0), (0, 0, 0, 0, 0), 0, { data := #[] }⟩)]) (results_tmp_row rfl _ _ (w.heap.size + 1) 41 #[.int .i64 0, .int .i64 0, .int .i64 0, .int .i64 0, .int .u8 0, .int .u8 0, .int .i64 0, .int .i64 0, .int .i64 0, .int .i64 0, .string { data := #[] }] (0, 0) _ (by rfl) (two_blk w (.cells #[.int .u8 k, .int .i64 c0, .int .i64 c1, .int .i64 c2, .int .u8 s0, .int .u8 s1, .int .i64 s2, .int .i64 s3, .int .i64 s4, .int .i64 e0, .int .i64 e1, .int .i64 e2, .int .i64 e3, .int .i64 e4, .int .i64 n, .int .i32 r, .string t] 36) (.cells #[.int .i64 0, .int .i64 0, .int .i64 0, .int .i64 0, .int .u8 0, .int .u8 0, .int .i64 0, .int .i64 0, .int .i64 0, .int .i64 0, .string { data := #[] }] 41)).2 Tryz.underlying41 rfl (by kernel_rfl) _ (by rfl)) rfl ⟨_, _, rfl, RL.out, two_below w _ _⟩
set_option maxHeartbeats 8000000 in
theorem thing_1 (k c0 c1 c2 s0 s1 s2 s3 s4 e0 e1 e2 e3 e4 n r : Int) (t : ByteArray) (h : RawOk ⟨k, (c0, c1, c2), (s0, s1, s2, s3, s4), (e0, e1, e2, e3, e4), n, r, t⟩) (hk : k % 10 = 1) (w : World) :
    Calls Tryz.prog 10 #[.agg (rawc ⟨k, (c0, c1, c2), (s0, s1, s2, s3, s4), (e0, e1, e2, e3, e4), n, r, t⟩)] w (ThP ⟨k, (c0, c1, c2), (s0, s1, s2, s3, s4), (e0, e1, e2, e3, e4), n, r, t⟩ w) := by
    have OK := hid h
    have k0 := h.k0
    have k1 := h.k1
    simp only at k0 k1
    have hm : k.tmod 10 = 1 := by rw [Int.tmod_eq_emod_of_nonneg k0]; exact hk
    unfold rawc
    clear h
    have RL := hid (show ThRel ⟨k, (c0, c1, c2), (s0, s1, s2, s3, s4), (e0, e1, e2, e3, e4), n, r, t⟩ (.ot 31 (.agg #[.int .i64 c0, .int .i64 c1, .int .i64 c2])) ⟨1, (c0, c1, c2), (0, 0, 0, 0, 0), 0, { data := #[] }⟩ from
      ⟨by exact ⟨eq_false (by decide), eq_false (by decide), eq_false (by decide), eq_false (by decide)⟩, rfl, rfl, (Nat.zero_le _), fun h => by simp at h, fun _ y h => by cases h⟩)
    go_enter Tryz.func10, Tryz.ntmps10
    go_wp2_with fail
    go_region
    all_goals
    go_wp2
    refine bodyPost_ret (v := .tuple #[bxV (.ot 31 (.agg #[.int .i64 c0, .int .i64 c1, .int .i64 c2])), .agg (tgc ⟨1, (c0, c1, c2), (0, 0, 0, 0, 0), 0, { data := #[] }⟩)]) (results_tmp_row rfl _ ((w.alloc (.cells #[.int .u8 k, .int .i64 c0, .int .i64 c1, .int .i64 c2, .int .u8 s0, .int .u8 s1, .int .i64 s2, .int .i64 s3, .int .i64 s4, .int .i64 e0, .int .i64 e1, .int .i64 e2, .int .i64 e3, .int .i64 e4, .int .i64 n, .int .i32 r, .string t] 36)).alloc (.cells #[.int .i64 1, .int .i64 c0, .int .i64 c1, .int .i64 c2, .int .u8 0, .int .u8 0, .int .i64 0, .int .i64 0, .int .i64 0, .int .i64 0, .string { data := #[] }] 41)).drew (w.heap.size + 1) 41 #[.int .i64 1, .int .i64 c0, .int .i64 c1, .int .i64 c2, .int .u8 0, .int .u8 0, .int .i64 0, .int .i64 0, .int .i64 0, .int .i64 0, .string { data := #[] }] (0, 0) _ (by rfl) (two_blk w (.cells #[.int .u8 k, .int .i64 c0, .int .i64 c1, .int .i64 c2, .int .u8 s0, .int .u8 s1, .int .i64 s2, .int .i64 s3, .int .i64 s4, .int .i64 e0, .int .i64 e1, .int .i64 e2, .int .i64 e3, .int .i64 e4, .int .i64 n, .int .i32 r, .string t] 36) (.cells #[.int .i64 1, .int .i64 c0, .int .i64 c1, .int .i64 c2, .int .u8 0, .int .u8 0, .int .i64 0, .int .i64 0, .int .i64 0, .int .i64 0, .string { data := #[] }] 41)).2 Tryz.underlying41 rfl (by kernel_rfl) _ (by rfl)) rfl ⟨_, _, rfl, RL.out, (two_below w _ _).trans (Quiet.below ⟨1, rfl⟩ _)⟩
set_option maxHeartbeats 8000000 in
theorem thing_2 (k c0 c1 c2 s0 s1 s2 s3 s4 e0 e1 e2 e3 e4 n r : Int) (t : ByteArray) (h : RawOk ⟨k, (c0, c1, c2), (s0, s1, s2, s3, s4), (e0, e1, e2, e3, e4), n, r, t⟩) (hk : k % 10 = 2) (w : World) :
    Calls Tryz.prog 10 #[.agg (rawc ⟨k, (c0, c1, c2), (s0, s1, s2, s3, s4), (e0, e1, e2, e3, e4), n, r, t⟩)] w (ThP ⟨k, (c0, c1, c2), (s0, s1, s2, s3, s4), (e0, e1, e2, e3, e4), n, r, t⟩ w) := by
    have OK := hid h
    have k0 := h.k0
    have k1 := h.k1
    simp only at k0 k1
    have hm : k.tmod 10 = 2 := by rw [Int.tmod_eq_emod_of_nonneg k0]; exact hk
    unfold rawc
    clear h
    have RL := hid (show ThRel ⟨k, (c0, c1, c2), (s0, s1, s2, s3, s4), (e0, e1, e2, e3, e4), n, r, t⟩ (.st (s0, s1, s2, s3, s4)) ⟨2, (0, 0, 0), (s0, s1, s2, s3, s4), 0, { data := #[] }⟩ from
      ⟨by trivial, rfl, rfl, (Nat.zero_le _), fun _ => rfl, fun h => by simp at h⟩)
    go_enter Tryz.func10, Tryz.ntmps10
    go_wp2_with fail
    go_region
    all_goals
    go_wp2
    refine bodyPost_ret (v := .tuple #[bxV (.st (s0, s1, s2, s3, s4)), .agg (tgc ⟨2, (0, 0, 0), (s0, s1, s2, s3, s4), 0, { data := #[] }⟩)]) (results_tmp_row rfl _ ((w.alloc (.cells #[.int .u8 k, .int .i64 c0, .int .i64 c1, .int .i64 c2, .int .u8 s0, .int .u8 s1, .int .i64 s2, .int .i64 s3, .int .i64 s4, .int .i64 e0, .int .i64 e1, .int .i64 e2, .int .i64 e3, .int .i64 e4, .int .i64 n, .int .i32 r, .string t] 36)).alloc (.cells #[.int .i64 2, .int .i64 0, .int .i64 0, .int .i64 0, .int .u8 s0, .int .u8 s1, .int .i64 s2, .int .i64 s3, .int .i64 s4, .int .i64 0, .string { data := #[] }] 41)).drew (w.heap.size + 1) 41 #[.int .i64 2, .int .i64 0, .int .i64 0, .int .i64 0, .int .u8 s0, .int .u8 s1, .int .i64 s2, .int .i64 s3, .int .i64 s4, .int .i64 0, .string { data := #[] }] (0, 0) _ (by rfl) (two_blk w (.cells #[.int .u8 k, .int .i64 c0, .int .i64 c1, .int .i64 c2, .int .u8 s0, .int .u8 s1, .int .i64 s2, .int .i64 s3, .int .i64 s4, .int .i64 e0, .int .i64 e1, .int .i64 e2, .int .i64 e3, .int .i64 e4, .int .i64 n, .int .i32 r, .string t] 36) (.cells #[.int .i64 2, .int .i64 0, .int .i64 0, .int .i64 0, .int .u8 s0, .int .u8 s1, .int .i64 s2, .int .i64 s3, .int .i64 s4, .int .i64 0, .string { data := #[] }] 41)).2 Tryz.underlying41 rfl (by kernel_rfl) _ (by rfl)) rfl ⟨_, _, rfl, RL.out, (two_below w _ _).trans (Quiet.below ⟨1, rfl⟩ _)⟩
set_option maxHeartbeats 8000000 in
theorem thing_3 (k c0 c1 c2 s0 s1 s2 s3 s4 e0 e1 e2 e3 e4 n r : Int) (t : ByteArray) (h : RawOk ⟨k, (c0, c1, c2), (s0, s1, s2, s3, s4), (e0, e1, e2, e3, e4), n, r, t⟩) (hk : k % 10 = 3) (w : World) :
    Calls Tryz.prog 10 #[.agg (rawc ⟨k, (c0, c1, c2), (s0, s1, s2, s3, s4), (e0, e1, e2, e3, e4), n, r, t⟩)] w (ThP ⟨k, (c0, c1, c2), (s0, s1, s2, s3, s4), (e0, e1, e2, e3, e4), n, r, t⟩ w) := by
    have OK := hid h
    have k0 := h.k0
    have k1 := h.k1
    simp only at k0 k1
    have hm : k.tmod 10 = 3 := by rw [Int.tmod_eq_emod_of_nonneg k0]; exact hk
    unfold rawc
    clear h
    have RL := hid (show ThRel ⟨k, (c0, c1, c2), (s0, s1, s2, s3, s4), (e0, e1, e2, e3, e4), n, r, t⟩ (.ot 34 (.agg #[.int .i64 e0, .int .i64 e1, .int .i64 e2, .int .i64 e3, .int .i64 e4])) ⟨3, (0, 0, 0), (0, 0, 0, 0, 0), 0, { data := #[] }⟩ from
      ⟨by exact ⟨eq_false (by decide), eq_false (by decide), eq_false (by decide), eq_false (by decide)⟩, rfl, rfl, (Nat.zero_le _), fun h => by simp at h, fun _ y h => by cases h⟩)
    go_enter Tryz.func10, Tryz.ntmps10
    go_wp2_with fail
    refine bodyPost_ret (v := .tuple #[bxV (.ot 34 (.agg #[.int .i64 e0, .int .i64 e1, .int .i64 e2, .int .i64 e3, .int .i64 e4])), .agg (tgc ⟨3, (0, 0, 0), (0, 0, 0, 0, 0), 0, { data := #[] }⟩)]) (results_tmp_row rfl _ _ (w.heap.size + 1) 41 #[.int .i64 3, .int .i64 0, .int .i64 0, .int .i64 0, .int .u8 0, .int .u8 0, .int .i64 0, .int .i64 0, .int .i64 0, .int .i64 0, .string { data := #[] }] (0, 0) _ (by rfl) (two_blk w (.cells #[.int .u8 k, .int .i64 c0, .int .i64 c1, .int .i64 c2, .int .u8 s0, .int .u8 s1, .int .i64 s2, .int .i64 s3, .int .i64 s4, .int .i64 e0, .int .i64 e1, .int .i64 e2, .int .i64 e3, .int .i64 e4, .int .i64 n, .int .i32 r, .string t] 36) (.cells #[.int .i64 3, .int .i64 0, .int .i64 0, .int .i64 0, .int .u8 0, .int .u8 0, .int .i64 0, .int .i64 0, .int .i64 0, .int .i64 0, .string { data := #[] }] 41)).2 Tryz.underlying41 rfl (by kernel_rfl) _ (by rfl)) rfl ⟨_, _, rfl, RL.out, two_below w _ _⟩
set_option maxHeartbeats 8000000 in
theorem thing_4 (k c0 c1 c2 s0 s1 s2 s3 s4 e0 e1 e2 e3 e4 n r : Int) (t : ByteArray) (h : RawOk ⟨k, (c0, c1, c2), (s0, s1, s2, s3, s4), (e0, e1, e2, e3, e4), n, r, t⟩) (hk : k % 10 = 4) (w : World) :
    Calls Tryz.prog 10 #[.agg (rawc ⟨k, (c0, c1, c2), (s0, s1, s2, s3, s4), (e0, e1, e2, e3, e4), n, r, t⟩)] w (ThP ⟨k, (c0, c1, c2), (s0, s1, s2, s3, s4), (e0, e1, e2, e3, e4), n, r, t⟩ w) := by
    have OK := hid h
    have k0 := h.k0
    have k1 := h.k1
    simp only at k0 k1
    have hm : k.tmod 10 = 4 := by rw [Int.tmod_eq_emod_of_nonneg k0]; exact hk
    unfold rawc
    clear h
    have RL := hid (show ThRel ⟨k, (c0, c1, c2), (s0, s1, s2, s3, s4), (e0, e1, e2, e3, e4), n, r, t⟩ (.nu n) ⟨4, (0, 0, 0), (0, 0, 0, 0, 0), n, { data := #[] }⟩ from
      ⟨by trivial, rfl, rfl, (Nat.zero_le _), fun h => by simp at h, fun _ y h => by cases h⟩)
    go_enter Tryz.func10, Tryz.ntmps10
    go_wp2_with fail
    go_region
    all_goals
    go_wp2
    refine bodyPost_ret (v := .tuple #[bxV (.nu n), .agg (tgc ⟨4, (0, 0, 0), (0, 0, 0, 0, 0), n, { data := #[] }⟩)]) (results_tmp_row rfl _ ((w.alloc (.cells #[.int .u8 k, .int .i64 c0, .int .i64 c1, .int .i64 c2, .int .u8 s0, .int .u8 s1, .int .i64 s2, .int .i64 s3, .int .i64 s4, .int .i64 e0, .int .i64 e1, .int .i64 e2, .int .i64 e3, .int .i64 e4, .int .i64 n, .int .i32 r, .string t] 36)).alloc (.cells #[.int .i64 4, .int .i64 0, .int .i64 0, .int .i64 0, .int .u8 0, .int .u8 0, .int .i64 0, .int .i64 0, .int .i64 0, .int .i64 n, .string { data := #[] }] 41)).drew (w.heap.size + 1) 41 #[.int .i64 4, .int .i64 0, .int .i64 0, .int .i64 0, .int .u8 0, .int .u8 0, .int .i64 0, .int .i64 0, .int .i64 0, .int .i64 n, .string { data := #[] }] (0, 0) _ (by rfl) (two_blk w (.cells #[.int .u8 k, .int .i64 c0, .int .i64 c1, .int .i64 c2, .int .u8 s0, .int .u8 s1, .int .i64 s2, .int .i64 s3, .int .i64 s4, .int .i64 e0, .int .i64 e1, .int .i64 e2, .int .i64 e3, .int .i64 e4, .int .i64 n, .int .i32 r, .string t] 36) (.cells #[.int .i64 4, .int .i64 0, .int .i64 0, .int .i64 0, .int .u8 0, .int .u8 0, .int .i64 0, .int .i64 0, .int .i64 0, .int .i64 n, .string { data := #[] }] 41)).2 Tryz.underlying41 rfl (by kernel_rfl) _ (by rfl)) rfl ⟨_, _, rfl, RL.out, (two_below w _ _).trans (Quiet.below ⟨1, rfl⟩ _)⟩
set_option maxHeartbeats 8000000 in
theorem thing_5 (k c0 c1 c2 s0 s1 s2 s3 s4 e0 e1 e2 e3 e4 n r : Int) (t : ByteArray) (h : RawOk ⟨k, (c0, c1, c2), (s0, s1, s2, s3, s4), (e0, e1, e2, e3, e4), n, r, t⟩) (hk : k % 10 = 5) (w : World) :
    Calls Tryz.prog 10 #[.agg (rawc ⟨k, (c0, c1, c2), (s0, s1, s2, s3, s4), (e0, e1, e2, e3, e4), n, r, t⟩)] w (ThP ⟨k, (c0, c1, c2), (s0, s1, s2, s3, s4), (e0, e1, e2, e3, e4), n, r, t⟩ w) := by
    have OK := hid h
    have k0 := h.k0
    have k1 := h.k1
    simp only at k0 k1
    have hm : k.tmod 10 = 5 := by rw [Int.tmod_eq_emod_of_nonneg k0]; exact hk
    unfold rawc
    clear h
    have RL := hid (show ThRel ⟨k, (c0, c1, c2), (s0, s1, s2, s3, s4), (e0, e1, e2, e3, e4), n, r, t⟩ (.ru r) ⟨5, (0, 0, 0), (0, 0, 0, 0, 0), 0, Utf8.encode r⟩ from
      ⟨by exact ⟨OK.out.r0, OK.out.r1⟩, (by show (dgs [nm r]).map pk = (bd (Utf8.encode r).data.toList).map pk; rw [bd_runes, dgs_encI]), rfl, (Nat.le_trans (enc_size r) (by decide)), fun h => by simp at h, fun _ y h => by cases h⟩)
    go_enter Tryz.func10, Tryz.ntmps10
    go_wp2_with fail
    go_region
    all_goals
    go_wp2
    refine bodyPost_ret (v := .tuple #[bxV (.ru r), .agg (tgc ⟨5, (0, 0, 0), (0, 0, 0, 0, 0), 0, Utf8.encode r⟩)]) (results_tmp_row rfl _ ((w.alloc (.cells #[.int .u8 k, .int .i64 c0, .int .i64 c1, .int .i64 c2, .int .u8 s0, .int .u8 s1, .int .i64 s2, .int .i64 s3, .int .i64 s4, .int .i64 e0, .int .i64 e1, .int .i64 e2, .int .i64 e3, .int .i64 e4, .int .i64 n, .int .i32 r, .string t] 36)).alloc (.cells #[.int .i64 5, .int .i64 0, .int .i64 0, .int .i64 0, .int .u8 0, .int .u8 0, .int .i64 0, .int .i64 0, .int .i64 0, .int .i64 0, .string (Utf8.encode r)] 41)).drew (w.heap.size + 1) 41 #[.int .i64 5, .int .i64 0, .int .i64 0, .int .i64 0, .int .u8 0, .int .u8 0, .int .i64 0, .int .i64 0, .int .i64 0, .int .i64 0, .string (Utf8.encode r)] (0, 0) _ (by rfl) (two_blk w (.cells #[.int .u8 k, .int .i64 c0, .int .i64 c1, .int .i64 c2, .int .u8 s0, .int .u8 s1, .int .i64 s2, .int .i64 s3, .int .i64 s4, .int .i64 e0, .int .i64 e1, .int .i64 e2, .int .i64 e3, .int .i64 e4, .int .i64 n, .int .i32 r, .string t] 36) (.cells #[.int .i64 5, .int .i64 0, .int .i64 0, .int .i64 0, .int .u8 0, .int .u8 0, .int .i64 0, .int .i64 0, .int .i64 0, .int .i64 0, .string (Utf8.encode r)] 41)).2 Tryz.underlying41 rfl (by kernel_rfl) _ (by rfl)) rfl ⟨_, _, rfl, RL.out, (two_below w _ _).trans (Quiet.below ⟨1, rfl⟩ _)⟩
set_option maxHeartbeats 8000000 in
theorem thing_6 (k c0 c1 c2 s0 s1 s2 s3 s4 e0 e1 e2 e3 e4 n r : Int) (t : ByteArray) (h : RawOk ⟨k, (c0, c1, c2), (s0, s1, s2, s3, s4), (e0, e1, e2, e3, e4), n, r, t⟩) (hk : k % 10 = 6) (w : World) :
    Calls Tryz.prog 10 #[.agg (rawc ⟨k, (c0, c1, c2), (s0, s1, s2, s3, s4), (e0, e1, e2, e3, e4), n, r, t⟩)] w (ThP ⟨k, (c0, c1, c2), (s0, s1, s2, s3, s4), (e0, e1, e2, e3, e4), n, r, t⟩ w) := by
    have OK := hid h
    have k0 := h.k0
    have k1 := h.k1
    simp only at k0 k1
    have hm : k.tmod 10 = 6 := by rw [Int.tmod_eq_emod_of_nonneg k0]; exact hk
    unfold rawc
    clear h
    have RL := hid (show ThRel ⟨k, (c0, c1, c2), (s0, s1, s2, s3, s4), (e0, e1, e2, e3, e4), n, r, t⟩ (.tx t) ⟨6, (0, 0, 0), (0, 0, 0, 0, 0), 0, t⟩ from
      ⟨by exact OK.out.t1, (by show (dgs (runesOf t)).map pk = (bd t.data.toList).map pk; rw [bd_runes]), rfl, OK.out.t1, fun h => by simp at h, fun _ y h => by cases h⟩)
    go_enter Tryz.func10, Tryz.ntmps10
    go_wp2_with fail
    go_region
    all_goals
    go_wp2
    refine bodyPost_ret (v := .tuple #[bxV (.tx t), .agg (tgc ⟨6, (0, 0, 0), (0, 0, 0, 0, 0), 0, t⟩)]) (results_tmp_row rfl _ ((w.alloc (.cells #[.int .u8 k, .int .i64 c0, .int .i64 c1, .int .i64 c2, .int .u8 s0, .int .u8 s1, .int .i64 s2, .int .i64 s3, .int .i64 s4, .int .i64 e0, .int .i64 e1, .int .i64 e2, .int .i64 e3, .int .i64 e4, .int .i64 n, .int .i32 r, .string t] 36)).alloc (.cells #[.int .i64 6, .int .i64 0, .int .i64 0, .int .i64 0, .int .u8 0, .int .u8 0, .int .i64 0, .int .i64 0, .int .i64 0, .int .i64 0, .string t] 41)).drew (w.heap.size + 1) 41 #[.int .i64 6, .int .i64 0, .int .i64 0, .int .i64 0, .int .u8 0, .int .u8 0, .int .i64 0, .int .i64 0, .int .i64 0, .int .i64 0, .string t] (0, 0) _ (by rfl) (two_blk w (.cells #[.int .u8 k, .int .i64 c0, .int .i64 c1, .int .i64 c2, .int .u8 s0, .int .u8 s1, .int .i64 s2, .int .i64 s3, .int .i64 s4, .int .i64 e0, .int .i64 e1, .int .i64 e2, .int .i64 e3, .int .i64 e4, .int .i64 n, .int .i32 r, .string t] 36) (.cells #[.int .i64 6, .int .i64 0, .int .i64 0, .int .i64 0, .int .u8 0, .int .u8 0, .int .i64 0, .int .i64 0, .int .i64 0, .int .i64 0, .string t] 41)).2 Tryz.underlying41 rfl (by kernel_rfl) _ (by rfl)) rfl ⟨_, _, rfl, RL.out, (two_below w _ _).trans (Quiet.below ⟨1, rfl⟩ _)⟩
set_option maxHeartbeats 8000000 in
theorem thing_7 (k c0 c1 c2 s0 s1 s2 s3 s4 e0 e1 e2 e3 e4 n r : Int) (t : ByteArray) (h : RawOk ⟨k, (c0, c1, c2), (s0, s1, s2, s3, s4), (e0, e1, e2, e3, e4), n, r, t⟩) (hk : k % 10 = 7) (w : World) :
    Calls Tryz.prog 10 #[.agg (rawc ⟨k, (c0, c1, c2), (s0, s1, s2, s3, s4), (e0, e1, e2, e3, e4), n, r, t⟩)] w (ThP ⟨k, (c0, c1, c2), (s0, s1, s2, s3, s4), (e0, e1, e2, e3, e4), n, r, t⟩ w) := by
    have OK := hid h
    have k0 := h.k0
    have k1 := h.k1
    simp only at k0 k1
    have hm : k.tmod 10 = 7 := by rw [Int.tmod_eq_emod_of_nonneg k0]; exact hk
    unfold rawc
    clear h
    have EN := hid (fun y => enew_any t y)
    go_enter Tryz.func10, Tryz.ntmps10
    go_wp2_with fail
    refine (EN.out _).mono ?_
    rintro e w2 ⟨q, rfl, hb⟩
    have B3 := hid ((two_below w _ _).trans (hb.mono (by simp; omega)))
    have X2 := hid ((hb.block (w.heap.size + 1) (by simp)).trans (two_blk w _ _).2)
    clear hb EN
    have RL := hid (show ThRel ⟨k, (c0, c1, c2), (s0, s1, s2, s3, s4), (e0, e1, e2, e3, e4), n, r, t⟩ (.ot 92 (.pointer (some ⟨q, 0, none⟩))) ⟨7, (0, 0, 0), (0, 0, 0, 0, 0), 0, { data := #[] }⟩ from
      ⟨by exact ⟨eq_false (by decide), eq_false (by decide), eq_false (by decide), eq_false (by decide)⟩, rfl, rfl, (Nat.zero_le _), fun h => by simp at h, fun _ y h => by cases h⟩)
    go_wp2_with (refine wpList_store_row rfl 41 (.tmp 3) (.tmp 69) rfl (w.heap.size + 1) #[.int .i64 7, .int .i64 0, .int .i64 0, .int .i64 0, .int .u8 0, .int .u8 0, .int .i64 0, .int .i64 0, .int .i64 0, .int .i64 0, .string { data := #[] }] rfl rfl 41 _ X2.out (by kernel_rfl) (by rfl) (by simp [Value.oneCell']) ?_)
    refine bodyPost_ret (v := .tuple #[bxV (.ot 92 (.pointer (some ⟨q, 0, none⟩))), .agg (tgc ⟨7, (0, 0, 0), (0, 0, 0, 0, 0), 0, { data := #[] }⟩)]) (results_tmp_row rfl _ _ (w.heap.size + 1) 41 #[.int .i64 7, .int .i64 0, .int .i64 0, .int .i64 0, .int .u8 0, .int .u8 0, .int .i64 0, .int .i64 0, .int .i64 0, .int .i64 0, .string { data := #[] }] (0, 0) _ (by rfl) (setRow_heapH X2.out) Tryz.underlying41 rfl (by kernel_rfl) _ (by rfl)) rfl ⟨_, _, rfl, RL.out, row_below B3.out (by omega) _⟩
set_option maxHeartbeats 8000000 in
theorem thing_8 (k c0 c1 c2 s0 s1 s2 s3 s4 e0 e1 e2 e3 e4 n r : Int) (t : ByteArray) (h : RawOk ⟨k, (c0, c1, c2), (s0, s1, s2, s3, s4), (e0, e1, e2, e3, e4), n, r, t⟩) (hk : k % 10 = 8) (w : World) :
    Calls Tryz.prog 10 #[.agg (rawc ⟨k, (c0, c1, c2), (s0, s1, s2, s3, s4), (e0, e1, e2, e3, e4), n, r, t⟩)] w (ThP ⟨k, (c0, c1, c2), (s0, s1, s2, s3, s4), (e0, e1, e2, e3, e4), n, r, t⟩ w) := by
    have OK := hid h
    have k0 := h.k0
    have k1 := h.k1
    simp only at k0 k1
    have hm : k.tmod 10 = 8 := by rw [Int.tmod_eq_emod_of_nonneg k0]; exact hk
    unfold rawc
    clear h
    have RL := hid (show ThRel ⟨k, (c0, c1, c2), (s0, s1, s2, s3, s4), (e0, e1, e2, e3, e4), n, r, t⟩ (.ot 4 (.bool (decide (0 < n)))) ⟨8, (0, 0, 0), (0, 0, 0, 0, 0), 0, { data := #[] }⟩ from
      ⟨by exact ⟨eq_false (by decide), eq_false (by decide), eq_false (by decide), eq_false (by decide)⟩, rfl, rfl, (Nat.zero_le _), fun h => by simp at h, fun _ y h => by cases h⟩)
    go_enter Tryz.func10, Tryz.ntmps10
    go_wp2_with fail
    refine bodyPost_ret (v := .tuple #[bxV (.ot 4 (.bool (decide (0 < n)))), .agg (tgc ⟨8, (0, 0, 0), (0, 0, 0, 0, 0), 0, { data := #[] }⟩)]) (results_tmp_row rfl _ _ (w.heap.size + 1) 41 #[.int .i64 8, .int .i64 0, .int .i64 0, .int .i64 0, .int .u8 0, .int .u8 0, .int .i64 0, .int .i64 0, .int .i64 0, .int .i64 0, .string { data := #[] }] (0, 0) _ (by rfl) (two_blk w (.cells #[.int .u8 k, .int .i64 c0, .int .i64 c1, .int .i64 c2, .int .u8 s0, .int .u8 s1, .int .i64 s2, .int .i64 s3, .int .i64 s4, .int .i64 e0, .int .i64 e1, .int .i64 e2, .int .i64 e3, .int .i64 e4, .int .i64 n, .int .i32 r, .string t] 36) (.cells #[.int .i64 8, .int .i64 0, .int .i64 0, .int .i64 0, .int .u8 0, .int .u8 0, .int .i64 0, .int .i64 0, .int .i64 0, .int .i64 0, .string { data := #[] }] 41)).2 Tryz.underlying41 rfl (by kernel_rfl) _ (by rfl)) rfl ⟨_, _, rfl, RL.out, two_below w _ _⟩
set_option maxHeartbeats 8000000 in
theorem thing_9 (k c0 c1 c2 s0 s1 s2 s3 s4 e0 e1 e2 e3 e4 n r : Int) (t : ByteArray) (h : RawOk ⟨k, (c0, c1, c2), (s0, s1, s2, s3, s4), (e0, e1, e2, e3, e4), n, r, t⟩) (hk : k % 10 = 9) (w : World) :
    Calls Tryz.prog 10 #[.agg (rawc ⟨k, (c0, c1, c2), (s0, s1, s2, s3, s4), (e0, e1, e2, e3, e4), n, r, t⟩)] w (ThP ⟨k, (c0, c1, c2), (s0, s1, s2, s3, s4), (e0, e1, e2, e3, e4), n, r, t⟩ w) := by
    have OK := hid h
    have k0 := h.k0
    have k1 := h.k1
    simp only at k0 k1
    have hm : k.tmod 10 = 9 := by rw [Int.tmod_eq_emod_of_nonneg k0]; exact hk
    unfold rawc
    clear h
    have RL := hid (show ThRel ⟨k, (c0, c1, c2), (s0, s1, s2, s3, s4), (e0, e1, e2, e3, e4), n, r, t⟩ (.ot 66 (.pointer (some ⟨w.heap.size, 4, none⟩))) ⟨8, (0, 0, 0), (0, 0, 0, 0, 0), 0, { data := #[] }⟩ from
      ⟨by exact ⟨eq_false (by decide), eq_false (by decide), eq_false (by decide), eq_false (by decide)⟩, rfl, rfl, (Nat.zero_le _), fun h => by simp at h, fun _ y h => by cases h⟩)
    go_enter Tryz.func10, Tryz.ntmps10
    go_wp2_with fail
    refine bodyPost_ret (v := .tuple #[bxV (.ot 66 (.pointer (some ⟨w.heap.size, 4, none⟩))), .agg (tgc ⟨8, (0, 0, 0), (0, 0, 0, 0, 0), 0, { data := #[] }⟩)]) (results_tmp_row rfl _ _ (w.heap.size + 1) 41 #[.int .i64 8, .int .i64 0, .int .i64 0, .int .i64 0, .int .u8 0, .int .u8 0, .int .i64 0, .int .i64 0, .int .i64 0, .int .i64 0, .string { data := #[] }] (0, 0) _ (by rfl) (two_blk w (.cells #[.int .u8 k, .int .i64 c0, .int .i64 c1, .int .i64 c2, .int .u8 s0, .int .u8 s1, .int .i64 s2, .int .i64 s3, .int .i64 s4, .int .i64 e0, .int .i64 e1, .int .i64 e2, .int .i64 e3, .int .i64 e4, .int .i64 n, .int .i32 r, .string t] 36) (.cells #[.int .i64 8, .int .i64 0, .int .i64 0, .int .i64 0, .int .u8 0, .int .u8 0, .int .i64 0, .int .i64 0, .int .i64 0, .int .i64 0, .string { data := #[] }] 41)).2 Tryz.underlying41 rfl (by kernel_rfl) _ (by rfl)) rfl ⟨_, _, rfl, RL.out, two_below w _ _⟩
theorem thing_any (x : Raw) (h : RawOk x) (w : World) : Calls Tryz.prog 10 #[.agg (rawc x)] w (ThP x w) := by
  obtain ⟨k, ⟨c0, c1, c2⟩, ⟨s0, s1, s2, s3, s4⟩, ⟨e0, e1, e2, e3, e4⟩, n, r, t⟩ := x
  have h1 : 0 ≤ k % 10 := Int.emod_nonneg _ (by decide)
  have h2 : k % 10 < 10 := Int.emod_lt_of_pos _ (by decide)
  rcases (show k % 10 = 0 ∨ k % 10 = 1 ∨ k % 10 = 2 ∨ k % 10 = 3 ∨ k % 10 = 4 ∨ k % 10 = 5 ∨ k % 10 = 6 ∨ k % 10 = 7 ∨ k % 10 = 8 ∨ k % 10 = 9 by omega) with hk | hk | hk | hk | hk | hk | hk | hk | hk | hk
  · exact thing_0 k c0 c1 c2 s0 s1 s2 s3 s4 e0 e1 e2 e3 e4 n r t h hk w
  · exact thing_1 k c0 c1 c2 s0 s1 s2 s3 s4 e0 e1 e2 e3 e4 n r t h hk w
  · exact thing_2 k c0 c1 c2 s0 s1 s2 s3 s4 e0 e1 e2 e3 e4 n r t h hk w
  · exact thing_3 k c0 c1 c2 s0 s1 s2 s3 s4 e0 e1 e2 e3 e4 n r t h hk w
  · exact thing_4 k c0 c1 c2 s0 s1 s2 s3 s4 e0 e1 e2 e3 e4 n r t h hk w
  · exact thing_5 k c0 c1 c2 s0 s1 s2 s3 s4 e0 e1 e2 e3 e4 n r t h hk w
  · exact thing_6 k c0 c1 c2 s0 s1 s2 s3 s4 e0 e1 e2 e3 e4 n r t h hk w
  · exact thing_7 k c0 c1 c2 s0 s1 s2 s3 s4 e0 e1 e2 e3 e4 n r t h hk w
  · exact thing_8 k c0 c1 c2 s0 s1 s2 s3 s4 e0 e1 e2 e3 e4 n r t h hk w
  · exact thing_9 k c0 c1 c2 s0 s1 s2 s3 s4 e0 e1 e2 e3 e4 n r t h hk w
end Go.Proofs.YtbplbdopnhnhdaaGreatDoor
