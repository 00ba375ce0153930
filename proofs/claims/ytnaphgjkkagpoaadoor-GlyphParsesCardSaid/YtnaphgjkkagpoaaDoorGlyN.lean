/- glyph.number, glyph.mark; strconv's Atoi and ParseInt of any text. -/
import Derived.Test.YtnaphgjkkagpoaaDoorNumW
import Derived.Test.YtnaphgjkkagpoaaDoorTabErr
import Derived.Test.YtnaphgjkkagpoaaDoorGlyP
import Derived.Test.YtnaphgjkkagpoaaDoorShelf2
import Derived.BigQuiet
import Derived.Deep.RegionHeld3
import Derived.Deep.RegionWith
import Derived.Deep.CutRange
namespace Go.Proofs.YtnaphgjkkagpoaaDoor
set_option linter.unusedVariables false
set_option linter.unusedSimpArgs false
set_option maxRecDepth 20000
open Go.RowKit

/-- So many digits stand ahead. -/
def isD (c : UInt8) : Bool := decide (48 ≤ c.toNat) && decide (c.toNat ≤ 57)
def nd (s : ByteArray) : Nat := (s.data.toList.takeWhile isD).length
theorem tw_in {P : UInt8 → Bool} : ∀ {l : List UInt8} {k : Nat} (h : k < (l.takeWhile P).length) (hl : k < l.length), P l[k] = true
  | [], k, h, _ => by simp at h
  | c :: l, k, h, hl => by
    by_cases hc : P c = true
    · rw [List.takeWhile_cons_of_pos hc] at h
      cases k with
      | zero => exact hc
      | succ k => exact tw_in (l := l) (k := k) (by simpa using h) (by simpa using hl)
    · rw [List.takeWhile_cons_of_neg hc] at h
      simp at h
theorem tw_out {P : UInt8 → Bool} : ∀ {l : List UInt8} (h : (l.takeWhile P).length < l.length), P (l[(l.takeWhile P).length]'h) = false
  | [], h => by simp at h
  | c :: l, h => by
    by_cases hc : P c = true
    · have e : (c :: l).takeWhile P = c :: l.takeWhile P := List.takeWhile_cons_of_pos hc
      have h2 : (l.takeWhile P).length < l.length := by rw [e] at h; simpa using h
      have := tw_out (l := l) h2
      simp only [e, List.length_cons, List.getElem_cons_succ]
      exact this
    · have e : (c :: l).takeWhile P = [] := List.takeWhile_cons_of_neg hc
      simp only [e, List.length_nil, List.getElem_cons_zero]
      simpa using hc
theorem tw_le (P : UInt8 → Bool) (l : List UInt8) : (l.takeWhile P).length ≤ l.length := (List.takeWhile_sublist P).length_le
theorem nd_le (s : ByteArray) : nd s ≤ s.size := by
  have := tw_le isD s.data.toList
  rw [Lib.size_eq]
  exact this
theorem nd_in {s : ByteArray} {k : Nat} (h : k < nd s) (hs : k < s.size) : 48 ≤ s[k].toNat ∧ s[k].toNat ≤ 57 := by
  have hk : k < s.data.toList.length := by rw [← Lib.size_eq]; exact hs
  have e : s.data.toList[k]'hk = s[k] := by rw [Array.getElem_toList]; rfl
  have := tw_in (P := isD) (l := s.data.toList) (k := k) h hk
  rw [e] at this
  simp only [isD, Bool.and_eq_true, decide_eq_true_eq] at this
  exact this
theorem nd_out {s : ByteArray} (hs : nd s < s.size) : s[nd s].toNat < 48 ∨ 57 < s[nd s].toNat := by
  have hk : nd s < s.data.toList.length := by rw [← Lib.size_eq]; exact hs
  have e : s.data.toList[nd s]'hk = s[nd s] := by rw [Array.getElem_toList]; rfl
  have := tw_out (P := isD) (l := s.data.toList) hk
  have h2 : isD (s.data.toList[nd s]'hk) = false := this
  rw [e] at h2
  simp only [isD, Bool.and_eq_false_iff, decide_eq_false_iff_not] at h2
  omega
theorem nd_take (s : ByteArray) : (s.extract 0 (nd s)).data.toList = s.data.toList.takeWhile isD := by
  have h := Lib.extract_toList s 0 (nd s)
  rw [ByteArray.toList_eq] at h
  rw [h]
  simp only [List.drop_zero, Nat.sub_zero, nd]
  exact (List.prefix_iff_eq_take.1 (List.takeWhile_prefix isD)).symm
theorem nd_drop (s : ByteArray) : (s.extract (nd s) s.size).data.toList = s.data.toList.dropWhile isD := by
  have h := Lib.extract_toList s (nd s) s.size
  rw [ByteArray.toList_eq] at h
  rw [h, List.take_of_length_le (by rw [List.length_drop, Lib.size_eq]; exact Nat.le_refl _)]
  have e := List.takeWhile_append_dropWhile (p := isD) (l := s.data.toList)
  have d := List.drop_left (l₁ := s.data.toList.takeWhile isD) (l₂ := s.data.toList.dropWhile isD)
  rw [e] at d
  exact d
/-- A number that was read of a text: an int; of the digits of one, that one. -/
def NumL (l : List UInt8) (v : Int) : Prop := (-9223372036854775808 ≤ v ∧ v ≤ 9223372036854775807) ∧ ∀ g : Nat, g < 9223372036854775808 → l = Lib.decDigits g → v = g
theorem bytes_below (w : World) (t : TypeId) (s : ByteArray) : Below w.heap.size w (Lib.bytesWorld w t s) :=
  ⟨rfl, rfl, rfl, by rw [Lib.bytesWorld_size]; omega, fun j hj => Lib.bytesWorld_at_old w t s j hj⟩
theorem atoi_any (t : ByteArray) (hl : t.size ≤ 281474976710656) (w : World) (S : ErrSy w) (R : ErrRa w) :
    Calls Tryd.prog 54 #[.string t] w fun e w' => ∃ v er, e = .returned (.tuple #[.int .i64 v, er]) ∧ NumL t.data.toList v ∧ Below w.heap.size w w' := by
  rcases h : Lib.atoiAll t.data.toList with v | _ | _
  · refine (Any.strconv_Atoi_ok Tryd.laysAtoi t (by omega) v h w).mono fun e w' ⟨h1, h2⟩ => ⟨v, _, h1, ⟨Gw.atoi_rng h, fun g hg e => ?_⟩, ?_⟩
    · rw [e, Gw.atoi_dec g hg] at h
      simpa using h.symm
    · rcases h2 with rfl | ⟨u, rfl⟩
      · exact Below.refl _ _
      · exact bytes_below w _ u
  · obtain ⟨u, y, hc⟩ := S
    refine (Any.strconv_Atoi_syntax Tryd.laysAtoi t hl h (.iface u y) w hc (.inr ⟨u, y, rfl⟩)).mono fun e w' ⟨N, h1, _, _, h4⟩ => ⟨0, _, h1, ⟨by omega, fun g hg e => ?_⟩, h4⟩
    rw [e, Gw.atoi_dec g hg] at h
    cases h
  · obtain ⟨u, y, hc⟩ := R
    refine (Any.strconv_Atoi_range Tryd.laysAtoi t hl h (.iface u y) w hc (.inr ⟨u, y, rfl⟩)).mono fun e w' ⟨N, h1, _, _, h4⟩ => ⟨_, _, h1, ⟨Gw.sat_rng _, fun g hg e => ?_⟩, h4⟩
    rw [e, Gw.atoi_dec g hg] at h
    cases h
set_option maxHeartbeats 4000000 in
theorem number_any (s : ByteArray) (hl : s.size ≤ 1000000) (w : World) (S : ErrSy w) (R : ErrRa w) :
    Calls Tryd.prog 40 #[.string s] w fun e w' => ∃ v s2, e = .returned (.tuple #[.int .i64 v, .string s2]) ∧ s2.data.toList = s.data.toList.dropWhile isD ∧ NumL (s.data.toList.takeWhile isD) v ∧ s2.size ≤ s.size ∧ Below w.heap.size w w' := by
  have hnd := nd_le s
  have HS := hid S
  have HR := hid R
  clear S R
  go_enter Tryd.func40, Tryd.ntmps40
  go_wp2_with fail
  go_loopw [4] (fun i wr => ∃ (k : Nat), k ≤ nd s ∧ i = .int .i64 k ∧ Hid (Below w.heap.size w wr)) (fun i _ => nd s - (intOf i).toNat)
  case atStart => exact ⟨0, by omega, rfl, hid (Below.refl _ _)⟩
  case round =>
    obtain ⟨k, hk, rfl, B⟩ := hrel
    by_cases hlt : k < nd s
    · have hks : k < s.size := by omega
      obtain ⟨d1, d2⟩ := nd_in hlt hks
      have e1 : (48 : Int) ≤ (s[k].toNat : Int) := by omega
      have e2 : (s[k].toNat : Int) ≤ 57 := by omega
      go_wp2
      go_roundw
      case rel => exact ⟨k + 1, by omega, by go_num, B⟩
      case measure => simp [intOf]; omega
    · obtain rfl : k = nd s := by omega
      have AT := hid (fun (w' : World) (hb : Below w.heap.size w w') => atoi_any (s.extract 0 (nd s)) (by simp [ByteArray.size_extract]; omega) w' (HS.out.at hb) (HR.out.at hb))
      rw [nd_take] at AT
      have ND := hid (nd_drop s)
      have NZ := hid (show (s.extract (nd s) s.size).size ≤ s.size by simp [ByteArray.size_extract])
      have hnI : ((nd s : Nat) : Int) ≤ (s.size : Int) := by omega
      rcases (show (nd s < s.size ∧ ∃ h : nd s < s.size, s[nd s].toNat < 48) ∨ (nd s < s.size ∧ ∃ h : nd s < s.size, 57 < s[nd s].toNat ∧ 48 ≤ s[nd s].toNat) ∨ nd s = s.size by
        rcases (show nd s < s.size ∨ nd s = s.size by omega) with h | h
        · rcases nd_out h with h2 | h2
          · exact .inl ⟨h, h, h2⟩
          · exact .inr (.inl ⟨h, h, h2, by omega⟩)
        · exact .inr (.inr h)) with ⟨_, hks, hd⟩ | ⟨_, hks, hd, hd2⟩ | hks
      · have e1 : ((s[nd s].toNat : Nat) : Int) < 48 := by omega
        go_wp2_with fail
        refine (AT.out _ B.out).mono ?_
        rintro e w3 ⟨v, er, rfl, hN, hb⟩
        have B3 := hid (B.out.trans (hb.mono B.out.size))
        have HN := hid hN
        clear hb hN B AT
        go_upto_region 5 with (fail)
        go_quiet (fail)
        have B4 := hid (B3.out.trans ((Quiet.below ⟨nq, rfl⟩ w3.heap.size : Below w3.heap.size w3 (w3.drewN nq)).mono B3.out.size))
        go_wp2
        exact bodyPost_ret (v := .tuple #[.int .i64 v, .string (s.extract (nd s) s.size)]) (by simp [results, Tryd.results40, go_sem]) rfl ⟨v, _, rfl, ND.out, HN.out, NZ.out, B4.out⟩
      · have e1 : ¬ ((s[nd s].toNat : Nat) : Int) ≤ 57 := by omega
        have e2 : (48 : Int) ≤ ((s[nd s].toNat : Nat) : Int) := by omega
        go_wp2_with fail
        refine (AT.out _ B.out).mono ?_
        rintro e w3 ⟨v, er, rfl, hN, hb⟩
        have B3 := hid (B.out.trans (hb.mono B.out.size))
        have HN := hid hN
        clear hb hN B AT
        go_upto_region 5 with (fail)
        go_quiet (fail)
        have B4 := hid (B3.out.trans ((Quiet.below ⟨nq, rfl⟩ w3.heap.size : Below w3.heap.size w3 (w3.drewN nq)).mono B3.out.size))
        go_wp2
        exact bodyPost_ret (v := .tuple #[.int .i64 v, .string (s.extract (nd s) s.size)]) (by simp [results, Tryd.results40, go_sem]) rfl ⟨v, _, rfl, ND.out, HN.out, NZ.out, B4.out⟩
      · have e1 : ¬ ((nd s : Nat) : Int) < (s.size : Int) := by omega
        clear hks hk hlt
        go_wp2_with fail
        refine (AT.out _ B.out).mono ?_
        rintro e w3 ⟨v, er, rfl, hN, hb⟩
        have B3 := hid (B.out.trans (hb.mono B.out.size))
        have HN := hid hN
        clear hb hN B AT
        go_upto_region 5 with (fail)
        go_quiet (fail)
        have B4 := hid (B3.out.trans ((Quiet.below ⟨nq, rfl⟩ w3.heap.size : Below w3.heap.size w3 (w3.drewN nq)).mono B3.out.size))
        go_wp2
        exact bodyPost_ret (v := .tuple #[.int .i64 v, .string (s.extract (nd s) s.size)]) (by simp [results, Tryd.results40, go_sem]) rfl ⟨v, _, rfl, ND.out, HN.out, NZ.out, B4.out⟩
end Go.Proofs.YtnaphgjkkagpoaaDoor
