/- The document's reading of a number: value, begins, part. -/
import Derived.Test.YtnaphgjkkagpoaaDoorGlyPa
import Derived.BigQuiet
import Derived.Deep.CutRange
namespace Go.Proofs.YtnaphgjkkagpoaaDoor
set_option linter.unusedVariables false
set_option linter.unusedSimpArgs false
set_option maxRecDepth 20000
open Go.RowKit

/-- At most 19 digits are read. -/
def nd19 (s : ByteArray) : Nat := min 19 (nd s)
theorem nd19_le (s : ByteArray) : nd19 s ≤ s.size := Nat.le_trans (Nat.min_le_right _ _) (nd_le s)
/-- What the first k digits make. -/
def vd (s : ByteArray) (k : Nat) : Nat := Gw.val (s.data.toList.take k)
theorem vd_succ {s : ByteArray} {k : Nat} (hk : k < s.size) : vd s (k + 1) = 10 * vd s k + (s[k].toNat - 48) := by
  have hk' : k < s.data.toList.length := by rw [← Lib.size_eq]; exact hk
  have e : s.data.toList[k]'hk' = s[k] := by rw [Array.getElem_toList]; rfl
  unfold vd
  rw [← List.take_append_getElem hk', Gw.val_snoc, e]
theorem vd_lt (s : ByteArray) : ∀ k, k ≤ nd s → vd s k < 10 ^ k := by
  intro k
  induction k with
  | zero => intro _; simp [vd, Gw.val]
  | succ k ih =>
    intro h
    have hs := nd_le s
    have hk : k < s.size := by omega
    have h1 := ih (by omega)
    obtain ⟨h2, h3⟩ := nd_in (s := s) (k := k) (by omega) hk
    rw [vd_succ hk, Nat.pow_succ]
    omega
theorem vd_19 {s : ByteArray} {k : Nat} (hk : k ≤ nd19 s) : vd s k < 10000000000000000000 := by
  have h19 : k ≤ 19 := Nat.le_trans hk (Nat.min_le_left _ _)
  have h := vd_lt s k (Nat.le_trans hk (Nat.min_le_right _ _))
  have := Nat.pow_le_pow_right (n := 10) (by decide) h19
  omega
/-- A number's digits, and then none: that is what is read. -/
theorem vd_num {s : ByteArray} {g : Nat} {r : List UInt8} (hg : g < 10000000000000000000) (hr : ∀ c, r.head? = some c → ¬ Gw.Dig c) (h : s.data.toList = Lib.decDigits g ++ r) :
    vd s (nd19 s) = g ∧ s.data.toList.drop (nd19 s) = r ∧ 0 < nd19 s := by
  obtain ⟨e1, e2⟩ := tw_app (P := isD) (a := Lib.decDigits g) (r := r) (fun c hc => isD_dig (Gw.dec_dig g c hc)) (fun c hc => isD_not (hr c hc))
  have hl := dec_len 19 g (by decide) (by omega)
  have e3 : nd s = (Lib.decDigits g).length := by unfold nd; rw [h, e1]
  have e4 : nd19 s = (Lib.decDigits g).length := by unfold nd19; rw [e3]; omega
  refine ⟨?_, ?_, ?_⟩
  · unfold vd; rw [e4, h, List.take_left, Gw.val_dec]
  · rw [e4, h, List.drop_left]
  · rw [e4]; exact List.length_pos_iff.2 (Gw.dec_ne g)
theorem drop_ext (s : ByteArray) (k : Nat) : (s.extract k s.size).data.toList = s.data.toList.drop k := by
  have h := Lib.extract_toList s k s.size
  rw [ByteArray.toList_eq] at h
  rw [h, List.take_of_length_le (by rw [List.length_drop, Lib.size_eq]; exact Nat.le_refl _)]
theorem take_ext (s : ByteArray) (k : Nat) : (s.extract 0 k).data.toList = s.data.toList.take k := by
  have h := Lib.extract_toList s 0 k
  rw [ByteArray.toList_eq] at h
  rw [h]; simp
set_option maxHeartbeats 4000000 in
theorem value_any (s : ByteArray) (hl : s.size ≤ 1000000) (w : World) :
    Calls Tryd.prog 58 #[.string s] w fun e w' => ∃ (n : Nat) (s2 : ByteArray) (b : Bool), e = .returned (.tuple #[.int .u64 n, .string s2, .bool b]) ∧ n < 10000000000000000000 ∧ s2.size ≤ s.size ∧ Hid (n = vd s (nd19 s) ∧ s2.data.toList = s.data.toList.drop (nd19 s)) ∧ Below w.heap.size w w' := by
  have hnd := nd19_le s
  go_enter Tryd.func58, Tryd.ntmps58
  go_wp2_with fail
  go_loopw [5, 6] (fun n i wr => ∃ (k N : Nat), k ≤ nd19 s ∧ n = .int .u64 N ∧ i = .int .i64 k ∧ N < 10000000000000000000 ∧ Hid (N = vd s k) ∧ Hid (Below w.heap.size w wr)) (fun _ i _ => nd19 s - (intOf i).toNat)
  case atStart => exact ⟨0, 0, by omega, rfl, rfl, by omega, hid (by simp [vd, Gw.val]), hid (Below.refl _ _)⟩
  case round =>
    obtain ⟨k, N, hk, rfl, rfl, hN, HV, B⟩ := hrel
    by_cases hlt : k < nd19 s
    · have hks : k < s.size := by omega
      have hk19 : (k : Int) < 19 := by have : nd19 s ≤ 19 := Nat.min_le_left _ _; omega
      obtain ⟨d1, d2⟩ := nd_in (s := s) (k := k) (Nat.lt_of_lt_of_le hlt (Nat.min_le_right _ _)) hks
      have e1 : (48 : Int) ≤ (s[k].toNat : Int) := by omega
      have e2 : (s[k].toNat : Int) ≤ 57 := by omega
      have hv2 := vd_19 (s := s) (k := k + 1) (by omega)
      rw [vd_succ hks, ← HV.out] at hv2
      have HV2 := hid (show 10 * N + (s[k].toNat - 48) = vd s (k + 1) by rw [vd_succ hks, ← HV.out])
      have h8 : IntKind.u8.wrap ((s[k].toNat : Int) - 48) = (s[k].toNat : Int) - 48 := by
        have hb : IntKind.u8.bits = 8 := rfl
        have hs : IntKind.u8.signed = false := rfl
        simp [IntKind.wrap, hb, hs]; omega
      have h64 : IntKind.u64.wrap (10 * (N : Int)) = 10 * (N : Int) := by
        have hb : IntKind.u64.bits = 64 := rfl
        have hs : IntKind.u64.signed = false := rfl
        simp [IntKind.wrap, hb, hs]; omega
      go_wp2
      go_roundw
      case rel => exact ⟨k + 1, 10 * N + (s[k].toNat - 48), by omega, congrArg (Value.int .u64) (by omega), by go_num, hv2, HV2, B⟩
      case measure => simp [intOf]; omega
    · obtain rfl : k = nd19 s := by omega
      have DE := hid (drop_ext s (nd19 s))
      have NZ := hid (show (s.extract (nd19 s) s.size).size ≤ s.size by simp [ByteArray.size_extract])
      have hnI : ((nd19 s : Nat) : Int) ≤ (s.size : Int) := by omega
      rcases (show nd19 s = s.size ∨ (nd19 s < s.size ∧ nd19 s = 19) ∨ (nd19 s < 19 ∧ ∃ h : nd19 s < s.size, s[nd19 s].toNat < 48) ∨ (nd19 s < 19 ∧ ∃ h : nd19 s < s.size, 57 < s[nd19 s].toNat ∧ 48 ≤ s[nd19 s].toNat) by
        rcases (show nd19 s = s.size ∨ (nd19 s < s.size ∧ nd19 s = 19) ∨ (nd19 s < 19 ∧ nd19 s = nd s ∧ nd s < s.size) by unfold nd19 at *; omega) with h | h | ⟨h1, h2, h3⟩
        · exact .inl h
        · exact .inr (.inl h)
        · have h4 : nd19 s < s.size := by omega
          rcases nd_out h3 with h5 | h5
          · exact .inr (.inr (.inl ⟨h1, h4, by simp only [h2]; exact h5⟩))
          · exact .inr (.inr (.inr ⟨h1, h4, by simp only [h2]; exact h5, by simp only [h2]; omega⟩))) with hks | ⟨hks, h19⟩ | ⟨h19, hks, hd⟩ | ⟨h19, hks, hd, hd2⟩
      · have e1 : ¬ ((nd19 s : Nat) : Int) < (s.size : Int) := by omega
        clear hks hk hlt
        go_wp2_with fail
        go_upto_region 6 with (fail)
        go_quiet (fail)
        have B4 := hid (B.out.trans ((Quiet.below ⟨nq, rfl⟩ wr.heap.size : Below wr.heap.size wr (wr.drewN nq)).mono B.out.size))
        go_wp2
        exact bodyPost_ret (v := .tuple #[.int .u64 N, .string (s.extract (nd19 s) s.size), .bool (decide ((0 : Int) < (nd19 s : Int)))]) (by simp [results, Tryd.results58, go_sem]) rfl ⟨N, _, _, rfl, hN, NZ.out, hid ⟨HV.out, DE.out⟩, B4.out⟩
      · have e1 : ((nd19 s : Nat) : Int) < (s.size : Int) := by omega
        have e2 : ¬ ((nd19 s : Nat) : Int) < 19 := by omega
        clear h19 hk hlt
        go_wp2_with fail
        go_upto_region 6 with (fail)
        go_quiet (fail)
        have B4 := hid (B.out.trans ((Quiet.below ⟨nq, rfl⟩ wr.heap.size : Below wr.heap.size wr (wr.drewN nq)).mono B.out.size))
        go_wp2
        exact bodyPost_ret (v := .tuple #[.int .u64 N, .string (s.extract (nd19 s) s.size), .bool (decide ((0 : Int) < (nd19 s : Int)))]) (by simp [results, Tryd.results58, go_sem]) rfl ⟨N, _, _, rfl, hN, NZ.out, hid ⟨HV.out, DE.out⟩, B4.out⟩
      · have e1 : ((nd19 s : Nat) : Int) < (s.size : Int) := by omega
        have e2 : ((nd19 s : Nat) : Int) < 19 := by omega
        have e3 : ¬ (48 : Int) ≤ ((s[nd19 s].toNat : Nat) : Int) := by omega
        clear h19 hk hlt hd
        go_wp2_with fail
        go_upto_region 6 with (fail)
        go_quiet (fail)
        have B4 := hid (B.out.trans ((Quiet.below ⟨nq, rfl⟩ wr.heap.size : Below wr.heap.size wr (wr.drewN nq)).mono B.out.size))
        go_wp2
        exact bodyPost_ret (v := .tuple #[.int .u64 N, .string (s.extract (nd19 s) s.size), .bool (decide ((0 : Int) < (nd19 s : Int)))]) (by simp [results, Tryd.results58, go_sem]) rfl ⟨N, _, _, rfl, hN, NZ.out, hid ⟨HV.out, DE.out⟩, B4.out⟩
      · have e1 : ((nd19 s : Nat) : Int) < (s.size : Int) := by omega
        have e2 : ((nd19 s : Nat) : Int) < 19 := by omega
        have e3 : (48 : Int) ≤ ((s[nd19 s].toNat : Nat) : Int) := by omega
        have e4 : ¬ ((s[nd19 s].toNat : Nat) : Int) ≤ 57 := by omega
        clear h19 hk hlt hd hd2
        go_wp2_with fail
        go_upto_region 6 with (fail)
        go_quiet (fail)
        have B4 := hid (B.out.trans ((Quiet.below ⟨nq, rfl⟩ wr.heap.size : Below wr.heap.size wr (wr.drewN nq)).mono B.out.size))
        go_wp2
        exact bodyPost_ret (v := .tuple #[.int .u64 N, .string (s.extract (nd19 s) s.size), .bool (decide ((0 : Int) < (nd19 s : Int)))]) (by simp [results, Tryd.results58, go_sem]) rfl ⟨N, _, _, rfl, hN, NZ.out, hid ⟨HV.out, DE.out⟩, B4.out⟩
theorem hasB_iff (s t : ByteArray) : hasB s t = true ↔ s.data.toList.take t.size = t.data.toList := by
  unfold hasB Lib.hasPrefix
  rw [List.isPrefixOf_iff_prefix, List.prefix_iff_eq_take, ← Lib.size_eq]
  exact ⟨Eq.symm, Eq.symm⟩
theorem trimB_no {s t : ByteArray} (h : hasB s t = false) : trimB s t = s := by
  unfold trimB Lib.trimPrefix
  rw [show Lib.hasPrefix s.data.toList t.data.toList = false from h]
  simp
theorem trimB_yes {s t : ByteArray} (h : hasB s t = true) : trimB s t = s.extract t.size s.size := by
  apply ByteArray.ext
  apply Array.toList_inj.1
  rw [drop_ext]
  unfold trimB Lib.trimPrefix
  rw [show Lib.hasPrefix s.data.toList t.data.toList = true from h]
  rw [Lib.size_eq t, if_pos rfl]
theorem trimB_size (s t : ByteArray) : (trimB s t).size ≤ s.size := by
  cases h : hasB s t
  · rw [trimB_no h]; exact Nat.le_refl _
  · rw [trimB_yes h]; simp [ByteArray.size_extract]
set_option maxHeartbeats 4000000 in
theorem begins_any (s t : ByteArray) (hs : s.size ≤ 1000000) (ht : t.size ≤ 1000000) (w : World) :
    Calls Tryd.prog 43 #[.string s, .string t] w fun e w' => e = .returned (.tuple #[.string (trimB s t), .bool (hasB s t)]) ∧ Below w.heap.size w w' := by
  have hn := hid (hasB_iff s t)
  rcases hq : hasB s t with _ | _
  · rw [trimB_no hq]
    by_cases hlt : (s.size : Int) < (t.size : Int)
    · clear hq
      go_enter Tryd.func43, Tryd.ntmps43
      go_wp2
      exact bodyPost_ret (v := .tuple #[.string s, .bool false]) (by simp [results, Tryd.results43, go_sem]) rfl ⟨rfl, Below.refl _ _⟩
    · have ne : ((s.extract 0 t.size).toList == t.toList) = false := by
        rw [ByteArray.toList_eq, ByteArray.toList_eq, take_ext]
        have : ¬ s.data.toList.take t.size = t.data.toList := fun h => by rw [hn.out.2 h] at hq; cases hq
        simpa using this
      have hle : (t.size : Int) ≤ (s.size : Int) := by omega
      clear hq
      go_enter Tryd.func43, Tryd.ntmps43
      go_wp2
      exact bodyPost_ret (v := .tuple #[.string s, .bool false]) (by simp [results, Tryd.results43, go_sem]) rfl ⟨rfl, Below.refl _ _⟩
  · rw [trimB_yes hq]
    have h := hn.out.1 hq
    have hle : (t.size : Int) ≤ (s.size : Int) := by
      have := congrArg List.length h
      rw [List.length_take, ← Lib.size_eq, ← Lib.size_eq] at this
      omega
    have ne : ((s.extract 0 t.size).toList == t.toList) = true := by
      rw [ByteArray.toList_eq, ByteArray.toList_eq, take_ext, h]
      simp
    have hlt : ¬ (s.size : Int) < (t.size : Int) := by omega
    clear hq h
    go_enter Tryd.func43, Tryd.ntmps43
    go_wp2
    exact bodyPost_ret (v := .tuple #[.string (s.extract t.size s.size), .bool true]) (by simp [results, Tryd.results43, go_sem]) rfl ⟨rfl, Below.refl _ _⟩
end Go.Proofs.YtnaphgjkkagpoaaDoor
