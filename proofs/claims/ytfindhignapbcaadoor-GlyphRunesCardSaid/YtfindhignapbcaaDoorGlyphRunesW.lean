/- The walk of the statement GlyphRunes: the law answers true and turns nothing that was there. -/
import Derived.Test.YtfindhignapbcaaDoorGlyph4
import Derived.OpenShut
namespace Go.Proofs.YtfindhignapbcaaDoor.glyphRunes
open Go.RowKit
set_option linter.unusedVariables false
set_option linter.unusedSimpArgs false

set_option maxHeartbeats 8000000 in
theorem pos_walk (s : ByteArray) (N : Nat) (hN : IsCnt s N) (hl : s.size ≤ 400) (n : Int) (h0 : -9223372036854775808 ≤ n) (h1 : n ≤ 9223372036854775807) (hn : 0 < n) (w : World) (R : GlRunes w) (T : PwTab w) :
    Calls Tryd.prog 4 #[.string s, .int .i64 n] w fun e w' => e = .returned (.bool true) ∧ Below w.heap.size w w' := by
  have LV := hid (lives16 w R T)
  obtain ⟨r, hr1, hr2⟩ : ∃ r : ByteArray, (∀ j : Nat, j < N → (j : Int) = n → r = s.extract 0 (ps s j)) ∧ ((N : Int) ≤ n → r = s) := by
    by_cases hM : (N : Int) ≤ n
    · exact ⟨s, fun j hj he => by omega, fun _ => rfl⟩
    · exact ⟨s.extract 0 (ps s (n : Int).toNat), fun j hj he => by rw [← he]; rfl, fun h => absurd h hM⟩
  have HR1 := hid hr1
  have HR2 := hid hr2
  have CT := hid (fun (w : World) => cut_any s N hN (by omega) n h0 h1 r ⟨fun j hj h2 h3 => hr1 j hj (by omega), fun h => hr2 (by omega)⟩ w)
  have CC := hid (fun (w : World) => cut_any s N hN (by omega) N (by omega) (by have := hN.le; omega) s ⟨fun j hj h2 h3 => by omega, fun _ => rfl⟩ w)
  have CN := hid (fun (w : World) => count_any s N hN (by omega) w)
  have CR := hid (fun (w : World) => rcount_any s N hN (by omega) w)
  have HN := hid hN
  have hNs : (N : Int) ≤ 400 := by have := hN.le; omega
  have hsl : ¬ (400 : Int) < (s.size : Int) := by omega
  have tnn : ((N : Int) == N) = true := by simp
  have tss := txt_eq s
  clear R T hr1 hr2 hN
  go_enter Tryd.func4, Tryd.ntmps4
  go_wp2_with fail
  refine LV.out.mono ?_
  rintro e w2 ⟨rfl, hb⟩
  have B2 := hid hb
  clear hb LV
  go_wp2_with fail
  refine (CT.out _).mono ?_
  rintro e w3 ⟨rfl, hb⟩
  have B3 := hid (B2.out.trans (hb.mono B2.out.size))
  clear hb CT
  have I0 := hid (It.new s B3.out)
  go_wp2_with fail
  obtain ⟨K, hK⟩ : ∃ K, K = w3.heap.size := ⟨_, rfl⟩
  rw [← hK] at I0 ⊢
  clear hK
  go_loopw [6, 7] (fun wa k wr => ∃ (j : Nat), j ≤ N ∧ Hid ((j : Int) ≤ n) ∧ wa = .int .i64 s.size ∧ k = .int .i64 j ∧ Hid (It w K s j wr)) (fun _ k _ => N - (intOf k).toNat)
  case atStart => exact ⟨0, by omega, hid (by omega), rfl, rfl, I0⟩
  case round =>
    clear I0
    obtain ⟨j, hj, HJ, rfl, rfl, I⟩ := hrel
    by_cases hlt : j < N
    · have hp := HN.out.1 j hlt
      have hnext : ∀ ty, (Instr.next (.pointer (some ⟨K, 0, none⟩)) true ty).run Tryd.prog wr = _ := fun ty => Lib.run_next_any_at wr K s (ps s j) ty I.out.k hp
      have I2 := hid (I.out.next hp)
      generalize wr.iterAt K s (ps s j + (Utf8.decode s (ps s j)).2) = W1 at hnext I2
      generalize (Utf8.decode s (ps s j)).1 = rn at hnext
      obtain ⟨P, hP⟩ : ∃ P, P = ps s j := ⟨_, rfl⟩
      rw [← hP] at hnext hp
      by_cases hx : (j : Int) = n
      · have te : (r.toList == (s.extract 0 P).toList) = true := by rw [hP, ← HR1.out j hlt hx]; exact txt_eq r
        have hpI : (P : Int) ≤ (s.size : Int) := by omega
        have tx : ((j : Int) == n) = true := beq_iff_eq.2 hx
        have BI := hid I2.out.bl
        clear hP I2 hx
        go_wp2_with fail
        refine (CN.out _).mono ?_
        rintro e x1 ⟨rfl, hb⟩
        have B1 := hid (BI.out.trans (hb.mono BI.out.size))
        clear hb
        go_wp2_with fail
        refine (CR.out _).mono ?_
        rintro e x2 ⟨rfl, hb⟩
        have B2 := hid (B1.out.trans (hb.mono B1.out.size))
        clear hb
        go_wp2_with fail
        refine (CN.out _).mono ?_
        rintro e x3 ⟨rfl, hb⟩
        have B3 := hid (B2.out.trans (hb.mono B2.out.size))
        clear hb
        go_wp2_with fail
        refine (CC.out _).mono ?_
        rintro e x4 ⟨rfl, hb⟩
        have B4 := hid (B3.out.trans (hb.mono B3.out.size))
        clear hb
        go_wp2
        go_ret
        exact ⟨rfl, B4.out⟩
      · have tx : ((j : Int) == n) = false := beq_eq_false_iff_ne.2 hx
        have HJ2 := hid (show ((j + 1 : Nat) : Int) ≤ n by have := HJ.out; omega)
        clear hP hx
        go_wp2
        go_roundw
        case rel => exact ⟨j + 1, by omega, HJ2, rfl, by go_num, I2⟩
        case measure => simp [intOf]; omega
    · obtain rfl : j = N := by omega
      have hp := HN.out.2
      have hnext : ∀ ty, (Instr.next (.pointer (some ⟨K, 0, none⟩)) true ty).run Tryd.prog wr = _ := fun ty => Lib.run_next_end_at wr K s (ps s j) ty I.out.k hp
      have te : (r.toList == (s.extract 0 s.size).toList) = true := by rw [Lib.whole_piece, HR2.out HJ.out]; exact txt_eq s
      have te2 : (r.toList == s.toList) = true := by rw [HR2.out HJ.out]; exact txt_eq s
      have BI := hid I.out.bl
      clear hp I
      go_wp2_with fail
      refine (CN.out _).mono ?_
      rintro e x1 ⟨rfl, hb⟩
      have B1 := hid (BI.out.trans (hb.mono BI.out.size))
      clear hb
      go_wp2_with fail
      refine (CR.out _).mono ?_
      rintro e x2 ⟨rfl, hb⟩
      have B2 := hid (B1.out.trans (hb.mono B1.out.size))
      clear hb
      go_wp2_with fail
      refine (CN.out _).mono ?_
      rintro e x3 ⟨rfl, hb⟩
      have B3 := hid (B2.out.trans (hb.mono B2.out.size))
      clear hb
      go_wp2_with fail
      refine (CC.out _).mono ?_
      rintro e x4 ⟨rfl, hb⟩
      have B4 := hid (B3.out.trans (hb.mono B3.out.size))
      clear hb
      go_wp2
      go_ret
      exact ⟨rfl, B4.out⟩
set_option maxHeartbeats 8000000 in
theorem neg_walk (s : ByteArray) (N : Nat) (hN : IsCnt s N) (hl : s.size ≤ 400) (n : Int) (h0 : -9223372036854775808 ≤ n) (h1 : n ≤ 9223372036854775807) (hn : ¬ 0 < n) (w : World) (R : GlRunes w) (T : PwTab w) :
    Calls Tryd.prog 4 #[.string s, .int .i64 n] w fun e w' => e = .returned (.bool true) ∧ Below w.heap.size w w' := by
  have LV := hid (lives16 w R T)
  obtain ⟨r, hr1, hr2⟩ : ∃ r : ByteArray, (∀ j : Nat, j < N → (j : Int) = 0 → r = s.extract 0 (ps s j)) ∧ ((N : Int) ≤ 0 → r = s) := by
    by_cases hM : (N : Int) ≤ 0
    · exact ⟨s, fun j hj he => by omega, fun _ => rfl⟩
    · exact ⟨s.extract 0 (ps s (0 : Int).toNat), fun j hj he => by rw [← he]; rfl, fun h => absurd h hM⟩
  have HR1 := hid hr1
  have HR2 := hid hr2
  have CT := hid (fun (w : World) => cut_any s N hN (by omega) n h0 h1 r ⟨fun j hj h2 h3 => hr1 j hj (by omega), fun h => hr2 (by omega)⟩ w)
  have CC := hid (fun (w : World) => cut_any s N hN (by omega) N (by omega) (by have := hN.le; omega) s ⟨fun j hj h2 h3 => by omega, fun _ => rfl⟩ w)
  have CN := hid (fun (w : World) => count_any s N hN (by omega) w)
  have CR := hid (fun (w : World) => rcount_any s N hN (by omega) w)
  have HN := hid hN
  have hNs : (N : Int) ≤ 400 := by have := hN.le; omega
  have hsl : ¬ (400 : Int) < (s.size : Int) := by omega
  have tnn : ((N : Int) == N) = true := by simp
  have tss := txt_eq s
  clear R T hr1 hr2 hN
  go_enter Tryd.func4, Tryd.ntmps4
  go_wp2_with fail
  refine LV.out.mono ?_
  rintro e w2 ⟨rfl, hb⟩
  have B2 := hid hb
  clear hb LV
  go_wp2_with fail
  refine (CT.out _).mono ?_
  rintro e w3 ⟨rfl, hb⟩
  have B3 := hid (B2.out.trans (hb.mono B2.out.size))
  clear hb CT
  have I0 := hid (It.new s B3.out)
  go_wp2_with fail
  obtain ⟨K, hK⟩ : ∃ K, K = w3.heap.size := ⟨_, rfl⟩
  rw [← hK] at I0 ⊢
  clear hK
  go_loopw [6, 7] (fun wa k wr => ∃ (j : Nat), j ≤ N ∧ Hid ((j : Int) ≤ 0) ∧ wa = .int .i64 s.size ∧ k = .int .i64 j ∧ Hid (It w K s j wr)) (fun _ k _ => N - (intOf k).toNat)
  case atStart => exact ⟨0, by omega, hid (by omega), rfl, rfl, I0⟩
  case round =>
    clear I0
    obtain ⟨j, hj, HJ, rfl, rfl, I⟩ := hrel
    by_cases hlt : j < N
    · have hp := HN.out.1 j hlt
      have hnext : ∀ ty, (Instr.next (.pointer (some ⟨K, 0, none⟩)) true ty).run Tryd.prog wr = _ := fun ty => Lib.run_next_any_at wr K s (ps s j) ty I.out.k hp
      have I2 := hid (I.out.next hp)
      generalize wr.iterAt K s (ps s j + (Utf8.decode s (ps s j)).2) = W1 at hnext I2
      generalize (Utf8.decode s (ps s j)).1 = rn at hnext
      obtain ⟨P, hP⟩ : ∃ P, P = ps s j := ⟨_, rfl⟩
      rw [← hP] at hnext hp
      by_cases hx : (j : Int) = 0
      · have te : (r.toList == (s.extract 0 P).toList) = true := by rw [hP, ← HR1.out j hlt hx]; exact txt_eq r
        have hpI : (P : Int) ≤ (s.size : Int) := by omega
        have tx : ((j : Int) == 0) = true := beq_iff_eq.2 hx
        have BI := hid I2.out.bl
        clear hP I2 hx
        go_wp2_with fail
        refine (CN.out _).mono ?_
        rintro e x1 ⟨rfl, hb⟩
        have B1 := hid (BI.out.trans (hb.mono BI.out.size))
        clear hb
        go_wp2_with fail
        refine (CR.out _).mono ?_
        rintro e x2 ⟨rfl, hb⟩
        have B2 := hid (B1.out.trans (hb.mono B1.out.size))
        clear hb
        go_wp2_with fail
        refine (CN.out _).mono ?_
        rintro e x3 ⟨rfl, hb⟩
        have B3 := hid (B2.out.trans (hb.mono B2.out.size))
        clear hb
        go_wp2_with fail
        refine (CC.out _).mono ?_
        rintro e x4 ⟨rfl, hb⟩
        have B4 := hid (B3.out.trans (hb.mono B3.out.size))
        clear hb
        go_wp2
        go_ret
        exact ⟨rfl, B4.out⟩
      · exact absurd (by have := HJ.out; omega) hx
    · obtain rfl : j = N := by omega
      have hp := HN.out.2
      have hnext : ∀ ty, (Instr.next (.pointer (some ⟨K, 0, none⟩)) true ty).run Tryd.prog wr = _ := fun ty => Lib.run_next_end_at wr K s (ps s j) ty I.out.k hp
      have te : (r.toList == (s.extract 0 s.size).toList) = true := by rw [Lib.whole_piece, HR2.out HJ.out]; exact txt_eq s
      have te2 : (r.toList == s.toList) = true := by rw [HR2.out HJ.out]; exact txt_eq s
      have BI := hid I.out.bl
      clear hp I
      go_wp2_with fail
      refine (CN.out _).mono ?_
      rintro e x1 ⟨rfl, hb⟩
      have B1 := hid (BI.out.trans (hb.mono BI.out.size))
      clear hb
      go_wp2_with fail
      refine (CR.out _).mono ?_
      rintro e x2 ⟨rfl, hb⟩
      have B2 := hid (B1.out.trans (hb.mono B1.out.size))
      clear hb
      go_wp2_with fail
      refine (CN.out _).mono ?_
      rintro e x3 ⟨rfl, hb⟩
      have B3 := hid (B2.out.trans (hb.mono B2.out.size))
      clear hb
      go_wp2_with fail
      refine (CC.out _).mono ?_
      rintro e x4 ⟨rfl, hb⟩
      have B4 := hid (B3.out.trans (hb.mono B3.out.size))
      clear hb
      go_wp2
      go_ret
      exact ⟨rfl, B4.out⟩
set_option maxHeartbeats 4000000 in
theorem walk (s : ByteArray) (a1 : Int) (w : World) (w0 : s.size ≤ maxLen) (w1 : (Lit.int .i64 a1).wf = true) (R : GlRunes w) (T : PwTab w) :
    Calls Tryd.prog 4 #[.string s, .int .i64 a1] w fun e w' => e = .returned (.bool true) ∧ Below w.heap.size w w' := by
  have hb := bounds_i64 w1
  by_cases hl : s.size ≤ 400
  · obtain ⟨N, hN⟩ := cnt_ex s
    by_cases hn : 0 < a1
    · exact pos_walk s N hN hl a1 hb.1 hb.2 hn w R T
    · exact neg_walk s N hN hl a1 hb.1 hb.2 hn w R T
  · have L1 := hid (lives16 w R T)
    have HR := hid R
    have HT := hid T
    have hl2 : (400 : Int) < (s.size : Int) := by omega
    clear R T w0 w1
    go_enter Tryd.func4, Tryd.ntmps4
    go_wp2_with fail
    refine L1.out.mono ?_
    rintro e w2 ⟨rfl, hb2⟩
    have B2 := hid hb2
    have L2 := hid (lives16 w2 (HR.out.at hb2) (HT.out.at hb2))
    clear hb2
    go_wp2_with fail
    refine L2.out.mono ?_
    rintro e w3 ⟨rfl, hb3⟩
    have B3 := hid (B2.out.trans (hb3.mono B2.out.size))
    clear hb3
    go_wp2
    go_ret
    exact ⟨rfl, B3.out⟩
end Go.Proofs.YtfindhignapbcaaDoor.glyphRunes
