/- The document's part of a word: a number behind a sign. -/
import Derived.Test.YtnaphgjkkagpoaaDoorGlyOn
namespace Go.Proofs.YtnaphgjkkagpoaaDoor
set_option linter.unusedVariables false
set_option linter.unusedSimpArgs false
set_option maxRecDepth 20000
open Go.RowKit

theorem i64w (x : Int) : -9223372036854775808 ≤ IntKind.i64.wrap x ∧ IntKind.i64.wrap x ≤ 9223372036854775807 := by
  have hb : IntKind.i64.bits = 64 := rfl
  have hs : IntKind.i64.signed = true := rfl
  simp [IntKind.wrap, hb, hs]
  split <;> omega
theorem i64_pos (n : Nat) (h : (n : Int) ≤ 9223372036854775807) : IntKind.i64.wrap (n : Int) = n := by
  have hb : IntKind.i64.bits = 64 := rfl
  have hs : IntKind.i64.signed = true := rfl
  simp [IntKind.wrap, hb, hs]
  split <;> omega
theorem i64_neg (n : Nat) (h0 : 1 ≤ n) (h : n ≤ 9223372036854775808) : IntKind.i64.wrap (IntKind.u64.wrap (0 - (n : Int))) = -(n : Int) := by
  have hb : IntKind.i64.bits = 64 := rfl
  have hs : IntKind.i64.signed = true := rfl
  have hb2 : IntKind.u64.bits = 64 := rfl
  have hs2 : IntKind.u64.signed = false := rfl
  simp [IntKind.wrap, hb, hs, hb2, hs2]
  split <;> omega
/-- What a part of a word is read as. -/
def RPart (s sign : ByteArray) (none n : Int) (s2 : ByteArray) : Prop :=
  (hasB s sign = false → n = none ∧ s2 = s) ∧ (hasB s sign = true → ∀ (u : Int) (r : List UInt8), -9223372036854775808 ≤ u → u ≤ 9223372036854775807 → (∀ c, r.head? = some c → ¬ Gw.Dig c) → s.data.toList.drop sign.size = Lib.itoa u ++ r → n = u ∧ s2.data.toList = r)
theorem has45 {t : ByteArray} {u : Int} {r : List UInt8} (h : t.data.toList = Lib.itoa u ++ r) : hasB t { data := #[45] } = decide (u < 0) := by
  unfold hasB
  rw [h]
  show Lib.hasPrefix _ [45] = _
  unfold Lib.itoa
  by_cases hu : u < 0
  · rw [if_pos hu]
    simp [Lib.hasPrefix, hu]
  · rw [if_neg hu]
    have hne := Gw.dec_ne u.toNat
    have hd := Gw.dec_dig u.toNat
    cases hdd : Lib.decDigits u.toNat with
    | nil => exact absurd hdd hne
    | cons c l =>
      rw [hdd] at hd
      have := hd c (by simp)
      have h2 : ¬ (45 = c) := fun e => by subst e; simp [Gw.Dig] at this
      simp [Lib.hasPrefix, List.isPrefixOf, h2, hu]
theorem part_num {s sign t2 s3 : ByteArray} {N : Nat} (hq : hasB s sign = true) (ht : t2 = trimB (trimB s sign) { data := #[45] }) (h1 : N = vd t2 (nd19 t2)) (h2 : s3.data.toList = t2.data.toList.drop (nd19 t2))
    {u : Int} {r : List UInt8} (u0 : -9223372036854775808 ≤ u) (u1 : u ≤ 9223372036854775807) (hr : ∀ c, r.head? = some c → ¬ Gw.Dig c) (h : s.data.toList.drop sign.size = Lib.itoa u ++ r) :
    hasB (trimB s sign) { data := #[45] } = decide (u < 0) ∧ s3.data.toList = r ∧ (u < 0 → N = u.natAbs) ∧ (¬ u < 0 → N = u.toNat) := by
  have e1 : (trimB s sign).data.toList = Lib.itoa u ++ r := by rw [trimB_yes hq, drop_ext, h]
  have e2 := has45 e1
  refine ⟨e2, ?_⟩
  by_cases hu : u < 0
  · rw [decide_eq_true hu] at e2
    have e3 : t2.data.toList = Lib.decDigits u.natAbs ++ r := by
      rw [ht, trimB_yes e2, drop_ext, e1]
      unfold Lib.itoa
      rw [if_pos hu]
      rfl
    obtain ⟨v1, v2, _⟩ := vd_num (g := u.natAbs) (by omega) hr e3
    exact ⟨h2.trans v2, fun _ => h1.trans v1, fun h => absurd hu h⟩
  · rw [decide_eq_false hu] at e2
    have e3 : t2.data.toList = Lib.decDigits u.toNat ++ r := by
      rw [ht, trimB_no e2, e1]
      unfold Lib.itoa
      rw [if_neg hu]
    obtain ⟨v1, v2, _⟩ := vd_num (g := u.toNat) (by omega) hr e3
    exact ⟨h2.trans v2, fun h => absurd h hu, fun _ => h1.trans v1⟩
set_option maxHeartbeats 4000000 in
theorem part_any (s sign : ByteArray) (none : Int) (hs : s.size ≤ 1000000) (ht : sign.size ≤ 1000000) (h0 : -9223372036854775808 ≤ none) (h1 : none ≤ 9223372036854775807) (w : World) :
    Calls Tryd.prog 44 #[.string s, .string sign, .int .i64 none] w fun e w' => ∃ (n : Int) (s2 : ByteArray), e = .returned (.tuple #[.int .i64 n, .string s2]) ∧ (-9223372036854775808 ≤ n ∧ n ≤ 9223372036854775807) ∧ s2.size ≤ s.size ∧ Hid (RPart s sign none n s2) ∧ Below w.heap.size w w' := by
  have BG := hid (begins_any s sign hs ht w)
  have TS := trimB_size s sign
  rcases hq : hasB s sign with _ | _
  · have RP := hid (show RPart s sign none none s from ⟨fun _ => ⟨rfl, rfl⟩, (fun h => by rw [hq] at h; cases h)⟩)
    rw [hq] at BG
    clear hq
    generalize trimB s sign = t1 at *
    go_enter Tryd.func44, Tryd.ntmps44
    go_wp2_with fail
    refine BG.out.mono ?_
    rintro e w1 ⟨rfl, hb⟩
    have B1 := hid hb
    clear hb BG
    go_wp2
    exact bodyPost_ret (v := .tuple #[.int .i64 none, .string s]) (by simp [results, Tryd.results44, go_sem]) rfl ⟨_, _, rfl, ⟨h0, h1⟩, Nat.le_refl _, RP, B1.out⟩
  · have PN := hid (fun t2 s3 N a b c u r => @part_num s sign t2 s3 N hq a b c u r)
    have HQ := hid hq
    rw [hq] at BG
    clear hq
    have BG2 := hid (fun w => begins_any (trimB s sign) { data := #[45] } (by omega) (by show 1 ≤ 1000000; omega) w)
    have TS2 := trimB_size (trimB s sign) { data := #[45] }
    have PN2 := hid (PN.out (trimB (trimB s sign) { data := #[45] }))
    obtain ⟨t2, ht2⟩ : ∃ t2, t2 = trimB (trimB s sign) { data := #[45] } := ⟨_, rfl⟩
    rw [← ht2] at BG2 TS2 PN2
    clear PN ht2
    have VA := hid (fun w => value_any t2 (by omega) w)
    generalize trimB s sign = t1 at *
    rcases hq : hasB t1 { data := #[45] } with _ | _
    · rw [hq] at BG2 PN2
      clear hq
      go_enter Tryd.func44, Tryd.ntmps44
      go_wp2_with fail
      refine BG.out.mono ?_
      rintro e w1 ⟨rfl, hb⟩
      have B1 := hid hb
      clear hb BG
      go_wp2_with fail
      refine (BG2.out _).mono ?_
      rintro e w2 ⟨rfl, hb⟩
      have B2 := hid (B1.out.trans (hb.mono B1.out.size))
      clear hb BG2 B1
      go_wp2_with fail
      refine (VA.out _).mono ?_
      rintro e w3 ⟨N, s3, b, rfl, hN, hz, HV, hb⟩
      have B3 := hid (B2.out.trans (hb.mono B2.out.size))
      have RP := hid (show RPart s sign none (IntKind.i64.wrap (N : Int)) s3 from ⟨(fun h => by rw [HQ.out] at h; cases h), fun _ u r u0 u1 hr h => by
        obtain ⟨e1, e2, e3, e4⟩ := PN2.out s3 N (by first | rfl | trivial) HV.out.1 HV.out.2 u r u0 u1 hr h
        have hu : ¬ u < 0 := of_decide_eq_false e1.symm
        refine ⟨?_, e2⟩
        rw [e4 (by first | exact hu | omega), i64_pos _ (by omega)]
        omega⟩)
      have IW := i64w (N : Int)
      clear hb B2 VA HV PN2
      go_wp2
      exact bodyPost_ret (v := .tuple #[.int .i64 (IntKind.i64.wrap (N : Int)), .string s3]) (by simp [results, Tryd.results44, go_sem, IntWalk.i64_left]) rfl ⟨_, _, rfl, IW, by omega, RP, B3.out⟩
    · rw [hq] at BG2 PN2
      clear hq
      go_enter Tryd.func44, Tryd.ntmps44
      go_wp2_with fail
      refine BG.out.mono ?_
      rintro e w1 ⟨rfl, hb⟩
      have B1 := hid hb
      clear hb BG
      go_wp2_with fail
      refine (BG2.out _).mono ?_
      rintro e w2 ⟨rfl, hb⟩
      have B2 := hid (B1.out.trans (hb.mono B1.out.size))
      clear hb BG2 B1
      go_wp2_with fail
      refine (VA.out _).mono ?_
      rintro e w3 ⟨N, s3, b, rfl, hN, hz, HV, hb⟩
      have B3 := hid (B2.out.trans (hb.mono B2.out.size))
      have RP := hid (show RPart s sign none (IntKind.i64.wrap (IntKind.u64.wrap (0 - (N : Int)))) s3 from ⟨(fun h => by rw [HQ.out] at h; cases h), fun _ u r u0 u1 hr h => by
        obtain ⟨e1, e2, e3, e4⟩ := PN2.out s3 N (by first | rfl | trivial) HV.out.1 HV.out.2 u r u0 u1 hr h
        have hu : u < 0 := of_decide_eq_true e1.symm
        refine ⟨?_, e2⟩
        rw [e3 hu, i64_neg _ (by omega) (by omega)]
        omega⟩)
      have IW := i64w (IntKind.u64.wrap (0 - (N : Int)))
      clear hb B2 VA HV PN2
      go_wp2
      exact bodyPost_ret (v := .tuple #[.int .i64 (IntKind.i64.wrap (IntKind.u64.wrap (0 - (N : Int)))), .string s3]) (by simp [results, Tryd.results44, go_sem, IntWalk.i64_left]) rfl ⟨_, _, rfl, IW, by omega, RP, B3.out⟩
end Go.Proofs.YtnaphgjkkagpoaaDoor
