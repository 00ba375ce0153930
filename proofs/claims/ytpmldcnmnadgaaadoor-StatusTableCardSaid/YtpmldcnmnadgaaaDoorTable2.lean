/- The contract of status.Table.Count. -/
import Derived.Test.YtpmldcnmnadgaaaDoorTable
import Derived.Deep.QuietTactic
namespace Go.Proofs.YtpmldcnmnadgaaaDoor
open Go.RowKit
set_option linter.unusedVariables false
set_option linter.unusedSimpArgs false

/-- How many of the first n are s. -/
def cntF (F : Nat → Int) (s : Int) : Nat → Nat
  | 0 => 0
  | n + 1 => cntF F s n + if F n = s then 1 else 0
theorem cntF_le (F : Nat → Int) (s : Int) (n : Nat) : cntF F s n ≤ n := by
  induction n with
  | zero => simp [cntF]
  | succ n ih => simp only [cntF]; split <;> omega
theorem cntF_congr {F G : Nat → Int} (s : Int) (n : Nat) (h : ∀ i, i < n → F i = G i) : cntF F s n = cntF G s n := by
  induction n with
  | zero => rfl
  | succ n ih => simp only [cntF]; rw [ih (fun i hi => h i (by omega)), h n (by omega)]

set_option maxHeartbeats 8000000 in
theorem tcount_any (b gg : Nat) (xs : List Int) (c f n : Nat) (s : Int) (w : World) (hm : Mem w b gg xs c) (hc : c + n < 1000000000) (hi : f + n ≤ xs.length) (hx : ∀ i, i < n → xs.getD (f + i) 0 < 7) (hs0 : 0 ≤ s) :
    Calls Tryd.prog 10 #[.agg #[.int .i64 f, .int .i64 n], .pointer (some ⟨b, 0, none⟩), .int .u64 s] w fun e w' => e = .returned (.int .i64 (cntF (fun i => xs.getD (f + i) 0) s n)) ∧ Mem w' b gg xs (c + n) ∧ Only b gg w w' := by
  have hl := hm.len
  have hsb := hm.sb
  have hsg := hm.sg
  have hw1 : IntKind.i64.wrap ((xs.length : Int) - f) = (xs.length : Int) - f := IntWalk.i64_in _ (by omega)
  have hmn : (if ((n : Int) > (xs.length : Int) - f) then (xs.length : Int) - f else (n : Int)) = n := by rw [if_neg (by omega)]
  have hmx : (if 0 < n then (n : Int) else 0) = n := by split <;> omega
  have HX := hid hx
  have HM0 := hid hm
  obtain ⟨o, ho⟩ : ∃ o, o = Obj.cells #[.int .i64 f, .int .i64 n] 27 (0, 0) := ⟨_, rfl⟩
  have HM1 := hid (hm.alloc o)
  have HB1 := hid ((Below.refl w.heap.size w).alloc (Nat.le_refl _) o)
  subst ho
  clear hm hx
  go_enter Tryd.func10, Tryd.ntmps10
  go_wp2_with fail
  go_quiet ((go_at_call 23; exact quiet_call0 (len_any _ _ _ _ _ (HM1.out.quiet ⟨_, rfl⟩))))
  have hn0 := hid (show ((w.alloc (.cells #[.int .i64 f, .int .i64 n] 27)).drewN nq).heap[w.heap.size]? = some (.cells #[.int .i64 f, .int .i64 n] 27 (0, 0)) from Deep.blk_alloc_new _ _)
  have M0 := hid (HM1.out.quiet ⟨nq, rfl⟩)
  have O0 := hid (Only.of_below (b := b) (g := gg) (HB1.out.trans (Quiet.below ⟨nq, rfl⟩ _)))
  have z0 : ((w.alloc (.cells #[.int .i64 f, .int .i64 n] 27)).drewN nq).heap.size = w.heap.size + 1 := by show (w.alloc _).heap.size = _; simp
  generalize (w.alloc (.cells #[.int .i64 f, .int .i64 n] 27)).drewN nq = w2 at hn0 M0 O0 z0 ⊢
  clear HM1 HB1 hmn hw1
  go_wp2_with fail
  clear hmx
  go_loopw [7, 18] (fun r i wr => ∃ k : Nat, k ≤ n ∧ r = .int .i64 (cntF (fun i => xs.getD (f + i) 0) s k) ∧ i = .int .i64 k ∧ Hid (Mem wr b gg xs (c + k)) ∧ Hid (wr.heap[w.heap.size]? = some (.cells #[.int .i64 f, .int .i64 n] 27 (0, 0))) ∧ Only b gg w wr)
    (fun _ i _ => n - (intOf i).toNat)
  case atStart => exact ⟨0, by omega, rfl, rfl, M0, hn0, O0.out⟩
  case round =>
    clear hn0 M0 O0 z0
    obtain ⟨k, hk, rfl, rfl, HM, HN, hor⟩ := hrel
    have hcl := cntF_le (fun i => xs.getD (f + i) 0) s k
    have hs1 : cntF (fun i => xs.getD (f + i) 0) s (k + 1) = cntF (fun i => xs.getD (f + i) 0) s k + if xs.getD (f + k) 0 = s then 1 else 0 := rfl
    by_cases hlt : k < n
    · have hx7 := HX.out k hlt
      have j0 := cell_of_blk (i := 0) HN.out rfl
      obtain ⟨v, hv⟩ : ∃ v, v = xs.getD (f + k) 0 := ⟨_, rfl⟩
      rw [← hv] at hx7 hs1
      obtain ⟨m, hm⟩ : ∃ m, m = cntF (fun i => xs.getD (f + i) 0) s k := ⟨_, rfl⟩
      rw [← hm] at hs1 hcl ⊢
      have HS1 := hid hs1
      have hwk : IntKind.i64.wrap ((f : Int) + k) = (f : Int) + k := IntWalk.i64_in _ (by omega)
      have HV := hid (show xs.getD ((f : Int) + k).toNat 0 = v by rw [hv]; congr 1)
      have HOR := hid hor
      clear hv hm hs1 hor
      go_wp2_with fail
      refine (load_in b gg xs (c + k) ((f : Int) + k) _ HM.out (by omega) (by omega) (by omega)).mono ?_
      rintro e w3 ⟨rfl, hm3, ho3⟩
      rw [HV.out]
      have HM3 := hid (show Mem w3 b gg xs (c + (k + 1)) from hm3)
      have HO3 := hid (HOR.out.trans ho3)
      have HN3 := hid (ho3.keep HN.out (by omega) (by omega))
      clear hm3 ho3 j0 HM HN HOR
      by_cases he : v = s
      · have hq : (v == s) = true := by simp [he]
        have hs7 : s < 7 := by omega
        have hmw : IntKind.i64.wrap ((m : Int) + 1) = (m : Int) + 1 := IntWalk.i64_in _ (by omega)
        have HR := hid (show ((m : Int) + 1) = ((cntF (fun i => xs.getD (f + i) 0) s (k + 1) : Nat) : Int) by rw [HS1.out, if_pos he]; omega)
        have hq2 : (s == s) = true := by simp
        subst he
        go_wp2
        go_roundw
        case rel => exact ⟨k + 1, by omega, by rw [← HR.out], by go_num, HM3, HN3, HO3.out⟩
        case measure => simp [intOf]; omega
      · have hq : (v == s) = false := beq_eq_false_iff_ne.2 he
        have HR := hid (show (m : Int) = ((cntF (fun i => xs.getD (f + i) 0) s (k + 1) : Nat) : Int) by rw [HS1.out, if_neg he]; omega)
        go_wp2
        go_roundw
        case rel => exact ⟨k + 1, by omega, by rw [← HR.out], by go_num, HM3, HN3, HO3.out⟩
        case measure => simp [intOf]; omega
    · obtain rfl : k = n := by omega
      go_wp2
      go_ret
      exact ⟨rfl, HM.out, hor⟩
end Go.Proofs.YtpmldcnmnadgaaaDoor
