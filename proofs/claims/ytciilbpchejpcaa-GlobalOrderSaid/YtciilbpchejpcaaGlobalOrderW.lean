/- The walk of the statement GlobalOrder: the law answers true and turns nothing that was there. -/
import Derived.Test.YtciilbpchejpcaaGlobal3
import Derived.OpenShut
namespace Go.Proofs.Ytciilbpchejpcaa.globalOrder
open Go.RowKit
set_option linter.unusedVariables false
set_option linter.unusedSimpArgs false
theorem sliceN {w : World} {base : Nat} {v : Value} {xs : List Int} {n : Nat} (h : Owns w base v xs) (hn : xs.length = n) : ∃ a c, v = .slice a n c := by
  subst hn; exact h.slice
/-- The numbers from a on, n of them. -/
def seqL (a n : Nat) : List Int := (List.range n).map fun (i : Nat) => ((a + i : Nat) : Int)
theorem seqL_length (a n : Nat) : (seqL a n).length = n := by simp [seqL]
theorem seqL_get (a n i : Nat) (h : i < n) : (seqL a n)[i]? = some ((a + i : Nat) : Int) := by simp [seqL, h]
theorem seqL_ext {a n : Nat} {l : List Int} (hl : l.length = n) (h : ∀ i, i < n → l[i]? = some ((a + i : Nat) : Int)) : l = seqL a n := by
  apply List.ext_getElem?
  intro i
  by_cases hi : i < n
  · rw [h i hi, seqL_get a n i hi]
  · rw [List.getElem?_eq_none (by omega), List.getElem?_eq_none (by rw [seqL_length]; omega)]
theorem rowL_seq (a n : Nat) (h : a ≤ 4095) : rowL (a : Int) n = seqL a n := by
  refine seqL_ext (rowL_length _ _) fun i hi => ?_
  simp only [rowL, List.getElem?_map, List.getElem?_range hi, Option.map_some]
  congr 1
  omega
theorem seqL_append (a n m : Nat) : seqL a n ++ seqL (a + n) m = seqL a (n + m) := by
  refine seqL_ext (by simp [seqL_length]) fun i hi => ?_
  by_cases h : i < n
  · rw [List.getElem?_append_left (by rw [seqL_length]; exact h), seqL_get _ _ _ h]
  · rw [List.getElem?_append_right (by rw [seqL_length]; omega), seqL_length, seqL_get _ _ _ (by omega)]
    congr 2
    omega
theorem seqL_drop (a n k : Nat) (h : k ≤ n) : (seqL a n).drop k = seqL (a + k) (n - k) := by
  refine seqL_ext (by simp [seqL_length]) fun i hi => ?_
  rw [List.getElem?_drop, seqL_get _ _ _ (by omega)]
  congr 2
  omega
theorem seqL_cons (a n : Nat) (h : 0 < n) : seqL a n = (a : Int) :: seqL (a + 1) (n - 1) := by
  have e : seqL (a + 1) (n - 1) = (seqL a n).drop 1 := (seqL_drop a n 1 h).symm
  rw [e]
  have : (seqL a n)[0]? = some (a : Int) := by rw [seqL_get a n 0 h]; rfl
  cases hs : seqL a n with
  | nil => rw [hs] at this; simp at this
  | cons x l => rw [hs] at this; simp at this; simp [this]
theorem seqL_nil (a n : Nat) (h : n = 0) : seqL a n = [] := by subst h; rfl
theorem take_get (a n k t : Nat) (h : k ≤ n) (ht : t < k) : ((seqL a n).take k).getD t 0 = ((a + t : Nat) : Int) := by
  rw [List.getD_eq_getElem?_getD, List.getElem?_take, if_pos ht, seqL_get _ _ _ (by omega)]
  rfl

set_option maxHeartbeats 4000000 in
theorem walk (a0 : Int) (a1 : Option Addr) (len1 cap1 : Nat) (z1 : List Int) (w : World) (w0 : (Lit.int .i64 a0).wf = true) (w1 : IsRow .u8 w a1 len1 cap1 z1) :
    Calls Try.prog 16 #[.int .i64 a0, .slice a1 len1 cap1] w fun e w' => e = .returned (.bool true) ∧ Below w.heap.size w w' := by
  by_cases hlen : (30 : Int) < len1
  · go_enter Try.func16, Try.ntmps16
    go_wp2_with fail
    refine (lives7 _).mono ?_
    rintro e w2 ⟨rfl, hb1⟩
    go_wp2_with fail
    refine (lives7 _).mono ?_
    rintro e w3 ⟨rfl, hb2⟩
    go_wp2
    go_ret
    exact ⟨rfl, hb1.trans (hb2.mono hb1.size)⟩
  · have hlen' : len1 ≤ 30 := by omega
    have W1 := hid w1
    obtain ⟨P, hP⟩ : ∃ P, P = min (max a0 1) 64 := ⟨_, rfl⟩
    have NW := hid (fun w => qnew a0 P hP w)
    clear w0 w1 hP
    go_enter Try.func16, Try.ntmps16
    go_wp2_with fail
    refine (lives7 _).mono ?_
    rintro e w2 ⟨rfl, hb1⟩
    have hs1 := hb1.size
    go_wp2_with fail
    refine (NW.out _).mono ?_
    rintro e w3 ⟨q, p, r, rfl, hqu, hq, hp, hr, hbel3⟩
    have HQ3 := hid hqu
    have HRk := hid (fun k hk => (by have := hr k hk; omega : w.heap.size ≤ k))
    have hs3 := hbel3.size
    have hbw3 : Below w.heap.size w w3 := hb1.trans (hbel3.mono hs1)
    have hP1 := hqu.lo
    have hP2 := hqu.hi
    clear hqu hr
    go_wp2_with fail
    go_loopw [6, 7, 26] (fun put nx i wr => ∃ (k pt x : Nat) (r : Option Nat), k ≤ len1 ∧ x ≤ pt ∧ pt ≤ 63 * k ∧ i = .int .i64 k ∧ put = .int .i64 pt ∧ nx = .int .i64 x ∧ Hid (Qu wr q p P r (seqL x (pt - x))) ∧ Hid (∀ j, r = some j → w.heap.size ≤ j) ∧ w.heap.size ≤ wr.heap.size ∧ Below w.heap.size w wr)
      (fun _ _ i _ => len1 - (intOf i).toNat)
    case atStart => exact ⟨0, 0, 0, r, by omega, by omega, by omega, rfl, rfl, rfl, HQ3, HRk, by omega, hbw3⟩
    case round =>
      obtain ⟨k, pt, x, r, hk, hxp, hpk, rfl, rfl, rfl, HQ, HRa, hsz, hbr⟩ := hrel
      have hpt : pt ≤ 1890 := by omega
      by_cases hlt : k < len1
      · obtain ⟨g, off, rfl, hzl, hwf, hcell⟩ := W1.out.open.resolve_left (by omega)
        have hc := hcell _ hbr k hlt
        obtain ⟨a, ha⟩ : ∃ a, a = z1.getD k 0 := ⟨_, rfl⟩
        have hk' : k < z1.length := by omega
        have hab : (Lit.int .u8 a).wf = true := hwf _ (by rw [ha, show z1.getD k 0 = z1[k] by simp [hk']]; exact List.getElem_mem hk')
        rw [← ha] at hc
        have hb := bounds_u8 hab
        have ka0 := hb.1
        have ka1 := hb.2
        obtain ⟨m, hm⟩ : ∃ m, m = pt - x := ⟨_, rfl⟩
        have hpk' : pt + 63 ≤ 63 * (k + 1) := by omega
        have HPK := hid hpk'
        have hxl : x ≤ 1890 := by omega
        clear ha hab hwf hcell hb hpk hpk' hzl hk'
        by_cases c01 : a % 4 = 0 ∨ a % 4 = 1
        · have t : ((a % 4 == 0) = true) ∨ ((a % 4 == 0) = false ∧ (a % 4 == 1) = true) := by
            rcases c01 with h | h
            · exact .inl (by simpa using h)
            · exact .inr ⟨by simp [h], by simpa using h⟩
          obtain ⟨d, hd⟩ : ∃ d : Nat, a / 4 = d := ⟨(a / 4).toNat, by omega⟩
          have hd63 : d ≤ 63 := by omega
          have HD := hid hd
          have LR := hid (fun w => lawrow (pt : Int) d (by omega) (by omega) (by omega) w)
          rw [rowL_seq pt d (by omega)] at LR
          have e1 : seqL x (pt - x) ++ seqL pt d = seqL x (pt + d - x) := by
            have h1 : pt = x + (pt - x) := by omega
            have h2 := seqL_append x (pt - x) d
            rw [← h1] at h2
            rw [h2]; congr 1; omega
          have PU := hid (fun w v h1 h2 => qput q p P r (seqL x (pt - x)) (seqL pt d) v w h1 h2 (by rw [e1, seqL_length]; omega))
          rw [e1] at PU
          have LQ := hid (fun r w h => qlen q p P r (seqL x (pt + d - x)) w h)
          have e2 : ((seqL x (pt + d - x)).length : Int) = (pt : Int) + a / 4 - x := by rw [seqL_length, hd]; omega
          rw [e2] at LQ
          clear c01 hd e1 e2 hm
          rcases t with t | ⟨t, t'⟩
          all_goals
            go_wp2_with fail
            rw [HD.out]
            refine (LR.out _).mono ?_
            rintro e w4 ⟨v4, rfl, ho4, hbel4⟩
            have HRD := hid ho4.reads
            have hs4 := hbel4.size
            have HQ4 := hid (HQ.out.below hbel4)
            obtain ⟨va, vm, vc, rfl⟩ := ho4.slice3
            clear ho4
            go_wp2_with fail
            refine (PU.out _ _ HQ4.out HRD.out).mono ?_
            rintro e w5 ⟨rfl, r5, hb5, hon5, hr5⟩
            have HQ5 := hid (HQ4.out.after hon5 hb5 hr5)
            have hs5 := hon5.size
            have hbw5 : Below w.heap.size w w5 := (hbr.trans (hbel4.mono hsz)).trans (hon5.below (by omega) HRa.out (by omega))
            have HR5 := hid (fresh_ge HRa.out hr5 (by omega))
            clear hb5 hr5
            go_wp2_with fail
            refine (LQ.out _ _ HQ5.out).mono ?_
            rintro e w6 ⟨rfl, hq6⟩
            have HQ6 := hid (HQ5.out.quiet hq6)
            have hs6 : w5.heap.size ≤ w6.heap.size := by rw [hq6.heap]; omega
            have hbw6 := hbw5.trans (hq6.below _)
            clear hq6
            go_wp2
            go_roundw
            case rel => exact ⟨k + 1, pt + d, x, r5, by omega, by omega, by have := HPK.out; omega, by go_num, by have := HD.out; congr 1; omega, rfl, HQ6, HR5, by omega, hbw6⟩
            case measure => simp [intOf]; omega
        · have t0 : (a % 4 == 0) = false := beq_eq_false_iff_ne.2 (by omega)
          have t1 : (a % 4 == 1) = false := beq_eq_false_iff_ne.2 (by omega)
          by_cases c2 : a % 4 = 2
          · have t2 : (a % 4 == 2) = true := beq_iff_eq.2 c2
            clear c01 c2
            by_cases hm0 : 0 < pt - x
            · have LQ := hid (fun r w h => qlen q p P r (seqL (x + 1) (pt - (x + 1))) w h)
              have e2 : ((seqL (x + 1) (pt - (x + 1))).length : Int) = (pt : Int) - (x + 1) := by rw [seqL_length]; omega
              rw [e2] at LQ
              have e3 : seqL x (pt - x) = (x : Int) :: seqL (x + 1) (pt - (x + 1)) := by rw [seqL_cons _ _ hm0]; congr 2
              rw [e3] at HQ
              have hx1 : x + 1 ≤ pt := by omega
              clear e2 e3 hm hm0
              go_wp2_with fail
              refine (one_cons q p P r (x : Int) _ _ HQ.out).mono ?_
              rintro e w5 ⟨rfl, r5, hb5, hon5, hr5⟩
              have HQ5 := hid (HQ.out.after hon5 hb5 hr5)
              have hs5 := hon5.size
              have hbw5 : Below w.heap.size w w5 := hbr.trans (hon5.below (by omega) HRa.out (by omega))
              have HR5 := hid (fresh_ge HRa.out hr5 (by omega))
              clear hb5 hr5
              go_wp2_with fail
              refine (LQ.out _ _ HQ5.out).mono ?_
              rintro e w6 ⟨rfl, hq6⟩
              have HQ6 := hid (HQ5.out.quiet hq6)
              have hs6 : w5.heap.size ≤ w6.heap.size := by rw [hq6.heap]; omega
              have hbw6 := hbw5.trans (hq6.below _)
              clear hq6
              go_wp2
              go_roundw
              case rel => exact ⟨k + 1, pt, x + 1, r5, by omega, by omega, by have := HPK.out; omega, by go_num, rfl, by go_num, HQ6, HR5, by omega, hbw6⟩
              case measure => simp [intOf]; omega
            · have e3 : seqL x (pt - x) = [] := seqL_nil _ _ (by omega)
              have hxe : pt = x := by omega
              subst hxe
              rw [e3] at HQ
              have LQ := hid (fun r w h => qlen q p P r [] w h)
              have e4 : (([] : List Int).length : Int) = (pt : Int) - pt := by simp
              rw [e4] at LQ
              clear e3 e4 hm hm0
              go_wp2_with fail
              refine (one_nil q p P r _ HQ.out).mono ?_
              rintro e w5 ⟨rfl, hq5⟩
              have HQ5 := hid (HQ.out.quiet hq5)
              have hs5 : wr.heap.size ≤ w5.heap.size := by rw [hq5.heap]; omega
              have hbw5 := hbr.trans (hq5.below _)
              clear hq5
              go_wp2_with fail
              refine (LQ.out _ _ HQ5.out).mono ?_
              rintro e w6 ⟨rfl, hq6⟩
              have HQ6 := hid (show Qu w6 q p P r (seqL pt (pt - pt)) by rw [seqL_nil _ _ (by omega)]; exact HQ5.out.quiet hq6)
              have hs6 : w5.heap.size ≤ w6.heap.size := by rw [hq6.heap]; omega
              have hbw6 := hbw5.trans (hq6.below _)
              clear hq6
              go_wp2
              go_roundw
              case rel => exact ⟨k + 1, pt, pt, r, by omega, by omega, by have := HPK.out; omega, by go_num, rfl, rfl, HQ6, HRa, by omega, hbw6⟩
              case measure => simp [intOf]; omega
          · have t2 : (a % 4 == 2) = false := beq_eq_false_iff_ne.2 (by omega)
            clear c01 c2
            have hd0 : 0 ≤ (m : Int) / P := Int.ediv_nonneg (by omega) (by omega)
            obtain ⟨j, hj⟩ : ∃ j : Nat, (j : Int) = min (min ((m : Int) / P + 1) m) 128 := ⟨(min (min ((m : Int) / P + 1) m) 128).toNat, by omega⟩
            have hjm : j ≤ pt - x := by omega
            have T := hid (fun w h => qtake q p P r (seqL x (pt - x)) w h m (by rw [seqL_length, hm]) j hj)
            have HTL := hid (show ((seqL x (pt - x)).take j).length = j by simp [seqL_length]; omega)
            have HDR := hid (show (seqL x (pt - x)).drop j = seqL (x + j) (pt - (x + j)) by rw [seqL_drop _ _ _ hjm]; congr 1; omega)
            have LQ := hid (fun r w h => qlen q p P r (seqL (x + j) (pt - (x + j))) w h)
            have e2 : ((seqL (x + j) (pt - (x + j))).length : Int) = (pt : Int) - (x + j) := by rw [seqL_length]; omega
            rw [e2] at LQ
            have HTG := hid (fun t ht => take_get x (pt - x) j t hjm ht)
            have hjp : x + j ≤ pt := by omega
            clear hj hd0 e2 hm hjm
            go_wp2_with fail
            refine (T.out _ HQ.out).mono ?_
            rintro e w7 ⟨v7, r7, rfl, ho7, hb7, hon7, hr7, hne7⟩
            have HRD := hid ho7.reads
            obtain ⟨va7, vc7, rfl⟩ := sliceN ho7 HTL.out
            have HQ7 := hid (show Qu w7 q p P r7 (seqL (x + j) (pt - (x + j))) by have := HQ.out.after hon7 hb7 hr7; rwa [HDR.out] at this)
            have hbw7 := hbr.trans (hon7.below (by omega) HRa.out hsz)
            have hs7 := hon7.size
            have HR7 := hid (fresh_ge HRa.out hr7 (by omega))
            have hcells : ∀ t, t < j → ∃ g off, va7 = some ⟨g, off, none⟩ ∧ w7.cell? ⟨g, off + t, none⟩ = some (.int .i64 ((x + t : Nat) : Int)) := by
              intro t ht
              obtain ⟨a', c', he, _, hrd⟩ := HRD.out
              rw [HTL.out] at he hrd
              simp only [Value.slice.injEq, true_and] at he
              obtain ⟨g', off', h2, h3, h4⟩ := hrd (by omega)
              refine ⟨g', off', by rw [he.1, h2], ?_⟩
              rw [h4 t ht, HTG.out t ht]
            have HC := hid hcells
            clear ho7 hb7 hne7 hr7 HRD hcells
            go_wp2_with fail
            go_loopw [7, 35] (fun nx i wr => ∃ (t : Nat), t ≤ j ∧ i = .int .i64 t ∧ nx = .int .i64 ((x : Int) + t) ∧ wr = w7)
              (fun _ i _ => j - (intOf i).toNat)
            case atStart => exact ⟨0, by omega, rfl, by simp, rfl⟩
            case round =>
              obtain ⟨t, ht, rfl, rfl, rfl⟩ := hrel
              by_cases hlt : t < j
              · obtain ⟨g, off, rfl, hc⟩ := HC.out t hlt
                rw [Int.natCast_add] at hc
                go_wp2
                go_roundw
                case rel => exact ⟨t + 1, by omega, by go_num, by congr 1, trivial⟩
                case measure => simp [intOf]; omega
              · obtain rfl : t = j := by omega
                go_wp2_with fail
                refine (LQ.out _ _ HQ7.out).mono ?_
                rintro e w8 ⟨rfl, hq8⟩
                have HQ8 := hid (HQ7.out.quiet hq8)
                have hs8 : wr.heap.size ≤ w8.heap.size := by rw [hq8.heap]; omega
                have hbw8 := hbw7.trans (hq8.below _)
                clear hq8
                go_wp2
                go_roundw
                case rel => exact ⟨k + 1, pt, x + t, r7, by omega, by omega, by have := HPK.out; omega, by go_num, rfl, by go_num, HQ8, HR7, by omega, hbw8⟩
                case measure => simp [intOf]; omega
      · go_wp2
        go_ret
        exact ⟨rfl, hbr⟩
end Go.Proofs.Ytciilbpchejpcaa.globalOrder
