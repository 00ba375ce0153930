/- The walk of the statement IdleRows: the law answers true and turns nothing that was there. -/
import Derived.Test.YtcbdmofdbmimfaaDoorIds4
import Derived.OpenShut
import Derived.Deep.CutRange
import Derived.Deep.CutBlock
namespace Go.Proofs.YtcbdmofdbmimfaaDoor.idleRows
open Go.RowKit
set_option linter.unusedVariables false
set_option linter.unusedSimpArgs false

/-- All that stands: the Idle, two slices of the law's own. -/
structure St (Z : Nat → Prop) (w0 : World) (x : Nat) (f : Nat → Bool) (pd ss : List Int) (pl : Int) (v4 v5 : Value) (ps ms : List Int) (w : World) : Prop where
  i : Ids Z x 64 f pd 64 ss pl w
  a : Owns w w0.heap.size v4 ps
  b : Owns w w0.heap.size v5 ms
  za : ∀ k, v4.ownBlock = some k → Z k
  zb : ∀ k, v5.ownBlock = some k → Z k
  ne : ∀ k, v4.ownBlock = some k → v5.ownBlock = some k → False
  B : Below w0.heap.size w0 w
  z0 : ∀ k, k < w0.heap.size → Z k
  hg : 0 < w0.heap.size
namespace St
variable {Z : Nat → Prop} {w0 w : World} {x : Nat} {f : Nat → Bool} {pd ss : List Int} {pl : Int} {v4 v5 : Value} {ps ms : List Int}
theorem swap (h : St Z w0 x f pd ss pl v4 v5 ps ms w) : St Z w0 x f pd ss pl v5 v4 ms ps w :=
  ⟨h.i, h.b, h.a, h.zb, h.za, fun k h1 h2 => h.ne k h2 h1, h.B, h.z0, h.hg⟩
/-- Behind a deed of the Idle. -/
theorem deed (h : St Z w0 x f pd ss pl v4 v5 ps ms w) {f' : Nat → Bool} {pd' ss' : List Int} {pl' : Int} {w' : World} (hi : Ids Z x 64 f' pd' 64 ss' pl' w') (fr : Fr Z w w') : St Z w0 x f' pd' ss' pl' v4 v5 ps ms w' :=
  ⟨hi, h.a.kept fun k hk => fr.block k (h.za k hk), h.b.kept fun k hk => fr.block k (h.zb k hk), h.za, h.zb, h.ne, fr.low h.B h.z0, h.z0, h.hg⟩
/-- Behind an append to the second slice. -/
theorem app (h : St Z w0 x f pd ss pl v4 v5 ps ms w) {m : Int} {v6 : Value} {w6 : World} (hown : w6.ownsRow w0.heap.size 3 1 v6 (ms.length + 1) (ms.map (Value.int .i64) ++ [.int .i64 m])) (hg : (w.alloc (.cells #[.int .i64 m] 3)).grownBy w6 v5.ownBlock) (hat : v6.ownBlock = v5.ownBlock ∨ v6.ownBlock = some (w.heap.size + 1)) :
    St (fun k => Z k ∨ (w.heap.size ≤ k ∧ k < w6.heap.size)) w0 x f pd ss pl v4 v6 ps (ms ++ [m]) w6 := by
  have hs6 : w.heap.size + 1 ≤ w6.heap.size := by have := hg.size; simpa using this
  have keep : ∀ k, k < w.heap.size → v5.ownBlock ≠ some k → w6.heap[k]? = w.heap[k]? := fun k hk hne => by
    rw [hg.block k (by simp; omega) (fun e => hne e.symm), Below.heap_alloc _ _ _ hk]
  have keepZ : ∀ k, ¬ Z k → k < w.heap.size → w6.heap[k]? = w.heap[k]? := fun k hz hk => keep k hk fun e => hz (h.zb k e)
  have hvg : v5.ownBlock ≠ some 0 := fun e => by
    have := (h.b.lt _ e).1; have := h.hg; omega
  have ho : Owns w6 w0.heap.size v6 (ms ++ [m]) := by
    unfold Owns
    rw [List.length_append, List.map_append]; exact hown
  refine ⟨h.i.grow hs6 keepZ (keep _ h.i.T.lt hvg), h.a.kept fun k hk => keep k (h.a.lt k hk).2 (fun e => h.ne k hk e), ho, fun k hk => .inl (h.za k hk), fun k hk => ?_, fun k h1 h2 => ?_, h.B.trans ⟨hg.os, hg.tape, hg.output, by omega, fun k hk => keep k (by have := h.B.size; omega) (fun e => by have := (h.b.lt k e).1; omega)⟩, fun k hk => .inl (h.z0 k hk), h.hg⟩
  · rcases hat with e | e
    · exact .inl (h.zb k (by rw [← e, hk]))
    · rw [e] at hk; simp only [Option.some.injEq] at hk
      have := (ho.lt k (by rw [e, hk])).2
      exact .inr ⟨by omega, this⟩
  · rcases hat with e | e
    · exact h.ne k h1 (by rw [← e, h2])
    · rw [e] at h2; simp only [Option.some.injEq] at h2
      have := (h.a.lt k h1).2
      omega
end St
/-- The machines that stopped, in order. -/
def mach (pl : Int) (ss : List Int) : List Int := if pl = -1 then [] else pl :: ss
theorem mach_first {pl n : Int} {ss : List Int} (h : pl = -1) (hs : ss = []) (hn : n ≠ -1 := by omega) : mach pl ss ++ [n] = mach n ss := by
  subst h; subst hs; simp only [mach]; rw [if_neg hn]; rfl
theorem mach_more {pl n : Int} {ss : List Int} (h : pl ≠ -1) : mach pl ss ++ [n] = mach pl (ss ++ [n]) := by
  simp only [mach]; rw [if_neg h, if_neg h]; rfl
set_option maxHeartbeats 8000000 in
set_option maxRecDepth 100000 in
theorem walk (a0 : Option Addr) (len0 cap0 : Nat) (z0 : List Int) (w : World) (w0 : IsRow .u8 w a0 len0 cap0 z0) (T1 : DbTab w) :
    Calls Tryd.prog 5 #[.slice a0 len0 cap0] w fun e w' => e = .returned (.bool true) ∧ Below w.heap.size w w' := by
  have HT := hid T1
  clear T1
  by_cases hlen : (40 : Int) < len0
  · go_enter Tryd.func5, Tryd.ntmps5
    go_wp2_with fail
    refine (lives13d _ HT.out).mono ?_
    rintro e w2 ⟨rfl, hb1⟩
    have T2 := hid (HT.out.at hb1)
    go_wp2_with fail
    refine (lives13d _ T2.out).mono ?_
    rintro e w3 ⟨rfl, hb2⟩
    go_wp2
    go_ret
    exact ⟨rfl, hb1.trans (hb2.mono hb1.size)⟩
  · have hlen' : len0 ≤ 40 := by omega
    have W0 := hid w0
    clear w0
    go_enter Tryd.func5, Tryd.ntmps5
    go_wp2_with fail
    refine (lives13d _ HT.out).mono ?_
    rintro e w2 ⟨rfl, hb1⟩
    have B2 := hid hb1
    have T2 := hid (HT.out.at hb1)
    clear hb1
    go_wp2_with fail
    refine (inew_any 64 64 64 64 (by omega) (by omega) w2 T2.out).mono ?_
    rintro e w3 ⟨x, rfl, hi3, hb3⟩
    have S0 := hid (show St (· < w2.heap.size) w x (fun _ => false) [] [] (-1) (.slice none 0 0) (.slice none 0 0) [] [] w3 from
      ⟨hi3, ⟨by simp, .inl ⟨rfl, rfl⟩⟩, ⟨by simp, .inl ⟨rfl, rfl⟩⟩, by simp [Value.ownBlock], by simp [Value.ownBlock], by simp [Value.ownBlock], B2.out.trans (hb3.mono B2.out.size), fun k hk => Nat.lt_of_lt_of_le hk B2.out.size, HT.out.lt⟩)
    clear hi3 hb3 B2 T2 HT
    go_wp2_with fail
    go_loopw [4, 5, 33] (fun v4 v5 i wr => ∃ (k : Nat) (Z : Nat → Prop) (f : Nat → Bool) (pd ss : List Int) (pl : Int), k ≤ len0 ∧ i = .int .i64 k ∧ pd.length ≤ k ∧ ss.length ≤ k ∧ (pl = -1 ∧ ss = [] ∨ 0 ≤ pl) ∧ Hid (St Z w x f pd ss pl v4 v5 pd (mach pl ss) wr)) (fun _ _ i _ => len0 - (intOf i).toNat)
    case atStart => exact ⟨0, _, _, _, _, _, Nat.zero_le _, rfl, Nat.le_refl _, Nat.le_refl _, .inl ⟨rfl, rfl⟩, S0⟩
    case round =>
      clear S0 w2 w3
      obtain ⟨k, Z, f, pd, ss, pl, hk, rfl, hlp, hls, hpl, HS⟩ := hrel
      obtain ⟨wo, rfl⟩ : ∃ wo : World, wo = wr := ⟨_, rfl⟩
      obtain ⟨va, vp, rfl⟩ := HS.out.a.reads_n (n := pd.length) rfl
      obtain ⟨vb, vq, rfl⟩ := HS.out.b.reads_n (n := (mach pl ss).length) rfl
      obtain ⟨lp, hlpe⟩ : ∃ y, y = pd.length := ⟨_, rfl⟩
      obtain ⟨lm, hlme⟩ : ∃ y, y = (mach pl ss).length := ⟨_, rfl⟩
      have hlmb : lm ≤ k + 1 := by rw [hlme]; unfold mach; split <;> simp <;> omega
      rw [← hlpe] at HS hlp ⊢
      rw [← hlme] at HS ⊢
      have HLP := hid hlpe
      have HLM := hid hlme
      clear hlpe hlme
      by_cases hlt : k < len0
      · obtain ⟨bx, off, rfl, hzl, hwf, hcell⟩ := W0.out.open.resolve_left (by omega)
        have hx := hcell _ HS.out.B k hlt
        obtain ⟨v, hv⟩ : ∃ v, v = z0.getD k 0 := ⟨_, rfl⟩
        have hvw := hwf (z0.getD k 0) (by
          rw [List.getD_eq_getElem?_getD, List.getElem?_eq_getElem (by omega)]; exact List.getElem_mem _)
        rw [← hv] at hx hvw
        have hv0 := (bounds_u8 hvw).1
        have hv1 := (bounds_u8 hvw).2
        clear hv hvw hwf hcell
        obtain ⟨n, hn⟩ : ∃ n : Nat, v % 64 = n := ⟨(v % 64).toNat, by omega⟩
        have hn8 : n < 64 := by omega
        rcases (show (k : Int) % 3 = 0 ∨ (k : Int) % 3 = 1 ∨ (k : Int) % 3 = 2 by omega) with hq | hq | hq
        · have PT := hid (putP_any HS.out.i n (by have := HLP.out; omega))
          go_wp2_with fail
          refine PT.out.mono ?_
          rintro e w5 ⟨b, f', rfl, hi5, fr5⟩
          have HF := hid (HS.out.deed hi5 fr5)
          clear hi5 fr5 PT HS
          go_wp2
          go_roundw
          case rel => exact ⟨k + 1, _, _, _, _, _, by omega, by go_num, by have := HLP.out; omega, by omega, hpl, HF⟩
          case measure => simp [intOf]; omega
        · by_cases hy : f n = false ∧ hasB (n : Int) pd = false
          · have PT := hid (pend_yes HS.out.i n (by have := HLP.out; omega) hn8 hy.1 hy.2)
            clear hy
            go_wp2_with fail
            refine PT.out.mono ?_
            rintro e w5 ⟨rfl, hi5, fr5⟩
            have HF := hid (HS.out.deed hi5 fr5)
            clear hi5 fr5 PT HS
            have HO := hid (show (w5.alloc (.cells #[.int .i64 n] 3)).ownsRow w.heap.size 3 1 (.slice va lp vp) lp (pd.map (Value.int .i64)) by
              have := HF.out.a; unfold Owns at this; rw [← HLP.out] at this; exact this.alloc _)
            have B1 := hid (show lp + 1 ≤ maxLen by unfold maxLen; omega)
            have B2 := hid (show (lp + 1) * 8 ≤ 140737488355328 by omega)
            have B3 := hid (show w.heap.size ≤ (w5.alloc (.cells #[.int .i64 n] 3)).heap.size by have := HF.out.B.size; simp; omega)
            go_upto_region 17 with (fail)
            obtain ⟨i0, hi, hz0, hz1, hz2⟩ := info_parts infoInt
            have HI := hid hi
            have HZ0 := hid hz0
            have HZ1 := hid hz1
            have HZ2 := hid hz2
            clear hi hz0 hz1 hz2
            go_wp2_with (at_builtin; refine wpList_append_own_at _ rfl _ _ 22 rfl w.heap.size 3 i0 (.int .i64 0) 1 8 Tryd.underlying22 HI.out HZ0.out HZ1.out HZ2.out rfl (by decide) _ _ _ rfl HO.out ⟨w5.heap.size, 0, none⟩ 1 1 [.int .i64 n] rfl rfl (cell_one_new _ _ _) (ones_of [(n : Int)]) B1.out B2.out B3.out ?_)
            intro v6 w6 hown6 hgr6 _ hat6
            rw [HLP.out] at hown6
            have FIN := hid (HF.out.swap.app hown6 hgr6 (by simpa using hat6)).swap
            clear hown6 hgr6 hat6 HO
            go_wp2
            go_roundw
            case rel => exact ⟨k + 1, _, _, _, _, _, by omega, by go_num, by have := HLP.out; simp; omega, by omega, hpl, FIN⟩
            case measure => simp [intOf]; omega
          · have PT := hid (pend_refused HS.out.i n hn8 (by have := HLP.out; omega) (by
              rcases h1 : f n with _ | _
              · rcases h2 : hasB (n : Int) pd with _ | _
                · exact absurd ⟨h1, h2⟩ hy
                · exact .inr rfl
              · exact .inl rfl))
            clear hy
            go_wp2_with fail
            refine PT.out.mono ?_
            rintro e w5 ⟨rfl, hi5, fr5⟩
            have HF := hid (HS.out.deed hi5 fr5)
            clear hi5 fr5 PT HS
            go_wp2
            go_roundw
            case rel => exact ⟨k + 1, _, _, _, _, _, by omega, by go_num, by have := HLP.out; omega, by omega, hpl, HF⟩
            case measure => simp [intOf]; omega
        · rcases hss : hasB (n : Int) ss with _ | _
          · by_cases hp1 : pl = -1
            · have hs0 : ss = [] := by rcases hpl with h | h; exact h.2; omega
              have PT := hid (by have := HS.out.i; rw [hp1] at this; exact iStop_first this n (by omega) (by omega) hss (by omega))
              have HP1 := hid hp1
              have HS0 := hid hs0
              clear hss hp1 hs0
              go_wp2_with fail
              refine PT.out.mono ?_
              rintro e w5 ⟨rfl, hi5, fr5⟩
              have HF := hid (HS.out.deed hi5 fr5)
              clear hi5 fr5 PT HS
              have HO := hid (show (w5.alloc (.cells #[.int .i64 n] 3)).ownsRow w.heap.size 3 1 (.slice vb lm vq) lm ((mach pl ss).map (Value.int .i64)) by
                have := HF.out.b; unfold Owns at this; rw [← HLM.out] at this; exact this.alloc _)
              have B1 := hid (show lm + 1 ≤ maxLen by unfold maxLen; omega)
              have B2 := hid (show (lm + 1) * 8 ≤ 140737488355328 by omega)
              have B3 := hid (show w.heap.size ≤ (w5.alloc (.cells #[.int .i64 n] 3)).heap.size by have := HF.out.B.size; simp; omega)
              go_upto_region 12 with (fail)
              obtain ⟨i0, hi, hz0, hz1, hz2⟩ := info_parts infoInt
              have HI := hid hi
              have HZ0 := hid hz0
              have HZ1 := hid hz1
              have HZ2 := hid hz2
              clear hi hz0 hz1 hz2
              go_wp2_with (at_builtin; refine wpList_append_own_at _ rfl _ _ 22 rfl w.heap.size 3 i0 (.int .i64 0) 1 8 Tryd.underlying22 HI.out HZ0.out HZ1.out HZ2.out rfl (by decide) _ _ _ rfl HO.out ⟨w5.heap.size, 0, none⟩ 1 1 [.int .i64 n] rfl rfl (cell_one_new _ _ _) (ones_of [(n : Int)]) B1.out B2.out B3.out ?_)
              intro v6 w6 hown6 hgr6 _ hat6
              rw [HLM.out] at hown6
              have FIN := hid (HF.out.app hown6 hgr6 (by simpa using hat6))
              rw [show mach pl ss ++ [(n : Int)] = mach (n : Int) ss from mach_first HP1.out HS0.out] at FIN
              clear hown6 hgr6 hat6 HO
              go_wp2
              go_roundw
              case rel => exact ⟨k + 1, _, _, _, _, _, by omega, by go_num, by have := HLP.out; omega, by omega, .inr (by omega), FIN⟩
              case measure => simp [intOf]; omega
            · by_cases hnp : (n : Int) = pl
              · have PT := hid (iStop_no HS.out.i n (by omega) (by omega) (.inl hnp) (by omega))
                clear hss hnp hp1
                go_wp2_with fail
                refine PT.out.mono ?_
                rintro e w5 ⟨rfl, hi5, fr5⟩
                have HF := hid (HS.out.deed hi5 fr5)
                clear hi5 fr5 PT HS
                go_wp2
                go_roundw
                case rel => exact ⟨k + 1, _, _, _, _, _, by omega, by go_num, by have := HLP.out; omega, by omega, hpl, HF⟩
                case measure => simp [intOf]; omega
              · have PT := hid (iStop_more HS.out.i n (by rcases hpl with h | h <;> omega) hnp (by omega) (by omega) hss (by omega))
                have hp0 : 0 ≤ pl := by rcases hpl with h | h <;> omega
                clear hss hnp
                go_wp2_with fail
                refine PT.out.mono ?_
                rintro e w5 ⟨rfl, hi5, fr5⟩
                have HF := hid (HS.out.deed hi5 fr5)
                clear hi5 fr5 PT HS
                have HO := hid (show (w5.alloc (.cells #[.int .i64 n] 3)).ownsRow w.heap.size 3 1 (.slice vb lm vq) lm ((mach pl ss).map (Value.int .i64)) by
                  have := HF.out.b; unfold Owns at this; rw [← HLM.out] at this; exact this.alloc _)
                have B1 := hid (show lm + 1 ≤ maxLen by unfold maxLen; omega)
                have B2 := hid (show (lm + 1) * 8 ≤ 140737488355328 by omega)
                have B3 := hid (show w.heap.size ≤ (w5.alloc (.cells #[.int .i64 n] 3)).heap.size by have := HF.out.B.size; simp; omega)
                go_upto_region 12 with (fail)
                obtain ⟨i0, hi, hz0, hz1, hz2⟩ := info_parts infoInt
                have HI := hid hi
                have HZ0 := hid hz0
                have HZ1 := hid hz1
                have HZ2 := hid hz2
                clear hi hz0 hz1 hz2
                go_wp2_with (at_builtin; refine wpList_append_own_at _ rfl _ _ 22 rfl w.heap.size 3 i0 (.int .i64 0) 1 8 Tryd.underlying22 HI.out HZ0.out HZ1.out HZ2.out rfl (by decide) _ _ _ rfl HO.out ⟨w5.heap.size, 0, none⟩ 1 1 [.int .i64 n] rfl rfl (cell_one_new _ _ _) (ones_of [(n : Int)]) B1.out B2.out B3.out ?_)
                intro v6 w6 hown6 hgr6 _ hat6
                rw [HLM.out] at hown6
                have FIN := hid (HF.out.app hown6 hgr6 (by simpa using hat6))
                rw [show mach pl ss ++ [(n : Int)] = mach pl (ss ++ [(n : Int)]) from mach_more hp1] at FIN
                clear hown6 hgr6 hat6 HO
                go_wp2
                go_roundw
                case rel => exact ⟨k + 1, _, _, _, _, _, by omega, by go_num, by have := HLP.out; omega, by simp; omega, .inr hp0, FIN⟩
                case measure => simp [intOf]; omega
          · by_cases hnp : (n : Int) = pl
            · have PT := hid (iStop_no HS.out.i n (by omega) (by omega) (.inl hnp) (by omega))
              clear hss hnp
              go_wp2_with fail
              refine PT.out.mono ?_
              rintro e w5 ⟨rfl, hi5, fr5⟩
              have HF := hid (HS.out.deed hi5 fr5)
              clear hi5 fr5 PT HS
              go_wp2
              go_roundw
              case rel => exact ⟨k + 1, _, _, _, _, _, by omega, by go_num, by have := HLP.out; omega, by omega, hpl, HF⟩
              case measure => simp [intOf]; omega
            · have PT := hid (iStop_no HS.out.i n (by omega) (by omega) (.inr ⟨hnp, hss⟩) (by omega))
              clear hss hnp
              go_wp2_with fail
              refine PT.out.mono ?_
              rintro e w5 ⟨rfl, hi5, fr5⟩
              have HF := hid (HS.out.deed hi5 fr5)
              clear hi5 fr5 PT HS
              go_wp2
              go_roundw
              case rel => exact ⟨k + 1, _, _, _, _, _, by omega, by go_num, by have := HLP.out; omega, by omega, hpl, HF⟩
              case measure => simp [intOf]; omega
      · obtain rfl : k = len0 := by omega
        obtain ⟨c, hc⟩ : ∃ c, c = card f 64 := ⟨_, rfl⟩
        have CNT := hid (countP_any HS.out.i)
        rw [← hc] at CNT
        have HC := hid hc
        have hc3 : c ≤ 64 := by rw [hc]; exact card_le f 64
        clear hc
        go_wp2_with fail
        refine CNT.out.mono ?_
        rintro e w5 ⟨rfl, rfl⟩
        clear CNT
        go_wp2_with fail
        go_loopw [11, 71] (fun l i wq => ∃ (j : Nat) (L : Int) (f2 : Nat → Bool), j ≤ c ∧ i = .int .i64 j ∧ l = .int .i64 L ∧ -1 ≤ L ∧ Hid (card f2 64 + j = c) ∧ Hid (∀ k : Nat, (k : Int) ≤ L → f2 k = false) ∧ Hid (St Z w x f2 pd ss pl (.slice va lp vp) (.slice vb lm vq) pd (mach pl ss) wq)) (fun _ i _ => c - (intOf i).toNat)
        case atStart => exact ⟨0, -1, f, Nat.zero_le _, rfl, rfl, by omega, hid (by rw [Nat.add_zero]; exact HC.out.symm), hid (fun k hk => by omega), HS⟩
        case round =>
          clear HS HC f
          obtain ⟨j, L, f, hj, rfl, rfl, hL, HC, HN, HS⟩ := hrel
          obtain ⟨wi, rfl⟩ : ∃ wi : World, wi = wr := ⟨_, rfl⟩
          by_cases hlt : j < c
          · rcases next_cases f 64 (-1) with ⟨_, h2⟩ | ⟨i, h1, h2, h3, h4, h5⟩
            · exact absurd (card_none fun i hi => h2 i (by omega) hi) (by have := HC.out; omega)
            · have PT := hid (takeP_least HS.out.i i h3 h4 (fun k hk => h5 k (by omega) hk))
              have hiL : L < (i : Int) := by
                rcases Int.lt_or_le L i with h | h
                · exact h
                · have := HN.out i h; rw [this] at h4; cases h4
              have HCT := hid (card_take f h3 h4)
              have HN2 := hid (show ∀ k : Nat, (k : Int) ≤ i → upd f i false k = false from fun k hk => by
                by_cases e : k = i
                · subst e; exact upd_same _ _ _
                · rw [upd_ne _ _ e]; exact h5 k (by omega) (by omega))
              clear h1 h2 h3 h4 h5 HN
              go_wp2_with fail
              refine PT.out.mono ?_
              rintro e w5 ⟨rfl, hi5, fr5⟩
              have HF := hid (HS.out.deed hi5 fr5)
              clear hi5 fr5 PT HS
              go_wp2
              go_roundw
              case rel => exact ⟨j + 1, i, _, by omega, by go_num, rfl, by omega, hid (by have := HCT.out; have := HC.out; omega), HN2, HF⟩
              case measure => simp [intOf]; omega
          · obtain rfl : j = c := by omega
            have HZ := hid (show card f 64 = 0 by have := HC.out; omega)
            clear HC HN hL hlt
            go_wp2_with fail
            go_loopw [89] (fun i wq => ∃ (q : Nat), q ≤ lp ∧ i = .int .i64 q ∧ Hid (St Z w x f (pd.drop q) ss pl (.slice va lp vp) (.slice vb lm vq) pd (mach pl ss) wq)) (fun i _ => lp - (intOf i).toNat)
            case atStart => exact ⟨0, Nat.zero_le _, rfl, by rw [List.drop_zero]; exact HS⟩
            case round =>
              clear HS
              obtain ⟨q, hqp, rfl, HS⟩ := hrel
              obtain ⟨wi, rfl⟩ : ∃ wi : World, wi = wr := ⟨_, rfl⟩
              by_cases hlt : q < lp
              · have hql : q < pd.length := by have := HLP.out; omega
                have hrd := HS.out.a.reads
                obtain ⟨ar, cr, he, _, hrd⟩ := hrd
                simp only [Value.slice.injEq] at he
                obtain ⟨g, o, h2, h3, h4⟩ := hrd (by omega)
                have he1 := he.1
                rw [h2] at he1
                have hcl := h4 q hql
                obtain ⟨m, hm⟩ : ∃ m, m = pd.getD q 0 := ⟨_, rfl⟩
                rw [← hm] at hcl
                have hdr : pd.drop q = m :: pd.drop (q + 1) := by
                  rw [List.drop_eq_getElem_cons hql, hm]
                  simp [List.getD_eq_getElem?_getD, hql]
                have PT := hid (by have := HS.out.i; rw [hdr] at this; exact takePend_first m this)
                subst he1
                clear hm hdr h2 h3 h4 hrd he hql
                have t : (m != m) = false := by simp
                go_wp2_with fail
                refine PT.out.mono ?_
                rintro e w5 ⟨rfl, hi5, fr5⟩
                have HF := hid (HS.out.deed hi5 fr5)
                clear hi5 fr5 PT HS
                go_wp2
                go_roundw
                case rel => exact ⟨q + 1, by omega, by go_num, HF⟩
                case measure => simp [intOf]; omega
              · obtain rfl : q = lp := by omega
                rw [show pd.drop q = [] from List.drop_of_length_le (by have := HLP.out; omega)] at HS
                obtain ⟨N0, hN0⟩ : ∃ N0, N0 = ss.length := ⟨_, rfl⟩
                have HN0 := hid hN0
                have hlm : (pl = -1 ∧ lm = 0 ∧ N0 = 0) ∨ (0 ≤ pl ∧ lm = N0 + 1) := by
                  have h1 := HLM.out
                  rcases hpl with ⟨h2, h3⟩ | h2
                  · left; refine ⟨h2, ?_, by rw [hN0, h3]; rfl⟩; rw [h1]; simp [mach, h2]
                  · right; refine ⟨h2, ?_⟩; rw [h1, hN0]; simp only [mach]; rw [if_neg (by omega)]; rfl
                clear hN0 hpl hqp hlt
                go_wp2_with fail
                go_loopw [108] (fun i wq => ∃ (u : Nat) (ss3 : List Int) (pl3 : Int), u ≤ lm ∧ i = .int .i64 u ∧ Hid ((u ≤ N0 ∧ ss3 = ss.take (N0 - u) ∧ pl3 = pl) ∨ (u = N0 + 1 ∧ ss3 = [] ∧ pl3 = -1)) ∧ Hid (St Z w x f [] ss3 pl3 (.slice va q vp) (.slice vb lm vq) pd (mach pl ss) wq)) (fun i _ => lm - (intOf i).toNat)
                case atStart => exact ⟨0, ss, pl, Nat.zero_le _, rfl, hid (.inl ⟨Nat.zero_le _, by rw [Nat.sub_zero, HN0.out, List.take_length], rfl⟩), HS⟩
                case round =>
                  clear HS
                  obtain ⟨u, ss3, pl3, hu, rfl, HR, HS⟩ := hrel
                  obtain ⟨wi, rfl⟩ : ∃ wi : World, wi = wr := ⟨_, rfl⟩
                  by_cases hlt : u < lm
                  · have hplp : 0 ≤ pl := by rcases hlm with h | h; omega; exact h.1
                    have hlme : lm = N0 + 1 := by rcases hlm with h | h; omega; exact h.2
                    have hrd := HS.out.b.reads
                    obtain ⟨ar, cr, he, _, hrd⟩ := hrd
                    simp only [Value.slice.injEq] at he
                    have hml : (mach pl ss).length = lm := HLM.out.symm
                    obtain ⟨g, o, h2, h3, h4⟩ := hrd (by omega)
                    have he1 := he.1
                    rw [h2] at he1
                    have hc0 := h4 0 (by omega)
                    have hmc : mach pl ss = pl :: ss := by simp only [mach]; rw [if_neg (by omega)]
                    rw [show (mach pl ss).getD 0 0 = pl by rw [hmc]; rfl, Nat.add_zero] at hc0
                    have hN0 := HN0.out
                    obtain ⟨hu0, hs3, rfl⟩ : u ≤ N0 ∧ ss3 = ss.take (N0 - u) ∧ pl3 = pl := by
                      rcases HR.out with h | h
                      · exact h
                      · omega
                    by_cases hlast : u = N0
                    · have hs0 : ss3 = [] := by rw [hs3, hlast, Nat.sub_self, List.take_zero]
                      subst hs0
                      have PT := hid (iTakeM_poller HS.out.i hplp)
                      subst he1
                      have hul : ¬ (u : Int) < (lm : Int) - 1 := by omega
                      have hul2 : (lm : Int) - 1 ≤ u := by omega
                      have hl0 : (0 : Int) < lm := by omega
                      have t : (pl3 != pl3) = false := by simp
                      have HR2 := hid (show u + 1 = N0 + 1 by omega)
                      clear hs3 hlast h2 h3 h4 hrd he hmc hml hN0 hlm hlme HR
                      go_wp2_with fail
                      refine PT.out.mono ?_
                      rintro e w5 ⟨rfl, hi5, fr5⟩
                      have HF := hid (HS.out.deed hi5 fr5)
                      clear hi5 fr5 PT HS
                      go_wp2
                      go_roundw
                      case rel => exact ⟨u + 1, [], -1, by omega, by go_num, hid (.inr ⟨HR2.out, rfl, rfl⟩), HF⟩
                      case measure => simp [intOf]; omega
                    · obtain ⟨p, hp⟩ : ∃ p, N0 - u = p + 1 := ⟨N0 - u - 1, by omega⟩
                      have hps : p < ss.length := by omega
                      obtain ⟨m, hm⟩ : ∃ m, m = ss.getD p 0 := ⟨_, rfl⟩
                      have hcp := h4 (p + 1) (by omega)
                      rw [show (mach pl3 ss).getD (p + 1) 0 = m by rw [hmc, hm]; rfl] at hcp
                      have hs4 : ss3 = ss.take p ++ [m] := by
                        rw [hs3, hp, hm, List.take_succ_eq_append_getElem hps]
                        simp [List.getD_eq_getElem?_getD, hps]
                      subst hs4
                      have PT := hid (iTakeM_last m HS.out.i (by simp; omega))
                      subst he1
                      have hul : (u : Int) < (lm : Int) - 1 := by omega
                      have hl0 : (0 : Int) < lm := by omega
                      have e1 : (lm : Int) - 1 - u = ((p + 1 : Nat) : Int) := by omega
                      have e2 : ((p + 1 : Nat) : Int) < lm := by omega
                      obtain ⟨p1, hp1⟩ : ∃ p1, p1 = p + 1 := ⟨_, rfl⟩
                      rw [← hp1] at hcp e1 e2
                      have t : (m != m) = false := by simp
                      have HR2 := hid (show u + 1 ≤ N0 ∧ p = N0 - (u + 1) by omega)
                      clear hs3 hlast h2 h3 h4 hrd he hmc hml hN0 hlm hlme HR hp hps hm hp1
                      go_wp2_with fail
                      refine PT.out.mono ?_
                      rintro e w5 ⟨rfl, hi5, fr5⟩
                      have HF := hid (HS.out.deed hi5 fr5)
                      clear hi5 fr5 PT HS
                      go_wp2
                      go_roundw
                      case rel => exact ⟨u + 1, _, pl3, by omega, by go_num, hid (.inl ⟨HR2.out.1, by rw [← HR2.out.2], rfl⟩), HF⟩
                      case measure => simp [intOf]; omega
                  · obtain rfl : u = lm := by omega
                    have hs0 : ss3 = [] := by
                      rcases HR.out with ⟨h1, h2, h3⟩ | h
                      · rcases hlm with ⟨_, h4, h5⟩ | ⟨_, h4⟩
                        · rw [h2, h5, Nat.zero_sub, List.take_zero]
                        · omega
                      · exact h.2.1
                    subst hs0
                    have CNT := hid (countP_any HS.out.i)
                    rw [HZ.out] at CNT
                    have PEN := hid (pending_any HS.out.i)
                    have CNM := hid (iCountM HS.out.i 0 rfl)
                    clear hlm HR
                    go_wp2_with fail
                    refine CNT.out.mono ?_
                    rintro e w5 ⟨rfl, rfl⟩
                    go_wp2_with fail
                    refine PEN.out.mono ?_
                    rintro e w5 ⟨rfl, rfl⟩
                    go_wp2_with fail
                    refine CNM.out.mono ?_
                    rintro e w5 ⟨rfl, rfl⟩
                    go_wp2
                    go_ret
                    exact ⟨rfl, HS.out.B⟩
end Go.Proofs.YtcbdmofdbmimfaaDoor.idleRows
