/- The walk of the statement IdlePolls: the law answers true and turns nothing that was there. -/
import Derived.Test.YtdhinekggbkjjaaIdle2
import Derived.Deep.LoopGhost
import Derived.OpenShut
namespace Go.Proofs.Ytdhinekggbkjjaa.idlePolls
open Go.RowKit
set_option linter.unusedVariables false
set_option linter.unusedSimpArgs false
theorem snoc_of (ss : List Int) : ss = [] ∨ ∃ s' m, ss = s' ++ [m] := by
  rcases List.eq_nil_or_concat ss with h | ⟨s', m, h⟩
  · exact .inl h
  · exact .inr ⟨s', m, by rw [h]; simp⟩

set_option maxRecDepth 100000 in
set_option maxHeartbeats 4000000 in
theorem walk (a0 : Option Addr) (len0 cap0 : Nat) (z0 : List Int) (w : World) (w0 : IsRow .u8 w a0 len0 cap0 z0) :
    Calls Try.prog 4 #[.slice a0 len0 cap0] w fun e w' => e = .returned (.bool true) ∧ Below w.heap.size w w' := by
  by_cases hlen : (60 : Int) < len0
  · go_enter Try.func4, Try.ntmps4
    go_wp2_with fail
    refine (lives13 _).mono ?_
    rintro e w2 ⟨rfl, hb1⟩
    go_wp2_with fail
    refine (lives13 _).mono ?_
    rintro e w3 ⟨rfl, hb2⟩
    go_wp2
    go_ret
    exact ⟨rfl, hb1.trans (hb2.mono hb1.size)⟩
  · have hlen' : len0 ≤ 60 := by omega
    have W0 := hid w0
    clear w0 hlen
    go_enter Try.func4, Try.ntmps4
    go_wp2_with fail
    refine (lives13 _).mono ?_
    rintro e w1 ⟨rfl, hb1⟩
    have hs1 := hb1.size
    go_wp2_with fail
    refine (inew_p _).mono ?_
    rintro e w2 ⟨x, rfl, h2, hx, hb2⟩
    have H2 := hid h2
    have hx' : w.heap.size ≤ x := by omega
    have B2 := hb1.trans (hb2.mono hs1)
    have hs2 : w.heap.size ≤ w2.heap.size := by have := hb2.size; omega
    have R2 := hid (show ∀ k, (none : Option Nat) = some k → w.heap.size ≤ k from fun k hk => by cases hk)
    clear h2 hb1 hb2
    go_wp2_with fail
    go_loopw [31] (fun i wr => ∃ (k : Nat) (ss : List Int) (pl : Int) (r : Option Nat), k ≤ len0 ∧ i = .int .i64 k ∧ Hid (Idl wr x r 128 ss pl) ∧ Hid (ss.length ≤ k) ∧ -1 ≤ pl ∧ pl < 128 ∧ Hid (pl = -1 → ss = []) ∧ Hid (∀ k, r = some k → w.heap.size ≤ k) ∧ w.heap.size ≤ wr.heap.size ∧ Below w.heap.size w wr)
      (fun i _ => len0 - (intOf i).toNat)
    case atStart => exact ⟨0, [], -1, none, by omega, rfl, H2, hid (by simp), by omega, by omega, hid (fun _ => rfl), R2, hs2, B2⟩
    case round =>
      clear H2 R2 hs2 B2
      obtain ⟨k, ss, pl, r2, hk, rfl, H2, HSL, hp0, hp1, HINV, R2, hs2, B2⟩ := hrel
      by_cases hlt : k < len0
      · obtain ⟨g, off, rfl, hzl, hwf, hcell⟩ := W0.out.open.resolve_left (by omega)
        have hc := hcell _ B2 k hlt
        obtain ⟨a, ha⟩ : ∃ a, a = z0.getD k 0 := ⟨_, rfl⟩
        have hk' : k < z0.length := by omega
        have hab : (Lit.int .u8 a).wf = true := hwf _ (by rw [ha, show z0.getD k 0 = z0[k] by simp [hk']]; exact List.getElem_mem hk')
        rw [← ha] at hc
        have hb := bounds_u8 hab
        have ka0 := hb.1
        have ka1 := hb.2
        have hlk : ss.length ≤ 60 := by have := HSL.out; omega
        clear ha hab hwf hcell hb hzl hk'
        by_cases c3 : a % 3 = 0
        · have t : (a % 3 == 0) = true := beq_iff_eq.2 c3
          clear c3
          rcases snoc_of ss with rfl | ⟨s', m, rfl⟩
          · by_cases hpl : 0 ≤ pl
            · go_wp2_with fail
              refine (takeM_poller x r2 128 pl _ H2.out hpl).mono ?_
              intro e w3 hp
              obtain ⟨rfl, r3, h3, hb3, hr3, hs3⟩ := hp.step hx' R2.out hs2
              have H3 := hid h3
              have R3 := hid hr3
              have B3 := B2.trans hb3
              clear hp h3 hr3
              have CM := hid (fun w H => countM x r3 128 [] (-1) 0 rfl w H)
              go_wp2_with fail
              refine (poller_no x r3 128 [] _ H3.out).mono ?_
              rintro e v1 ⟨rfl, rfl⟩
              go_wp2_with fail
              refine (CM.out _ H3.out).mono ?_
              rintro e v2 ⟨rfl, rfl⟩
              go_wp2
              go_roundw
              case rel => exact ⟨k + 1, [], -1, r3, by omega, by go_num, H3, hid (by simp), by omega, by omega, hid (fun _ => rfl), R3, hs3, B3⟩
              case measure => simp [intOf]; omega
            · have hpe : pl = -1 := by omega
              subst hpe
              clear hpl
              go_wp2_with fail
              refine (takeM_none x r2 128 _ H2.out).mono ?_
              intro e w3 hp
              obtain ⟨rfl, r3, h3, hb3, hr3, hs3⟩ := hp.step hx' R2.out hs2
              have H3 := hid h3
              have R3 := hid hr3
              have B3 := B2.trans hb3
              clear hp h3 hr3
              have CM := hid (fun w H => countM x r3 128 [] (-1) 0 rfl w H)
              go_wp2_with fail
              refine (poller_no x r3 128 [] _ H3.out).mono ?_
              rintro e v1 ⟨rfl, rfl⟩
              go_wp2_with fail
              refine (CM.out _ H3.out).mono ?_
              rintro e v2 ⟨rfl, rfl⟩
              go_wp2
              go_roundw
              case rel => exact ⟨k + 1, [], -1, r3, by omega, by go_num, H3, hid (by simp), by omega, by omega, hid (fun _ => rfl), R3, hs3, B3⟩
              case measure => simp [intOf]; omega
          · have hpl : 0 ≤ pl := by
              rcases Int.lt_or_le pl 0 with h | h
              · have := HINV.out (by omega); simp at this
              · exact h
            have hs'l : s'.length ≤ 60 := by rw [List.length_append] at hlk; omega
            go_wp2_with fail
            refine (takeM_last x r2 128 s' pl m _ H2.out (by omega)).mono ?_
            intro e w3 hp
            obtain ⟨rfl, r3, h3, hb3, hr3, hs3⟩ := hp.step hx' R2.out hs2
            have H3 := hid h3
            have R3 := hid hr3
            have B3 := B2.trans hb3
            clear hp h3 hr3
            obtain ⟨n, hn⟩ : ∃ n, (s').length = n := ⟨_, rfl⟩
            have hnb : n ≤ 61 := by omega
            have CM := hid (fun w H => countM x r3 128 (s') pl n hn w H)
            have HL' := hid (show (s').length ≤ k + 1 by have := HSL.out; rw [List.length_append] at this; omega)
            clear hn
            go_wp2_with fail
            refine (poller_yes x r3 128 (s') pl _ H3.out hpl).mono ?_
            rintro e v1 ⟨rfl, rfl⟩
            go_wp2_with fail
            refine (CM.out _ H3.out).mono ?_
            rintro e v2 ⟨rfl, rfl⟩
            by_cases hn0 : (0 : Int) < n
            all_goals
              go_wp2
              go_roundw
              case rel => exact ⟨k + 1, s', pl, r3, by omega, by go_num, H3, HL', by omega, by omega, hid (fun h => absurd h (by omega)), R3, hs3, B3⟩
              case measure => simp [intOf]; omega
        · have t : (a % 3 == 0) = false := beq_eq_false_iff_ne.2 c3
          obtain ⟨m, hm⟩ : ∃ m, m = a % 128 := ⟨_, rfl⟩
          have hm0 : 0 ≤ m := by omega
          have hm1 : m < 128 := by omega
          have HM := hid hm.symm
          clear c3 hm
          by_cases hpl : 0 ≤ pl
          · by_cases hno : m = pl ∨ (m ≠ pl ∧ hasB m ss = true)
            · have HNO := hid hno
              clear hno
              go_wp2_with fail
              refine (poller_yes x r2 128 ss pl _ H2.out hpl).mono ?_
              rintro e v1 ⟨rfl, rfl⟩
              go_wp2_with fail
              rw [HM.out]
              refine (stop_no x r2 128 ss pl m _ H2.out hm0 hm1 HNO.out (by omega)).mono ?_
              rintro e w3 ⟨rfl, hq3⟩
              have H3 := hid (H2.out.kept (w' := w3) (by rw [hq3.heap]) (fun _ _ => by rw [hq3.heap]))
              have R3 := hid R2.out
              have B3 := B2.trans (hq3.below _)
              have hs3 : w.heap.size ≤ w3.heap.size := by rw [hq3.heap]; exact hs2
              obtain ⟨r3, hr3⟩ : ∃ r3, r3 = r2 := ⟨_, rfl⟩
              rw [← hr3] at H3 R3
              clear hq3 hr3
              go_wp2_with fail
              refine (poller_yes x r3 128 ss pl _ H3.out hpl).mono ?_
              rintro e v2 ⟨rfl, rfl⟩
              obtain ⟨n, hn⟩ : ∃ n, (ss).length = n := ⟨_, rfl⟩
              have hnb : n ≤ 61 := by omega
              have CM := hid (fun w H => countM x r3 128 (ss) pl n hn w H)
              have HL' := hid (show (ss).length ≤ k + 1 by have := HSL.out; omega)
              clear hn
              go_wp2_with fail
              refine (poller_yes x r3 128 (ss) pl _ H3.out hpl).mono ?_
              rintro e v1 ⟨rfl, rfl⟩
              go_wp2_with fail
              refine (CM.out _ H3.out).mono ?_
              rintro e v2 ⟨rfl, rfl⟩
              by_cases hn0 : (0 : Int) < n
              all_goals
                go_wp2
                go_roundw
                case rel => exact ⟨k + 1, ss, pl, r3, by omega, by go_num, H3, HL', by omega, by omega, hid (fun h => absurd h (by omega)), R3, hs3, B3⟩
                case measure => simp [intOf]; omega
            · have hmp : m ≠ pl := fun e => hno (.inl e)
              have hms : hasB m ss = false := by
                cases h : hasB m ss
                · rfl
                · exact absurd (.inr ⟨hmp, h⟩) hno
              have HMP := hid hmp
              have HMS := hid hms
              clear hno hmp hms
              go_wp2_with fail
              refine (poller_yes x r2 128 ss pl _ H2.out hpl).mono ?_
              rintro e v1 ⟨rfl, rfl⟩
              go_wp2_with fail
              rw [HM.out]
              refine (stop_more x r2 128 ss pl m _ H2.out hpl HMP.out hm0 hm1 HMS.out (by omega)).mono ?_
              intro e w3 hp
              obtain ⟨rfl, r3, h3, hb3, hr3, hs3⟩ := hp.step hx' R2.out hs2
              have H3 := hid h3
              have R3 := hid hr3
              have B3 := B2.trans hb3
              clear hp h3 hr3
              go_wp2_with fail
              refine (poller_yes x r3 128 _ pl _ H3.out hpl).mono ?_
              rintro e v2 ⟨rfl, rfl⟩
              obtain ⟨n, hn⟩ : ∃ n, (ss ++ [m]).length = n := ⟨_, rfl⟩
              have hnb : n ≤ 61 := by rw [List.length_append, List.length_singleton] at hn; omega
              have CM := hid (fun w H => countM x r3 128 (ss ++ [m]) pl n hn w H)
              have HL' := hid (show (ss ++ [m]).length ≤ k + 1 by have := HSL.out; rw [List.length_append, List.length_singleton]; omega)
              clear hn
              go_wp2_with fail
              refine (poller_yes x r3 128 (ss ++ [m]) pl _ H3.out hpl).mono ?_
              rintro e v1 ⟨rfl, rfl⟩
              go_wp2_with fail
              refine (CM.out _ H3.out).mono ?_
              rintro e v2 ⟨rfl, rfl⟩
              by_cases hn0 : (0 : Int) < n
              all_goals
                go_wp2
                go_roundw
                case rel => exact ⟨k + 1, ss ++ [m], pl, r3, by omega, by go_num, H3, HL', by omega, by omega, hid (fun h => absurd h (by omega)), R3, hs3, B3⟩
                case measure => simp [intOf]; omega
          · have hpe : pl = -1 := by omega
            have hse : ss = [] := HINV.out hpe
            subst hpe
            subst hse
            clear hpl
            go_wp2_with fail
            refine (poller_no x r2 128 [] _ H2.out).mono ?_
            rintro e v1 ⟨rfl, rfl⟩
            go_wp2_with fail
            rw [HM.out]
            refine (stop_first x r2 128 [] m _ H2.out hm0 hm1 (hasB_nil _) (by simp)).mono ?_
            intro e w3 hp
            obtain ⟨rfl, r3, h3, hb3, hr3, hs3⟩ := hp.step hx' R2.out hs2
            have H3 := hid h3
            have R3 := hid hr3
            have B3 := B2.trans hb3
            clear hp h3 hr3
            have tmm : (m != a % 128) = false := by rw [HM.out]; simp
            go_wp2_with fail
            refine (poller_yes x r3 128 _ m _ H3.out hm0).mono ?_
            rintro e v2 ⟨rfl, rfl⟩
            obtain ⟨n, hn⟩ : ∃ n, (([] : List Int)).length = n := ⟨_, rfl⟩
            have hnb : n ≤ 61 := by simp at hn; omega
            have CM := hid (fun w H => countM x r3 128 (([] : List Int)) m n hn w H)
            have HL' := hid (show (([] : List Int)).length ≤ k + 1 by have := HSL.out; simp)
            clear hn
            go_wp2_with fail
            refine (poller_yes x r3 128 (([] : List Int)) m _ H3.out hm0).mono ?_
            rintro e v1 ⟨rfl, rfl⟩
            go_wp2_with fail
            refine (CM.out _ H3.out).mono ?_
            rintro e v2 ⟨rfl, rfl⟩
            by_cases hn0 : (0 : Int) < n
            all_goals
              go_wp2
              go_roundw
              case rel => exact ⟨k + 1, ([] : List Int), m, r3, by omega, by go_num, H3, HL', by omega, by omega, hid (fun h => absurd h (by omega)), R3, hs3, B3⟩
              case measure => simp [intOf]; omega
      · have hlk : ss.length ≤ 60 := by have := HSL.out; omega
        obtain ⟨wo, rfl⟩ : ∃ wo : World, wo = wr := ⟨_, rfl⟩
        go_wp2_with fail
        go_loopg [] (ss.length) (fun gk wr => ∃ (s' : List Int) (r : Option Nat), gk = s'.length ∧ s'.length ≤ 60 ∧ Hid (Idl wr x r 128 s' pl) ∧ Hid (pl = -1 → s' = []) ∧ Hid (∀ k, r = some k → w.heap.size ≤ k) ∧ w.heap.size ≤ wr.heap.size ∧ Below w.heap.size w wr)
        case atStart => exact ⟨ss, r2, rfl, hlk, H2, HINV, R2, hs2, B2⟩
        case round =>
          clear H2 R2 hs2 B2 HINV HSL hlk
          obtain ⟨s', r2, hgk, hlk, H2, HINV, R2, hs2, B2⟩ := hrel
          rcases snoc_of s' with rfl | ⟨s'', m, rfl⟩
          · have CM := hid (fun w H => countM x r2 128 [] pl 0 rfl w H)
            by_cases hpl : 0 ≤ pl
            · go_wp2_with fail
              refine (CM.out _ H2.out).mono ?_
              rintro e v0 ⟨rfl, rfl⟩
              go_wp2_with fail
              refine (poller_yes x r2 128 [] pl _ H2.out hpl).mono ?_
              rintro e v1 ⟨rfl, rfl⟩
              go_wp2_with fail
              refine (takeM_poller x r2 128 pl _ H2.out hpl).mono ?_
              intro e w3 hp
              obtain ⟨rfl, r3, h3, hb3, hr3, hs3⟩ := hp.step hx' R2.out hs2
              have H3 := hid h3
              have R3 := hid hr3
              have B3 := B2.trans hb3
              clear hp h3 hr3
              go_wp2_with fail
              refine (poller_no x r3 128 [] _ H3.out).mono ?_
              rintro e v2 ⟨rfl, rfl⟩
              go_wp2
              go_ret
              exact ⟨rfl, B3⟩
            · have hpe : pl = -1 := by omega
              subst hpe
              clear hpl
              go_wp2_with fail
              refine (CM.out _ H2.out).mono ?_
              rintro e v0 ⟨rfl, rfl⟩
              go_wp2_with fail
              refine (poller_no x r2 128 [] _ H2.out).mono ?_
              rintro e v1 ⟨rfl, rfl⟩
              go_wp2_with fail
              refine (takeM_none x r2 128 _ H2.out).mono ?_
              intro e w3 hp
              obtain ⟨rfl, r3, h3, hb3, hr3, hs3⟩ := hp.step hx' R2.out hs2
              have H3 := hid h3
              have R3 := hid hr3
              have B3 := B2.trans hb3
              clear hp h3 hr3
              go_wp2_with fail
              refine (poller_no x r3 128 [] _ H3.out).mono ?_
              rintro e v2 ⟨rfl, rfl⟩
              go_wp2
              go_ret
              exact ⟨rfl, B3⟩
          · have hpl : 0 ≤ pl := by
              rcases Int.lt_or_le pl 0 with h | h
              · have := HINV.out (by omega); simp at this
              · exact h
            obtain ⟨n, hn⟩ : ∃ n, n = s''.length := ⟨_, rfl⟩
            have hnl : (s'' ++ [m]).length = n + 1 := by rw [List.length_append, ← hn]; rfl
            have CM := hid (fun w H => countM x r2 128 (s'' ++ [m]) pl (n + 1) hnl w H)
            have HNL := hid hnl
            have HN := hid hn
            have hnb : n ≤ 60 := by omega
            rw [hnl] at hgk hlk
            clear hn hnl
            go_wp2_with fail
            refine (CM.out _ H2.out).mono ?_
            rintro e v0 ⟨rfl, rfl⟩
            go_wp2_with fail
            refine (takeM_last x r2 128 s'' pl m _ H2.out (by have := HN.out; omega)).mono ?_
            intro e w3 hp
            obtain ⟨rfl, r3, h3, hb3, hr3, hs3⟩ := hp.step hx' R2.out hs2
            have H3 := hid h3
            have R3 := hid hr3
            have B3 := B2.trans hb3
            clear hp h3 hr3
            go_wp2
            go_roundg (s''.length)
            case rel => exact ⟨s'', r3, rfl, by have := HN.out; omega, H3, hid (fun h => absurd h (by omega)), R3, hs3, B3⟩
            case measure => have := HN.out; omega
end Go.Proofs.Ytdhinekggbkjjaa.idlePolls
