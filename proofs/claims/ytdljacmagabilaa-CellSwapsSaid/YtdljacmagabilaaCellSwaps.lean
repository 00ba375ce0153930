/- The statement CellSwaps: for every number and every slice of numbers the law answers true, and both read as they did. No condition. -/
import Derived.Test.YtdljacmagabilaaLives01
import Derived.OpenShut
import Derived.ShutString
import Derived.ChangeOld
namespace Go.Proofs.Ytdljacmagabilaa.cellSwaps
open Go.ChangeShapes Go.WideShapes Go.ChangeAt Go.RowKit
open Go.ChangeMaps (open_string shut_string)
set_option linter.unusedVariables false
theorem own : ownKnob Try.prog.godebug = none := by kernel_rfl
theorem laidOut : laidOutB Try.prog = true := by kernel_rfl

set_option maxHeartbeats 1000000 in
theorem walk (a0 : Int) (a1 : Option Addr) (len1 cap1 : Nat) (z1 : List Int) (w : World) (w0 : (Lit.int .u64 a0).wf = true) (w1 : IsRow .u64 w a1 len1 cap1 z1) :
    Calls Try.prog 3 #[.int .u64 a0, .slice a1 len1 cap1] w fun e w' => e = .returned (.bool true) ∧ Below w.heap.size w w' := by
  by_cases hlen : (40 : Int) < len1
  · go_enter Try.func3, Try.ntmps3
    go_wp2_with fail
    refine (lives1 _).mono ?_
    rintro e w2 ⟨rfl, hb1⟩
    go_wp2_with fail
    refine (lives1 _).mono ?_
    rintro e w3 ⟨rfl, hb2⟩
    go_wp2
    go_ret
    exact ⟨rfl, hb1.trans (hb2.mono hb1.size)⟩
  · have hlen' : len1 ≤ 40 := by omega
    have W1 := hid w1
    clear w1 w0
    go_enter Try.func3, Try.ntmps3
    go_wp2_with fail
    refine (lives1 _).mono ?_
    rintro e w2 ⟨rfl, hb1⟩
    go_wp2_with fail
    refine (new_ex 1 1 rfl _).mono ?_
    rintro e w3 ⟨b, g, rfl, hm, hb, hg, hb3⟩
    have hs1 := hb1.size
    go_wp2_with fail
    refine (store_in _ _ _ _ 0 a0 _ hm (by omega) (by omega) (by simp)).mono ?_
    rintro e w4 ⟨rfl, hm4, ho4⟩
    have hbl : Below w.heap.size w w4 := (hb1.trans (hb3.mono hs1)).trans (ho4.below (by omega) (by omega) (by have := hb3.size; omega))
    go_wp2_with fail
    go_loopw [6, 24] (fun now i wr => ∃ (k c : Nat) (v : Int), k ≤ len1 ∧ i = .int .i64 k ∧ now = .int .u64 v ∧ Mem wr b g [v] c ∧ c ≤ 1 + 2 * k ∧ Below w.heap.size w wr)
      (fun _ i _ => len1 - (intOf i).toNat)
    case atStart => exact ⟨0, 1, a0, Nat.zero_le _, rfl, rfl, hm4, by omega, hbl⟩
    case round =>
      obtain ⟨k, c, v, hk, rfl, rfl, hmr, hcr, hbr⟩ := hrel
      by_cases hlt : k < len1
      · obtain ⟨bx, off, rfl, hzl, hwf, hcell⟩ := W1.out.open.resolve_left (by omega)
        have hx := hcell _ hbr k hlt
        obtain ⟨x, hxe⟩ : ∃ x, x = z1.getD k 0 := ⟨_, rfl⟩
        rw [← hxe] at hx
        clear hxe hcell hwf
        by_cases hv : v = a0
        · subst hv
          go_wp2_with fail
          refine (swap_yes _ _ _ _ 0 _ x _ hmr (by omega) (by omega) (by simp) (by simp)).mono ?_
          rintro e w5 ⟨rfl, hm5, ho5⟩
          go_wp2_with fail
          refine (load_in _ _ _ _ 0 _ hm5 (by omega) (by omega) (by simp)).mono ?_
          rintro e w6 ⟨rfl, hm6, ho6⟩
          go_wp2
          go_roundw
          case rel => exact ⟨k + 1, c + 2, x, by omega, by go_num, rfl, hm6, by omega, hbr.trans ((ho5.trans ho6).below (by omega) (by omega) (by have := hbr.size; omega))⟩
          case measure => simp [intOf]; omega
        · have hv' : (v == a0) = false := by simpa using hv
          go_wp2_with fail
          refine (swap_no _ _ _ _ 0 _ x _ hmr (by omega) (by omega) (by simp) (by simpa using hv)).mono ?_
          rintro e w5 ⟨rfl, hm5, ho5⟩
          go_wp2_with fail
          refine (load_in _ _ _ _ 0 _ hm5 (by omega) (by omega) (by simp)).mono ?_
          rintro e w6 ⟨rfl, hm6, ho6⟩
          go_wp2
          go_roundw
          case rel => exact ⟨k + 1, c + 2, v, by omega, by go_num, rfl, hm6, by omega, hbr.trans ((ho5.trans ho6).below (by omega) (by omega) (by have := hbr.size; omega))⟩
          case measure => simp [intOf]; omega
      · go_wp2
        go_ret
        exact ⟨rfl, hbr⟩

/-! ### THE ROW's STEP: WRITTEN OUT: LEAVE IT -/
set_option maxRecDepth 100000 in
theorem lifted (os : Os) (started : os.Started) (H : Type) (enc : TypeId × Value → H) :
    ReturnsInHanded {} Try.checked os 3 .any (Rows.cellSwapsSpec.pre6 enc Try.prog Try.f3 Rows.cellSwapsRow.domain false) (Rows.cellSwapsSpec.post enc Try.prog Try.f3 false true false false) := by
  refine returnsInHanded_of_change (C := Try.checked) own started (by kernel_rfl) Try.func3
    (ChangeSpec.witness6 (enc := enc) (C := Try.checked) false ⟨#[], #[.int .u64 0, .slice none 0 0], []⟩ 8 (by kernel_rfl) (by kernel_rfl) (by kernel_rfl) (by kernel_rfl)) ?_
  intro W base args ds gs before hval0 hW hcnd _
  have hval : ∀ (j : Nat) t v, Try.f3.params[j]? = some t → args[j]? = some v → Value.okWide Try.prog W .any base t v := hval0
  have hW' := hW
  obtain ⟨p, q, hA0, hV, rfl, hfz, hnd⟩ := hW
  have hA : DataW.TrodAll enc Try.prog W 0 (fun _ => true) true Try.f3.params.toList args.toList ds p := hA0
  rw [Try.params3] at hA hval
  obtain ⟨v0, vs0, d0, ds0, p0, q0, hargs, rfl, rfl, h0, r0⟩ := trodAll_cons hA
  obtain ⟨v1, vs1, d1, ds1, p1, q1, rfl, rfl, rfl, h1, r1⟩ := trodAll_cons r0
  obtain ⟨rfl, rfl, rfl⟩ := trodAll_nil r1
  obtain rfl : args = #[v0, v1] := by cases args; simp_all
  obtain ⟨rfl, rfl⟩ := trodVars_none hV
  obtain ⟨a0, rfl, rfl, rfl, w0⟩ := open_int Try.underlying22 (hval 0 22 v0 rfl rfl) h0
  obtain ⟨a1, len1, cap1, rfl⟩ := okWide_slice Try.underlying23 (hval 1 23 v1 rfl rfl)
  have k1 := h1
  have lt1 : ∀ x ∈ p1, x.block < W.heap.size := by obtain ⟨m, hm⟩ := k1; exact DataW.trod_lt m _ _ _ hm
  obtain ⟨z1, w1⟩ : ∃ zs, IsRow .u64 W a1 len1 cap1 zs := by
    obtain ⟨fuel, hf⟩ := h1
    rcases open_ints Try.underlying23 Try.underlying22 (by kernel_rfl) hf with ⟨hcs, _⟩ | ⟨x, l, c, zs, hcs, _, hl, hm, hz, _, hcell, hwz⟩
    · simp [Value.cells] at hcs
      obtain ⟨rfl, rfl, rfl⟩ := hcs
      exact ⟨[], .inl ⟨rfl, rfl, rfl, rfl⟩⟩
    · simp [Value.cells] at hcs
      obtain ⟨rfl, rfl, rfl⟩ := hcs
      exact ⟨zs, .inr ⟨_, rfl, hl, hm, by simpa using hz, hcell, hwz⟩⟩
  clear hA0 hval0
  refine (walk a0 a1 len1 cap1 z1 W w0 w1).mono fun e W' ⟨he, bel⟩ => ?_
  subst he
  exact ⟨_, rfl, _, _, _, [], _, [], hW', trodAll_mk1 (shut_bool Try.underlying4 _), (trodAll_cons_mk (shut_int Try.underlying22 w0) (trodAll_cons_mk (Below.trod laidOut (by kernel_rfl) (of_decide_eq_true (by kernel_rfl)) k1 bel lt1) trodAll_mk0)), rfl, bel.frame _, fun h => by cases h⟩

theorem over : Rows.cellSwapsRow.holds Try.pinned (OpenSpec.ofChange Rows.cellSwapsSpec) :=
  OpenClaim.holds_of_wide 3 Try.f3 rfl rfl rfl rfl rfl rfl rfl ⟨rfl, rfl, rfl, rfl, rfl⟩ rfl rfl rfl rfl rfl (by kernel_rfl) Try.func3 (by kernel_rfl)
    (of_decide_eq_true (by kernel_rfl)) (by unfold Func.isWrapper; first | (rw [if_pos (by decide +kernel)]; kernel_rfl) | (rw [if_neg (by decide +kernel)]; exact ⟨rfl, rfl⟩))
    (fun os started H enc _ => lifted os started H enc)

/-- ████ THE STATEMENT ████ -/
theorem proved : Rows.CellSwapsSaid := over
#print axioms proved

end Go.Proofs.Ytdljacmagabilaa.cellSwaps
