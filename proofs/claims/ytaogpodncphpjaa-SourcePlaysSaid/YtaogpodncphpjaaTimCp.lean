/- timer.New of any number; Timers.Copy, Of. -/
import Derived.Test.YtaogpodncphpjaaPre2
import Derived.Test.YtaogpodncphpjaaRef10F
import Derived.Test.YtaogpodncphpjaaHeapCp
namespace Go.Proofs.Ytaogpodncphpjaa
set_option linter.unusedVariables false
set_option linter.unusedSimpArgs false
open Go.RowKit Tk
set_option maxHeartbeats 8000000 in
theorem tnew_c (m : Int) (n : Nat) (hN : clampT m = (n : Int)) (w : World) : Calls Try.prog 19 #[.int .i64 m] w fun e w' => e = .returned (.pointer (some ⟨w.heap.size + 1, 0, none⟩)) ∧
    ∃ hb c hp, Tq (fun q => q < w.heap.size) w' (w.heap.size + 1) hb w.heap.size n c hp (fun _ => .slice none 0 0) (fun _ => []) (fun _ => false) 0 0 ∧ Below w.heap.size w w' := by
  have mk : ∀ T (w : World), (Instr.makeMap T none).run Try.prog w = .ok (.map (some w.heap.size)) (w.alloc (.map #[] 0)) := fun T w => rfl
  have S0 := hid (Nw.start w (fun _ => 0))
  have hcr := clampT_range m
  rw [hN] at hcr
  obtain ⟨hn, hn2⟩ := hcr
  unfold clampT at hN
  by_cases h1 : m < 1
  · rw [if_pos h1] at hN
    have KN := hid hN
    clear hN
    go_enter Try.func19, Try.ntmps19
    go_wp2_with fail
    clear mk
    obtain ⟨t, ht⟩ : ∃ x, x = w.heap.size + 1 := ⟨_, rfl⟩
    have HT := hid ht
    rw [← ht]
    clear ht
    go_loopw [10] (fun x wr => ∃ (i : Nat) (hp : Nat → Nat) (vr : Value), i ≤ n ∧ x = .int .i64 i ∧ Hid (Nw w hp vr i wr)) (fun x _ => n - (intOf x).toNat)
    case atStart => exact ⟨0, _, _, Nat.zero_le _, rfl, S0⟩
    case round =>
      clear S0
      obtain ⟨i, hp, vr, hi, rfl, F⟩ := hrel
      by_cases hlt : i < n
      · have tlt : decide ((i : Int) < 1) = true := decide_eq_true (by have := KN.out; omega)
        obtain ⟨i0, h0, hz0, hz1, hz2⟩ := info_parts infoHp2
        have c0 : wr.cell? ⟨t, 0, none⟩ = some vr := by rw [HT.out]; exact cell_ent F.out.box rfl
        have OWN := hid ((F.out.own.alloc (.cells #[.slice none 0 0] 100)).alloc (.cells #[.pointer (some ⟨wr.heap.size, 0, none⟩)] 97))
        have NB := hid (show ((wr.alloc (.cells #[.slice none 0 0] 100)).alloc (.cells #[.pointer (some ⟨wr.heap.size, 0, none⟩)] 97)).heap[wr.heap.size + 1]? = some (.cells #[.pointer (some ⟨wr.heap.size, 0, none⟩)] 97 (0, 0)) by
          have := Deep.blk_alloc_new (wr.alloc (.cells #[.slice none 0 0] 100)) (.cells #[.pointer (some ⟨wr.heap.size, 0, none⟩)] 97)
          rw [World.size_alloc] at this
          exact this)
        have B1 := hid (show i + 1 ≤ maxLen by unfold maxLen; omega)
        have B2 := hid (show (i + 1) * 8 ≤ 140737488355328 by omega)
        have B3 := hid (show w.heap.size + 2 ≤ ((wr.alloc (.cells #[.slice none 0 0] 100)).alloc (.cells #[.pointer (some ⟨wr.heap.size, 0, none⟩)] 97)).heap.size by
          have h1 := F.out.box
          obtain ⟨hl, _⟩ := Array.getElem?_eq_some_iff.1 h1
          simp; omega)
        go_wp2_with (at_builtin; refine wpList_append_lies _ rfl _ _ 94 rfl (w.heap.size + 2) 97 i0 (.pointer none) 1 8 Try.underlying94 h0 hz0 hz1 hz2 rfl (by decide) vr i _ rfl OWN.out ⟨wr.heap.size + 1, 0, none⟩ 1 1 [.pointer (some ⟨wr.heap.size, 0, none⟩)] rfl rfl (World.news_of_block (cs := #[.pointer (some ⟨wr.heap.size, 0, none⟩)]) (t := 97) (fr := (0, 0)) NB.out) (by simp [Value.oneCell']) (by omega) B1.out B2.out B3.out (wr.heap.size + 2) (by simp) ?_; intro gg cap w4 hown hgrow hat hl4; have F4 := hid (F.out.step hown hgrow hat hl4); obtain ⟨y0, f0⟩ := F.out.keep hgrow; rw [← HT.out] at y0 f0 F4; clear hown hgrow hat hl4 c0)
        go_roundw
        case rel => exact ⟨i + 1, _, _, by omega, by go_num, F4⟩
        case measure => simp [intOf]; omega
      · obtain rfl : i = n := by omega
        have tlt : decide ((i : Int) < 1) = false := decide_eq_false (by have := KN.out; omega)
        go_wp2
        go_ret
        exact ⟨(show Ending.returned (.pointer (some ⟨t, 0, none⟩)) = _ by rw [HT.out]), F.out.fin (by omega)⟩
  · rw [if_neg h1] at hN
    by_cases h2 : 64 < m
    · rw [if_pos h2] at hN
      have KN := hid hN
      clear hN
      go_enter Try.func19, Try.ntmps19
      go_wp2_with fail
      clear mk
      obtain ⟨t, ht⟩ : ∃ x, x = w.heap.size + 1 := ⟨_, rfl⟩
      have HT := hid ht
      rw [← ht]
      clear ht
      go_loopw [10] (fun x wr => ∃ (i : Nat) (hp : Nat → Nat) (vr : Value), i ≤ n ∧ x = .int .i64 i ∧ Hid (Nw w hp vr i wr)) (fun x _ => n - (intOf x).toNat)
      case atStart => exact ⟨0, _, _, Nat.zero_le _, rfl, S0⟩
      case round =>
        clear S0
        obtain ⟨i, hp, vr, hi, rfl, F⟩ := hrel
        by_cases hlt : i < n
        · have tlt : decide ((i : Int) < 64) = true := decide_eq_true (by have := KN.out; omega)
          obtain ⟨i0, h0, hz0, hz1, hz2⟩ := info_parts infoHp2
          have c0 : wr.cell? ⟨t, 0, none⟩ = some vr := by rw [HT.out]; exact cell_ent F.out.box rfl
          have OWN := hid ((F.out.own.alloc (.cells #[.slice none 0 0] 100)).alloc (.cells #[.pointer (some ⟨wr.heap.size, 0, none⟩)] 97))
          have NB := hid (show ((wr.alloc (.cells #[.slice none 0 0] 100)).alloc (.cells #[.pointer (some ⟨wr.heap.size, 0, none⟩)] 97)).heap[wr.heap.size + 1]? = some (.cells #[.pointer (some ⟨wr.heap.size, 0, none⟩)] 97 (0, 0)) by
            have := Deep.blk_alloc_new (wr.alloc (.cells #[.slice none 0 0] 100)) (.cells #[.pointer (some ⟨wr.heap.size, 0, none⟩)] 97)
            rw [World.size_alloc] at this
            exact this)
          have B1 := hid (show i + 1 ≤ maxLen by unfold maxLen; omega)
          have B2 := hid (show (i + 1) * 8 ≤ 140737488355328 by omega)
          have B3 := hid (show w.heap.size + 2 ≤ ((wr.alloc (.cells #[.slice none 0 0] 100)).alloc (.cells #[.pointer (some ⟨wr.heap.size, 0, none⟩)] 97)).heap.size by
            have h1 := F.out.box
            obtain ⟨hl, _⟩ := Array.getElem?_eq_some_iff.1 h1
            simp; omega)
          go_wp2_with (at_builtin; refine wpList_append_lies _ rfl _ _ 94 rfl (w.heap.size + 2) 97 i0 (.pointer none) 1 8 Try.underlying94 h0 hz0 hz1 hz2 rfl (by decide) vr i _ rfl OWN.out ⟨wr.heap.size + 1, 0, none⟩ 1 1 [.pointer (some ⟨wr.heap.size, 0, none⟩)] rfl rfl (World.news_of_block (cs := #[.pointer (some ⟨wr.heap.size, 0, none⟩)]) (t := 97) (fr := (0, 0)) NB.out) (by simp [Value.oneCell']) (by omega) B1.out B2.out B3.out (wr.heap.size + 2) (by simp) ?_; intro gg cap w4 hown hgrow hat hl4; have F4 := hid (F.out.step hown hgrow hat hl4); obtain ⟨y0, f0⟩ := F.out.keep hgrow; rw [← HT.out] at y0 f0 F4; clear hown hgrow hat hl4 c0)
          go_roundw
          case rel => exact ⟨i + 1, _, _, by omega, by go_num, F4⟩
          case measure => simp [intOf]; omega
        · obtain rfl : i = n := by omega
          have tlt : decide ((i : Int) < 64) = false := decide_eq_false (by have := KN.out; omega)
          go_wp2
          go_ret
          exact ⟨(show Ending.returned (.pointer (some ⟨t, 0, none⟩)) = _ by rw [HT.out]), F.out.fin (by omega)⟩
    · rw [if_neg h2] at hN
      have KN := hid hN
      clear hN
      go_enter Try.func19, Try.ntmps19
      go_wp2_with fail
      clear mk
      obtain ⟨t, ht⟩ : ∃ x, x = w.heap.size + 1 := ⟨_, rfl⟩
      have HT := hid ht
      rw [← ht]
      clear ht
      go_loopw [10] (fun x wr => ∃ (i : Nat) (hp : Nat → Nat) (vr : Value), i ≤ n ∧ x = .int .i64 i ∧ Hid (Nw w hp vr i wr)) (fun x _ => n - (intOf x).toNat)
      case atStart => exact ⟨0, _, _, Nat.zero_le _, rfl, S0⟩
      case round =>
        clear S0
        obtain ⟨i, hp, vr, hi, rfl, F⟩ := hrel
        by_cases hlt : i < n
        · have tlt : decide ((i : Int) < m) = true := decide_eq_true (by have := KN.out; omega)
          obtain ⟨i0, h0, hz0, hz1, hz2⟩ := info_parts infoHp2
          have c0 : wr.cell? ⟨t, 0, none⟩ = some vr := by rw [HT.out]; exact cell_ent F.out.box rfl
          have OWN := hid ((F.out.own.alloc (.cells #[.slice none 0 0] 100)).alloc (.cells #[.pointer (some ⟨wr.heap.size, 0, none⟩)] 97))
          have NB := hid (show ((wr.alloc (.cells #[.slice none 0 0] 100)).alloc (.cells #[.pointer (some ⟨wr.heap.size, 0, none⟩)] 97)).heap[wr.heap.size + 1]? = some (.cells #[.pointer (some ⟨wr.heap.size, 0, none⟩)] 97 (0, 0)) by
            have := Deep.blk_alloc_new (wr.alloc (.cells #[.slice none 0 0] 100)) (.cells #[.pointer (some ⟨wr.heap.size, 0, none⟩)] 97)
            rw [World.size_alloc] at this
            exact this)
          have B1 := hid (show i + 1 ≤ maxLen by unfold maxLen; omega)
          have B2 := hid (show (i + 1) * 8 ≤ 140737488355328 by omega)
          have B3 := hid (show w.heap.size + 2 ≤ ((wr.alloc (.cells #[.slice none 0 0] 100)).alloc (.cells #[.pointer (some ⟨wr.heap.size, 0, none⟩)] 97)).heap.size by
            have h1 := F.out.box
            obtain ⟨hl, _⟩ := Array.getElem?_eq_some_iff.1 h1
            simp; omega)
          go_wp2_with (at_builtin; refine wpList_append_lies _ rfl _ _ 94 rfl (w.heap.size + 2) 97 i0 (.pointer none) 1 8 Try.underlying94 h0 hz0 hz1 hz2 rfl (by decide) vr i _ rfl OWN.out ⟨wr.heap.size + 1, 0, none⟩ 1 1 [.pointer (some ⟨wr.heap.size, 0, none⟩)] rfl rfl (World.news_of_block (cs := #[.pointer (some ⟨wr.heap.size, 0, none⟩)]) (t := 97) (fr := (0, 0)) NB.out) (by simp [Value.oneCell']) (by omega) B1.out B2.out B3.out (wr.heap.size + 2) (by simp) ?_; intro gg cap w4 hown hgrow hat hl4; have F4 := hid (F.out.step hown hgrow hat hl4); obtain ⟨y0, f0⟩ := F.out.keep hgrow; rw [← HT.out] at y0 f0 F4; clear hown hgrow hat hl4 c0)
          go_roundw
          case rel => exact ⟨i + 1, _, _, by omega, by go_num, F4⟩
          case measure => simp [intOf]; omega
        · obtain rfl : i = n := by omega
          have tlt : decide ((i : Int) < m) = false := decide_eq_false (by have := KN.out; omega)
          go_wp2
          go_ret
          exact ⟨(show Ending.returned (.pointer (some ⟨t, 0, none⟩)) = _ by rw [HT.out]), F.out.fin (by omega)⟩
end Go.Proofs.Ytaogpodncphpjaa
