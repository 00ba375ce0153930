/- model.Model's do, and New. -/
import Derived.Test.YtkimfejhgfnjoaaDoorModR
namespace Go.Proofs.YtkimfejhgfnjoaaDoor
open Go.RowKit
set_option linter.unusedVariables false
set_option linter.unusedSimpArgs false
variable {w : World} {lo hi b b1 b2 b3 : Nat} {s : Ms}

def DoPost (lo hi b b1 b2 b3 : Nat) (s : Ms) (k g m p : Int) (w : World) (e : Ending) (w' : World) : Prop :=
  e = .returned (.tuple #[]) ∧ Mp w' b b1 b2 b3 (doM s k g m p) ∧ OM lo hi w w'
theorem doM_two (g m p : Int) : doM s 2 g m p = { s with st := upf s.st g (evStep1 2), ru := upf s.ru m (some (g, p)), tk := upf s.tk p true, nr := s.nr + 1 } := rfl
theorem doM_leave {k : Int} (g m p : Int) (h : leavesB k = true) : doM s k g m p = { s with st := upf s.st g (evStep1 k.toNat), ru := upf s.ru m none, tk := upf s.tk p false, nr := s.nr - 1 } := by
  have h2 : k ≠ 2 := by intro e; subst e; revert h; decide
  unfold doM
  rw [if_neg h2, if_pos h]
theorem doM_come {k : Int} (g m p : Int) (h : leavesB k = false) (h2 : k ≠ 2) : doM s k g m p = { s with st := upf s.st g (evStep1 k.toNat) } := by
  unfold doM
  rw [if_neg h2, if_neg (by rw [h]; decide)]
set_option maxHeartbeats 8000000 in
theorem mdo (h : Mp w b b1 b2 b3 s) (hp : Ap lo hi b b1 b2 b3) (hh : hi ≤ w.heap.size) (T2 : EvNames w) (T3 : EvSteps w) (k : Nat) (hk : k < 8) (g m p v : Int)
    (h2 : k = 2 → s.ru m = none) (h3 : leavesB k = true → s.ru m ≠ none) :
    Calls Tryd.prog 26 #[.pointer (some ⟨b, 0, none⟩), .agg #[.int .i64 k, .int .i64 g, .int .i64 m, .int .i64 p, .int .i64 v]] w (DoPost lo hi b b1 b2 b3 s k g m p w) := by
  have hb := hid (bl_ad w (.cells #[.int .i64 k, .int .i64 g, .int .i64 m, .int .i64 p, .int .i64 v] 30))
  have ES := hid (esteps_in k g m p v _ (T2.at hb.out) (T3.at hb.out) hk)
  have LV := hid (fun w => leaves_any (k : Int) w)
  have HP := hid hp
  have HH := hid hh
  have H2 := hid h2
  have H3 := hid h3
  have MA := hid (h.below hb.out)
  have HN := hid (show ((k : Int)).toNat = k by omega)
  clear T2 T3 hp hh h h2 h3
  go_enter Tryd.func26, Tryd.ntmps26
  go_wp2_with fail
  refine (ES.out).mono ?_
  rintro e w3 ⟨rfl, hb3⟩
  have HB3 := hid (hb.out.trans (hb3.mono hb.out.size))
  have M3 := hid (MA.out.below hb3)
  have E3 := hid ((hb3.block w.heap.size (by simp)).trans (heap_alloc_new w (.cells #[.int .i64 k, .int .i64 g, .int .i64 m, .int .i64 p, .int .i64 v] 30)))
  obtain ⟨t, ht⟩ : ∃ t, t = evStep1 k := ⟨_, rfl⟩
  have HT := hid ht
  rw [← ht]
  clear hb3 ht hb ES MA
  have c3 : w3.drew.cell? ⟨b, 3, none⟩ = some (.map (some b1)) := cell_md M3.out.drew.box rfl
  have e1 : w3.drew.cell? ⟨w.heap.size, 1, none⟩ = some (.int .i64 g) := cell_md E3.out rfl
  obtain ⟨w4, r4, m4, o4⟩ := M3.out.drew.store1 HP.out g t
  have M4 := hid m4
  have hs3 : w.heap.size ≤ w3.heap.size := HB3.out.size
  have O4 := hid ((OM.of_below lo hi HB3.out).trans ((OM.of_below lo hi (bl_dr w3 _)).trans o4))
  have E4 := hid ((o4.block w.heap.size (by obtain ⟨hl, _⟩ := Array.getElem?_eq_some_iff.1 E3.out; exact hl) (.inr HH.out)).trans E3.out)
  clear m4 o4 hs3
  go_wp2_with fail
  go_region
  all_goals
    clear c3 e1 r4 M3 E3 HB3
    have f0 : w4.cell? ⟨w.heap.size, 0, none⟩ = some (.int .i64 k) := cell_md E4.out rfl
    by_cases hk2 : k = 2
    · subst hk2
      obtain ⟨w5, r5, m5, o5⟩ := M4.out.drew.store2 HP.out m g p (H2.out rfl)
      have c4 : w4.drew.cell? ⟨b, 4, none⟩ = some (.map (some b2)) := cell_md M4.out.drew.box rfl
      have f1 : w4.drew.cell? ⟨w.heap.size, 1, none⟩ = some (.int .i64 g) := cell_md E4.out rfl
      have f2 : w4.drew.cell? ⟨w.heap.size, 2, none⟩ = some (.int .i64 m) := cell_md E4.out rfl
      have f3 : w4.drew.cell? ⟨w.heap.size, 3, none⟩ = some (.int .i64 p) := cell_md E4.out rfl
      have M5 := hid m5
      have O5 := hid (O4.out.trans ((OM.of_below lo hi (bl_dr w4 _)).trans o5))
      have E5 := hid ((o5.block w.heap.size (by obtain ⟨hl, _⟩ := Array.getElem?_eq_some_iff.1 E4.out; exact hl) (.inr HH.out)).trans E4.out)
      clear m5 o5
      go_wp2_with fail
      go_region
      all_goals
        clear c4 f1 f2 f3 r5 f0
        obtain ⟨w6, r6, m6, o6⟩ := M5.out.drew.store3 HP.out p
        have c5 : w5.drew.cell? ⟨b, 5, none⟩ = some (.map (some b3)) := cell_md M5.out.drew.box rfl
        have f3 : w5.drew.cell? ⟨w.heap.size, 3, none⟩ = some (.int .i64 p) := cell_md E5.out rfl
        have M6 := hid m6
        have O6 := hid (O5.out.trans ((OM.of_below lo hi (bl_dr w5 _)).trans o6))
        clear m6 o6
        go_wp2_with fail
        go_region
        all_goals
          have HF := hid (show Mp w6 b b1 b2 b3 (doM s 2 g m p) by rw [doM_two, ← HT.out]; exact M6.out)
          clear c5 f3 r6
          go_wp2
          exact bodyPost_ret (results_none rfl _ _ _) rfl ⟨rfl, HF.out, O6.out⟩
    · have t2 : ((k : Int) == 2) = false := by simp; omega
      have hk2' : (k : Int) ≠ 2 := by omega
      have HK2 := hid hk2'
      clear hk2 hk2'
      by_cases hl : leavesB k = true
      · have HL := hid hl
        rw [hl] at LV
        clear hl
        go_wp2_with fail
        refine (LV.out _).mono ?_
        rintro e w9 ⟨rfl, rfl⟩
        obtain ⟨w5, r5, m5, o5⟩ := M4.out.drew.del2 HP.out m (H3.out HL.out) 0
        have c4 : w9.drew.cell? ⟨b, 4, none⟩ = some (.map (some b2)) := cell_md M4.out.drew.box rfl
        have f2 : w9.drew.cell? ⟨w.heap.size, 2, none⟩ = some (.int .i64 m) := cell_md E4.out rfl
        have M5 := hid m5
        have O5 := hid (O4.out.trans ((OM.of_below lo hi (bl_dr w9 _)).trans o5))
        have E5 := hid ((o5.block w.heap.size (by obtain ⟨hl, _⟩ := Array.getElem?_eq_some_iff.1 E4.out; exact hl) (.inr HH.out)).trans E4.out)
        clear m5 o5
        go_wp2_with fail
        go_region
        all_goals
          clear c4 f2 r5 f0
          obtain ⟨w6, r6, m6, o6⟩ := M5.out.drew.del3 HP.out p 0
          have c5 : w5.drew.cell? ⟨b, 5, none⟩ = some (.map (some b3)) := cell_md M5.out.drew.box rfl
          have f3 : w5.drew.cell? ⟨w.heap.size, 3, none⟩ = some (.int .i64 p) := cell_md E5.out rfl
          have M6 := hid m6
          have O6 := hid (O5.out.trans ((OM.of_below lo hi (bl_dr w5 _)).trans o6))
          clear m6 o6
          go_wp2_with fail
          go_region
          all_goals
            have HF := hid (show Mp w6 b b1 b2 b3 (doM s k g m p) by rw [doM_leave g m p HL.out, HN.out, ← HT.out]; exact M6.out)
            clear c5 f3 r6
            go_wp2
            exact bodyPost_ret (results_none rfl _ _ _) rfl ⟨rfl, HF.out, O6.out⟩
      · have hl' : leavesB k = false := by simpa using hl
        have HF := hid (show Mp w4 b b1 b2 b3 (doM s k g m p) by rw [doM_come g m p hl' HK2.out, HN.out, ← HT.out]; exact M4.out)
        rw [hl'] at LV
        clear hl hl'
        go_wp2_with fail
        refine (LV.out _).mono ?_
        rintro e w9 ⟨rfl, rfl⟩
        go_wp2
        exact bodyPost_ret (results_none rfl _ _ _) rfl ⟨rfl, HF.out, O4.out⟩
end Go.Proofs.YtkimfejhgfnjoaaDoor
