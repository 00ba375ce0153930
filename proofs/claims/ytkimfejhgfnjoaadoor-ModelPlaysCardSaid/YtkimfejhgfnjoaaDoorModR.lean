/- What model.Model's methods that only read answer. -/
import Derived.Test.YtkimfejhgfnjoaaDoorMod
import Derived.Deep.QuietTactic
import Derived.BigQuiet
namespace Go.Proofs.YtkimfejhgfnjoaaDoor
open Go.RowKit
set_option linter.unusedVariables false
set_option linter.unusedSimpArgs false

theorem cell_md {w : World} {p i : Nat} {cs : Array Value} {t : TypeId} {v : Value} (h : w.heap[p]? = some (.cells cs t (0, 0))) (hi : cs[i]? = some v) : w.cell? ⟨p, i, none⟩ = some v := by
  simp [World.cell?, h, hi]
theorem bl_ad (w : World) (o : Obj) : Below w.heap.size w (w.alloc o) := (Below.refl _ _).alloc (Nat.le_refl _) _
theorem bl_dr (w : World) (B : Nat) : Below B w w.drew := Quiet.below ⟨1, rfl⟩ _
variable {w : World} {b b1 b2 b3 : Nat} {s : Ms}
set_option maxHeartbeats 4000000 in
theorem mstatus (h : Mp w b b1 b2 b3 s) (a : Int) : Calls Tryd.prog 10 #[.pointer (some ⟨b, 0, none⟩), .int .i64 a] w fun e w' => e = .returned (.int .u64 (s.st a)) ∧ w' = w := by
  have c3 : w.cell? ⟨b, 3, none⟩ = some (.map (some b1)) := cell_md h.box rfl
  have L := h.look1 a
  clear h
  go_enter Tryd.func10, Tryd.ntmps10
  go_wp2
  go_ret
  exact ⟨rfl, rfl⟩
set_option maxHeartbeats 4000000 in
theorem mrunning (h : Mp w b b1 b2 b3 s) : Calls Tryd.prog 13 #[.pointer (some ⟨b, 0, none⟩)] w fun e w' => e = .returned (.int .i64 s.nr) ∧ w' = w := by
  have c4 : w.cell? ⟨b, 4, none⟩ = some (.map (some b2)) := cell_md h.box rfl
  have L := h.len2
  clear h
  go_enter Tryd.func13, Tryd.ntmps13
  go_wp2
  go_ret
  exact ⟨rfl, rfl⟩
theorem comes_any (k : Int) (w : World) : Calls Tryd.prog 29 #[.int .i64 k] w fun e w' => e = .returned (.bool (comesB k)) ∧ w' = w := by
  unfold comesB
  by_cases h0 : k = 0
  · subst h0
    go_enter Tryd.func29, Tryd.ntmps29
    go_wp2
    go_ret
    exact ⟨rfl, rfl⟩
  · have t0 : (k == 0) = false := by simpa using h0
    have d0 : decide (k = 0) = false := by simpa using h0
    rw [d0]
    by_cases h1 : k = 1
    · subst h1
      clear h0 d0
      go_enter Tryd.func29, Tryd.ntmps29
      go_wp2
      go_ret
      exact ⟨rfl, rfl⟩
    · have t1 : (k == 1) = false := by simpa using h1
      have d1 : decide (k = 1) = false := by simpa using h1
      rw [d1]
      clear h0 h1 d0 d1
      go_enter Tryd.func29, Tryd.ntmps29
      go_wp2
      go_ret
      exact ⟨rfl, rfl⟩
theorem leaves_any (k : Int) (w : World) : Calls Tryd.prog 24 #[.int .i64 k] w fun e w' => e = .returned (.bool (leavesB k)) ∧ w' = w := by
  have CO := hid (fun w => comes_any k w)
  unfold leavesB
  obtain ⟨c, hc⟩ : ∃ c, c = comesB k := ⟨_, rfl⟩
  rw [← hc] at CO ⊢
  clear hc
  cases c
  · by_cases h2 : k = 2
    · have t2 : (k != 2) = false := by simp [h2]
      have d2 : decide (k = 2) = true := by simp [h2]
      rw [d2]
      clear h2 d2
      go_enter Tryd.func24, Tryd.ntmps24
      go_wp2_with fail
      refine (CO.out _).mono ?_
      rintro e w2 ⟨rfl, rfl⟩
      go_wp2
      go_ret
      exact ⟨rfl, rfl⟩
    · have t2 : (k != 2) = true := by simp [h2]
      have d2 : decide (k = 2) = false := by simp [h2]
      rw [d2]
      clear h2 d2
      go_enter Tryd.func24, Tryd.ntmps24
      go_wp2_with fail
      refine (CO.out _).mono ?_
      rintro e w2 ⟨rfl, rfl⟩
      go_wp2
      go_ret
      exact ⟨rfl, rfl⟩
  · go_enter Tryd.func24, Tryd.ntmps24
    go_wp2_with fail
    refine (CO.out _).mono ?_
    rintro e w2 ⟨rfl, rfl⟩
    go_wp2
    go_ret
    exact ⟨rfl, rfl⟩
def runsV (x : Option (Int × Int)) : Value := .tuple #[.int .i64 (x.getD (0, 0)).1, .int .i64 (x.getD (0, 0)).2, .bool x.isSome]
set_option maxHeartbeats 4000000 in
theorem mruns (h : Mp w b b1 b2 b3 s) (a : Int) : Calls Tryd.prog 11 #[.pointer (some ⟨b, 0, none⟩), .int .i64 a] w fun e w' => e = .returned (runsV (s.ru a)) ∧ Below w.heap.size w w' := by
  have c4 : w.cell? ⟨b, 4, none⟩ = some (.map (some b2)) := cell_md h.box rfl
  have L := h.look2 a
  unfold runsV
  generalize ((s.ru a).getD (0, 0)).1 = x at L ⊢
  generalize ((s.ru a).getD (0, 0)).2 = y at L ⊢
  generalize (s.ru a).isSome = z at L ⊢
  have hb := hid ((Below.refl w.heap.size w).alloc (Nat.le_refl _) (.cells #[.int .i64 x, .int .i64 y] 64))
  clear h
  go_enter Tryd.func11, Tryd.ntmps11
  go_wp2_with fail
  go_quiet (fail)
  go_wp2
  exact bodyPost_ret (v := .tuple #[.int .i64 x, .int .i64 y, .bool z]) (by simp [results, Tryd.results11, go_sem]) rfl ⟨rfl, hb.out.trans (Quiet.below ((Quiet.refl _).drewN _) _)⟩
def evAgg (k g m p v : Int) : Value := .agg #[.int .i64 k, .int .i64 g, .int .i64 m, .int .i64 p, .int .i64 v]
theorem Mp.drew {w : World} {b b1 b2 b3 : Nat} {s : Ms} (h : Mp w b b1 b2 b3 s) : Mp w.drew b b1 b2 b3 s := h.below (Quiet.below ⟨1, rfl⟩ _)
set_option maxHeartbeats 4000000 in
theorem mtaken (h : Mp w b b1 b2 b3 s) (k g m p v : Int) :
    Calls Tryd.prog 23 #[.pointer (some ⟨b, 0, none⟩), .agg #[.int .i64 k, .int .i64 g, .int .i64 m, .int .i64 p, .int .i64 v]] w fun e w' => e = .returned (.bool (takenB s m p)) ∧ Below w.heap.size w w' := by
  have hb := hid ((Below.refl w.heap.size w).alloc (Nat.le_refl _) (.cells #[.int .i64 k, .int .i64 g, .int .i64 m, .int .i64 p, .int .i64 v] 30))
  have HA := hid (h.below hb.out)
  have HB := hid (fun o => HA.out.below ((Below.refl _ _).alloc (Nat.le_refl _) o))
  have c4 : (w.alloc (.cells #[.int .i64 k, .int .i64 g, .int .i64 m, .int .i64 p, .int .i64 v] 30)).drew.cell? ⟨b, 4, none⟩ = some (.map (some b2)) := cell_md HA.out.drew.box rfl
  have d4 : ((w.alloc (.cells #[.int .i64 k, .int .i64 g, .int .i64 m, .int .i64 p, .int .i64 v] 30)).alloc (.cells #[.int .i64 0, .int .i64 0] 64)).drew.cell? ⟨b, 4, none⟩ = some (.map (some b2)) := cell_md (HB.out _).drew.box rfl
  have L := HA.out.drew.look2 m
  have L2 := (HB.out (.cells #[.int .i64 0, .int .i64 0] 64)).drew.look2 m
  unfold takenB
  generalize ((s.ru m).getD (0, 0)).1 = x at L L2
  generalize ((s.ru m).getD (0, 0)).2 = y at L L2
  generalize (s.ru m).isSome = z at L L2 ⊢
  have MZ := hid ((HB.out (.cells #[.int .i64 x, .int .i64 y] 64)).drew)
  obtain ⟨t, ht⟩ : ∃ t, t = s.tk p := ⟨_, rfl⟩
  have HT := hid ht
  rw [← ht]
  clear h ht
  go_enter Tryd.func23, Tryd.ntmps23
  go_wp2_with fail
  go_region
  all_goals
    have hB1 := hid ((bl_ad _ (.cells #[.int .i64 x, .int .i64 y] 64)).trans (bl_dr _ _) : Below (w.alloc (.cells #[.int .i64 k, .int .i64 g, .int .i64 m, .int .i64 p, .int .i64 v] 30)).heap.size _ _)
    have hB2 := hid (hb.out.trans (hB1.out.mono hb.out.size))
    have e3 := cell_md (i := 3) (v := .int .i64 p) ((hB1.out.block _ (by simp)).trans (heap_alloc_new w (.cells #[.int .i64 k, .int .i64 g, .int .i64 m, .int .i64 p, .int .i64 v] 30))) rfl
    clear L L2 c4 d4 hb HA HB hB1
    obtain ⟨Y, hY⟩ : ∃ Y, Y = ((w.alloc (.cells #[.int .i64 k, .int .i64 g, .int .i64 m, .int .i64 p, .int .i64 v] 30)).alloc (.cells #[.int .i64 x, .int .i64 y] 64)).drew := ⟨_, rfl⟩
    rw [← hY] at MZ hB2 e3 ⊢
    clear hY
    cases z
    · have c5 : Y.cell? ⟨b, 5, none⟩ = some (.map (some b3)) := cell_md MZ.out.box rfl
      have L3 := fun n => (MZ.out.below (Quiet.below ⟨n, rfl⟩ _)).look3 p
      rw [← HT.out] at L3
      go_wp2_with fail
      go_quiet (fail)
      go_wp2
      go_ret
      exact ⟨rfl, hB2.out.trans (Quiet.below ((Quiet.refl _).drewN _) _)⟩
    · go_wp2_with fail
      go_quiet (fail)
      go_wp2
      go_ret
      exact ⟨rfl, hB2.out.trans (Quiet.below ((Quiet.refl _).drewN _) _)⟩
set_option maxHeartbeats 4000000 in
theorem msteps (h : Mp w b b1 b2 b3 s) (T2 : EvNames w) (T3 : EvSteps w) (k : Nat) (hk : k < 8) (g m p v : Int) :
    Calls Tryd.prog 22 #[.pointer (some ⟨b, 0, none⟩), .agg #[.int .i64 k, .int .i64 g, .int .i64 m, .int .i64 p, .int .i64 v]] w fun e w' => e = .returned (.bool (stepsB s k g)) ∧ Below w.heap.size w w' := by
  have hb := hid ((Below.refl w.heap.size w).alloc (Nat.le_refl _) (.cells #[.int .i64 k, .int .i64 g, .int .i64 m, .int .i64 p, .int .i64 v] 30))
  have ST := hid (mstatus (h.below hb.out) g)
  have ES := hid (esteps_in k g m p v _ (T2.at hb.out) (T3.at hb.out) hk)
  unfold stepsB
  obtain ⟨x, hx⟩ : ∃ x, x = s.st g := ⟨_, rfl⟩
  rw [← hx] at ST ⊢
  clear hx h T2 T3 hk
  by_cases h1 : (k : Int) = 1
  · rw [if_pos h1]
    have t1 : ((k : Int) == 1) = true := by simp [h1]
    clear h1
    by_cases h3 : x = 3
    · subst h3
      go_enter Tryd.func22, Tryd.ntmps22
      go_wp2_with fail
      refine (ST.out).mono ?_
      rintro e w2 ⟨rfl, rfl⟩
      go_wp2
      go_ret
      exact ⟨rfl, hb.out⟩
    · have t3 : (x == 3) = false := by simpa using h3
      have d3 : decide (x = 3) = false := by simpa using h3
      rw [d3]
      clear h3 d3
      by_cases h4 : x = 4
      · subst h4
        go_enter Tryd.func22, Tryd.ntmps22
        go_wp2_with fail
        refine (ST.out).mono ?_
        rintro e w2 ⟨rfl, rfl⟩
        go_wp2
        go_ret
        exact ⟨rfl, hb.out⟩
      · have t4 : (x == 4) = false := by simpa using h4
        have d4 : decide (x = 4) = false := by simpa using h4
        rw [d4]
        clear h4 d4
        have HE := hid (show decide (x = 5) = (x == 5) from rfl)
        go_enter Tryd.func22, Tryd.ntmps22
        go_wp2_with fail
        refine (ST.out).mono ?_
        rintro e w2 ⟨rfl, rfl⟩
        go_wp2
        go_ret
        exact ⟨rfl, hb.out⟩
  · rw [if_neg h1]
    have t1 : ((k : Int) == 1) = false := by simpa using h1
    have hk2 : ((k : Int)).toNat = k := by omega
    rw [hk2]
    clear h1 hk2
    obtain ⟨y, hy⟩ : ∃ y, y = evStep0 k := ⟨_, rfl⟩
    rw [← hy] at ES ⊢
    clear hy
    go_enter Tryd.func22, Tryd.ntmps22
    go_wp2_with fail
    refine (ST.out).mono ?_
    rintro e w2 ⟨rfl, rfl⟩
    go_wp2_with fail
    refine (ES.out).mono ?_
    rintro e w3 ⟨rfl, hb3⟩
    have HB := hid (hb.out.trans (hb3.mono hb.out.size))
    clear hb3
    go_wp2
    go_ret
    exact ⟨rfl, HB.out⟩
end Go.Proofs.YtkimfejhgfnjoaaDoor
