/- The contracts of package ring, continued: Put, Ready, Len, Next, Streak, Steal, Get. -/
import Derived.Test.YtpmggkngakdkhaaRing3
namespace Go.Proofs.Ytpmggkngakdkhaa
set_option linter.unusedVariables false
set_option linter.unusedSimpArgs false
open Go.RowKit

/-- What Put tells, and leaves. -/
def putT (xs : List Int) (g : Int) : List Int := if xs.length < 256 then [] else xs.take 128 ++ [g]
def putL (xs : List Int) (g : Int) : List Int := if xs.length < 256 then xs ++ [g] else xs.drop 128
theorem Rg.only {w w' : World} {p q : Nat} {xs : List Int} {nx : Int} {hs : Bool} {st : Int} (H : Rg w p xs nx hs st) {r : Option Nat} (ho : OnlyO q r w w') (h1 : p ≠ q) (h2 : some p ≠ r) : Rg w' p xs nx hs st := H.kept (ho.block p H.lt h1 h2)
theorem RTold.before {p : Nat} {ys xs : List Int} {nx : Int} {hs : Bool} {st : Int} {w w1 : World} {e : Ending} {w' : World} (h : RTold p ys xs nx hs st w1 e w') (ho : OnlyO p none w w1) : RTold p ys xs nx hs st w e w' := by
  obtain ⟨v, he, h1, h2, h3⟩ := h
  exact ⟨v, he, h1.mono ho.size, h2, ho.trans h3 (.inl rfl)⟩

set_option maxHeartbeats 2000000 in
theorem put_r (p : Nat) (xs : List Int) (nx : Int) (hs : Bool) (st g : Int) (w : World) (H : Rg w p xs nx hs st) :
    Calls Try.prog 30 #[.pointer (some ⟨p, 0, none⟩), .int .i64 g] w (RTold p (putT xs g) (putL xs g) nx hs st w) := by
  rcases Nat.lt_or_ge xs.length 256 with h | h
  · have e1 : putT xs g = [] := by simp [putT, h]
    have e2 : putL xs g = xs ++ [g] := by simp [putL, h]
    rw [e1, e2]
    have C := hid (push_any p xs nx hs st g w H h)
    clear H e1 e2
    go_enter Try.func30, Try.ntmps30
    go_wp2_with fail
    refine C.out.mono ?_
    rintro e w2 ⟨rfl, hr, ho⟩
    have FIN : Hid (RTold p [] (xs ++ [g]) nx hs st w (.returned (.slice none 0 0)) w2) := ⟨_, rfl, owns_nil _ _, hr, ho⟩
    clear hr ho
    go_wp2
    go_ret
    exact FIN.out
  · have hle := H.le
    have hl : xs.length = 256 := by omega
    have e1 : putT xs g = xs.take 128 ++ [g] := by simp [putT, hl]
    have e2 : putL xs g = xs.drop 128 := by simp [putL, hl]
    rw [e1, e2]
    have C := hid (push_full p xs nx hs st g w H hl)
    have D := hid (half_r p xs nx hs st w H)
    have e3 : (xs.length + 1) / 2 = 128 := by omega
    rw [e3] at D
    have HL := hid (show (xs.take 128).length = 128 by rw [List.length_take]; omega)
    have hplt := H.lt
    clear H e1 e2 e3 hl h hle
    go_enter Try.func30, Try.ntmps30
    go_wp2_with fail
    refine C.out.mono ?_
    rintro e w2 ⟨rfl, rfl⟩
    go_wp2_with fail
    refine D.out.mono ?_
    rintro e w2 ⟨v, rfl, ho, hr, hx⟩
    have hown : w2.ownsRow w.heap.size 3 1 v 128 ((xs.take 128).map (Value.int .i64)) := by
      have := ho; unfold Owns at this; rwa [HL.out] at this
    obtain ⟨va, vc, rfl⟩ := ownsRow_slice hown
    have hs2 := hx.size
    have HAL := hid (hown.alloc (.cells #[.int .i64 g] 3))
    have HR := hid hr
    have HX := hid hx
    obtain ⟨i0, hi, hz0, hz1, hz2⟩ := info_parts infoInt
    have HI := hid hi
    have HZ0 := hid hz0
    have HZ1 := hid hz1
    have HZ2 := hid hz2
    have B1 := hid (show 128 + 1 ≤ maxLen by unfold maxLen; omega)
    have B2 := hid (show (128 + 1) * 8 ≤ 140737488355328 by omega)
    have B3 := hid (show w.heap.size ≤ (w2.alloc (.cells #[.int .i64 g] 3)).heap.size by simp; omega)
    clear ho hr hx hown hi hz0 hz1 hz2
    go_wp2_with (at_builtin; refine wpList_append_own_at _ rfl _ _ 22 rfl w.heap.size 3 i0 (.int .i64 0) 1 8 Try.underlying22 HI.out HZ0.out HZ1.out HZ2.out rfl (by decide) _ _ _ rfl HAL.out ⟨w2.heap.size, 0, none⟩ 1 1 [.int .i64 g] rfl rfl (cell_one_new _ _ _) (ones_of [g]) B1.out B2.out B3.out ?_)
    intro v' w6 hown6 hgrow _ _
    have hlt6 := HAL.out.lt
    have hpa : p < (w2.alloc (.cells #[.int .i64 g] 3)).heap.size := by simp; have := HR.out.lt; omega
    have FIN : Hid (RTold p (xs.take 128 ++ [g]) (xs.drop 128) nx hs st w (.returned v') w6) := ⟨_, rfl, by
        unfold Owns
        rw [List.length_append, HL.out, List.map_append]; simpa using hown6,
      (HR.out.below ((Below.refl w2.heap.size w2).alloc (Nat.le_refl _) (.cells #[.int .i64 g] 3))).kept (hgrow.block p hpa (fun e => by have := (hlt6 p e.symm).1; omega)),
      (HX.out.trans (.of_below ((Below.refl _ _).alloc (Nat.le_refl _) (.cells #[.int .i64 g] 3))) (.inl rfl)).beyond ((Below.refl w.heap.size _).grown hgrow (by simp; omega) (fun q hq => (hlt6 q hq).1))⟩
    obtain ⟨va', vc', rfl⟩ := ownsRow_slice hown6
    clear hown6 hgrow hlt6 hpa HAL
    go_wp2
    go_ret
    exact FIN.out

theorem set_ready {p : Nat} {xs : List Int} {nx : Int} {hs : Bool} {st : Int} {w : World} (H : Rg w p xs nx hs st) (g : Int) : Rg ((w.setCell ⟨p, 258, none⟩ (.int .i64 g)).setCell ⟨p, 259, none⟩ (.bool true)) p xs g true st := by
  obtain ⟨A, h, H0, hx⟩ := H.ex
  exact ⟨⟨A, h, (H0.set_next g).set_has true, hx⟩⟩
theorem set_streak {p : Nat} {xs : List Int} {nx : Int} {hs : Bool} {st : Int} {w : World} (H : Rg w p xs nx hs st) (g : Int) : Rg (w.setCell ⟨p, 260, none⟩ (.int .i64 g)) p xs nx hs g := by
  obtain ⟨A, h, H0, hx⟩ := H.ex
  exact ⟨⟨A, h, H0.set_streak g, hx⟩⟩

set_option maxHeartbeats 2000000 in
theorem ready_no (p : Nat) (xs : List Int) (nx : Int) (st g : Int) (w : World) (H : Rg w p xs nx false st) :
    Calls Try.prog 31 #[.pointer (some ⟨p, 0, none⟩), .int .i64 g] w (RTold p [] xs g true st w) := by
  obtain ⟨A, h, H0, hx⟩ := H.ex
  have c1 := H0.c258
  have c2 := H0.c259
  have f1 := H0.frz 258
  have f2 := H0.frz 259
  have HN := hid (fun (w2 : World) (hq : Quiet w w2) => set_ready (H.quiet hq) g)
  clear H H0 hx
  go_enter Try.func31, Try.ntmps31
  go_wp2_with fail
  go_quiet (fail)
  all_goals
    go_wp2
    go_ret
    exact ⟨_, rfl, owns_nil _ _, (HN.out _ (Quiet.refl _)).quiet ⟨_, rfl⟩, (OnlyO.set2 _).trans (OnlyO.quiet ⟨_, rfl⟩) (.inl rfl)⟩

set_option maxHeartbeats 2000000 in
theorem ready_yes (p : Nat) (xs : List Int) (nx : Int) (st g : Int) (w : World) (H : Rg w p xs nx true st) :
    Calls Try.prog 31 #[.pointer (some ⟨p, 0, none⟩), .int .i64 g] w (RTold p (putT xs nx) (putL xs nx) g true st w) := by
  obtain ⟨A, h, H0, hx⟩ := H.ex
  have c1 := H0.c258
  have c2 := H0.c259
  have f1 := H0.frz 258
  have f2 := H0.frz 259
  have HN := hid (set_ready H g)
  clear H H0 hx
  go_enter Try.func31, Try.ntmps31
  go_wp2_with fail
  go_quiet (fail)
  all_goals
    go_wp2_with fail
    refine (put_r p xs g true st nx _ (HN.out.quiet ⟨_, rfl⟩)).mono ?_
    rintro e w2 ht
    have FIN := hid (ht.before ((OnlyO.set2 w).trans (OnlyO.quiet ⟨_, rfl⟩) (.inl rfl)))
    obtain ⟨v, rfl, ho, _⟩ := ht
    obtain ⟨va, vm, vc, rfl⟩ := ho.slice3
    clear ho
    go_wp2
    go_ret
    exact FIN.out

set_option maxHeartbeats 1000000 in
theorem len_r (p : Nat) (xs : List Int) (nx : Int) (hs : Bool) (st : Int) (w : World) (H : Rg w p xs nx hs st) (n : Int) (hn : n = xs.length + if hs then 1 else 0) :
    Calls Try.prog 26 #[.pointer (some ⟨p, 0, none⟩)] w fun e w' => e = .returned (.int .i64 n) ∧ w = w' := by
  obtain ⟨A, h, H0, hx⟩ := H.ex
  have hle := H.le
  obtain ⟨m, hm⟩ : ∃ m, m = xs.length := ⟨_, rfl⟩
  have c1 := H0.c259
  have c2 := H0.c257
  rw [← hm] at c2 hn hle
  have HN := hid hn
  clear H H0 hx hm hn
  cases hs
  all_goals
    go_enter Try.func26, Try.ntmps26
    go_wp2
    go_ret
    refine ⟨ret_i ?_, rfl⟩
    have := HN.out
    simp at this
    omega

set_option maxHeartbeats 1000000 in
theorem next_r (p : Nat) (xs : List Int) (nx : Int) (hs : Bool) (st : Int) (w : World) (H : Rg w p xs nx hs st) :
    Calls Try.prog 24 #[.pointer (some ⟨p, 0, none⟩)] w fun e w' => e = .returned (.tuple #[.int .i64 nx, .bool hs]) ∧ Quiet w w' := by
  obtain ⟨A, h, H0, hx⟩ := H.ex
  have c1 := H0.c259
  have c2 := H0.c258
  clear H H0 hx
  go_enter Try.func24, Try.ntmps24
  go_wp2_with fail
  go_quiet (fail)
  all_goals
    go_wp2
    go_ret2
    exact ⟨rfl, ⟨_, rfl⟩⟩

set_option maxHeartbeats 1000000 in
theorem streak_r (p : Nat) (xs : List Int) (nx : Int) (hs : Bool) (st : Int) (w : World) (H : Rg w p xs nx hs st) :
    Calls Try.prog 28 #[.pointer (some ⟨p, 0, none⟩)] w fun e w' => e = .returned (.int .i64 st) ∧ w = w' := by
  obtain ⟨A, h, H0, hx⟩ := H.ex
  have c1 := H0.c260
  clear H H0 hx
  go_enter Try.func28, Try.ntmps28
  go_wp2
  go_ret
  exact ⟨rfl, rfl⟩

set_option maxHeartbeats 2000000 in
theorem steal_row (p : Nat) (xs : List Int) (nx : Int) (hs : Bool) (st : Int) (w : World) (H : Rg w p xs nx hs st) (h0 : 0 < xs.length) :
    Calls Try.prog 34 #[.pointer (some ⟨p, 0, none⟩)] w (RTold p (xs.take ((xs.length + 1) / 2)) (xs.drop ((xs.length + 1) / 2)) nx hs st w) := by
  obtain ⟨A, h, H0, hx⟩ := H.ex
  have c2 := H0.c257
  have C := hid (half_r p xs nx hs st w H)
  obtain ⟨m, hm⟩ : ∃ m, m = xs.length := ⟨_, rfl⟩
  rw [← hm] at c2 h0
  clear H H0 hx hm
  go_enter Try.func34, Try.ntmps34
  go_wp2_with fail
  refine C.out.mono ?_
  rintro e w2 ht
  have FIN := hid ht
  obtain ⟨v, rfl, ho, _⟩ := ht
  obtain ⟨va, vm, vc, rfl⟩ := ho.slice3
  clear ho
  go_wp2
  go_ret
  exact FIN.out
set_option maxHeartbeats 2000000 in
theorem steal_none (p : Nat) (nx : Int) (st : Int) (w : World) (H : Rg w p [] nx false st) :
    Calls Try.prog 34 #[.pointer (some ⟨p, 0, none⟩)] w (RTold p [] [] nx false st w) := by
  obtain ⟨A, h, H0, hx⟩ := H.ex
  have c1 := H0.c259
  have c2 : w.cell? ⟨p, 257, none⟩ = some (.int .i64 0) := H0.c257
  have HH := hid H
  clear H H0 hx
  go_enter Try.func34, Try.ntmps34
  go_wp2
  go_ret
  exact ⟨_, rfl, owns_nil _ _, HH.out, OnlyO.refl _ _ _⟩
set_option maxHeartbeats 2000000 in
theorem steal_next (p : Nat) (nx : Int) (st : Int) (w : World) (H : Rg w p [] nx true st) :
    Calls Try.prog 34 #[.pointer (some ⟨p, 0, none⟩)] w (RTold p [nx] [] 0 false 0 w) := by
  obtain ⟨A, h, H0, hx⟩ := H.ex
  have c1 := H0.c259
  have c2 : w.cell? ⟨p, 257, none⟩ = some (.int .i64 0) := H0.c257
  have c3 := H0.c260
  have f3 := H0.frz 260
  have HH := hid (set_streak H 0)
  clear H H0 hx
  go_enter Try.func34, Try.ntmps34
  go_wp2_with fail
  refine (takeNext_any p [] nx true 0 _ HH.out).mono ?_
  rintro e w2 ⟨rfl, hr, ho⟩
  have HR := hid hr
  have HO := hid (show OnlyO p none w w2 from (OnlyO.set w 260 _).trans ho (.inl rfl))
  clear hr ho
  go_wp2
  go_ret
  refine ⟨_, rfl, ?_, HR.out.below ((Below.refl _ _).alloc (Nat.le_refl _) _), HO.out.trans (.of_below ((Below.refl _ _).alloc (Nat.le_refl _) _)) (.inl rfl)⟩
  exact ⟨rfl, .inr ⟨w2.heap.size, 1, _, rfl, HO.out.size, Deep.blk_alloc_new _ _, Nat.le_refl _, by unfold maxLen; omega, rfl, rfl⟩⟩

/-- What Get answers, and leaves. -/
def GPost (p : Nat) (g : Int) (b : Bool) (xs : List Int) (nx : Int) (hs : Bool) (st : Int) (w : World) (e : Ending) (w' : World) : Prop := e = .returned (.tuple #[.int .i64 g, .bool b]) ∧ Rg w' p xs nx hs st ∧ OnlyO p none w w'
set_option maxHeartbeats 2000000 in
theorem get_last (p : Nat) (nx : Int) (st : Int) (w : World) (H : Rg w p [] nx true st) :
    Calls Try.prog 35 #[.pointer (some ⟨p, 0, none⟩)] w (GPost p nx true [] 0 false 0 w) := by
  obtain ⟨A, h, H0, hx⟩ := H.ex
  have c1 := H0.c259
  have c2 : w.cell? ⟨p, 257, none⟩ = some (.int .i64 0) := H0.c257
  have c3 := H0.c260
  have f3 := H0.frz 260
  have HH := hid (set_streak H 0)
  clear H H0 hx
  go_enter Try.func35, Try.ntmps35
  go_wp2_with fail
  refine (takeNext_any p [] nx true 0 _ HH.out).mono ?_
  rintro e w2 ⟨rfl, hr, ho⟩
  have FIN : Hid (GPost p nx true [] 0 false 0 w (.returned (.tuple #[.int .i64 nx, .bool true])) w2) := ⟨rfl, hr, (OnlyO.set w 260 _).trans ho (.inl rfl)⟩
  clear hr ho
  go_wp2
  go_ret2
  exact FIN.out
set_option maxHeartbeats 2000000 in
theorem get_inherit (p : Nat) (xs : List Int) (nx : Int) (st : Int) (w : World) (H : Rg w p xs nx true st) (h0 : 0 < xs.length) (hs0 : 0 ≤ st) (hs4 : st < 4) :
    Calls Try.prog 35 #[.pointer (some ⟨p, 0, none⟩)] w (GPost p nx true xs 0 false (st + 1) w) := by
  obtain ⟨A, h, H0, hx⟩ := H.ex
  have c1 := H0.c259
  have c2 := H0.c257
  obtain ⟨m, hm⟩ : ∃ m, m = xs.length := ⟨_, rfl⟩
  rw [← hm] at c2 h0
  have c3 := H0.c260
  have f3 := H0.frz 260
  have HH := hid (set_streak H (st + 1))
  clear H H0 hx hm
  go_enter Try.func35, Try.ntmps35
  go_wp2_with fail
  refine (takeNext_any p xs nx true (st + 1) _ HH.out).mono ?_
  rintro e w2 ⟨rfl, hr, ho⟩
  have FIN : Hid (GPost p nx true xs 0 false (st + 1) w (.returned (.tuple #[.int .i64 nx, .bool true])) w2) := ⟨rfl, hr, (OnlyO.set w 260 _).trans ho (.inl rfl)⟩
  clear hr ho
  go_wp2
  go_ret2
  exact FIN.out
set_option maxHeartbeats 2000000 in
theorem get_none (p : Nat) (nx : Int) (st : Int) (w : World) (H : Rg w p [] nx false st) :
    Calls Try.prog 35 #[.pointer (some ⟨p, 0, none⟩)] w (GPost p 0 false [] nx false st w) := by
  obtain ⟨A, h, H0, hx⟩ := H.ex
  have c1 := H0.c259
  have c2 : w.cell? ⟨p, 257, none⟩ = some (.int .i64 0) := H0.c257
  have FIN : Hid (GPost p 0 false [] nx false st w (.returned (.tuple #[.int .i64 0, .bool false])) w) := ⟨rfl, H, OnlyO.refl _ _ _⟩
  clear H H0 hx
  go_enter Try.func35, Try.ntmps35
  go_wp2
  go_ret2
  exact FIN.out
set_option maxHeartbeats 2000000 in
theorem get_row_no (p : Nat) (x : Int) (xs : List Int) (nx : Int) (st : Int) (w : World) (H : Rg w p (x :: xs) nx false st) :
    Calls Try.prog 35 #[.pointer (some ⟨p, 0, none⟩)] w (GPost p x true xs nx false 0 w) := by
  obtain ⟨A, h, H0, hx⟩ := H.ex
  have c1 := H0.c259
  have c2 := H0.c257
  obtain ⟨m, hm⟩ : ∃ m, m = (x :: xs).length := ⟨_, rfl⟩
  rw [← hm] at c2
  have hm0 : 0 < m := by rw [hm]; simp
  have C := hid (pop_any p x xs nx false st w H)
  clear H H0 hx hm
  go_enter Try.func35, Try.ntmps35
  go_wp2_with fail
  refine C.out.mono ?_
  rintro e w2 ⟨rfl, hr, ho⟩
  obtain ⟨A2, h2, H2, _⟩ := hr.ex
  have d1 := H2.c259
  have d3 := H2.c260
  have f3 := H2.frz 260
  have FIN : Hid (GPost p x true xs nx false 0 w (.returned (.tuple #[.int .i64 x, .bool true])) (w2.setCell ⟨p, 260, none⟩ (.int .i64 0))) := ⟨rfl, set_streak hr 0, ho.trans (OnlyO.set w2 260 _) (.inl rfl)⟩
  clear hr ho H2
  go_wp2
  go_ret2
  exact FIN.out
set_option maxHeartbeats 2000000 in
theorem get_row_yes (p : Nat) (x : Int) (xs : List Int) (nx : Int) (st : Int) (w : World) (H : Rg w p (x :: xs) nx true st) (h4 : 4 ≤ st) :
    Calls Try.prog 35 #[.pointer (some ⟨p, 0, none⟩)] w (GPost p x true (xs ++ [nx]) 0 false 0 w) := by
  obtain ⟨A, h, H0, hx⟩ := H.ex
  have c1 := H0.c259
  have c2 := H0.c257
  have c3 := H0.c260
  have hle := H.le
  obtain ⟨m, hm⟩ : ∃ m, m = (x :: xs).length := ⟨_, rfl⟩
  rw [← hm] at c2
  have hm0 : 0 < m := by rw [hm]; simp
  have hxl : xs.length < 256 := by rw [List.length_cons] at hle; omega
  have HXL := hid hxl
  have C := hid (pop_any p x xs nx true st w H)
  clear H H0 hx hm hle hxl
  go_enter Try.func35, Try.ntmps35
  go_wp2_with fail
  refine C.out.mono ?_
  rintro e w2 ⟨rfl, hr, ho⟩
  obtain ⟨A2, h2, H2, _⟩ := hr.ex
  have d1 := H2.c259
  have d3 := H2.c260
  have f3 := H2.frz 260
  have HR := hid (set_streak hr 0)
  have HO := hid (show OnlyO p none w (w2.setCell ⟨p, 260, none⟩ (.int .i64 0)) from ho.trans (OnlyO.set w2 260 _) (.inl rfl))
  clear hr ho H2
  go_wp2_with fail
  refine (takeNext_any p xs nx true 0 _ HR.out).mono ?_
  rintro e w3 ⟨rfl, hr3, ho3⟩
  have HR3 := hid hr3
  have HO3 := hid (HO.out.trans ho3 (.inl rfl))
  clear hr3 ho3
  go_wp2_with fail
  refine (push_any p xs 0 false 0 nx _ HR3.out HXL.out).mono ?_
  rintro e w4 ⟨rfl, hr4, ho4⟩
  have FIN : Hid (GPost p x true (xs ++ [nx]) 0 false 0 w (.returned (.tuple #[.int .i64 x, .bool true])) w4) := ⟨rfl, hr4, HO3.out.trans ho4 (.inl rfl)⟩
  clear hr4 ho4
  go_wp2
  go_ret2
  exact FIN.out
end Go.Proofs.Ytpmggkngakdkhaa
