/- What other texts are built of: Ring4, Ring5, Big, Mach, Mach2, Eis, Text, Flat, Right, Event, Wo0, MachG, Mc, WoA, WoB. -/
import Derived.Test.YtlahamkbkeckmaaGreatDoorPre1
import Derived.Deep.RegionWith
import Derived.Deep.RegionHeld3
import Derived.Deep.AppendLies
import Derived.IntWalk
import Derived.Deep.WholeRow
import Derived.Laws.Rows
import Derived.BigFrame
import Derived.WideShapes
import Derived.OpenShut
import Derived.ChangeSame
import Derived.Deep.CutRange
/-! The contracts of package ring, continued: Put, Ready, Len, Next, Streak, Steal, Get. -/
namespace Go.Proofs.YtlahamkbkeckmaaGreatDoor
set_option linter.unusedVariables false
set_option linter.unusedSimpArgs false
open Go.RowKit

/-- What Put tells, and leaves. -/
def putT (xs : List Int) (g : Int) : List Int := if xs.length < 256 then [] else xs.take 128 ++ [g]
def putL (xs : List Int) (g : Int) : List Int := if xs.length < 256 then xs ++ [g] else xs.drop 128
theorem Rg.only {w w' : World} {p q : Nat} {xs : List Int} {nx : Int} {hs : Bool} {st : Int} (H : Rg w p xs nx hs st) {r : Option Nat} (ho : OnlyO q r w w') (h1 : p ≠ q) (h2 : some p ≠ r) : Rg w' p xs nx hs st := H.kept (ho.block p H.lt h1 h2)
theorem RTold.before {p : Nat} {ys xs : List Int} {nx : Int} {hs : Bool} {st : Int} {w w1 : World} {e : Ending} {w' : World} (h : RTold p ys xs nx hs st w1 e w') (ho : OnlyO p none w w1) : RTold p ys xs nx hs st w e w' := by
  obtain ⟨v, he, h1, h2, h3⟩ := h
  exact ⟨v, he, h1.mono ho.size, h2, ho.trans h3 (.inl rfl)⟩

set_option maxHeartbeats 2000000 in
theorem put_r (p : Nat) (xs : List Int) (nx : Int) (hs : Bool) (st g : Int) (w : World) (H : Rg w p xs nx hs st) :
    Calls Tryz.prog 161 #[.pointer (some ⟨p, 0, none⟩), .int .i64 g] w (RTold p (putT xs g) (putL xs g) nx hs st w) := by
  rcases Nat.lt_or_ge xs.length 256 with h | h
  · have e1 : putT xs g = [] := by simp [putT, h]
    have e2 : putL xs g = xs ++ [g] := by simp [putL, h]
    rw [e1, e2]
    have C := hid (push_any p xs nx hs st g w H h)
    clear H e1 e2
    go_enter Tryz.func161, Tryz.ntmps161
    go_wp2_with fail
    refine C.out.mono ?_
    rintro e w2 ⟨rfl, hr, ho⟩
    have FIN : Hid (RTold p [] (xs ++ [g]) nx hs st w (.returned (.slice none 0 0)) w2) := ⟨_, rfl, owns_nil _ _, hr, ho⟩
    clear hr ho
    go_wp2
    go_ret
    exact FIN.out
  · have hle := H.le
    have hl : xs.length = 256 := by omega
    have e1 : putT xs g = xs.take 128 ++ [g] := by simp [putT, hl]
    have e2 : putL xs g = xs.drop 128 := by simp [putL, hl]
    rw [e1, e2]
    have C := hid (push_full p xs nx hs st g w H hl)
    have D := hid (half_r p xs nx hs st w H)
    have e3 : (xs.length + 1) / 2 = 128 := by omega
    rw [e3] at D
    have HL := hid (show (xs.take 128).length = 128 by rw [List.length_take]; omega)
    have hplt := H.lt
    clear H e1 e2 e3 hl h hle
    go_enter Tryz.func161, Tryz.ntmps161
    go_wp2_with fail
    refine C.out.mono ?_
    rintro e w2 ⟨rfl, rfl⟩
    go_wp2_with fail
    refine D.out.mono ?_
    rintro e w2 ⟨v, rfl, ho, hr, hx⟩
    have hown : w2.ownsRow w.heap.size 3 1 v 128 ((xs.take 128).map (Value.int .i64)) := by
      have := ho; unfold Owns at this; rwa [HL.out] at this
    obtain ⟨va, vc, rfl⟩ := ownsRow_slice hown
    have hs2 := hx.size
    have HAL := hid (hown.alloc (.cells #[.int .i64 g] 3))
    have HR := hid hr
    have HX := hid hx
    obtain ⟨i0, hi, hz0, hz1, hz2⟩ := info_parts infoInt
    have HI := hid hi
    have HZ0 := hid hz0
    have HZ1 := hid hz1
    have HZ2 := hid hz2
    have B1 := hid (show 128 + 1 ≤ maxLen by unfold maxLen; omega)
    have B2 := hid (show (128 + 1) * 8 ≤ 140737488355328 by omega)
    have B3 := hid (show w.heap.size ≤ (w2.alloc (.cells #[.int .i64 g] 3)).heap.size by simp; omega)
    clear ho hr hx hown hi hz0 hz1 hz2
    go_wp2_with (at_builtin; refine wpList_append_own_at _ rfl _ _ 25 rfl w.heap.size 3 i0 (.int .i64 0) 1 8 Tryz.underlying25 HI.out HZ0.out HZ1.out HZ2.out rfl (by decide) _ _ _ rfl HAL.out ⟨w2.heap.size, 0, none⟩ 1 1 [.int .i64 g] rfl rfl (cell_one_new _ _ _) (ones_of [g]) B1.out B2.out B3.out ?_)
    intro v' w6 hown6 hgrow _ _
    have hlt6 := HAL.out.lt
    have hpa : p < (w2.alloc (.cells #[.int .i64 g] 3)).heap.size := by simp; have := HR.out.lt; omega
    have FIN : Hid (RTold p (xs.take 128 ++ [g]) (xs.drop 128) nx hs st w (.returned v') w6) := ⟨_, rfl, by
        unfold Owns
        rw [List.length_append, HL.out, List.map_append]; simpa using hown6,
      (HR.out.below ((Below.refl w2.heap.size w2).alloc (Nat.le_refl _) (.cells #[.int .i64 g] 3))).kept (hgrow.block p hpa (fun e => by have := (hlt6 p e.symm).1; omega)),
      (HX.out.trans (.of_below ((Below.refl _ _).alloc (Nat.le_refl _) (.cells #[.int .i64 g] 3))) (.inl rfl)).beyond ((Below.refl w.heap.size _).grown hgrow (by simp; omega) (fun q hq => (hlt6 q hq).1))⟩
    obtain ⟨va', vc', rfl⟩ := ownsRow_slice hown6
    clear hown6 hgrow hlt6 hpa HAL
    go_wp2
    go_ret
    exact FIN.out

theorem set_ready {p : Nat} {xs : List Int} {nx : Int} {hs : Bool} {st : Int} {w : World} (H : Rg w p xs nx hs st) (g : Int) : Rg ((w.setCell ⟨p, 258, none⟩ (.int .i64 g)).setCell ⟨p, 259, none⟩ (.bool true)) p xs g true st := by
  obtain ⟨A, h, H0, hx⟩ := H.ex
  exact ⟨⟨A, h, (H0.set_next g).set_has true, hx⟩⟩
theorem set_streak {p : Nat} {xs : List Int} {nx : Int} {hs : Bool} {st : Int} {w : World} (H : Rg w p xs nx hs st) (g : Int) : Rg (w.setCell ⟨p, 260, none⟩ (.int .i64 g)) p xs nx hs g := by
  obtain ⟨A, h, H0, hx⟩ := H.ex
  exact ⟨⟨A, h, H0.set_streak g, hx⟩⟩

set_option maxHeartbeats 2000000 in
theorem ready_no (p : Nat) (xs : List Int) (nx : Int) (st g : Int) (w : World) (H : Rg w p xs nx false st) :
    Calls Tryz.prog 147 #[.pointer (some ⟨p, 0, none⟩), .int .i64 g] w (RTold p [] xs g true st w) := by
  obtain ⟨A, h, H0, hx⟩ := H.ex
  have c1 := H0.c258
  have c2 := H0.c259
  have f1 := H0.frz 258
  have f2 := H0.frz 259
  have HN := hid (fun (w2 : World) (hq : Quiet w w2) => set_ready (H.quiet hq) g)
  clear H H0 hx
  go_enter Tryz.func147, Tryz.ntmps147
  go_wp2_with fail
  go_quiet (fail)
  all_goals
    go_wp2
    go_ret
    exact ⟨_, rfl, owns_nil _ _, (HN.out _ (Quiet.refl _)).quiet ⟨_, rfl⟩, (OnlyO.set2 _).trans (OnlyO.quiet ⟨_, rfl⟩) (.inl rfl)⟩

set_option maxHeartbeats 2000000 in
theorem ready_yes (p : Nat) (xs : List Int) (nx : Int) (st g : Int) (w : World) (H : Rg w p xs nx true st) :
    Calls Tryz.prog 147 #[.pointer (some ⟨p, 0, none⟩), .int .i64 g] w (RTold p (putT xs nx) (putL xs nx) g true st w) := by
  obtain ⟨A, h, H0, hx⟩ := H.ex
  have c1 := H0.c258
  have c2 := H0.c259
  have f1 := H0.frz 258
  have f2 := H0.frz 259
  have HN := hid (set_ready H g)
  clear H H0 hx
  go_enter Tryz.func147, Tryz.ntmps147
  go_wp2_with fail
  go_quiet (fail)
  all_goals
    go_wp2_with fail
    refine (put_r p xs g true st nx _ (HN.out.quiet ⟨_, rfl⟩)).mono ?_
    rintro e w2 ht
    have FIN := hid (ht.before ((OnlyO.set2 w).trans (OnlyO.quiet ⟨_, rfl⟩) (.inl rfl)))
    obtain ⟨v, rfl, ho, _⟩ := ht
    obtain ⟨va, vm, vc, rfl⟩ := ho.slice3
    clear ho
    go_wp2
    go_ret
    exact FIN.out

set_option maxHeartbeats 1000000 in
theorem len_r (p : Nat) (xs : List Int) (nx : Int) (hs : Bool) (st : Int) (w : World) (H : Rg w p xs nx hs st) (n : Int) (hn : n = xs.length + if hs then 1 else 0) :
    Calls Tryz.prog 106 #[.pointer (some ⟨p, 0, none⟩)] w fun e w' => e = .returned (.int .i64 n) ∧ w = w' := by
  obtain ⟨A, h, H0, hx⟩ := H.ex
  have hle := H.le
  obtain ⟨m, hm⟩ : ∃ m, m = xs.length := ⟨_, rfl⟩
  have c1 := H0.c259
  have c2 := H0.c257
  rw [← hm] at c2 hn hle
  have HN := hid hn
  clear H H0 hx hm hn
  cases hs
  all_goals
    go_enter Tryz.func106, Tryz.ntmps106
    go_wp2
    go_ret
    refine ⟨ret_i ?_, rfl⟩
    have := HN.out
    simp at this
    omega

set_option maxHeartbeats 2000000 in
theorem steal_row (p : Nat) (xs : List Int) (nx : Int) (hs : Bool) (st : Int) (w : World) (H : Rg w p xs nx hs st) (h0 : 0 < xs.length) :
    Calls Tryz.prog 104 #[.pointer (some ⟨p, 0, none⟩)] w (RTold p (xs.take ((xs.length + 1) / 2)) (xs.drop ((xs.length + 1) / 2)) nx hs st w) := by
  obtain ⟨A, h, H0, hx⟩ := H.ex
  have c2 := H0.c257
  have C := hid (half_r p xs nx hs st w H)
  obtain ⟨m, hm⟩ : ∃ m, m = xs.length := ⟨_, rfl⟩
  rw [← hm] at c2 h0
  clear H H0 hx hm
  go_enter Tryz.func104, Tryz.ntmps104
  go_wp2_with fail
  refine C.out.mono ?_
  rintro e w2 ht
  have FIN := hid ht
  obtain ⟨v, rfl, ho, _⟩ := ht
  obtain ⟨va, vm, vc, rfl⟩ := ho.slice3
  clear ho
  go_wp2
  go_ret
  exact FIN.out
set_option maxHeartbeats 2000000 in
theorem steal_none (p : Nat) (nx : Int) (st : Int) (w : World) (H : Rg w p [] nx false st) :
    Calls Tryz.prog 104 #[.pointer (some ⟨p, 0, none⟩)] w (RTold p [] [] nx false st w) := by
  obtain ⟨A, h, H0, hx⟩ := H.ex
  have c1 := H0.c259
  have c2 : w.cell? ⟨p, 257, none⟩ = some (.int .i64 0) := H0.c257
  have HH := hid H
  clear H H0 hx
  go_enter Tryz.func104, Tryz.ntmps104
  go_wp2
  go_ret
  exact ⟨_, rfl, owns_nil _ _, HH.out, OnlyO.refl _ _ _⟩
set_option maxHeartbeats 2000000 in
theorem steal_next (p : Nat) (nx : Int) (st : Int) (w : World) (H : Rg w p [] nx true st) :
    Calls Tryz.prog 104 #[.pointer (some ⟨p, 0, none⟩)] w (RTold p [nx] [] 0 false 0 w) := by
  obtain ⟨A, h, H0, hx⟩ := H.ex
  have c1 := H0.c259
  have c2 : w.cell? ⟨p, 257, none⟩ = some (.int .i64 0) := H0.c257
  have c3 := H0.c260
  have f3 := H0.frz 260
  have HH := hid (set_streak H 0)
  clear H H0 hx
  go_enter Tryz.func104, Tryz.ntmps104
  go_wp2_with fail
  refine (takeNext_any p [] nx true 0 _ HH.out).mono ?_
  rintro e w2 ⟨rfl, hr, ho⟩
  have HR := hid hr
  have HO := hid (show OnlyO p none w w2 from (OnlyO.set w 260 _).trans ho (.inl rfl))
  clear hr ho
  go_wp2
  go_ret
  refine ⟨_, rfl, ?_, HR.out.below ((Below.refl _ _).alloc (Nat.le_refl _) _), HO.out.trans (.of_below ((Below.refl _ _).alloc (Nat.le_refl _) _)) (.inl rfl)⟩
  exact ⟨rfl, .inr ⟨w2.heap.size, 1, _, rfl, HO.out.size, Deep.blk_alloc_new _ _, Nat.le_refl _, by unfold maxLen; omega, rfl, rfl⟩⟩

/-- What Get answers, and leaves. -/
def GPost (p : Nat) (g : Int) (b : Bool) (xs : List Int) (nx : Int) (hs : Bool) (st : Int) (w : World) (e : Ending) (w' : World) : Prop := e = .returned (.tuple #[.int .i64 g, .bool b]) ∧ Rg w' p xs nx hs st ∧ OnlyO p none w w'
set_option maxHeartbeats 2000000 in
theorem get_last (p : Nat) (nx : Int) (st : Int) (w : World) (H : Rg w p [] nx true st) :
    Calls Tryz.prog 101 #[.pointer (some ⟨p, 0, none⟩)] w (GPost p nx true [] 0 false 0 w) := by
  obtain ⟨A, h, H0, hx⟩ := H.ex
  have c1 := H0.c259
  have c2 : w.cell? ⟨p, 257, none⟩ = some (.int .i64 0) := H0.c257
  have c3 := H0.c260
  have f3 := H0.frz 260
  have HH := hid (set_streak H 0)
  clear H H0 hx
  go_enter Tryz.func101, Tryz.ntmps101
  go_wp2_with fail
  refine (takeNext_any p [] nx true 0 _ HH.out).mono ?_
  rintro e w2 ⟨rfl, hr, ho⟩
  have FIN : Hid (GPost p nx true [] 0 false 0 w (.returned (.tuple #[.int .i64 nx, .bool true])) w2) := ⟨rfl, hr, (OnlyO.set w 260 _).trans ho (.inl rfl)⟩
  clear hr ho
  go_wp2
  go_ret2
  exact FIN.out
set_option maxHeartbeats 2000000 in
theorem get_inherit (p : Nat) (xs : List Int) (nx : Int) (st : Int) (w : World) (H : Rg w p xs nx true st) (h0 : 0 < xs.length) (hs0 : 0 ≤ st) (hs4 : st < 4) :
    Calls Tryz.prog 101 #[.pointer (some ⟨p, 0, none⟩)] w (GPost p nx true xs 0 false (st + 1) w) := by
  obtain ⟨A, h, H0, hx⟩ := H.ex
  have c1 := H0.c259
  have c2 := H0.c257
  obtain ⟨m, hm⟩ : ∃ m, m = xs.length := ⟨_, rfl⟩
  rw [← hm] at c2 h0
  have c3 := H0.c260
  have f3 := H0.frz 260
  have HH := hid (set_streak H (st + 1))
  clear H H0 hx hm
  go_enter Tryz.func101, Tryz.ntmps101
  go_wp2_with fail
  refine (takeNext_any p xs nx true (st + 1) _ HH.out).mono ?_
  rintro e w2 ⟨rfl, hr, ho⟩
  have FIN : Hid (GPost p nx true xs 0 false (st + 1) w (.returned (.tuple #[.int .i64 nx, .bool true])) w2) := ⟨rfl, hr, (OnlyO.set w 260 _).trans ho (.inl rfl)⟩
  clear hr ho
  go_wp2
  go_ret2
  exact FIN.out
set_option maxHeartbeats 2000000 in
theorem get_none (p : Nat) (nx : Int) (st : Int) (w : World) (H : Rg w p [] nx false st) :
    Calls Tryz.prog 101 #[.pointer (some ⟨p, 0, none⟩)] w (GPost p 0 false [] nx false st w) := by
  obtain ⟨A, h, H0, hx⟩ := H.ex
  have c1 := H0.c259
  have c2 : w.cell? ⟨p, 257, none⟩ = some (.int .i64 0) := H0.c257
  have FIN : Hid (GPost p 0 false [] nx false st w (.returned (.tuple #[.int .i64 0, .bool false])) w) := ⟨rfl, H, OnlyO.refl _ _ _⟩
  clear H H0 hx
  go_enter Tryz.func101, Tryz.ntmps101
  go_wp2
  go_ret2
  exact FIN.out
set_option maxHeartbeats 2000000 in
theorem get_row_no (p : Nat) (x : Int) (xs : List Int) (nx : Int) (st : Int) (w : World) (H : Rg w p (x :: xs) nx false st) :
    Calls Tryz.prog 101 #[.pointer (some ⟨p, 0, none⟩)] w (GPost p x true xs nx false 0 w) := by
  obtain ⟨A, h, H0, hx⟩ := H.ex
  have c1 := H0.c259
  have c2 := H0.c257
  obtain ⟨m, hm⟩ : ∃ m, m = (x :: xs).length := ⟨_, rfl⟩
  rw [← hm] at c2
  have hm0 : 0 < m := by rw [hm]; simp
  have C := hid (pop_any p x xs nx false st w H)
  clear H H0 hx hm
  go_enter Tryz.func101, Tryz.ntmps101
  go_wp2_with fail
  refine C.out.mono ?_
  rintro e w2 ⟨rfl, hr, ho⟩
  obtain ⟨A2, h2, H2, _⟩ := hr.ex
  have d1 := H2.c259
  have d3 := H2.c260
  have f3 := H2.frz 260
  have FIN : Hid (GPost p x true xs nx false 0 w (.returned (.tuple #[.int .i64 x, .bool true])) (w2.setCell ⟨p, 260, none⟩ (.int .i64 0))) := ⟨rfl, set_streak hr 0, ho.trans (OnlyO.set w2 260 _) (.inl rfl)⟩
  clear hr ho H2
  go_wp2
  go_ret2
  exact FIN.out
set_option maxHeartbeats 2000000 in
theorem get_row_yes (p : Nat) (x : Int) (xs : List Int) (nx : Int) (st : Int) (w : World) (H : Rg w p (x :: xs) nx true st) (h4 : 4 ≤ st) :
    Calls Tryz.prog 101 #[.pointer (some ⟨p, 0, none⟩)] w (GPost p x true (xs ++ [nx]) 0 false 0 w) := by
  obtain ⟨A, h, H0, hx⟩ := H.ex
  have c1 := H0.c259
  have c2 := H0.c257
  have c3 := H0.c260
  have hle := H.le
  obtain ⟨m, hm⟩ : ∃ m, m = (x :: xs).length := ⟨_, rfl⟩
  rw [← hm] at c2
  have hm0 : 0 < m := by rw [hm]; simp
  have hxl : xs.length < 256 := by rw [List.length_cons] at hle; omega
  have HXL := hid hxl
  have C := hid (pop_any p x xs nx true st w H)
  clear H H0 hx hm hle hxl
  go_enter Tryz.func101, Tryz.ntmps101
  go_wp2_with fail
  refine C.out.mono ?_
  rintro e w2 ⟨rfl, hr, ho⟩
  obtain ⟨A2, h2, H2, _⟩ := hr.ex
  have d1 := H2.c259
  have d3 := H2.c260
  have f3 := H2.frz 260
  have HR := hid (set_streak hr 0)
  have HO := hid (show OnlyO p none w (w2.setCell ⟨p, 260, none⟩ (.int .i64 0)) from ho.trans (OnlyO.set w2 260 _) (.inl rfl))
  clear hr ho H2
  go_wp2_with fail
  refine (takeNext_any p xs nx true 0 _ HR.out).mono ?_
  rintro e w3 ⟨rfl, hr3, ho3⟩
  have HR3 := hid hr3
  have HO3 := hid (HO.out.trans ho3 (.inl rfl))
  clear hr3 ho3
  go_wp2_with fail
  refine (push_any p xs 0 false 0 nx _ HR3.out HXL.out).mono ?_
  rintro e w4 ⟨rfl, hr4, ho4⟩
  have FIN : Hid (GPost p x true (xs ++ [nx]) 0 false 0 w (.returned (.tuple #[.int .i64 x, .bool true])) w4) := ⟨rfl, hr4, HO3.out.trans ho4 (.inl rfl)⟩
  clear hr4 ho4
  go_wp2
  go_ret2
  exact FIN.out
end Go.Proofs.YtlahamkbkeckmaaGreatDoor
/-! The contracts of package ring, continued: New, PutAll, List; the law's row. -/
namespace Go.Proofs.YtlahamkbkeckmaaGreatDoor
set_option linter.unusedVariables false
set_option linter.unusedSimpArgs false
open Go.RowKit

/-- A new ring. -/
def RNew (w : World) (e : Ending) (w' : World) : Prop := ∃ p, e = .returned (.pointer (some ⟨p, 0, none⟩)) ∧ Rg w' p [] 0 false 0 ∧ w.heap.size ≤ p ∧ Below w.heap.size w w'
theorem get_rep (n : Nat) (v : Value) (l : List Value) : (∀ i, i < n → (List.replicate n v ++ l).toArray[i]? = some v) ∧ ∀ i, (List.replicate n v ++ l).toArray[n + i]? = l[i]? := by
  refine ⟨fun i hi => ?_, fun i => ?_⟩
  · rw [List.getElem?_toArray, List.getElem?_append_left (by simp; omega), List.getElem?_replicate, if_pos hi]
  · rw [List.getElem?_toArray, List.getElem?_append_right (by simp)]
    simp
theorem zero_is : Tryz.zeroCells141 = (List.replicate 256 (Value.int .i64 0) ++ ([.int .i64 0, .int .i64 0, .int .i64 0, .bool false, .int .i64 0] : List Value)).toArray := by kernel_rfl
theorem rg_zero (w : World) : Rg (w.alloc (.cells Tryz.zeroCells141 141)) w.heap.size [] 0 false 0 := by
  rw [zero_is]
  exact ⟨⟨fun _ => 0, 0, ⟨⟨_, Deep.blk_alloc_new _ _, (get_rep _ _ _).1, (get_rep 256 _ _).2 0, (get_rep 256 _ _).2 1, (get_rep 256 _ _).2 2, (get_rep 256 _ _).2 3, (get_rep 256 _ _).2 4⟩, by omega, by simp, fun cs t fr hc => by
    rw [Deep.blk_alloc_new] at hc
    simp only [Option.some.injEq, Obj.cells.injEq] at hc
    rw [← hc.1, List.size_toArray, List.length_append, List.length_replicate]; rfl⟩, fun i h => by simp at h⟩⟩
set_option maxRecDepth 100000 in
set_option maxHeartbeats 1000000 in
theorem new_r (w : World) : Calls Tryz.prog 35 #[] w (RNew w) := by
  go_enter Tryz.func35, Tryz.ntmps35
  go_wp2
  go_ret
  exact ⟨w.heap.size, rfl, rg_zero w, Nat.le_refl _, (Below.refl _ _).alloc (Nat.le_refl _) _⟩

/-- The law's row of numbers. -/
def row6L (f : Int) (n : Nat) : List Int := (List.range n).map fun (i : Nat) => f + (i : Int)
theorem row6_succ (f : Int) (n : Nat) : row6L f (n + 1) = row6L f n ++ [f + (n : Int)] := by simp [row6L, List.range_succ]
theorem row6_length (f : Int) (n : Nat) : (row6L f n).length = n := by simp [row6L]
theorem row6_fin {w wr : World} {f : Int} {k : Nat} {v : Value} (h : wr.ownsRow w.heap.size 3 1 v k ((row6L f k).map (Value.int .i64))) (hb : Below w.heap.size w wr) : ClonePost (row6L f k) w (.returned v) wr :=
  ⟨_, rfl, by unfold Owns; rw [row6_length]; exact h, hb⟩
set_option maxHeartbeats 4000000 in
theorem putall_r (p : Nat) (xs ys : List Int) (v : Value) (nx : Int) (hs : Bool) (st : Int) (w : World) (H : Rg w p xs nx hs st) (hy : Stay w p none v ys) (hyl : ys.length ≤ 100000) :
    Calls Tryz.prog 146 #[.pointer (some ⟨p, 0, none⟩), v] w (RTold p (ys.drop (256 - xs.length)) (xs ++ ys.take (256 - xs.length)) nx hs st w) := by
  obtain ⟨a1, c1, rfl, hcap, _⟩ := hy.rd
  obtain ⟨n, hn⟩ : ∃ n, n = ys.length := ⟨_, rfl⟩
  have hle := H.le
  have HN := hid hn
  have HY := hid hy
  have HR := hid H
  have hcm := hcap.2.1
  unfold maxLen at hcm
  have hcm2 := hcm
  have hnc := hcap.1
  rw [← hn] at hyl HY hnc ⊢
  obtain ⟨l, hl⟩ : ∃ l, l = xs.length := ⟨_, rfl⟩
  have HL := hid hl
  rw [← hl] at hle
  rw [← hl]
  clear H hy hn hcap hl
  go_enter Tryz.func146, Tryz.ntmps146
  go_wp2_with fail
  go_loopw [9] (fun i wr => ∃ (j : Nat), j ≤ n ∧ l + j ≤ 256 ∧ i = .int .i64 j ∧ Hid (Rg wr p (xs ++ ys.take j) nx hs st) ∧ Hid (OnlyO p none w wr))
    (fun i _ => n - (intOf i).toNat)
  case atStart => exact ⟨0, by omega, by omega, rfl, hid (by simpa using HR.out), hid (OnlyO.refl _ _ _)⟩
  case round =>
    obtain ⟨j, hj, hlj, rfl, HRr, HX⟩ := hrel
    have HJL := hid (show (xs ++ ys.take j).length = l + j by rw [List.length_append, List.length_take, ← HL.out, ← HN.out]; omega)
    by_cases hlt : j < n
    · have hjy : j < ys.length := by rw [← HN.out]; exact hlt
      obtain ⟨a', c', he, _, hrd⟩ := (HY.out.only HX.out).rd
      simp only [Value.slice.injEq] at he
      obtain ⟨g, o, h2, h3, h4⟩ := hrd (by omega)
      have he1 := he.1
      rw [h2] at he1
      clear he h2
      subst he1
      obtain ⟨y, hy⟩ : ∃ y, y = ys.getD j 0 := ⟨_, rfl⟩
      have q1 := h4 j hjy
      rw [← hy] at q1
      have HT := hid (lst_take_snoc ys j hjy)
      rw [← hy] at HT
      clear hy h4 hrd hjy
      by_cases hfull : l + j = 256
      · have C := hid (push_full p (xs ++ ys.take j) nx hs st y wr HRr.out (by rw [HJL.out]; exact hfull))
        have hjl : j = 256 - l := by omega
        have HRD : Hid (Reads wr (.slice (some ⟨g, o + j, none⟩) (n - j) (c1 - j)) (ys.drop j)) := by
          obtain ⟨a', c', he, hcc, hrd⟩ := (HY.out.only HX.out).rd
          simp only [Value.slice.injEq] at he
          have hlen : (ys.drop j).length = n - j := by rw [List.length_drop, ← HN.out]
          refine ⟨some ⟨g, o + j, none⟩, c1 - j, by rw [hlen], ⟨by rw [hlen]; omega, by unfold maxLen; omega, .inr ⟨_, rfl⟩⟩, fun hp => ?_⟩
          obtain ⟨g', o', h2, h3, h4⟩ := hrd (by have := HN.out; omega)
          rw [← he.1] at h2
          simp only [Option.some.injEq, Addr.mk.injEq] at h2
          obtain ⟨rfl, rfl, _⟩ := h2
          refine ⟨g, o + j, rfl, h3, fun i hi => ?_⟩
          rw [hlen] at hi
          have := h4 (j + i) (by have := HN.out; omega)
          rw [Nat.add_assoc, this]
          simp [List.getD_eq_getElem?_getD]
        obtain ⟨i0, hi, hz0, hz1, hz2⟩ := info_parts infoInt
        have HI := hid hi
        have HZ0 := hid hz0
        have HZ1 := hid hz1
        have HZ2 := hid hz2
        have B1 := hid (show 0 + (ys.drop j).length ≤ maxLen by rw [List.length_drop]; have := HN.out; unfold maxLen; omega)
        have B2 := hid (show (0 + (ys.drop j).length) * 8 ≤ 140737488355328 by rw [List.length_drop]; have := HN.out; omega)
        have B3 := hid HX.out.size
        have HJE := hid hjl
        have hjc : j < c1 := by omega
        clear hi hz0 hz1 hz2 hjl hfull h3
        go_wp2_with fail
        refine C.out.mono ?_
        rintro e w2 ⟨rfl, rfl⟩
        go_wp2_with (with_reducible refine wpList_append_reads rfl (.const (.slice none 0 0)) (.tmp 20) 25 rfl w.heap.size 3 i0 (.int .i64 0) 8 Tryz.underlying25 HI.out HZ0.out HZ1.out HZ2.out (by decide) (.slice none 0 0) 0 [] rfl (World.ownsRow_nil _ _ _ _) (ys.drop j) (.slice (some ⟨g, o + j, none⟩) (n - j) (c1 - j)) rfl HRD.out B1.out B2.out B3.out ?_)
        intro v6 w6 hown6 hgr6 _
        have ho6 : Owns w6 w.heap.size v6 (ys.drop j) := by unfold Owns; simpa using hown6
        have hpl := HRr.out.lt
        have hb6 : Below w.heap.size wr w6 := (Below.refl w.heap.size wr).grown hgr6 HX.out.size (fun q hq => by simp [Value.ownBlock] at hq)
        have FIN : Hid (RTold p (ys.drop (256 - l)) (xs ++ ys.take (256 - l)) nx hs st w (.returned v6) w6) := by
          rw [← HJE.out]
          exact ⟨_, rfl, ho6, HRr.out.kept (hgr6.block p hpl (by simp [Value.ownBlock])), HX.out.beyond hb6⟩
        obtain ⟨va, vm, vc, rfl⟩ := ho6.slice3
        clear hown6 hgr6 ho6 hb6 hpl
        go_wp2
        go_ret
        exact FIN.out
      · have C := hid (push_any p (xs ++ ys.take j) nx hs st y wr HRr.out (by rw [HJL.out]; omega))
        have hlj1 : l + (j + 1) ≤ 256 := by omega
        clear hfull
        go_wp2_with fail
        refine C.out.mono ?_
        rintro e w2 ⟨rfl, hr2, hx2⟩
        have HR2 := hid (show Rg w2 p (xs ++ ys.take (j + 1)) nx hs st by rw [HT.out, ← List.append_assoc]; exact hr2)
        have HX2 := hid (HX.out.trans hx2 (.inl rfl))
        clear hr2 hx2
        go_wp2
        go_roundw
        case rel => exact ⟨j + 1, by omega, hlj1, by go_num, HR2, HX2⟩
        case measure => simp [intOf]; omega
    · obtain rfl : j = n := by omega
      have FIN : Hid (RTold p (ys.drop (256 - l)) (xs ++ ys.take (256 - l)) nx hs st w (.returned (.slice none 0 0)) wr) := by
        have e1 : ys.drop (256 - l) = [] := List.drop_eq_nil_of_le (by rw [← HN.out]; omega)
        have e2 : ys.take (256 - l) = ys.take j := by rw [List.take_of_length_le (by rw [← HN.out]; omega), List.take_of_length_le (by rw [← HN.out]; exact Nat.le_refl _)]
        rw [e1, e2]
        exact ⟨_, rfl, owns_nil _ _, HRr.out, HX.out⟩
      go_wp2
      go_ret
      exact FIN.out

/-- What List tells. -/
def allL (xs : List Int) (nx : Int) (hs : Bool) : List Int := if hs then xs ++ [nx] else xs
/-- A copy of a ring: the same cells in a new block. -/
theorem Rg.copied {w w2 : World} {p : Nat} {xs : List Int} {nx : Int} {hs : Bool} {st : Int} (H : Rg w p xs nx hs st) {cs : Array Value} (h : w.heap[p]? = some (.cells cs 141 (0, 0))) : Rg (w2.alloc (.cells cs 141)) w2.heap.size xs nx hs st := by
  obtain ⟨A, k, H0, hx⟩ := H.ex
  obtain ⟨cs', h1, h2⟩ := H0.blk
  rw [h] at h1
  simp only [Option.some.injEq, Obj.cells.injEq, and_true] at h1
  subst h1
  exact ⟨A, k, ⟨⟨cs, Deep.blk_alloc_new _ _, h2⟩, H0.hh, H0.hn, fun c t fr hc => by
    rw [Deep.blk_alloc_new] at hc
    simp only [Option.some.injEq, Obj.cells.injEq] at hc
    rw [← hc.1]; exact H0.sz _ _ _ h⟩, hx⟩
theorem Rg.cells {w : World} {p : Nat} {xs : List Int} {nx : Int} {hs : Bool} {st : Int} (H : Rg w p xs nx hs st) : ∃ cs, w.heap[p]? = some (.cells cs 141 (0, 0)) ∧ cs.size = 261 ∧ cs.all (·.oneCell') = true := by
  obtain ⟨A, k, H0, hx⟩ := H.ex
  obtain ⟨cs, h1, h2, h3, h4, h5, h6, h7⟩ := H0.blk
  have hz := H0.sz _ _ _ h1
  refine ⟨cs, h1, hz, ?_⟩
  rw [Array.all_eq_true]
  intro i hi
  have hc : cs[i]? = some cs[i] := Array.getElem?_eq_getElem hi
  rcases Nat.lt_or_ge i 256 with h | h
  · rw [h2 i h] at hc
    simp only [Option.some.injEq] at hc
    rw [← hc]; rfl
  · obtain rfl | rfl | rfl | rfl | rfl : i = 256 ∨ i = 257 ∨ i = 258 ∨ i = 259 ∨ i = 260 := by omega
    all_goals
      first
        | (rw [h3] at hc; simp only [Option.some.injEq] at hc; rw [← hc]; rfl)
        | (rw [h4] at hc; simp only [Option.some.injEq] at hc; rw [← hc]; rfl)
        | (rw [h5] at hc; simp only [Option.some.injEq] at hc; rw [← hc]; rfl)
        | (rw [h6] at hc; simp only [Option.some.injEq] at hc; rw [← hc]; rfl)
        | (rw [h7] at hc; simp only [Option.some.injEq] at hc; rw [← hc]; rfl)
end Go.Proofs.YtlahamkbkeckmaaGreatDoor
/-! Structs of many cells: a whole one stored into the block that was made last, or loaded out of a block that is known, as one step. -/
namespace Go.Proofs.YtlahamkbkeckmaaGreatDoor
open Go.RowKit
set_option linter.unusedVariables false
theorem wp_store_new {P : Program} {w : World} {o : Oper} {a : Act} {K : Act → World → Prop} {Q : Exit → Act → World → Prop} (ty : TypeId) (x y : Operand) (ho : o.op = .store ty x y)
    (c cells : Array Value) (t : TypeId) (hx : a.eval x = .pointer (some ⟨w.heap.size, 0, none⟩)) (hy : a.eval y = .agg cells)
    (hi : (P.info? ty).map (·.size) = some cells.size) (hs : c.size = cells.size) (h1 : cells.all (·.oneCell') = true)
    (h : K (a.put o.dst undef) (w.alloc (.cells cells t))) : o.wp P a (w.alloc (.cells c t)) K Q := by
  unfold Oper.wp execOp
  have e : (storeVar ty ⟨w.heap.size, 0, none⟩ (.agg cells)).run P (w.alloc (.cells c t)) = .ok () (w.alloc (.cells cells t)) := by
    rw [run_storeVar_row _ _ t ty c cells (heap_alloc_last w _) hi hs h1, World.setRow_alloc_new]
  simp only [ho, hx, hy, Instr.storeAt, Instr.sureAddr, Sem.run_bind, Sem.run_pure, Result.andThen_ok, e]
  exact h
theorem wpList_store_new {P : Program} {w : World} {ops : Array Oper} {rest : List Oper} {o : Oper} {a : Act} {Q : Exit → Act → World → Prop} (hgd : o.guard = none) (ty : TypeId) (x y : Operand) (ho : o.op = .store ty x y)
    (c cells : Array Value) (t : TypeId) (hx : a.eval x = .pointer (some ⟨w.heap.size, 0, none⟩)) (hy : a.eval y = .agg cells)
    (hi : (P.info? ty).map (·.size) = some cells.size) (hs : c.size = cells.size) (h1 : cells.all (·.oneCell') = true)
    (h : wpList P ops Q rest (a.put o.dst undef) (w.alloc (.cells cells t))) : wpList P ops Q (o :: rest) a (w.alloc (.cells c t)) :=
  wpList_plain hgd fun _ hK => wp_store_new ty x y ho c cells t hx hy hi hs h1 (hK _ _ h)
/-- A block that is known whole, in a later world. -/
theorem blk_kept {B k : Nat} {w w' : World} {cs : Array Value} {t : TypeId} {fr : Nat × Nat} (h : w.heap[k]? = some (.cells cs t fr)) (hb : Below B w w') (hk : k < B) : w'.heap[k]? = some (.cells cs t fr) := by
  rw [hb.block k hk]; exact h
theorem blk_lt {k : Nat} {w : World} {o : Obj} (h : w.heap[k]? = some o) : k < w.heap.size := by
  rw [Array.getElem?_eq_some_iff] at h; exact h.1
theorem blk_set {w : World} {g i : Nat} {cs cs' : Array Value} {t : TypeId} (v : Value) (hg : w.heap[g]? = some (.cells cs t (0, 0))) (he : cs.setIfInBounds i v = cs') : (w.setCell ⟨g, i, none⟩ v).heap[g]? = some (.cells cs' t (0, 0)) := by
  have := heap_setCell_same w g i cs t v hg
  rw [this, he]
theorem blk_cell {w : World} {p i : Nat} {cs : Array Value} {t : TypeId} {fr : Nat × Nat} {v : Value} (h : w.heap[p]? = some (.cells cs t fr)) (hi : cs[i]? = some v) : w.cell? ⟨p, i, none⟩ = some v := by simp [World.cell?, h, hi]
theorem blk_free {w : World} {p i : Nat} {cs : Array Value} {t : TypeId} (h : w.heap[p]? = some (.cells cs t (0, 0))) : w.frozen? ⟨p, i, none⟩ = false := by simp [World.frozen?, h]
/-- A load of a whole struct out of a block that is known, guarded or not. -/
theorem wpList_load_known {P : Program} {w : World} {ops : Array Oper} {rest : List Oper} {o : Oper} {a : Act} {Q : Exit → Act → World → Prop} (hw : Region.wanted o (yielded ops a.tmps) = true) (ty : TypeId) (x : Operand) (ho : o.op = .load ty x)
    (g : Nat) (hx : a.eval x = .pointer (some ⟨g, 0, none⟩)) (t : TypeId) (cs : Array Value) (fr : Nat × Nat) (d : TypeDesc) (hg : w.heap[g]? = some (.cells cs t fr))
    (hu : P.underlying ty = some d) (hd : (match d with | .struct _ | .array _ _ => true | _ => false) = true) (hi : (P.info? ty).map (·.size) = some cs.size)
    (h : wpList P ops Q rest (a.put o.dst (.agg cs)) w) : wpList P ops Q (o :: rest) a w :=
  BigFrame.wpList_want hw fun _ hK => wp_load_row ty x ho g hx t cs fr d hg hu hd hi (hK _ _ h)
theorem row_other (w : World) (g : Nat) (cs : Array Value) (k : Nat) (h : k ≠ g) : (w.setRow g cs).heap[k]? = w.heap[k]? := by
  simp only [World.setRow, Array.getElem?_modify]
  rw [if_neg (fun e => h e.symm)]
theorem row_size (w : World) (g : Nat) (cs : Array Value) : (w.setRow g cs).heap.size = w.heap.size := by simp [World.setRow]
theorem row_below {B : Nat} {w w' : World} {g : Nat} (h : Below B w w') (hg : B ≤ g) (cs : Array Value) : Below B w (w'.setRow g cs) :=
  ⟨h.os, h.tape, h.output, by rw [row_size]; exact h.size, fun k hk => by rw [row_other _ _ _ _ (by omega)]; exact h.block k hk⟩
end Go.Proofs.YtlahamkbkeckmaaGreatDoor
/-! Contracts of package mach: is, lockOf, around, Fresh, Lock; of the document's Lock. -/
namespace Go.Proofs.YtlahamkbkeckmaaGreatDoor
open Go.RowKit
set_option linter.unusedVariables false
set_option linter.unusedSimpArgs false

/-- Which lock a ring's number is of. -/
def lkOf (r n : Int) : Int := if 0 ≤ r ∧ r < n then r + 1 else -1
def lkAround (p i n : Int) : Int := if 0 ≤ p ∧ p < n ∧ 0 ≤ i then (p + i % n) % n else -1
/-- Which lock a place of a class takes. -/
def lk (c p i n : Int) : Int := if c = 1 then 0 else if c = 2 then lkOf p n else if c = 3 then lkOf (lkAround p i n) n else if c = 4 then lkOf i n else if c = 5 then n + 1 else -1

theorem lkOf_le (r n : Int) (hn : 1 ≤ n) : lkOf r n ≤ n := by unfold lkOf; split <;> omega
theorem lk_le (c p i n : Int) (hn : 1 ≤ n) : lk c p i n ≤ n + 1 := by
  have h1 := lkOf_le p n hn
  have h2 := lkOf_le (lkAround p i n) n hn
  have h3 := lkOf_le i n hn
  unfold lk
  repeat' split
  all_goals omega
theorem lkOf_ge (r n : Int) : -1 ≤ lkOf r n := by unfold lkOf; split <;> omega
theorem lk_ge (c p i n : Int) (hn : 1 ≤ n) : -1 ≤ lk c p i n := by
  have h1 := lkOf_ge p n
  have h2 := lkOf_ge (lkAround p i n) n
  have h3 := lkOf_ge i n
  unfold lk
  repeat' split
  all_goals omega

theorem lockOf_any (r n : Int) (w : World) (hn : n ≤ 4611686018427387904) : Calls Tryz.prog 69 #[.int .i64 r, .int .i64 n] w fun e w' => e = .returned (.int .i64 (lkOf r n)) ∧ w = w' := by
  by_cases h0 : r < 0
  · have e : lkOf r n = -1 := by unfold lkOf; rw [if_neg (by omega)]
    rw [e]
    clear e
    go_enter Tryz.func69, Tryz.ntmps69
    go_wp2
    go_ret
    exact ⟨rfl, rfl⟩
  · by_cases h1 : n ≤ r
    · have e : lkOf r n = -1 := by unfold lkOf; rw [if_neg (by omega)]
      rw [e]
      clear e
      go_enter Tryz.func69, Tryz.ntmps69
      go_wp2
      go_ret
      exact ⟨rfl, rfl⟩
    · have e : lkOf r n = r + 1 := by unfold lkOf; rw [if_pos (by omega)]
      rw [e]
      have hw : IntKind.i64.wrap (r + 1) = r + 1 := IntWalk.i64_in _ (by omega)
      clear e
      go_enter Tryz.func69, Tryz.ntmps69
      go_wp2
      go_ret
      exact ⟨rfl, rfl⟩

theorem around_any (p i n : Int) (w : World) (hn : 1 ≤ n) (hn2 : n ≤ 4611686018427387904) (hi : i ≤ 9223372036854775807) : Calls Tryz.prog 70 #[.int .i64 p, .int .i64 i, .int .i64 n] w fun e w' => e = .returned (.int .i64 (lkAround p i n)) ∧ w = w' := by
  by_cases h0 : p < 0
  · have e : lkAround p i n = -1 := by unfold lkAround; rw [if_neg (by omega)]
    rw [e]
    clear e
    go_enter Tryz.func70, Tryz.ntmps70
    go_wp2
    go_ret
    exact ⟨rfl, rfl⟩
  · by_cases h1 : n ≤ p
    · have e : lkAround p i n = -1 := by unfold lkAround; rw [if_neg (by omega)]
      rw [e]
      clear e
      go_enter Tryz.func70, Tryz.ntmps70
      go_wp2
      go_ret
      exact ⟨rfl, rfl⟩
    · by_cases h2 : i < 0
      · have e : lkAround p i n = -1 := by unfold lkAround; rw [if_neg (by omega)]
        rw [e]
        clear e
        go_enter Tryz.func70, Tryz.ntmps70
        go_wp2
        go_ret
        exact ⟨rfl, rfl⟩
      · obtain ⟨j, hj⟩ : ∃ j, j = i % n := ⟨_, rfl⟩
        have j0 : 0 ≤ j := by rw [hj]; exact Int.emod_nonneg _ (by omega)
        have j1 : j < n := by rw [hj]; exact Int.emod_lt_of_pos _ (by omega)
        have ht : i.tmod n = j := by rw [Int.tmod_eq_emod_of_nonneg (by omega), hj]
        have hw : IntKind.i64.wrap j = j := IntWalk.i64_in _ (by omega)
        have hw2 : IntKind.i64.wrap (n - p) = n - p := IntWalk.i64_in _ (by omega)
        have hn0 : (n == 0) = false := beq_eq_false_iff_ne.2 (by omega)
        by_cases h3 : n - p ≤ j
        · have e : lkAround p i n = j - (n - p) := by
            unfold lkAround; rw [if_pos (by omega), ← hj]
            have : p + j = (j - (n - p)) + n := by omega
            rw [this, Int.add_emod_right]
            exact Int.emod_eq_of_lt (by omega) (by omega)
          rw [e]
          have hw3 : IntKind.i64.wrap (j - (n - p)) = j - (n - p) := IntWalk.i64_in _ (by omega)
          clear e hj
          go_enter Tryz.func70, Tryz.ntmps70
          go_wp2
          go_ret
          exact ⟨rfl, rfl⟩
        · have e : lkAround p i n = p + j := by
            unfold lkAround; rw [if_pos (by omega), ← hj]
            exact Int.emod_eq_of_lt (by omega) (by omega)
          rw [e]
          have hw3 : IntKind.i64.wrap (p + j) = p + j := IntWalk.i64_in _ (by omega)
          clear e hj
          go_enter Tryz.func70, Tryz.ntmps70
          go_wp2
          go_ret
          exact ⟨rfl, rfl⟩

/-- A machine with only place, P and I set. -/
@[reducible] def mach0 (pl p i : Int) : Array Value := #[.int .i64 pl, .int .i64 p, .int .i64 (-1), .int .i64 (-1), .int .i64 (-1), .int .i64 (-1), .int .i64 i, .bool false, .bool false, .slice none 0 0, .int .i64 0, .int .i64 0, .int .i64 0, .int .i64 0, .int .i64 0, .int .i64 0, .int .u64 0, .int .i64 0]

theorem mis_in (k : Nat) (w : World) (hk : k < 31) : Calls Tryz.prog 68 #[.int .i64 k] w fun e w' => e = .returned (.bool true) ∧ w = w' := by
  have t1 : decide ((k : Int) < 31) = true := decide_eq_true (by omega)
  have t2 : decide ((0 : Int) ≤ k) = true := decide_eq_true (by omega)
  go_enter Tryz.func68, Tryz.ntmps68
  go_wp2
  go_ret
  exact ⟨rfl, rfl⟩
theorem mis_out (n : Int) (w : World) (hn : n < 0 ∨ 30 < n) : Calls Tryz.prog 68 #[.int .i64 n] w fun e w' => e = .returned (.bool false) ∧ w = w' := by
  rcases hn with h | h
  · have t2 : decide ((0 : Int) ≤ n) = false := decide_eq_false (by omega)
    go_enter Tryz.func68, Tryz.ntmps68
    go_wp2
    go_ret
    exact ⟨rfl, rfl⟩
  · have t1 : decide ((n : Int) < 31) = false := decide_eq_false (by omega)
    have t2 : decide ((0 : Int) ≤ n) = true := decide_eq_true (by omega)
    go_enter Tryz.func68, Tryz.ntmps68
    go_wp2
    go_ret
    exact ⟨rfl, rfl⟩

end Go.Proofs.YtlahamkbkeckmaaGreatDoor
/-! Contracts of package mach: Fresh, Lock; the document's Lock. -/
namespace Go.Proofs.YtlahamkbkeckmaaGreatDoor
open Go.RowKit
set_option linter.unusedVariables false
set_option maxRecDepth 20000
set_option linter.unusedSimpArgs false
set_option maxHeartbeats 4000000 in
theorem fresh_any (w : World) : Calls Tryz.prog 27 #[] w fun e w' => e = .returned (.agg (mach0 16 (-1) 0)) ∧ Below w.heap.size w w' := by
  go_enter Tryz.func27, Tryz.ntmps27
  go_wp2_with (refine wpList_store_new rfl 48 (.tmp 0) (.tmp 1) rfl _ (mach0 16 (-1) 0) 48 rfl rfl (by kernel_rfl) (by rfl) (by simp [mach0, Value.oneCell']) ?_)
  exact bodyPost_ret (v := .agg (mach0 16 (-1) 0)) (results_cell_row rfl _ _ w.heap.size 48 (mach0 16 (-1) 0) (0, 0) _ (by rfl) (heap_alloc_new w _) Tryz.underlying48 rfl (by kernel_rfl)) rfl ⟨rfl, (Below.refl _ _).alloc (Nat.le_refl _) _⟩

theorem maPlace1_le (k : Nat) (hk : k < 31) : maPlace1 k = 0 ∨ maPlace1 k = 1 ∨ maPlace1 k = 2 ∨ maPlace1 k = 3 ∨ maPlace1 k = 4 ∨ maPlace1 k = 5 :=
  match k, hk with
  | 0, _ => by simp [maPlace1]
  | 1, _ => by simp [maPlace1]
  | 2, _ => by simp [maPlace1]
  | 3, _ => by simp [maPlace1]
  | 4, _ => by simp [maPlace1]
  | 5, _ => by simp [maPlace1]
  | 6, _ => by simp [maPlace1]
  | 7, _ => by simp [maPlace1]
  | 8, _ => by simp [maPlace1]
  | 9, _ => by simp [maPlace1]
  | 10, _ => by simp [maPlace1]
  | 11, _ => by simp [maPlace1]
  | 12, _ => by simp [maPlace1]
  | 13, _ => by simp [maPlace1]
  | 14, _ => by simp [maPlace1]
  | 15, _ => by simp [maPlace1]
  | 16, _ => by simp [maPlace1]
  | 17, _ => by simp [maPlace1]
  | 18, _ => by simp [maPlace1]
  | 19, _ => by simp [maPlace1]
  | 20, _ => by simp [maPlace1]
  | 21, _ => by simp [maPlace1]
  | 22, _ => by simp [maPlace1]
  | 23, _ => by simp [maPlace1]
  | 24, _ => by simp [maPlace1]
  | 25, _ => by simp [maPlace1]
  | 26, _ => by simp [maPlace1]
  | 27, _ => by simp [maPlace1]
  | 28, _ => by simp [maPlace1]
  | 29, _ => by simp [maPlace1]
  | 30, _ => by simp [maPlace1]
  | k + 31, hk => absurd hk (by omega)

/-- A place's class: that of the table; of what is no place: none. -/
def placeClass (pl : Int) : Int := if 0 ≤ pl ∧ pl < 31 then maPlace1 pl.toNat else 0
theorem placeClass_nat (k : Nat) (hk : k < 31) : placeClass k = maPlace1 k := by unfold placeClass; rw [if_pos (by omega)]; rfl

set_option maxHeartbeats 4000000 in
theorem mlock_in (k : Nat) (p i n : Int) (w : World) (T : MaPlaces w) (hk : k < 31) (hn : 1 ≤ n) (hn2 : n ≤ 4611686018427387904) (hi : i ≤ 9223372036854775807) :
    Calls Tryz.prog 42 #[.agg (mach0 k p i), .int .i64 n] w fun e w' => e = .returned (.int .i64 (lk (maPlace1 k) p i n)) ∧ Below w.heap.size w w' := by
  have hg := T.lt
  have c1 : w.cell? ⟨0, k * 2 + 1, none⟩ = some (.int .i64 (maPlace1 k)) := (T k hk).2
  have hb := hid ((Below.refl w.heap.size w).alloc (Nat.le_refl _) (.cells (mach0 k p i) 48))
  have hcl := maPlace1_le k hk
  generalize maPlace1 k = c at c1 hcl ⊢
  have h0 : (0 : Int) ≤ k := by omega
  have h31 : (k : Int) < 31 := by omega
  have hwn : IntKind.i64.wrap (n + 1) = n + 1 := IntWalk.i64_in _ (by omega)
  have LO := hid (fun r w => lockOf_any r n w hn2)
  have LA := hid (fun w => around_any p i n w hn hn2 hi)
  have MI := hid (fun w => mis_in k w hk)
  clear T
  rcases hcl with rfl | rfl | rfl | rfl | rfl | rfl
  · rw [show lk 0 p i n = (-1) from rfl]
    go_enter Tryz.func42, Tryz.ntmps42
    go_wp2_with fail
    refine (MI.out _).mono ?_
    rintro e w2 ⟨rfl, rfl⟩
    go_wp2
    go_ret
    exact ⟨rfl, hb.out⟩
  · rw [show lk 1 p i n = 0 from rfl]
    go_enter Tryz.func42, Tryz.ntmps42
    go_wp2_with fail
    refine (MI.out _).mono ?_
    rintro e w2 ⟨rfl, rfl⟩
    go_wp2
    go_ret
    exact ⟨rfl, hb.out⟩
  · rw [show lk 2 p i n = lkOf p n from rfl]
    go_enter Tryz.func42, Tryz.ntmps42
    go_wp2_with fail
    refine (MI.out _).mono ?_
    rintro e w2 ⟨rfl, rfl⟩
    go_wp2_with fail
    refine (LO.out p _).mono ?_
    rintro e w3 ⟨rfl, rfl⟩
    go_wp2
    go_ret
    exact ⟨rfl, hb.out⟩
  · rw [show lk 3 p i n = lkOf (lkAround p i n) n from rfl]
    go_enter Tryz.func42, Tryz.ntmps42
    go_wp2_with fail
    refine (MI.out _).mono ?_
    rintro e w2 ⟨rfl, rfl⟩
    go_wp2_with fail
    refine (LA.out _).mono ?_
    rintro e w4 ⟨rfl, rfl⟩
    go_wp2_with fail
    refine (LO.out (lkAround p i n) _).mono ?_
    rintro e w3 ⟨rfl, rfl⟩
    go_wp2
    go_ret
    exact ⟨rfl, hb.out⟩
  · rw [show lk 4 p i n = lkOf i n from rfl]
    go_enter Tryz.func42, Tryz.ntmps42
    go_wp2_with fail
    refine (MI.out _).mono ?_
    rintro e w2 ⟨rfl, rfl⟩
    go_wp2_with fail
    refine (LO.out i _).mono ?_
    rintro e w3 ⟨rfl, rfl⟩
    go_wp2
    go_ret
    exact ⟨rfl, hb.out⟩
  · rw [show lk 5 p i n = n + 1 from rfl]
    go_enter Tryz.func42, Tryz.ntmps42
    go_wp2_with fail
    refine (MI.out _).mono ?_
    rintro e w2 ⟨rfl, rfl⟩
    go_wp2
    go_ret
    exact ⟨rfl, hb.out⟩
set_option maxHeartbeats 4000000 in
theorem mlock_out (pl p i n : Int) (w : World) (hp : pl < 0 ∨ 30 < pl) :
    Calls Tryz.prog 42 #[.agg (mach0 pl p i), .int .i64 n] w fun e w' => e = .returned (.int .i64 (-1)) ∧ Below w.heap.size w w' := by
  have hb := hid ((Below.refl w.heap.size w).alloc (Nat.le_refl _) (.cells (mach0 pl p i) 48))
  have HP := hid hp
  clear hp
  go_enter Tryz.func42, Tryz.ntmps42
  go_wp2_with fail
  refine (mis_out pl _ HP.out).mono ?_
  rintro e w2 ⟨rfl, rfl⟩
  go_wp2
  go_ret
  exact ⟨rfl, hb.out⟩
set_option maxHeartbeats 4000000 in
theorem mlock_small (k : Nat) (p i n : Int) (w : World) (hk : k < 31) (hn : n < 1) :
    Calls Tryz.prog 42 #[.agg (mach0 k p i), .int .i64 n] w fun e w' => e = .returned (.int .i64 (-1)) ∧ Below w.heap.size w w' := by
  have hb := hid ((Below.refl w.heap.size w).alloc (Nat.le_refl _) (.cells (mach0 k p i) 48))
  have MI := hid (fun w => mis_in k w hk)
  clear hk
  go_enter Tryz.func42, Tryz.ntmps42
  go_wp2_with fail
  refine (MI.out _).mono ?_
  rintro e w2 ⟨rfl, rfl⟩
  go_wp2
  go_ret
  exact ⟨rfl, hb.out⟩
end Go.Proofs.YtlahamkbkeckmaaGreatDoor
/-! event.is. -/
namespace Go.Proofs.YtlahamkbkeckmaaGreatDoor
open Go.RowKit
set_option linter.unusedVariables false
set_option linter.unusedSimpArgs false
theorem eis_in (k : Nat) (w : World) (hk : k < 8) : Calls Tryz.prog 127 #[.int .i64 k] w fun e w' => e = .returned (.bool true) ∧ w = w' := by
  have t1 : decide ((k : Int) < 8) = true := decide_eq_true (by omega)
  have t2 : decide ((0 : Int) ≤ k) = true := decide_eq_true (by omega)
  go_enter Tryz.func127, Tryz.ntmps127
  go_wp2
  go_ret
  exact ⟨rfl, rfl⟩
theorem eis_out (n : Int) (w : World) (hn : n < 0 ∨ 7 < n) : Calls Tryz.prog 127 #[.int .i64 n] w fun e w' => e = .returned (.bool false) ∧ w = w' := by
  rcases hn with h | h
  · have t2 : decide ((0 : Int) ≤ n) = false := decide_eq_false (by omega)
    go_enter Tryz.func127, Tryz.ntmps127
    go_wp2
    go_ret
    exact ⟨rfl, rfl⟩
  · have t1 : decide ((n : Int) < 8) = false := decide_eq_false (by omega)
    have t2 : decide ((0 : Int) ≤ n) = true := decide_eq_true (by omega)
    go_enter Tryz.func127, Tryz.ntmps127
    go_wp2
    go_ret
    exact ⟨rfl, rfl⟩
end Go.Proofs.YtlahamkbkeckmaaGreatDoor
/-! Texts: how a walk asks whether two are the same; a number by which names are told apart. -/
namespace Go.Proofs.YtlahamkbkeckmaaGreatDoor
theorem txt_ne {a b : ByteArray} (h : a ≠ b) : (a.toList == b.toList) = false := beq_eq_false_iff_ne.2 fun e => h (Go.WideShapes.bytes_inj (by rwa [ByteArray.toList_eq, ByteArray.toList_eq] at e))
theorem txt_eq (a : ByteArray) : (a.toList == a.toList) = true := by simp
/-- A number of a text, by which names are told apart. -/
def textKey (s : ByteArray) : Nat := s.data.toList.foldl (fun a b => a * 3 + b.toNat) 0
end Go.Proofs.YtlahamkbkeckmaaGreatDoor
/-! A struct of integers that came in by value: its cells. Nothing of the program. -/
namespace Go.Proofs.YtlahamkbkeckmaaGreatDoor
set_option linter.unusedVariables false
open Go.RowKit Go.ChangeShapes Go.WideShapes

/-- The cells are integers of these kinds, the numbers Z. -/
def IsFlat (ks : List IntKind) (cs : Array Value) (Z : Nat → Int) : Prop :=
  cs = ((List.range ks.length).map fun j => Value.int (ks.getD j .i64) (Z j)).toArray ∧ ∀ (j : Nat) (k : IntKind), ks[j]? = some k → (Lit.int k (Z j)).wf = true

theorem open_flat {H : Type} {enc : TypeId × Value → H} {P : Program} {w : World} {base : Nat} {spare : Nat → Bool} {held : Bool} {t : TypeId} {fs : Array Field} {d : DataW H} {p : List MemPlace} {cs : Array Value}
    (ks : List IntKind) (ht : P.underlying t = some (.struct fs)) (hC : P.cellsOf t = ks.length)
    (hk : ∀ (j : Nat) (k : IntKind), ks[j]? = some k → ∃ f : Field, fs[j]? = some f ∧ f.offset = j ∧ P.underlying f.type = some (.int k) ∧ P.cellsOf f.type = 1)
    (h : DataW.Trod enc P w base spare held t (.agg cs) d p) : ∃ Z, IsFlat ks cs Z := by
  obtain ⟨fuel, h⟩ := h
  obtain ⟨xs, n, _, _, hlen, hxl, hf⟩ := DataW.trod_struct ht h
  have hlen' : cs.size = ks.length := by rw [← hC, ← hlen]; simp [Value.cells]
  have key : ∀ (j : Nat) (k : IntKind), ks[j]? = some k → ∃ q, cs[j]? = some (.int k q) ∧ (Lit.int k q).wf = true := by
    intro j k hj
    obtain ⟨f, hf1, hf2, hf3, hf4⟩ := hk j k hj
    have hjl : j < ks.length := (List.getElem?_eq_some_iff.1 hj).1
    have hjf : j < fs.size := (Array.getElem?_eq_some_iff.1 hf1).1
    have h1 := hf j f hf1
    rw [hf2, hf4] at h1
    have hjc : j < (Value.agg cs).cells.toList.length := by simp [Value.cells]; omega
    have hone : ((Value.agg cs).cells.toList.drop j).take 1 = [(Value.agg cs).cells.toList[j]] := by rw [List.drop_eq_getElem_cons hjc]; rfl
    rw [hone, List.getElem?_eq_getElem (by omega : j < xs.length)] at h1
    obtain ⟨q, hq, _, hwf⟩ := DataW.trod_int hf3 h1
    simp only [List.cons.injEq, and_true] at hq
    refine ⟨q, ?_, hwf⟩
    have : cs[j]? = some ((Value.agg cs).cells.toList[j]) := by simp [Value.cells]
    rw [this, hq]
  refine ⟨fun j => match cs[j]? with | some (.int _ q) => q | _ => 0, ?_, fun j k hj => ?_⟩
  · apply Array.ext_getElem?
    intro j
    rcases Nat.lt_or_ge j ks.length with hj | hj
    · obtain ⟨q, hq, _⟩ := key j ks[j] (List.getElem?_eq_getElem hj)
      simp [hq, hj]
    · rw [Array.getElem?_eq_none (by omega)]
      simp [hj]
  · obtain ⟨q, hq, hw⟩ := key j k hj
    simp only [hq]
    exact hw
end Go.Proofs.YtlahamkbkeckmaaGreatDoor
/-! Contracts of event.Right (for a seat without event.Name too). -/
namespace Go.Proofs.YtlahamkbkeckmaaGreatDoor
open Go.RowKit
set_option linter.unusedVariables false
set_option linter.unusedSimpArgs false

/-- May an event of this kind be, and have this value? -/
def evRight (k g m p v : Int) : Bool := (decide (0 ≤ k) && decide (k < 8)) && ((decide (0 ≤ g) && decide (g < 4096)) && ((decide (-1 ≤ m) && decide (m < 128)) && ((decide (-1 ≤ p) && decide (p < 64)) && (if k = 5 then true else if k = 6 then decide (0 ≤ v) && decide (v ≤ 65535) else decide (v = 0)))))

theorem within_any (n a b : Int) (w : World) : Calls Tryz.prog 128 #[.int .i64 n, .int .i64 a, .int .i64 b] w fun e w' => e = .returned (.bool (decide (a ≤ n) && decide (n < b))) ∧ w = w' := by
  by_cases h : a ≤ n
  · by_cases h2 : n < b
    · rw [show (decide (a ≤ n) && decide (n < b)) = true by simp [h, h2]]
      have t1 : decide (a ≤ n) = true := decide_eq_true h
      have t2 : decide (n < b) = true := decide_eq_true h2
      go_enter Tryz.func128, Tryz.ntmps128
      go_wp2
      go_ret
      exact ⟨rfl, rfl⟩
    · rw [show (decide (a ≤ n) && decide (n < b)) = false by simp [h2]]
      have t1 : decide (a ≤ n) = true := decide_eq_true h
      have t2 : decide (n < b) = false := decide_eq_false h2
      go_enter Tryz.func128, Tryz.ntmps128
      go_wp2
      go_ret
      exact ⟨rfl, rfl⟩
  · rw [show (decide (a ≤ n) && decide (n < b)) = false by simp [h]]
    have t1 : decide (a ≤ n) = false := decide_eq_false h
    go_enter Tryz.func128, Tryz.ntmps128
    go_wp2
    go_ret
    exact ⟨rfl, rfl⟩
theorem eis_any (n : Int) (w : World) : Calls Tryz.prog 127 #[.int .i64 n] w fun e w' => e = .returned (.bool (decide (0 ≤ n) && decide (n < 8))) ∧ w = w' := by
  by_cases h : n < 0 ∨ 7 < n
  · rw [show (decide (0 ≤ n) && decide (n < 8)) = false by simp; omega]
    exact eis_out n w h
  · obtain ⟨k, rfl⟩ : ∃ k : Nat, n = k := ⟨n.toNat, by omega⟩
    rw [show (decide ((0 : Int) ≤ k) && decide ((k : Int) < 8)) = true by simp; omega]
    exact eis_in k w (by omega)
theorem valued_any (k g m p v : Int) (w : World) : Calls Tryz.prog 129 #[.agg #[.int .i64 k, .int .i64 g, .int .i64 m, .int .i64 p, .int .i64 v]] w fun e w' => e = .returned (.bool (if k = 5 then true else if k = 6 then decide (0 ≤ v) && decide (v ≤ 65535) else decide (v = 0))) ∧ Below w.heap.size w w' := by
  have hb := hid ((Below.refl w.heap.size w).alloc (Nat.le_refl _) (.cells #[.int .i64 k, .int .i64 g, .int .i64 m, .int .i64 p, .int .i64 v] 106))
  by_cases h5 : k = 5
  · rw [if_pos h5]
    subst h5
    go_enter Tryz.func129, Tryz.ntmps129
    go_wp2
    go_ret
    exact ⟨rfl, hb.out⟩
  · rw [if_neg h5]
    have q5 : (k == 5) = false := beq_eq_false_iff_ne.2 h5
    by_cases h6 : k = 6
    · rw [if_pos h6]
      subst h6
      by_cases h : (0 : Int) ≤ v
      · by_cases h2 : v ≤ 65535
        · rw [show (decide ((0 : Int) ≤ v) && decide (v ≤ 65535)) = true by simp [h, h2]]
          have t1 : decide ((0 : Int) ≤ v) = true := decide_eq_true h
          have t2 : decide (v ≤ 65535) = true := decide_eq_true h2
          go_enter Tryz.func129, Tryz.ntmps129
          go_wp2
          go_ret
          exact ⟨rfl, hb.out⟩
        · rw [show (decide ((0 : Int) ≤ v) && decide (v ≤ 65535)) = false by simp [h2]]
          have t1 : decide ((0 : Int) ≤ v) = true := decide_eq_true h
          have t2 : decide (v ≤ 65535) = false := decide_eq_false h2
          go_enter Tryz.func129, Tryz.ntmps129
          go_wp2
          go_ret
          exact ⟨rfl, hb.out⟩
      · rw [show (decide ((0 : Int) ≤ v) && decide (v ≤ 65535)) = false by simp [h]]
        have t1 : decide ((0 : Int) ≤ v) = false := decide_eq_false h
        go_enter Tryz.func129, Tryz.ntmps129
        go_wp2
        go_ret
        exact ⟨rfl, hb.out⟩
    · rw [if_neg h6]
      have q6 : (k == 6) = false := beq_eq_false_iff_ne.2 h6
      by_cases hv : v = 0
      · subst hv
        go_enter Tryz.func129, Tryz.ntmps129
        go_wp2
        go_ret
        exact ⟨rfl, hb.out⟩
      · have q7 : (v == 0) = false := beq_eq_false_iff_ne.2 hv
        rw [show decide (v = 0) = false by simp [hv]]
        go_enter Tryz.func129, Tryz.ntmps129
        go_wp2
        go_ret
        exact ⟨rfl, hb.out⟩

set_option maxHeartbeats 8000000 in
theorem right_any (k g m p v : Int) (w : World) : Calls Tryz.prog 94 #[.agg #[.int .i64 k, .int .i64 g, .int .i64 m, .int .i64 p, .int .i64 v]] w fun e w' => e = .returned (.bool (evRight k g m p v)) ∧ Below w.heap.size w w' := by
  have hb := hid ((Below.refl w.heap.size w).alloc (Nat.le_refl _) (.cells #[.int .i64 k, .int .i64 g, .int .i64 m, .int .i64 p, .int .i64 v] 106))
  have VA := hid (fun w => valued_any k g m p v w)
  have W1 := hid (fun w => eis_any k w)
  have W2 := hid (fun w => within_any g 0 4096 w)
  have W3 := hid (fun w => within_any m (-1) 128 w)
  have W4 := hid (fun w => within_any p (-1) 64 w)
  unfold evRight
  generalize (if k = 5 then true else if k = 6 then decide (0 ≤ v) && decide (v ≤ 65535) else decide (v = 0)) = b5 at VA ⊢
  generalize (decide (0 ≤ k) && decide (k < 8)) = b1 at W1 ⊢
  generalize (decide (0 ≤ g) && decide (g < 4096)) = b2 at W2 ⊢
  generalize (decide (-1 ≤ m) && decide (m < 128)) = b3 at W3 ⊢
  generalize (decide (-1 ≤ p) && decide (p < 64)) = b4 at W4 ⊢
  go_enter Tryz.func94, Tryz.ntmps94
  go_wp2_with fail
  refine (W1.out _).mono ?_
  rintro e w2 ⟨rfl, rfl⟩
  cases b1
  · go_wp2
    go_ret
    exact ⟨rfl, hb.out⟩
  go_wp2_with fail
  refine (W2.out _).mono ?_
  rintro e w2 ⟨rfl, rfl⟩
  cases b2
  · go_wp2
    go_ret
    exact ⟨rfl, hb.out⟩
  go_wp2_with fail
  refine (W3.out _).mono ?_
  rintro e w2 ⟨rfl, rfl⟩
  cases b3
  · go_wp2
    go_ret
    exact ⟨rfl, hb.out⟩
  go_wp2_with fail
  refine (W4.out _).mono ?_
  rintro e w2 ⟨rfl, rfl⟩
  cases b4
  · go_wp2
    go_ret
    exact ⟨rfl, hb.out⟩
  go_wp2_with fail
  refine (VA.out _).mono ?_
  rintro e w2 ⟨rfl, hb2⟩
  have hF := hid (hb.out.trans (hb2.mono (by simp)))
  clear hb2 hb
  cases b5
  · go_wp2
    go_ret
    exact ⟨rfl, hF.out⟩
  · go_wp2
    go_ret
    exact ⟨rfl, hF.out⟩
end Go.Proofs.YtlahamkbkeckmaaGreatDoor
/-! Contracts of package event: is, Name, Steps. -/
namespace Go.Proofs.YtlahamkbkeckmaaGreatDoor
open Go.RowKit
set_option linter.unusedVariables false
set_option linter.unusedSimpArgs false

theorem ename_in (k : Nat) (w : World) (T2 : EvNames w) (hk : k < 8) : Calls Tryz.prog 92 #[.int .i64 k] w fun e w' => e = .returned (.string (evName0 k)) ∧ w = w' := by
  have b := T2 k hk
  obtain ⟨s, hs⟩ : ∃ s, s = evName0 k := ⟨_, rfl⟩
  rw [← hs] at b ⊢
  have h0 : (0 : Int) ≤ k := by omega
  have h8 : (k : Int) < 8 := by omega
  clear T2 hs
  go_enter Tryz.func92, Tryz.ntmps92
  go_wp2_with fail
  refine (eis_in k _ hk).mono ?_
  rintro e w2 ⟨rfl, rfl⟩
  go_wp2
  go_ret
  exact ⟨rfl, rfl⟩
theorem ename_out (n : Int) (w : World) (hn : n < 0 ∨ 7 < n) : Calls Tryz.prog 92 #[.int .i64 n] w fun e w' => e = .returned (.string { data := #[] }) ∧ w = w' := by
  have HN := hid hn
  clear hn
  go_enter Tryz.func92, Tryz.ntmps92
  go_wp2_with fail
  refine (eis_out n _ HN.out).mono ?_
  rintro e w2 ⟨rfl, rfl⟩
  go_wp2
  go_ret
  exact ⟨rfl, rfl⟩

theorem evName_some (k : Nat) (hk : k < 8) : (evName0 k).toList.isEmpty = false :=
  match k, hk with
  | 0, _ => by kernel_rfl
  | 1, _ => by kernel_rfl
  | 2, _ => by kernel_rfl
  | 3, _ => by kernel_rfl
  | 4, _ => by kernel_rfl
  | 5, _ => by kernel_rfl
  | 6, _ => by kernel_rfl
  | 7, _ => by kernel_rfl

set_option maxHeartbeats 4000000 in
theorem esteps_out (n g m p v : Int) (w : World) (hn : n < 0 ∨ 7 < n) : Calls Tryz.prog 60 #[.agg #[.int .i64 n, .int .i64 g, .int .i64 m, .int .i64 p, .int .i64 v]] w fun e w' => e = .returned (.tuple #[.int .u64 0, .int .u64 0, .bool false]) ∧ Below w.heap.size w w' := by
  have HN := hid hn
  clear hn
  go_enter Tryz.func60, Tryz.ntmps60
  go_wp2_with fail
  refine (ename_out n _ HN.out).mono ?_
  rintro e w2 ⟨rfl, rfl⟩
  go_wp2
  exact bodyPost_ret (v := .tuple #[.int .u64 0, .int .u64 0, .bool false]) (by simp [results, Tryz.results60, go_sem]) rfl ⟨rfl, (Below.refl _ _).alloc (Nat.le_refl _) _⟩
set_option maxHeartbeats 4000000 in
theorem esteps_in (k : Nat) (g m p v : Int) (w : World) (T2 : EvNames w) (T3 : EvSteps w) (hk : k < 8) :
    Calls Tryz.prog 60 #[.agg #[.int .i64 k, .int .i64 g, .int .i64 m, .int .i64 p, .int .i64 v]] w fun e w' => e = .returned (.tuple #[.int .u64 (evStep0 k), .int .u64 (evStep1 k), .bool true]) ∧ Below w.heap.size w w' := by
  have hb := (Below.refl w.heap.size w).alloc (Nat.le_refl _) (.cells #[.int .i64 k, .int .i64 g, .int .i64 m, .int .i64 p, .int .i64 v] 106)
  have HT := hid (T2.at hb)
  have hw2 := T3.lt
  have h0 : (0 : Int) ≤ k := by omega
  have h8 : (k : Int) < 8 := by omega
  have c0 : w.cell? ⟨1, k * 2, none⟩ = some (.int .u64 (evStep0 k)) := (T3 k hk).1
  have c1 : w.cell? ⟨1, k * 2 + 1, none⟩ = some (.int .u64 (evStep1 k)) := (T3 k hk).2
  obtain ⟨s, hs⟩ : ∃ s, s = evStep0 k := ⟨_, rfl⟩
  obtain ⟨t, ht⟩ : ∃ t, t = evStep1 k := ⟨_, rfl⟩
  rw [← hs] at c0 ⊢
  rw [← ht] at c1 ⊢
  have HNE := hid (evName_some k hk)
  clear T2 T3 hs ht
  go_enter Tryz.func60, Tryz.ntmps60
  go_wp2_with fail
  refine (ename_in k _ HT.out hk).mono ?_
  rintro e w2 ⟨rfl, rfl⟩
  have hne := HNE.out
  generalize evName0 k = str at hne
  go_wp2
  go_quiet (fail)
  go_wp2
  exact bodyPost_ret (v := .tuple #[.int .u64 s, .int .u64 t, .bool true]) (by simp [results, Tryz.results60, go_sem]) rfl ⟨rfl, ((Below.refl _ _).alloc (Nat.le_refl _) _).trans (Quiet.below ⟨_, rfl⟩ _)⟩
end Go.Proofs.YtlahamkbkeckmaaGreatDoor
/-! All that a small world is made of: imports. -/
namespace Go.Proofs.YtlahamkbkeckmaaGreatDoor
end Go.Proofs.YtlahamkbkeckmaaGreatDoor
/-! mach.Lock of whatever machine. -/
namespace Go.Proofs.YtlahamkbkeckmaaGreatDoor
open Go.RowKit
set_option linter.unusedVariables false
set_option linter.unusedSimpArgs false
set_option maxRecDepth 20000
/-- A machine, cell by cell. -/
@[reducible] def machG (pl p g nx got tg i : Int) (sp inn : Bool) (rest : Value) (bk af ag s0 s1 s2 s3 s4 : Int) : Array Value := #[.int .i64 pl, .int .i64 p, .int .i64 g, .int .i64 nx, .int .i64 got, .int .i64 tg, .int .i64 i, .bool sp, .bool inn, rest, .int .i64 bk, .int .i64 af, .int .i64 ag, .int .i64 s0, .int .i64 s1, .int .i64 s2, .int .u64 s3, .int .i64 s4]
set_option maxHeartbeats 4000000 in
theorem mlock_g (k : Nat) (p g nx got tg i : Int) (sp inn : Bool) (ra : Option Addr) (rn rc : Nat) (bk af ag s0 s1 s2 s3 s4 : Int) (n : Int) (w : World) (T : MaPlaces w) (hk : k < 31) (hn : 1 ≤ n) (hn2 : n ≤ 4611686018427387904) (hi : i ≤ 9223372036854775807) :
    Calls Tryz.prog 42 #[.agg (machG k p g nx got tg i sp inn (.slice ra rn rc) bk af ag s0 s1 s2 s3 s4), .int .i64 n] w fun e w' => e = .returned (.int .i64 (lk (maPlace1 k) p i n)) ∧ Below w.heap.size w w' := by
  have hg := T.lt
  have c1 : w.cell? ⟨0, k * 2 + 1, none⟩ = some (.int .i64 (maPlace1 k)) := (T k hk).2
  have hb := hid ((Below.refl w.heap.size w).alloc (Nat.le_refl _) (.cells (machG k p g nx got tg i sp inn (.slice ra rn rc) bk af ag s0 s1 s2 s3 s4) 48))
  have hcl := maPlace1_le k hk
  generalize maPlace1 k = c at c1 hcl ⊢
  have h0 : (0 : Int) ≤ k := by omega
  have h31 : (k : Int) < 31 := by omega
  have hwn : IntKind.i64.wrap (n + 1) = n + 1 := IntWalk.i64_in _ (by omega)
  have LO := hid (fun r w => lockOf_any r n w hn2)
  have LA := hid (fun w => around_any p i n w hn hn2 hi)
  have MI := hid (fun w => mis_in k w hk)
  clear T
  rcases hcl with rfl | rfl | rfl | rfl | rfl | rfl
  · rw [show lk 0 p i n = (-1) from rfl]
    go_enter Tryz.func42, Tryz.ntmps42
    go_wp2_with fail
    refine (MI.out _).mono ?_
    rintro e w2 ⟨rfl, rfl⟩
    go_wp2
    go_ret
    exact ⟨rfl, hb.out⟩
  · rw [show lk 1 p i n = 0 from rfl]
    go_enter Tryz.func42, Tryz.ntmps42
    go_wp2_with fail
    refine (MI.out _).mono ?_
    rintro e w2 ⟨rfl, rfl⟩
    go_wp2
    go_ret
    exact ⟨rfl, hb.out⟩
  · rw [show lk 2 p i n = lkOf p n from rfl]
    go_enter Tryz.func42, Tryz.ntmps42
    go_wp2_with fail
    refine (MI.out _).mono ?_
    rintro e w2 ⟨rfl, rfl⟩
    go_wp2_with fail
    refine (LO.out p _).mono ?_
    rintro e w3 ⟨rfl, rfl⟩
    go_wp2
    go_ret
    exact ⟨rfl, hb.out⟩
  · rw [show lk 3 p i n = lkOf (lkAround p i n) n from rfl]
    go_enter Tryz.func42, Tryz.ntmps42
    go_wp2_with fail
    refine (MI.out _).mono ?_
    rintro e w2 ⟨rfl, rfl⟩
    go_wp2_with fail
    refine (LA.out _).mono ?_
    rintro e w4 ⟨rfl, rfl⟩
    go_wp2_with fail
    refine (LO.out (lkAround p i n) _).mono ?_
    rintro e w3 ⟨rfl, rfl⟩
    go_wp2
    go_ret
    exact ⟨rfl, hb.out⟩
  · rw [show lk 4 p i n = lkOf i n from rfl]
    go_enter Tryz.func42, Tryz.ntmps42
    go_wp2_with fail
    refine (MI.out _).mono ?_
    rintro e w2 ⟨rfl, rfl⟩
    go_wp2_with fail
    refine (LO.out i _).mono ?_
    rintro e w3 ⟨rfl, rfl⟩
    go_wp2
    go_ret
    exact ⟨rfl, hb.out⟩
  · rw [show lk 5 p i n = n + 1 from rfl]
    go_enter Tryz.func42, Tryz.ntmps42
    go_wp2_with fail
    refine (MI.out _).mono ?_
    rintro e w2 ⟨rfl, rfl⟩
    go_wp2
    go_ret
    exact ⟨rfl, hb.out⟩
end Go.Proofs.YtlahamkbkeckmaaGreatDoor
/-! A machine of a world, in a block of its own: its twenty cells. -/
namespace Go.Proofs.YtlahamkbkeckmaaGreatDoor
open Go.RowKit
set_option linter.unusedVariables false
set_option linter.unusedSimpArgs false
set_option maxRecDepth 20000
structure Mc (w : World) (mb : Nat) (pl : Int) (p : Int) (g : Int) (nx : Int) (got : Int) (tg : Int) (ii : Int) (sp : Bool) (inn : Bool) (rest : Value) (bk : Int) (af : Int) (ag : Int) (s0 : Int) (s1 : Int) (s2 : Int) (s3 : Int) (s4 : Int) (yes : Bool) (un : Int) : Prop where
  c0 : w.cell? ⟨mb, 0, none⟩ = some (.int .i64 pl)
  c1 : w.cell? ⟨mb, 1, none⟩ = some (.int .i64 p)
  c2 : w.cell? ⟨mb, 2, none⟩ = some (.int .i64 g)
  c3 : w.cell? ⟨mb, 3, none⟩ = some (.int .i64 nx)
  c4 : w.cell? ⟨mb, 4, none⟩ = some (.int .i64 got)
  c5 : w.cell? ⟨mb, 5, none⟩ = some (.int .i64 tg)
  c6 : w.cell? ⟨mb, 6, none⟩ = some (.int .i64 ii)
  c7 : w.cell? ⟨mb, 7, none⟩ = some (.bool sp)
  c8 : w.cell? ⟨mb, 8, none⟩ = some (.bool inn)
  c9 : w.cell? ⟨mb, 9, none⟩ = some (rest)
  c10 : w.cell? ⟨mb, 10, none⟩ = some (.int .i64 bk)
  c11 : w.cell? ⟨mb, 11, none⟩ = some (.int .i64 af)
  c12 : w.cell? ⟨mb, 12, none⟩ = some (.int .i64 ag)
  c13 : w.cell? ⟨mb, 13, none⟩ = some (.int .i64 s0)
  c14 : w.cell? ⟨mb, 14, none⟩ = some (.int .i64 s1)
  c15 : w.cell? ⟨mb, 15, none⟩ = some (.int .i64 s2)
  c16 : w.cell? ⟨mb, 16, none⟩ = some (.int .u64 s3)
  c17 : w.cell? ⟨mb, 17, none⟩ = some (.int .i64 s4)
  c18 : w.cell? ⟨mb, 18, none⟩ = some (.bool yes)
  c19 : w.cell? ⟨mb, 19, none⟩ = some (.int .i64 un)
  fz : ∀ i, w.frozen? ⟨mb, i, none⟩ = false
section
variable {w w' : World} {mb : Nat} {pl : Int} {p : Int} {g : Int} {nx : Int} {got : Int} {tg : Int} {ii : Int} {sp : Bool} {inn : Bool} {rest : Value} {bk : Int} {af : Int} {ag : Int} {s0 : Int} {s1 : Int} {s2 : Int} {s3 : Int} {s4 : Int} {yes : Bool} {un : Int}
theorem Mc.kept (h : Mc w mb pl p g nx got tg ii sp inn rest bk af ag s0 s1 s2 s3 s4 yes un) (e : w'.heap[mb]? = w.heap[mb]?) : Mc w' mb pl p g nx got tg ii sp inn rest bk af ag s0 s1 s2 s3 s4 yes un := by
  have c : ∀ i, w'.cell? ⟨mb, i, none⟩ = w.cell? ⟨mb, i, none⟩ := fun i => by simp [World.cell?, e]
  have f : ∀ i, w'.frozen? ⟨mb, i, none⟩ = w.frozen? ⟨mb, i, none⟩ := fun i => by simp [World.frozen?, e]
  exact ⟨(c _).trans h.c0, (c _).trans h.c1, (c _).trans h.c2, (c _).trans h.c3, (c _).trans h.c4, (c _).trans h.c5, (c _).trans h.c6, (c _).trans h.c7, (c _).trans h.c8, (c _).trans h.c9, (c _).trans h.c10, (c _).trans h.c11, (c _).trans h.c12, (c _).trans h.c13, (c _).trans h.c14, (c _).trans h.c15, (c _).trans h.c16, (c _).trans h.c17, (c _).trans h.c18, (c _).trans h.c19, fun i => (f i).trans (h.fz i)⟩
theorem Mc.lt (h : Mc w mb pl p g nx got tg ii sp inn rest bk af ag s0 s1 s2 s3 s4 yes un) : mb < w.heap.size := by
  have := h.c0
  rcases Nat.lt_or_ge mb w.heap.size with h' | h'
  · exact h'
  · simp [World.cell?, Array.getElem?_eq_none h'] at this
theorem Mc.up0 (h : Mc w mb pl p g nx got tg ii sp inn rest bk af ag s0 s1 s2 s3 s4 yes un) (u : Int) : Mc (w.setCell ⟨mb, 0, none⟩ (.int .i64 u)) mb u p g nx got tg ii sp inn rest bk af ag s0 s1 s2 s3 s4 yes un :=
  ⟨World.cell?_setCell_same _ _ _ h.c0, (cell_set_ne (by decide)).trans h.c1, (cell_set_ne (by decide)).trans h.c2, (cell_set_ne (by decide)).trans h.c3, (cell_set_ne (by decide)).trans h.c4, (cell_set_ne (by decide)).trans h.c5, (cell_set_ne (by decide)).trans h.c6, (cell_set_ne (by decide)).trans h.c7, (cell_set_ne (by decide)).trans h.c8, (cell_set_ne (by decide)).trans h.c9, (cell_set_ne (by decide)).trans h.c10, (cell_set_ne (by decide)).trans h.c11, (cell_set_ne (by decide)).trans h.c12, (cell_set_ne (by decide)).trans h.c13, (cell_set_ne (by decide)).trans h.c14, (cell_set_ne (by decide)).trans h.c15, (cell_set_ne (by decide)).trans h.c16, (cell_set_ne (by decide)).trans h.c17, (cell_set_ne (by decide)).trans h.c18, (cell_set_ne (by decide)).trans h.c19, fun i => by rw [World.frozen?_setCell]; exact h.fz i⟩
theorem Mc.up1 (h : Mc w mb pl p g nx got tg ii sp inn rest bk af ag s0 s1 s2 s3 s4 yes un) (u : Int) : Mc (w.setCell ⟨mb, 1, none⟩ (.int .i64 u)) mb pl u g nx got tg ii sp inn rest bk af ag s0 s1 s2 s3 s4 yes un :=
  ⟨(cell_set_ne (by decide)).trans h.c0, World.cell?_setCell_same _ _ _ h.c1, (cell_set_ne (by decide)).trans h.c2, (cell_set_ne (by decide)).trans h.c3, (cell_set_ne (by decide)).trans h.c4, (cell_set_ne (by decide)).trans h.c5, (cell_set_ne (by decide)).trans h.c6, (cell_set_ne (by decide)).trans h.c7, (cell_set_ne (by decide)).trans h.c8, (cell_set_ne (by decide)).trans h.c9, (cell_set_ne (by decide)).trans h.c10, (cell_set_ne (by decide)).trans h.c11, (cell_set_ne (by decide)).trans h.c12, (cell_set_ne (by decide)).trans h.c13, (cell_set_ne (by decide)).trans h.c14, (cell_set_ne (by decide)).trans h.c15, (cell_set_ne (by decide)).trans h.c16, (cell_set_ne (by decide)).trans h.c17, (cell_set_ne (by decide)).trans h.c18, (cell_set_ne (by decide)).trans h.c19, fun i => by rw [World.frozen?_setCell]; exact h.fz i⟩
theorem Mc.up2 (h : Mc w mb pl p g nx got tg ii sp inn rest bk af ag s0 s1 s2 s3 s4 yes un) (u : Int) : Mc (w.setCell ⟨mb, 2, none⟩ (.int .i64 u)) mb pl p u nx got tg ii sp inn rest bk af ag s0 s1 s2 s3 s4 yes un :=
  ⟨(cell_set_ne (by decide)).trans h.c0, (cell_set_ne (by decide)).trans h.c1, World.cell?_setCell_same _ _ _ h.c2, (cell_set_ne (by decide)).trans h.c3, (cell_set_ne (by decide)).trans h.c4, (cell_set_ne (by decide)).trans h.c5, (cell_set_ne (by decide)).trans h.c6, (cell_set_ne (by decide)).trans h.c7, (cell_set_ne (by decide)).trans h.c8, (cell_set_ne (by decide)).trans h.c9, (cell_set_ne (by decide)).trans h.c10, (cell_set_ne (by decide)).trans h.c11, (cell_set_ne (by decide)).trans h.c12, (cell_set_ne (by decide)).trans h.c13, (cell_set_ne (by decide)).trans h.c14, (cell_set_ne (by decide)).trans h.c15, (cell_set_ne (by decide)).trans h.c16, (cell_set_ne (by decide)).trans h.c17, (cell_set_ne (by decide)).trans h.c18, (cell_set_ne (by decide)).trans h.c19, fun i => by rw [World.frozen?_setCell]; exact h.fz i⟩
theorem Mc.up3 (h : Mc w mb pl p g nx got tg ii sp inn rest bk af ag s0 s1 s2 s3 s4 yes un) (u : Int) : Mc (w.setCell ⟨mb, 3, none⟩ (.int .i64 u)) mb pl p g u got tg ii sp inn rest bk af ag s0 s1 s2 s3 s4 yes un :=
  ⟨(cell_set_ne (by decide)).trans h.c0, (cell_set_ne (by decide)).trans h.c1, (cell_set_ne (by decide)).trans h.c2, World.cell?_setCell_same _ _ _ h.c3, (cell_set_ne (by decide)).trans h.c4, (cell_set_ne (by decide)).trans h.c5, (cell_set_ne (by decide)).trans h.c6, (cell_set_ne (by decide)).trans h.c7, (cell_set_ne (by decide)).trans h.c8, (cell_set_ne (by decide)).trans h.c9, (cell_set_ne (by decide)).trans h.c10, (cell_set_ne (by decide)).trans h.c11, (cell_set_ne (by decide)).trans h.c12, (cell_set_ne (by decide)).trans h.c13, (cell_set_ne (by decide)).trans h.c14, (cell_set_ne (by decide)).trans h.c15, (cell_set_ne (by decide)).trans h.c16, (cell_set_ne (by decide)).trans h.c17, (cell_set_ne (by decide)).trans h.c18, (cell_set_ne (by decide)).trans h.c19, fun i => by rw [World.frozen?_setCell]; exact h.fz i⟩
theorem Mc.up4 (h : Mc w mb pl p g nx got tg ii sp inn rest bk af ag s0 s1 s2 s3 s4 yes un) (u : Int) : Mc (w.setCell ⟨mb, 4, none⟩ (.int .i64 u)) mb pl p g nx u tg ii sp inn rest bk af ag s0 s1 s2 s3 s4 yes un :=
  ⟨(cell_set_ne (by decide)).trans h.c0, (cell_set_ne (by decide)).trans h.c1, (cell_set_ne (by decide)).trans h.c2, (cell_set_ne (by decide)).trans h.c3, World.cell?_setCell_same _ _ _ h.c4, (cell_set_ne (by decide)).trans h.c5, (cell_set_ne (by decide)).trans h.c6, (cell_set_ne (by decide)).trans h.c7, (cell_set_ne (by decide)).trans h.c8, (cell_set_ne (by decide)).trans h.c9, (cell_set_ne (by decide)).trans h.c10, (cell_set_ne (by decide)).trans h.c11, (cell_set_ne (by decide)).trans h.c12, (cell_set_ne (by decide)).trans h.c13, (cell_set_ne (by decide)).trans h.c14, (cell_set_ne (by decide)).trans h.c15, (cell_set_ne (by decide)).trans h.c16, (cell_set_ne (by decide)).trans h.c17, (cell_set_ne (by decide)).trans h.c18, (cell_set_ne (by decide)).trans h.c19, fun i => by rw [World.frozen?_setCell]; exact h.fz i⟩
theorem Mc.up5 (h : Mc w mb pl p g nx got tg ii sp inn rest bk af ag s0 s1 s2 s3 s4 yes un) (u : Int) : Mc (w.setCell ⟨mb, 5, none⟩ (.int .i64 u)) mb pl p g nx got u ii sp inn rest bk af ag s0 s1 s2 s3 s4 yes un :=
  ⟨(cell_set_ne (by decide)).trans h.c0, (cell_set_ne (by decide)).trans h.c1, (cell_set_ne (by decide)).trans h.c2, (cell_set_ne (by decide)).trans h.c3, (cell_set_ne (by decide)).trans h.c4, World.cell?_setCell_same _ _ _ h.c5, (cell_set_ne (by decide)).trans h.c6, (cell_set_ne (by decide)).trans h.c7, (cell_set_ne (by decide)).trans h.c8, (cell_set_ne (by decide)).trans h.c9, (cell_set_ne (by decide)).trans h.c10, (cell_set_ne (by decide)).trans h.c11, (cell_set_ne (by decide)).trans h.c12, (cell_set_ne (by decide)).trans h.c13, (cell_set_ne (by decide)).trans h.c14, (cell_set_ne (by decide)).trans h.c15, (cell_set_ne (by decide)).trans h.c16, (cell_set_ne (by decide)).trans h.c17, (cell_set_ne (by decide)).trans h.c18, (cell_set_ne (by decide)).trans h.c19, fun i => by rw [World.frozen?_setCell]; exact h.fz i⟩
theorem Mc.up6 (h : Mc w mb pl p g nx got tg ii sp inn rest bk af ag s0 s1 s2 s3 s4 yes un) (u : Int) : Mc (w.setCell ⟨mb, 6, none⟩ (.int .i64 u)) mb pl p g nx got tg u sp inn rest bk af ag s0 s1 s2 s3 s4 yes un :=
  ⟨(cell_set_ne (by decide)).trans h.c0, (cell_set_ne (by decide)).trans h.c1, (cell_set_ne (by decide)).trans h.c2, (cell_set_ne (by decide)).trans h.c3, (cell_set_ne (by decide)).trans h.c4, (cell_set_ne (by decide)).trans h.c5, World.cell?_setCell_same _ _ _ h.c6, (cell_set_ne (by decide)).trans h.c7, (cell_set_ne (by decide)).trans h.c8, (cell_set_ne (by decide)).trans h.c9, (cell_set_ne (by decide)).trans h.c10, (cell_set_ne (by decide)).trans h.c11, (cell_set_ne (by decide)).trans h.c12, (cell_set_ne (by decide)).trans h.c13, (cell_set_ne (by decide)).trans h.c14, (cell_set_ne (by decide)).trans h.c15, (cell_set_ne (by decide)).trans h.c16, (cell_set_ne (by decide)).trans h.c17, (cell_set_ne (by decide)).trans h.c18, (cell_set_ne (by decide)).trans h.c19, fun i => by rw [World.frozen?_setCell]; exact h.fz i⟩
theorem Mc.up7 (h : Mc w mb pl p g nx got tg ii sp inn rest bk af ag s0 s1 s2 s3 s4 yes un) (u : Bool) : Mc (w.setCell ⟨mb, 7, none⟩ (.bool u)) mb pl p g nx got tg ii u inn rest bk af ag s0 s1 s2 s3 s4 yes un :=
  ⟨(cell_set_ne (by decide)).trans h.c0, (cell_set_ne (by decide)).trans h.c1, (cell_set_ne (by decide)).trans h.c2, (cell_set_ne (by decide)).trans h.c3, (cell_set_ne (by decide)).trans h.c4, (cell_set_ne (by decide)).trans h.c5, (cell_set_ne (by decide)).trans h.c6, World.cell?_setCell_same _ _ _ h.c7, (cell_set_ne (by decide)).trans h.c8, (cell_set_ne (by decide)).trans h.c9, (cell_set_ne (by decide)).trans h.c10, (cell_set_ne (by decide)).trans h.c11, (cell_set_ne (by decide)).trans h.c12, (cell_set_ne (by decide)).trans h.c13, (cell_set_ne (by decide)).trans h.c14, (cell_set_ne (by decide)).trans h.c15, (cell_set_ne (by decide)).trans h.c16, (cell_set_ne (by decide)).trans h.c17, (cell_set_ne (by decide)).trans h.c18, (cell_set_ne (by decide)).trans h.c19, fun i => by rw [World.frozen?_setCell]; exact h.fz i⟩
theorem Mc.up8 (h : Mc w mb pl p g nx got tg ii sp inn rest bk af ag s0 s1 s2 s3 s4 yes un) (u : Bool) : Mc (w.setCell ⟨mb, 8, none⟩ (.bool u)) mb pl p g nx got tg ii sp u rest bk af ag s0 s1 s2 s3 s4 yes un :=
  ⟨(cell_set_ne (by decide)).trans h.c0, (cell_set_ne (by decide)).trans h.c1, (cell_set_ne (by decide)).trans h.c2, (cell_set_ne (by decide)).trans h.c3, (cell_set_ne (by decide)).trans h.c4, (cell_set_ne (by decide)).trans h.c5, (cell_set_ne (by decide)).trans h.c6, (cell_set_ne (by decide)).trans h.c7, World.cell?_setCell_same _ _ _ h.c8, (cell_set_ne (by decide)).trans h.c9, (cell_set_ne (by decide)).trans h.c10, (cell_set_ne (by decide)).trans h.c11, (cell_set_ne (by decide)).trans h.c12, (cell_set_ne (by decide)).trans h.c13, (cell_set_ne (by decide)).trans h.c14, (cell_set_ne (by decide)).trans h.c15, (cell_set_ne (by decide)).trans h.c16, (cell_set_ne (by decide)).trans h.c17, (cell_set_ne (by decide)).trans h.c18, (cell_set_ne (by decide)).trans h.c19, fun i => by rw [World.frozen?_setCell]; exact h.fz i⟩
theorem Mc.up9 (h : Mc w mb pl p g nx got tg ii sp inn rest bk af ag s0 s1 s2 s3 s4 yes un) (u : Value) : Mc (w.setCell ⟨mb, 9, none⟩ (u)) mb pl p g nx got tg ii sp inn u bk af ag s0 s1 s2 s3 s4 yes un :=
  ⟨(cell_set_ne (by decide)).trans h.c0, (cell_set_ne (by decide)).trans h.c1, (cell_set_ne (by decide)).trans h.c2, (cell_set_ne (by decide)).trans h.c3, (cell_set_ne (by decide)).trans h.c4, (cell_set_ne (by decide)).trans h.c5, (cell_set_ne (by decide)).trans h.c6, (cell_set_ne (by decide)).trans h.c7, (cell_set_ne (by decide)).trans h.c8, World.cell?_setCell_same _ _ _ h.c9, (cell_set_ne (by decide)).trans h.c10, (cell_set_ne (by decide)).trans h.c11, (cell_set_ne (by decide)).trans h.c12, (cell_set_ne (by decide)).trans h.c13, (cell_set_ne (by decide)).trans h.c14, (cell_set_ne (by decide)).trans h.c15, (cell_set_ne (by decide)).trans h.c16, (cell_set_ne (by decide)).trans h.c17, (cell_set_ne (by decide)).trans h.c18, (cell_set_ne (by decide)).trans h.c19, fun i => by rw [World.frozen?_setCell]; exact h.fz i⟩
theorem Mc.up10 (h : Mc w mb pl p g nx got tg ii sp inn rest bk af ag s0 s1 s2 s3 s4 yes un) (u : Int) : Mc (w.setCell ⟨mb, 10, none⟩ (.int .i64 u)) mb pl p g nx got tg ii sp inn rest u af ag s0 s1 s2 s3 s4 yes un :=
  ⟨(cell_set_ne (by decide)).trans h.c0, (cell_set_ne (by decide)).trans h.c1, (cell_set_ne (by decide)).trans h.c2, (cell_set_ne (by decide)).trans h.c3, (cell_set_ne (by decide)).trans h.c4, (cell_set_ne (by decide)).trans h.c5, (cell_set_ne (by decide)).trans h.c6, (cell_set_ne (by decide)).trans h.c7, (cell_set_ne (by decide)).trans h.c8, (cell_set_ne (by decide)).trans h.c9, World.cell?_setCell_same _ _ _ h.c10, (cell_set_ne (by decide)).trans h.c11, (cell_set_ne (by decide)).trans h.c12, (cell_set_ne (by decide)).trans h.c13, (cell_set_ne (by decide)).trans h.c14, (cell_set_ne (by decide)).trans h.c15, (cell_set_ne (by decide)).trans h.c16, (cell_set_ne (by decide)).trans h.c17, (cell_set_ne (by decide)).trans h.c18, (cell_set_ne (by decide)).trans h.c19, fun i => by rw [World.frozen?_setCell]; exact h.fz i⟩
theorem Mc.up11 (h : Mc w mb pl p g nx got tg ii sp inn rest bk af ag s0 s1 s2 s3 s4 yes un) (u : Int) : Mc (w.setCell ⟨mb, 11, none⟩ (.int .i64 u)) mb pl p g nx got tg ii sp inn rest bk u ag s0 s1 s2 s3 s4 yes un :=
  ⟨(cell_set_ne (by decide)).trans h.c0, (cell_set_ne (by decide)).trans h.c1, (cell_set_ne (by decide)).trans h.c2, (cell_set_ne (by decide)).trans h.c3, (cell_set_ne (by decide)).trans h.c4, (cell_set_ne (by decide)).trans h.c5, (cell_set_ne (by decide)).trans h.c6, (cell_set_ne (by decide)).trans h.c7, (cell_set_ne (by decide)).trans h.c8, (cell_set_ne (by decide)).trans h.c9, (cell_set_ne (by decide)).trans h.c10, World.cell?_setCell_same _ _ _ h.c11, (cell_set_ne (by decide)).trans h.c12, (cell_set_ne (by decide)).trans h.c13, (cell_set_ne (by decide)).trans h.c14, (cell_set_ne (by decide)).trans h.c15, (cell_set_ne (by decide)).trans h.c16, (cell_set_ne (by decide)).trans h.c17, (cell_set_ne (by decide)).trans h.c18, (cell_set_ne (by decide)).trans h.c19, fun i => by rw [World.frozen?_setCell]; exact h.fz i⟩
theorem Mc.up12 (h : Mc w mb pl p g nx got tg ii sp inn rest bk af ag s0 s1 s2 s3 s4 yes un) (u : Int) : Mc (w.setCell ⟨mb, 12, none⟩ (.int .i64 u)) mb pl p g nx got tg ii sp inn rest bk af u s0 s1 s2 s3 s4 yes un :=
  ⟨(cell_set_ne (by decide)).trans h.c0, (cell_set_ne (by decide)).trans h.c1, (cell_set_ne (by decide)).trans h.c2, (cell_set_ne (by decide)).trans h.c3, (cell_set_ne (by decide)).trans h.c4, (cell_set_ne (by decide)).trans h.c5, (cell_set_ne (by decide)).trans h.c6, (cell_set_ne (by decide)).trans h.c7, (cell_set_ne (by decide)).trans h.c8, (cell_set_ne (by decide)).trans h.c9, (cell_set_ne (by decide)).trans h.c10, (cell_set_ne (by decide)).trans h.c11, World.cell?_setCell_same _ _ _ h.c12, (cell_set_ne (by decide)).trans h.c13, (cell_set_ne (by decide)).trans h.c14, (cell_set_ne (by decide)).trans h.c15, (cell_set_ne (by decide)).trans h.c16, (cell_set_ne (by decide)).trans h.c17, (cell_set_ne (by decide)).trans h.c18, (cell_set_ne (by decide)).trans h.c19, fun i => by rw [World.frozen?_setCell]; exact h.fz i⟩
theorem Mc.up13 (h : Mc w mb pl p g nx got tg ii sp inn rest bk af ag s0 s1 s2 s3 s4 yes un) (u : Int) : Mc (w.setCell ⟨mb, 13, none⟩ (.int .i64 u)) mb pl p g nx got tg ii sp inn rest bk af ag u s1 s2 s3 s4 yes un :=
  ⟨(cell_set_ne (by decide)).trans h.c0, (cell_set_ne (by decide)).trans h.c1, (cell_set_ne (by decide)).trans h.c2, (cell_set_ne (by decide)).trans h.c3, (cell_set_ne (by decide)).trans h.c4, (cell_set_ne (by decide)).trans h.c5, (cell_set_ne (by decide)).trans h.c6, (cell_set_ne (by decide)).trans h.c7, (cell_set_ne (by decide)).trans h.c8, (cell_set_ne (by decide)).trans h.c9, (cell_set_ne (by decide)).trans h.c10, (cell_set_ne (by decide)).trans h.c11, (cell_set_ne (by decide)).trans h.c12, World.cell?_setCell_same _ _ _ h.c13, (cell_set_ne (by decide)).trans h.c14, (cell_set_ne (by decide)).trans h.c15, (cell_set_ne (by decide)).trans h.c16, (cell_set_ne (by decide)).trans h.c17, (cell_set_ne (by decide)).trans h.c18, (cell_set_ne (by decide)).trans h.c19, fun i => by rw [World.frozen?_setCell]; exact h.fz i⟩
theorem Mc.up14 (h : Mc w mb pl p g nx got tg ii sp inn rest bk af ag s0 s1 s2 s3 s4 yes un) (u : Int) : Mc (w.setCell ⟨mb, 14, none⟩ (.int .i64 u)) mb pl p g nx got tg ii sp inn rest bk af ag s0 u s2 s3 s4 yes un :=
  ⟨(cell_set_ne (by decide)).trans h.c0, (cell_set_ne (by decide)).trans h.c1, (cell_set_ne (by decide)).trans h.c2, (cell_set_ne (by decide)).trans h.c3, (cell_set_ne (by decide)).trans h.c4, (cell_set_ne (by decide)).trans h.c5, (cell_set_ne (by decide)).trans h.c6, (cell_set_ne (by decide)).trans h.c7, (cell_set_ne (by decide)).trans h.c8, (cell_set_ne (by decide)).trans h.c9, (cell_set_ne (by decide)).trans h.c10, (cell_set_ne (by decide)).trans h.c11, (cell_set_ne (by decide)).trans h.c12, (cell_set_ne (by decide)).trans h.c13, World.cell?_setCell_same _ _ _ h.c14, (cell_set_ne (by decide)).trans h.c15, (cell_set_ne (by decide)).trans h.c16, (cell_set_ne (by decide)).trans h.c17, (cell_set_ne (by decide)).trans h.c18, (cell_set_ne (by decide)).trans h.c19, fun i => by rw [World.frozen?_setCell]; exact h.fz i⟩
theorem Mc.up15 (h : Mc w mb pl p g nx got tg ii sp inn rest bk af ag s0 s1 s2 s3 s4 yes un) (u : Int) : Mc (w.setCell ⟨mb, 15, none⟩ (.int .i64 u)) mb pl p g nx got tg ii sp inn rest bk af ag s0 s1 u s3 s4 yes un :=
  ⟨(cell_set_ne (by decide)).trans h.c0, (cell_set_ne (by decide)).trans h.c1, (cell_set_ne (by decide)).trans h.c2, (cell_set_ne (by decide)).trans h.c3, (cell_set_ne (by decide)).trans h.c4, (cell_set_ne (by decide)).trans h.c5, (cell_set_ne (by decide)).trans h.c6, (cell_set_ne (by decide)).trans h.c7, (cell_set_ne (by decide)).trans h.c8, (cell_set_ne (by decide)).trans h.c9, (cell_set_ne (by decide)).trans h.c10, (cell_set_ne (by decide)).trans h.c11, (cell_set_ne (by decide)).trans h.c12, (cell_set_ne (by decide)).trans h.c13, (cell_set_ne (by decide)).trans h.c14, World.cell?_setCell_same _ _ _ h.c15, (cell_set_ne (by decide)).trans h.c16, (cell_set_ne (by decide)).trans h.c17, (cell_set_ne (by decide)).trans h.c18, (cell_set_ne (by decide)).trans h.c19, fun i => by rw [World.frozen?_setCell]; exact h.fz i⟩
theorem Mc.up16 (h : Mc w mb pl p g nx got tg ii sp inn rest bk af ag s0 s1 s2 s3 s4 yes un) (u : Int) : Mc (w.setCell ⟨mb, 16, none⟩ (.int .u64 u)) mb pl p g nx got tg ii sp inn rest bk af ag s0 s1 s2 u s4 yes un :=
  ⟨(cell_set_ne (by decide)).trans h.c0, (cell_set_ne (by decide)).trans h.c1, (cell_set_ne (by decide)).trans h.c2, (cell_set_ne (by decide)).trans h.c3, (cell_set_ne (by decide)).trans h.c4, (cell_set_ne (by decide)).trans h.c5, (cell_set_ne (by decide)).trans h.c6, (cell_set_ne (by decide)).trans h.c7, (cell_set_ne (by decide)).trans h.c8, (cell_set_ne (by decide)).trans h.c9, (cell_set_ne (by decide)).trans h.c10, (cell_set_ne (by decide)).trans h.c11, (cell_set_ne (by decide)).trans h.c12, (cell_set_ne (by decide)).trans h.c13, (cell_set_ne (by decide)).trans h.c14, (cell_set_ne (by decide)).trans h.c15, World.cell?_setCell_same _ _ _ h.c16, (cell_set_ne (by decide)).trans h.c17, (cell_set_ne (by decide)).trans h.c18, (cell_set_ne (by decide)).trans h.c19, fun i => by rw [World.frozen?_setCell]; exact h.fz i⟩
theorem Mc.up17 (h : Mc w mb pl p g nx got tg ii sp inn rest bk af ag s0 s1 s2 s3 s4 yes un) (u : Int) : Mc (w.setCell ⟨mb, 17, none⟩ (.int .i64 u)) mb pl p g nx got tg ii sp inn rest bk af ag s0 s1 s2 s3 u yes un :=
  ⟨(cell_set_ne (by decide)).trans h.c0, (cell_set_ne (by decide)).trans h.c1, (cell_set_ne (by decide)).trans h.c2, (cell_set_ne (by decide)).trans h.c3, (cell_set_ne (by decide)).trans h.c4, (cell_set_ne (by decide)).trans h.c5, (cell_set_ne (by decide)).trans h.c6, (cell_set_ne (by decide)).trans h.c7, (cell_set_ne (by decide)).trans h.c8, (cell_set_ne (by decide)).trans h.c9, (cell_set_ne (by decide)).trans h.c10, (cell_set_ne (by decide)).trans h.c11, (cell_set_ne (by decide)).trans h.c12, (cell_set_ne (by decide)).trans h.c13, (cell_set_ne (by decide)).trans h.c14, (cell_set_ne (by decide)).trans h.c15, (cell_set_ne (by decide)).trans h.c16, World.cell?_setCell_same _ _ _ h.c17, (cell_set_ne (by decide)).trans h.c18, (cell_set_ne (by decide)).trans h.c19, fun i => by rw [World.frozen?_setCell]; exact h.fz i⟩
theorem Mc.up18 (h : Mc w mb pl p g nx got tg ii sp inn rest bk af ag s0 s1 s2 s3 s4 yes un) (u : Bool) : Mc (w.setCell ⟨mb, 18, none⟩ (.bool u)) mb pl p g nx got tg ii sp inn rest bk af ag s0 s1 s2 s3 s4 u un :=
  ⟨(cell_set_ne (by decide)).trans h.c0, (cell_set_ne (by decide)).trans h.c1, (cell_set_ne (by decide)).trans h.c2, (cell_set_ne (by decide)).trans h.c3, (cell_set_ne (by decide)).trans h.c4, (cell_set_ne (by decide)).trans h.c5, (cell_set_ne (by decide)).trans h.c6, (cell_set_ne (by decide)).trans h.c7, (cell_set_ne (by decide)).trans h.c8, (cell_set_ne (by decide)).trans h.c9, (cell_set_ne (by decide)).trans h.c10, (cell_set_ne (by decide)).trans h.c11, (cell_set_ne (by decide)).trans h.c12, (cell_set_ne (by decide)).trans h.c13, (cell_set_ne (by decide)).trans h.c14, (cell_set_ne (by decide)).trans h.c15, (cell_set_ne (by decide)).trans h.c16, (cell_set_ne (by decide)).trans h.c17, World.cell?_setCell_same _ _ _ h.c18, (cell_set_ne (by decide)).trans h.c19, fun i => by rw [World.frozen?_setCell]; exact h.fz i⟩
theorem Mc.up19 (h : Mc w mb pl p g nx got tg ii sp inn rest bk af ag s0 s1 s2 s3 s4 yes un) (u : Int) : Mc (w.setCell ⟨mb, 19, none⟩ (.int .i64 u)) mb pl p g nx got tg ii sp inn rest bk af ag s0 s1 s2 s3 s4 yes u :=
  ⟨(cell_set_ne (by decide)).trans h.c0, (cell_set_ne (by decide)).trans h.c1, (cell_set_ne (by decide)).trans h.c2, (cell_set_ne (by decide)).trans h.c3, (cell_set_ne (by decide)).trans h.c4, (cell_set_ne (by decide)).trans h.c5, (cell_set_ne (by decide)).trans h.c6, (cell_set_ne (by decide)).trans h.c7, (cell_set_ne (by decide)).trans h.c8, (cell_set_ne (by decide)).trans h.c9, (cell_set_ne (by decide)).trans h.c10, (cell_set_ne (by decide)).trans h.c11, (cell_set_ne (by decide)).trans h.c12, (cell_set_ne (by decide)).trans h.c13, (cell_set_ne (by decide)).trans h.c14, (cell_set_ne (by decide)).trans h.c15, (cell_set_ne (by decide)).trans h.c16, (cell_set_ne (by decide)).trans h.c17, (cell_set_ne (by decide)).trans h.c18, World.cell?_setCell_same _ _ _ h.c19, fun i => by rw [World.frozen?_setCell]; exact h.fz i⟩
theorem Mc.sct (h : Mc w mb pl p g nx got tg ii sp inn rest bk af ag s0 s1 s2 s3 s4 yes un) : Sct w mb 13 s0 s1 s2 s3 s4 := ⟨h.c13, h.c14, h.c15, h.c16, h.c17, h.fz⟩
theorem Mc.on3 (h : Mc w mb pl p g nx got tg ii sp inn rest bk af ag s0 s1 s2 s3 s4 yes un) {b g' : Nat} {t0 t1 t2 t3 t4 : Int} (ho : On3 mb 13 b g' w w') (hs : Sct w' mb 13 t0 t1 t2 t3 t4) : Mc w' mb pl p g nx got tg ii sp inn rest bk af ag t0 t1 t2 t3 t4 yes un :=
  ⟨(ho.cell _ (by omega)).trans h.c0, (ho.cell _ (by omega)).trans h.c1, (ho.cell _ (by omega)).trans h.c2, (ho.cell _ (by omega)).trans h.c3, (ho.cell _ (by omega)).trans h.c4, (ho.cell _ (by omega)).trans h.c5, (ho.cell _ (by omega)).trans h.c6, (ho.cell _ (by omega)).trans h.c7, (ho.cell _ (by omega)).trans h.c8, (ho.cell _ (by omega)).trans h.c9, (ho.cell _ (by omega)).trans h.c10, (ho.cell _ (by omega)).trans h.c11, (ho.cell _ (by omega)).trans h.c12, hs.c0, hs.c1, hs.c2, hs.c3, hs.c4, (ho.cell _ (by omega)).trans h.c18, (ho.cell _ (by omega)).trans h.c19, fun i => (ho.fz i).trans (h.fz i)⟩
end
end Go.Proofs.YtlahamkbkeckmaaGreatDoor
/-! A world of one processor, one machine, one goroutine: its cells; Asleep. -/
namespace Go.Proofs.YtlahamkbkeckmaaGreatDoor
open Go.RowKit
set_option linter.unusedVariables false
set_option linter.unusedSimpArgs false
set_option maxRecDepth 20000
/-- The world's own cells. -/
@[reducible] def wbV (b1 b2 rb tb q sb ib mb rc : Nat) (lg : Value) : Array Value := #[.int .i64 1, .int .i64 1, .int .i64 1, .pointer (some ⟨b1, 0, none⟩), .pointer (some ⟨b2, 0, none⟩), .int .i64 6, .int .i64 7, .int .i64 8, .int .i64 1, .slice (some ⟨rb, 0, none⟩) 1 rc, .slice (some ⟨tb, 0, none⟩) 1 1, .pointer (some ⟨q, 0, none⟩), .pointer (some ⟨sb, 0, none⟩), .pointer (some ⟨ib, 0, none⟩), .slice (some ⟨mb, 0, none⟩) 1 1, lg]
structure Wb (w : World) (W b1 b2 rb tb q sb ib mb rc : Nat) (lg : Value) : Prop where
  h : w.heap[W]? = some (.cells (wbV b1 b2 rb tb q sb ib mb rc lg) 70 (0, 0))
section
variable {w w' : World} {W b1 b2 rb tb q sb ib mb rc : Nat} {lg : Value}
theorem Wb.lt (h : Wb w W b1 b2 rb tb q sb ib mb rc lg) : W < w.heap.size := blk_lt h.h
theorem Wb.kept (h : Wb w W b1 b2 rb tb q sb ib mb rc lg) (e : w'.heap[W]? = w.heap[W]?) : Wb w' W b1 b2 rb tb q sb ib mb rc lg := ⟨e.trans h.h⟩
theorem Wb.c0 (h : Wb w W b1 b2 rb tb q sb ib mb rc lg) : w.cell? ⟨W, 0, none⟩ = some (.int .i64 1) := blk_cell h.h rfl
theorem Wb.c1 (h : Wb w W b1 b2 rb tb q sb ib mb rc lg) : w.cell? ⟨W, 1, none⟩ = some (.int .i64 1) := blk_cell h.h rfl
theorem Wb.c2 (h : Wb w W b1 b2 rb tb q sb ib mb rc lg) : w.cell? ⟨W, 2, none⟩ = some (.int .i64 1) := blk_cell h.h rfl
theorem Wb.c3 (h : Wb w W b1 b2 rb tb q sb ib mb rc lg) : w.cell? ⟨W, 3, none⟩ = some (.pointer (some ⟨b1, 0, none⟩)) := blk_cell h.h rfl
theorem Wb.c4 (h : Wb w W b1 b2 rb tb q sb ib mb rc lg) : w.cell? ⟨W, 4, none⟩ = some (.pointer (some ⟨b2, 0, none⟩)) := blk_cell h.h rfl
theorem Wb.c5 (h : Wb w W b1 b2 rb tb q sb ib mb rc lg) : w.cell? ⟨W, 5, none⟩ = some (.int .i64 6) := blk_cell h.h rfl
theorem Wb.c6 (h : Wb w W b1 b2 rb tb q sb ib mb rc lg) : w.cell? ⟨W, 6, none⟩ = some (.int .i64 7) := blk_cell h.h rfl
theorem Wb.c7 (h : Wb w W b1 b2 rb tb q sb ib mb rc lg) : w.cell? ⟨W, 7, none⟩ = some (.int .i64 8) := blk_cell h.h rfl
theorem Wb.c8 (h : Wb w W b1 b2 rb tb q sb ib mb rc lg) : w.cell? ⟨W, 8, none⟩ = some (.int .i64 1) := blk_cell h.h rfl
theorem Wb.c9 (h : Wb w W b1 b2 rb tb q sb ib mb rc lg) : w.cell? ⟨W, 9, none⟩ = some (.slice (some ⟨rb, 0, none⟩) 1 rc) := blk_cell h.h rfl
theorem Wb.c10 (h : Wb w W b1 b2 rb tb q sb ib mb rc lg) : w.cell? ⟨W, 10, none⟩ = some (.slice (some ⟨tb, 0, none⟩) 1 1) := blk_cell h.h rfl
theorem Wb.c11 (h : Wb w W b1 b2 rb tb q sb ib mb rc lg) : w.cell? ⟨W, 11, none⟩ = some (.pointer (some ⟨q, 0, none⟩)) := blk_cell h.h rfl
theorem Wb.c12 (h : Wb w W b1 b2 rb tb q sb ib mb rc lg) : w.cell? ⟨W, 12, none⟩ = some (.pointer (some ⟨sb, 0, none⟩)) := blk_cell h.h rfl
theorem Wb.c13 (h : Wb w W b1 b2 rb tb q sb ib mb rc lg) : w.cell? ⟨W, 13, none⟩ = some (.pointer (some ⟨ib, 0, none⟩)) := blk_cell h.h rfl
theorem Wb.c14 (h : Wb w W b1 b2 rb tb q sb ib mb rc lg) : w.cell? ⟨W, 14, none⟩ = some (.slice (some ⟨mb, 0, none⟩) 1 1) := blk_cell h.h rfl
theorem Wb.c15 (h : Wb w W b1 b2 rb tb q sb ib mb rc lg) : w.cell? ⟨W, 15, none⟩ = some (lg) := blk_cell h.h rfl
theorem Wb.fz (h : Wb w W b1 b2 rb tb q sb ib mb rc lg) (i : Nat) : w.frozen? ⟨W, i, none⟩ = false := blk_free h.h
set_option maxHeartbeats 8000000 in
theorem asleep_no (h : Wb w W b1 b2 rb tb q sb ib mb rc lg) (pl : Int) (hc : w.cell? ⟨mb, 0, none⟩ = some (.int .i64 pl)) (hp : pl ≠ 16) :
    Calls Tryz.prog 40 #[.pointer (some ⟨W, 0, none⟩), .int .i64 0] w fun e w' => e = .returned (.bool false) ∧ Quiet w w' := by
  have a4 := h.c4
  have a6 := h.c6
  have a14 := h.c14
  have t : (pl == 16) = false := beq_eq_false_iff_ne.2 hp
  clear h hp
  go_enter Tryz.func40, Tryz.ntmps40
  go_wp2_with fail
  go_quiet (fail)
  all_goals
    go_wp2
    go_ret
    exact ⟨rfl, (Quiet.refl _).drewN _⟩
end
end Go.Proofs.YtlahamkbkeckmaaGreatDoor
/-! A world of one: turn; a step at Sched. -/
namespace Go.Proofs.YtlahamkbkeckmaaGreatDoor
open Go.RowKit
set_option linter.unusedVariables false
set_option linter.unusedSimpArgs false
set_option maxRecDepth 20000
/-- Just these blocks were written, and new ones. -/
structure OnL (S : List Nat) (w w' : World) : Prop where
  os : w'.os = w.os
  tape : w'.tape = w.tape
  output : w'.output = w.output
  size : w.heap.size ≤ w'.heap.size
  block : ∀ k, k < w.heap.size → k ∉ S → w'.heap[k]? = w.heap[k]?
theorem OnL.refl (S : List Nat) (w : World) : OnL S w w := ⟨rfl, rfl, rfl, Nat.le_refl _, fun _ _ _ => rfl⟩
theorem OnL.trans {S : List Nat} {a b c : World} (h : OnL S a b) (k : OnL S b c) : OnL S a c :=
  ⟨k.os.trans h.os, k.tape.trans h.tape, k.output.trans h.output, Nat.le_trans h.size k.size, fun i hi hn => (k.block i (Nat.lt_of_lt_of_le hi h.size) hn).trans (h.block i hi hn)⟩
theorem OnL.of_below {S : List Nat} {w w' : World} (h : Below w.heap.size w w') : OnL S w w' := ⟨h.os, h.tape, h.output, h.size, fun k hk _ => h.block k hk⟩
theorem OnL.of_quiet {S : List Nat} {w w' : World} (h : Quiet w w') : OnL S w w' := .of_below (h.below _)
theorem OnL.set {S : List Nat} (w : World) (b i : Nat) (v : Value) (hb : b ∈ S) : OnL S w (w.setCell ⟨b, i, none⟩ v) :=
  ⟨rfl, rfl, rfl, by simp [World.setCell], fun k _ h => Below.heap_setCell _ _ _ _ (fun e => h (e ▸ hb))⟩
theorem OnL.mono {S S' : List Nat} {w w' : World} (h : OnL S w w') (hs : ∀ k ∈ S, k ∈ S') : OnL S' w w' := ⟨h.os, h.tape, h.output, h.size, fun k hk hn => h.block k hk (fun e => hn (hs k e))⟩
theorem OnL.of_only {S : List Nat} {b g : Nat} {w w' : World} (h : Only b g w w') (hb : b ∈ S) (hg : g ∈ S) : OnL S w w' :=
  ⟨h.os, h.tape, h.output, h.size, fun k hk hn => h.block k hk (fun e => hn (e ▸ hb)) (fun e => hn (e ▸ hg))⟩
theorem OnL.of_on3 {S : List Nat} {s o b g : Nat} {w w' : World} (h : On3 s o b g w w') (hs : s ∈ S) (hb : b ∈ S) (hg : g ∈ S) : OnL S w w' :=
  ⟨h.os, h.tape, h.output, h.size, fun k hk hn => h.block k hk (fun e => hn (e ▸ hs)) (fun e => hn (e ▸ hb)) (fun e => hn (e ▸ hg))⟩
theorem OnL.below {S : List Nat} {B : Nat} {w w' : World} (h : OnL S w w') (hS : ∀ k ∈ S, B ≤ k) (hB : B ≤ w.heap.size) : Below B w w' :=
  ⟨h.os, h.tape, h.output, h.size, fun k hk => h.block k (by omega) (fun e => by have := hS k e; omega)⟩
section
variable {w w' : World} {W b1 b2 rb tb q sb ib mb rc : Nat} {lg : Value}
variable {pl p g nx got tg ii : Int} {sp inn : Bool} {rest : Value} {bk af ag s0 s1 s2 s3 s4 : Int} {yes : Bool} {un : Int}
theorem cell_set_blk {w : World} {a b i j : Nat} {v : Value} (h : b ≠ a) : (w.setCell ⟨a, i, none⟩ v).cell? ⟨b, j, none⟩ = w.cell? ⟨b, j, none⟩ := World.cell?_of_block (Below.heap_setCell _ _ _ _ h)
/-- What turn leaves. -/
def TurnP (mb tb : Nat) (g nx got tg ii : Int) (sp inn : Bool) (rest : Value) (bk af ag s0 s1 s2 s3 s4 : Int) (yes : Bool) (un : Int) (w : World) (e : Ending) (w' : World) : Prop :=
  e = .returned (.tuple #[]) ∧ Mc w' mb 3 0 g nx got tg ii sp inn rest bk af ag s0 s1 s2 s3 s4 yes un ∧ w'.cell? ⟨tb, 0, none⟩ = some (.int .i64 1) ∧ OnL [mb, tb] w w'
set_option maxHeartbeats 8000000 in
theorem turn_0 (h : Wb w W b1 b2 rb tb q sb ib mb rc lg) (hm : Mc w mb pl 0 g nx got tg ii sp inn rest bk af ag s0 s1 s2 s3 s4 yes un) (ht : w.cell? ⟨tb, 0, none⟩ = some (.int .i64 0)) (hf : w.frozen? ⟨tb, 0, none⟩ = false) (n1 : tb ≠ mb) (n2 : tb ≠ W) (n3 : mb ≠ W) :
    Calls Tryz.prog 76 #[.pointer (some ⟨W, 0, none⟩), .pointer (some ⟨mb, 0, none⟩)] w (TurnP mb tb g nx got tg ii sp inn rest bk af ag s0 s1 s2 s3 s4 yes un w) := by
  have a10 := h.c10
  have k0 := hm.c0
  have k1 := hm.c1
  have kf := hm.fz
  have HM := hid hm
  have HT := hid ht
  clear h hm
  go_enter Tryz.func76, Tryz.ntmps76
  go_wp2_with fail
  go_region
  all_goals
    go_wp2_with fail
    go_region
    all_goals
      go_wp2
      go_end0
      exact ⟨rfl, ((HM.out.kept (Below.heap_setCell _ _ _ _ (Ne.symm n1))).up0 3).kept rfl,
        (cell_set_blk n1).trans (World.cell?_setCell_same _ _ _ HT.out), (OnL.set _ _ _ _ (by simp)).trans ((OnL.set _ _ _ _ (by simp)).trans (.of_quiet ⟨2, rfl⟩))⟩
set_option maxHeartbeats 8000000 in
theorem pass_sched (h : Wb w W b1 b2 rb tb q sb ib mb rc lg) (hm : Mc w mb 1 0 g nx got tg ii sp inn rest bk af ag s0 s1 s2 s3 s4 yes un) (ht : w.cell? ⟨tb, 0, none⟩ = some (.int .i64 0)) (hf : w.frozen? ⟨tb, 0, none⟩ = false) (n1 : tb ≠ mb) (n2 : tb ≠ W) (n3 : mb ≠ W) :
    Calls Tryz.prog 44 #[.pointer (some ⟨W, 0, none⟩), .int .i64 0] w (TurnP mb tb g nx got tg ii sp inn rest bk af ag s0 s1 s2 s3 s4 yes un w) := by
  have TU := hid (turn_0 h hm ht hf n1 n2 n3)
  have a14 := h.c14
  have k0 := hm.c0
  clear h hm ht hf
  go_enter Tryz.func44, Tryz.ntmps44
  go_wp2_with fail
  refine TU.out.mono ?_
  rintro e w2 ⟨rfl, h2⟩
  have H2 := hid h2
  clear h2
  go_wp2
  go_end0
  exact ⟨rfl, H2.out⟩
/-- A step that picks machine 0, and nothing else. -/
@[reducible] def stepV : Value := .agg #[.int .u8 0, .int .u8 0, .int .i64 0, .int .i64 0, .int .i64 0]
set_option maxHeartbeats 8000000 in
theorem step_pick (Φ : World → World → Prop) (HP : ∀ w1, Below w.heap.size w w1 → Calls Tryz.prog 23 #[.pointer (some ⟨W, 0, none⟩), stepV] w1 fun e w' => e = .returned (.bool true) ∧ Φ w1 w') :
    Calls Tryz.prog 13 #[.pointer (some ⟨W, 0, none⟩), stepV] w fun e w' => e = .returned (.bool true) ∧ ∃ w1, Below w.heap.size w w1 ∧ Φ w1 w' := by
  have H := hid HP
  have HB := hid (show Below w.heap.size w (w.alloc (.cells #[.int .u8 0, .int .u8 0, .int .i64 0, .int .i64 0, .int .i64 0] 40)) from (Below.refl _ _).alloc (Nat.le_refl _) _)
  clear HP
  go_enter Tryz.func13, Tryz.ntmps13
  go_wp2_with fail
  refine (H.out _ HB.out).mono ?_
  rintro e w2 ⟨rfl, h2⟩
  have H2 := hid h2
  clear h2
  go_wp2
  go_ret
  exact ⟨rfl, _, HB.out, H2.out⟩
end
end Go.Proofs.YtlahamkbkeckmaaGreatDoor
