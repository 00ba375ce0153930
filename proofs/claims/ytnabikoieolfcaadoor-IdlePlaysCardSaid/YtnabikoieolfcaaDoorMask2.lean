/- Masks: Put, Take. -/
import Derived.Test.YtnabikoieolfcaaDoorMask
namespace Go.Proofs.YtnabikoieolfcaaDoor
set_option linter.unusedVariables false
set_option linter.unusedSimpArgs false
open Go.RowKit

theorem set_y {w : World} {x y n i : Nat} {W : List Nat} (h : Msk w x y n W) (hi : i < n) (v : Nat) (b : Bool) (hv : v < 18446744073709551616)
    (hb : ∀ j, j < 64 → v.testBit j = if j = i % 64 then b else (W.getD (i / 64) 0).testBit j) :
    Msk (w.setCell ⟨y, i / 64, none⟩ (.int .u64 (v : Int))) x y n (W.set (i / 64) v) ∧ bitAt (W.set (i / 64) v) = upd (bitAt W) i b ∧ Only x y w (w.setCell ⟨y, i / 64, none⟩ (.int .u64 (v : Int))) := by
  have hbit := bitAt_set W i v (h.low hi) b hb
  obtain ⟨cap, cur, hx, hy, h1, h2, h3, h4⟩ := h.h
  refine ⟨⟨⟨cap, cur.setIfInBounds (i / 64) (.int .u64 v), ?_, ?_, by simpa using h1, h2, by simpa using h3, ?_⟩, h.ne, by simpa using h.len, ?_, ?_, h.most⟩, hbit, ⟨rfl, rfl, rfl, by simp [World.setCell], fun k _ _ h2 => Below.heap_setCell _ _ _ _ h2⟩⟩
  · rw [Below.heap_setCell _ _ _ _ h.ne]; simpa using hx
  · simp [World.setCell, Array.getElem?_modify, hy]
  · simp only [Array.toList_setIfInBounds, List.length_set, List.take_set, h4, List.map_set]
  · intro k
    simp only [List.getD_eq_getElem?_getD, List.getElem?_set]
    split
    · split
      · simpa using hv
      · simp
    · have := h.wf k
      simpa [List.getD_eq_getElem?_getD] using this
  · intro j hj
    rw [hbit, upd_ne _ _ (by omega)]
    exact h.out j hj

theorem or64 (v r : Nat) (hv : v < 18446744073709551616) (hr : r < 64) : bits .or .u64 (v : Int) ((2 ^ r : Nat) : Int) = ((v ||| 2 ^ r : Nat) : Int) := bits_or_u64_nat v _ hv (pow_lt hr)
theorem andnot64 (v r : Nat) (hv : v < 18446744073709551616) (hr : r < 64) : bits .andNot .u64 (v : Int) ((2 ^ r : Nat) : Int) = ((v &&& (18446744073709551615 - 2 ^ r) : Nat) : Int) := u64_andNot_nat v _ hv (pow_lt hr)
theorem or_lt {v r : Nat} (hv : v < 18446744073709551616) (hr : r < 64) : v ||| 2 ^ r < 18446744073709551616 := by
  have := Nat.or_lt_two_pow (x := v) (y := 2 ^ r) (n := 64) (by omega) (by have := pow_lt hr; omega)
  simpa using this
theorem andnot_lt {v u : Nat} (hv : v < 18446744073709551616) : v &&& u < 18446744073709551616 := Nat.lt_of_le_of_lt Nat.and_le_left hv
theorem Only.of_quiet' {b g : Nat} {w w' : World} (h : Quiet w w') : Only b g w w' := by
  obtain ⟨n, rfl⟩ := h; exact ⟨rfl, rfl, rfl, Nat.le_refl _, fun _ _ _ _ => rfl⟩
set_option maxHeartbeats 1000000 in
theorem put_out (x y n : Nat) (W : List Nat) (i : Int) (w : World) (hm : Msk w x y n W) (hi : i < 0 ∨ (n : Int) ≤ i) :
    Calls Tryd.prog 34 #[.pointer (some ⟨x, 0, none⟩), .int .i64 i] w fun e w' => e = .returned (.bool false) ∧ w = w' := by
  go_enter Tryd.func34, Tryd.ntmps34
  go_wp2_with fail
  refine (bit_out x y n W i _ hm hi).mono ?_
  rintro e w' ⟨rfl, rfl⟩
  go_wp2
  go_ret
  exact ⟨rfl, rfl⟩
set_option maxHeartbeats 1000000 in
theorem put_no (x y n : Nat) (W : List Nat) (i : Nat) (w : World) (hm : Msk w x y n W) (hi : i < n) (hb : bitAt W i = true) :
    Calls Tryd.prog 34 #[.pointer (some ⟨x, 0, none⟩), .int .i64 i] w fun e w' => e = .returned (.bool false) ∧ Quiet w w' := by
  obtain ⟨q, hq⟩ : ∃ q, i / 64 = q := ⟨_, rfl⟩
  obtain ⟨r, hr⟩ : ∃ r, i % 64 = r := ⟨_, rfl⟩
  obtain ⟨v, hv⟩ : ∃ v, v = W.getD q 0 := ⟨_, rfl⟩
  have hql : q < W.length := by have := hm.low hi; omega
  have BIT := hid (bit_in x y n W i q r w hm hi hq hr)
  have hvw := hm.wf q
  simp only [bitAt, hq, hr] at hb
  rw [← hv] at hb hvw
  have hr64 : r < 64 := by omega
  have HY := hid (and_yes hvw hr64 hb)
  have HM := hid hm
  have hcy := hid (hm.cy q hql)
  rw [← hv] at hcy
  have hp0 : 0 < 2 ^ r := Nat.two_pow_pos r
  generalize hpp : 2 ^ r = p at BIT HY hp0
  obtain ⟨wl, hwl⟩ : ∃ wl, wl = W.length := ⟨_, rfl⟩
  have hqi : (q : Int) < (wl : Int) := by omega
  have hq0 : 0 ≤ (q : Int) := by omega
  have HWL := hid hwl
  clear hm hv hq hr hpp hi hwl hql hb
  go_enter Tryd.func34, Tryd.ntmps34
  go_wp2_with fail
  refine BIT.out.mono ?_
  rintro e w' ⟨rfl, hq'⟩
  obtain ⟨cap, h1, hcap, hcap2⟩ := (HM.out.quiet hq').c1
  rw [← HWL.out] at h1 hcap
  have h2 : w'.cell? ⟨y, q, none⟩ = some (.int .u64 v) := by rw [hq'.cell]; exact hcy.out
  have HQ := hid hq'
  clear hq'
  have hk := HY.out
  have t : ((p : Int) != 0) = true := by simp; omega
  have t2 : ((p : Int) == 0) = false := by simp; omega
  go_wp2
  go_ret
  exact ⟨rfl, HQ.out⟩
/-- Put, where a bit is turned. -/
def PutPost (x y n i : Nat) (W : List Nat) (w : World) (e : Ending) (w' : World) : Prop :=
  ∃ W', e = .returned (.bool true) ∧ Msk w' x y n W' ∧ bitAt W' = upd (bitAt W) i true ∧ Only x y w w'
set_option maxHeartbeats 1000000 in
theorem put_yes (x y n : Nat) (W : List Nat) (i : Nat) (w : World) (hm : Msk w x y n W) (hi : i < n) (hb : bitAt W i = false) :
    Calls Tryd.prog 34 #[.pointer (some ⟨x, 0, none⟩), .int .i64 i] w (PutPost x y n i W w) := by
  have SET := hid (fun w' (hq : Quiet w w') v hv hb => set_y (hm.quiet hq) hi v true hv hb)
  obtain ⟨q, hq⟩ : ∃ q, i / 64 = q := ⟨_, rfl⟩
  obtain ⟨r, hr⟩ : ∃ r, i % 64 = r := ⟨_, rfl⟩
  obtain ⟨v, hv⟩ : ∃ v, v = W.getD q 0 := ⟨_, rfl⟩
  have hql : q < W.length := by have := hm.low hi; omega
  have BIT := hid (bit_in x y n W i q r w hm hi hq hr)
  have hvw := hm.wf q
  simp only [bitAt, hq, hr] at hb
  simp only [hq, hr] at SET
  rw [← hv] at hb hvw SET
  have hr64 : r < 64 := by omega
  have HY := hid (and_no hvw hr64 hb)
  have HO := hid (or64 v r hvw hr64)
  have HB := hid (or_bit v r)
  have HL := hid (or_lt hvw hr64)
  have HM := hid hm
  have hcy := hid (hm.cy q hql)
  rw [← hv] at hcy
  have hp0 : 0 < 2 ^ r := Nat.two_pow_pos r
  generalize hpp : 2 ^ r = p at BIT HY hp0 HO HB HL
  generalize huu : v ||| p = u at HO HB HL
  obtain ⟨wl, hwl⟩ : ∃ wl, wl = W.length := ⟨_, rfl⟩
  have hqi : (q : Int) < (wl : Int) := by omega
  have hq0 : 0 ≤ (q : Int) := by omega
  have HWL := hid hwl
  clear hm hv hq hpp huu hi hwl hql hb
  go_enter Tryd.func34, Tryd.ntmps34
  go_wp2_with fail
  refine BIT.out.mono ?_
  rintro e w' ⟨rfl, hq'⟩
  have HM' := HM.out.quiet hq'
  obtain ⟨cap, h1, hcap, hcap2⟩ := HM'.c1
  rw [← HWL.out] at h1 hcap
  have h2 : w'.cell? ⟨y, q, none⟩ = some (.int .u64 v) := by rw [hq'.cell]; exact hcy.out
  have f2 := HM'.fy q
  have FIN := hid (SET.out w' hq' u HL.out HB.out)
  have HQ := hid hq'
  clear hq' HM'
  have hk := HY.out
  have ho := HO.out
  have t : ((p : Int) != 0) = true := by simp; omega
  have t2 : ((p : Int) == 0) = false := by simp; omega
  go_wp2
  go_ret
  exact ⟨_, rfl, FIN.out.1, FIN.out.2.1, (Only.of_quiet' HQ.out).trans FIN.out.2.2⟩
set_option maxHeartbeats 1000000 in
theorem take_out (x y n : Nat) (W : List Nat) (i : Int) (w : World) (hm : Msk w x y n W) (hi : i < 0 ∨ (n : Int) ≤ i) :
    Calls Tryd.prog 37 #[.pointer (some ⟨x, 0, none⟩), .int .i64 i] w fun e w' => e = .returned (.bool false) ∧ w = w' := by
  go_enter Tryd.func37, Tryd.ntmps37
  go_wp2_with fail
  refine (bit_out x y n W i _ hm hi).mono ?_
  rintro e w' ⟨rfl, rfl⟩
  go_wp2
  go_ret
  exact ⟨rfl, rfl⟩
set_option maxHeartbeats 1000000 in
theorem take_no (x y n : Nat) (W : List Nat) (i : Nat) (w : World) (hm : Msk w x y n W) (hi : i < n) (hb : bitAt W i = false) :
    Calls Tryd.prog 37 #[.pointer (some ⟨x, 0, none⟩), .int .i64 i] w fun e w' => e = .returned (.bool false) ∧ Quiet w w' := by
  obtain ⟨q, hq⟩ : ∃ q, i / 64 = q := ⟨_, rfl⟩
  obtain ⟨r, hr⟩ : ∃ r, i % 64 = r := ⟨_, rfl⟩
  obtain ⟨v, hv⟩ : ∃ v, v = W.getD q 0 := ⟨_, rfl⟩
  have hql : q < W.length := by have := hm.low hi; omega
  have BIT := hid (bit_in x y n W i q r w hm hi hq hr)
  have hvw := hm.wf q
  simp only [bitAt, hq, hr] at hb
  rw [← hv] at hb hvw
  have hr64 : r < 64 := by omega
  have HY := hid (and_no hvw hr64 hb)
  have HM := hid hm
  have hcy := hid (hm.cy q hql)
  rw [← hv] at hcy
  have hp0 : 0 < 2 ^ r := Nat.two_pow_pos r
  generalize hpp : 2 ^ r = p at BIT HY hp0
  obtain ⟨wl, hwl⟩ : ∃ wl, wl = W.length := ⟨_, rfl⟩
  have hqi : (q : Int) < (wl : Int) := by omega
  have hq0 : 0 ≤ (q : Int) := by omega
  have HWL := hid hwl
  clear hm hv hq hr hpp hi hwl hql hb
  go_enter Tryd.func37, Tryd.ntmps37
  go_wp2_with fail
  refine BIT.out.mono ?_
  rintro e w' ⟨rfl, hq'⟩
  obtain ⟨cap, h1, hcap, hcap2⟩ := (HM.out.quiet hq').c1
  rw [← HWL.out] at h1 hcap
  have h2 : w'.cell? ⟨y, q, none⟩ = some (.int .u64 v) := by rw [hq'.cell]; exact hcy.out
  have HQ := hid hq'
  clear hq'
  have hk := HY.out
  have t : ((p : Int) != 0) = true := by simp; omega
  have t2 : ((p : Int) == 0) = false := by simp; omega
  go_wp2
  go_ret
  exact ⟨rfl, HQ.out⟩
/-- Take, where a bit is turned. -/
def TakePost (x y n i : Nat) (W : List Nat) (w : World) (e : Ending) (w' : World) : Prop :=
  ∃ W', e = .returned (.bool true) ∧ Msk w' x y n W' ∧ bitAt W' = upd (bitAt W) i false ∧ Only x y w w'
set_option maxHeartbeats 1000000 in
theorem take_yes (x y n : Nat) (W : List Nat) (i : Nat) (w : World) (hm : Msk w x y n W) (hi : i < n) (hb : bitAt W i = true) :
    Calls Tryd.prog 37 #[.pointer (some ⟨x, 0, none⟩), .int .i64 i] w (TakePost x y n i W w) := by
  have SET := hid (fun w' (hq : Quiet w w') v hv hb => set_y (hm.quiet hq) hi v false hv hb)
  obtain ⟨q, hq⟩ : ∃ q, i / 64 = q := ⟨_, rfl⟩
  obtain ⟨r, hr⟩ : ∃ r, i % 64 = r := ⟨_, rfl⟩
  obtain ⟨v, hv⟩ : ∃ v, v = W.getD q 0 := ⟨_, rfl⟩
  have hql : q < W.length := by have := hm.low hi; omega
  have BIT := hid (bit_in x y n W i q r w hm hi hq hr)
  have hvw := hm.wf q
  simp only [bitAt, hq, hr] at hb
  simp only [hq, hr] at SET
  rw [← hv] at hb hvw SET
  have hr64 : r < 64 := by omega
  have HY := hid (and_yes hvw hr64 hb)
  have HO := hid (andnot64 v r hvw hr64)
  have HB := hid (andnot_bit v hr64)
  have HL := hid (andnot_lt (u := 18446744073709551615 - 2 ^ r) hvw)
  have HM := hid hm
  have hcy := hid (hm.cy q hql)
  rw [← hv] at hcy
  have hp0 : 0 < 2 ^ r := Nat.two_pow_pos r
  generalize hpp : 2 ^ r = p at BIT HY hp0 HO HB HL
  generalize huu : v &&& (18446744073709551615 - p) = u at HO HB HL
  obtain ⟨wl, hwl⟩ : ∃ wl, wl = W.length := ⟨_, rfl⟩
  have hqi : (q : Int) < (wl : Int) := by omega
  have hq0 : 0 ≤ (q : Int) := by omega
  have HWL := hid hwl
  clear hm hv hq hpp huu hi hwl hql hb
  go_enter Tryd.func37, Tryd.ntmps37
  go_wp2_with fail
  refine BIT.out.mono ?_
  rintro e w' ⟨rfl, hq'⟩
  have HM' := HM.out.quiet hq'
  obtain ⟨cap, h1, hcap, hcap2⟩ := HM'.c1
  rw [← HWL.out] at h1 hcap
  have h2 : w'.cell? ⟨y, q, none⟩ = some (.int .u64 v) := by rw [hq'.cell]; exact hcy.out
  have f2 := HM'.fy q
  have FIN := hid (SET.out w' hq' u HL.out HB.out)
  have HQ := hid hq'
  clear hq' HM'
  have hk := HY.out
  have ho := HO.out
  have t : ((p : Int) != 0) = true := by simp; omega
  have t2 : ((p : Int) == 0) = false := by simp; omega
  go_wp2
  go_ret
  exact ⟨_, rfl, FIN.out.1, FIN.out.2.1, (Only.of_quiet' HQ.out).trans FIN.out.2.2⟩
end Go.Proofs.YtnabikoieolfcaaDoor
