/- Masks: the block of a mask, the block of its words; what each function answers and what it makes of a mask. -/
import Derived.Test.YtnabikoieolfcaaDoorTabDb
import Derived.Test.YtnabikoieolfcaaDoorBits
import Derived.Laws.Bits64b
import Derived.Laws.ShiftsVarLaws
import Derived.Laws.MakeOwn
import Derived.IntWalk
import Derived.OwnWalk
import Derived.Laws.Bits128
import Derived.Deep.QuietTactic
import Derived.BigQuiet
import Derived.Deep.OwnRows
namespace Go.Proofs.YtnabikoieolfcaaDoor
set_option linter.unusedVariables false
set_option linter.unusedSimpArgs false
open Go.RowKit

theorem and64 (a b : Nat) (ha : a < 18446744073709551616) (hb : b < 18446744073709551616) : bits .and .u64 (a : Int) (b : Int) = ((a &&& b : Nat) : Int) := bits_and_u64_nat a b ha hb
theorem wrap64 (a : Nat) (h : a < 18446744073709551616) : IntKind.u64.wrap (a : Int) = a := by rw [IntKind.wrap_u64]; omega

theorem pow_lt {r : Nat} (h : r < 64) : 2 ^ r < 18446744073709551616 := by
  have := Nat.pow_lt_pow_right (a := 2) (by omega) h
  simpa using this
theorem two_cast (r : Nat) : ((2 ^ r : Nat) : Int) = 2 ^ r := by simp
theorem tz_key (x a : Nat) (hx : x < 18446744073709551616) (hx0 : x ≠ 0) (hlow : x &&& (18446744073709551616 - x) = a) :
    IntKind.u64.wrap (bits BinOp.and IntKind.u64 (x : Int) (IntKind.u64.wrap (-(x : Int))) * 285870213051353865) / 288230376151711744 = ((a * 285870213051353865 % 18446744073709551616 / 288230376151711744 : Nat) : Int) := by
  have e1 : IntKind.u64.wrap (-(x : Int)) = ((18446744073709551616 - x : Nat) : Int) := by rw [IntKind.wrap_u64]; omega
  rw [e1, and64 x _ hx (by omega), hlow, IntKind.wrap_u64]
  omega

theorem ret_of {k : IntKind} {a b : Int} (h : a = b) : Ending.returned (.int k a) = .returned (.int k b) := by rw [h]
set_option maxHeartbeats 1000000 in
theorem ones_any (x : Nat) (hx : x < 18446744073709551616) (w : World) :
    Calls Tryd.prog 42 #[.int .u64 x] w fun e w' => e = .returned (.int .i64 (pop 64 x)) ∧ w = w' := by
  go_enter Tryd.func42, Tryd.ntmps42
  go_wp2_with fail
  go_ret
  refine ⟨ret_of ?_, rfl⟩
  obtain ⟨x1, e1⟩ : ∃ x1, x1 = (x / 2 &&& 6148914691236517205) + (x &&& 6148914691236517205) := ⟨_, rfl⟩
  obtain ⟨x2, e2⟩ : ∃ x2, x2 = (x1 / 4 &&& 3689348814741910323) + (x1 &&& 3689348814741910323) := ⟨_, rfl⟩
  obtain ⟨x3, e3⟩ : ∃ x3, x3 = (x2 / 16 + x2) &&& 1085102592571150095 := ⟨_, rfl⟩
  obtain ⟨y1, g1⟩ : ∃ y1, y1 = x3 + x3 / 256 := ⟨_, rfl⟩
  obtain ⟨y2, g2⟩ : ∃ y2, y2 = y1 + y1 / 65536 := ⟨_, rfl⟩
  obtain ⟨y3, g3⟩ : ∃ y3, y3 = y2 + y2 / 4294967296 := ⟨_, rfl⟩
  obtain ⟨b1, b2, b3, b4, b5, b6, hp⟩ := ones64 x hx x1 x2 x3 y1 y2 y3 e1 e2 e3 g1 g2 g3
  have k1 : IntKind.u64.wrap (bits .and .u64 ((x : Int) / 2) 6148914691236517205 + bits .and .u64 (x : Int) 6148914691236517205) = (x1 : Int) := by
    have h1 := and64 (x / 2) 6148914691236517205 (by omega) (by omega)
    have h2 := and64 x 6148914691236517205 (by omega) (by omega)
    rw [Int.natCast_ediv] at h1
    simp only [Int.cast_ofNat_Int] at h1 h2
    rw [h1, h2, ← Int.natCast_add, ← e1, wrap64 _ b1]
  have k2 : IntKind.u64.wrap (bits .and .u64 ((x1 : Int) / 4) 3689348814741910323 + bits .and .u64 (x1 : Int) 3689348814741910323) = (x2 : Int) := by
    have h1 := and64 (x1 / 4) 3689348814741910323 (by omega) (by omega)
    have h2 := and64 x1 3689348814741910323 (by omega) (by omega)
    rw [Int.natCast_ediv] at h1
    simp only [Int.cast_ofNat_Int] at h1 h2
    rw [h1, h2, ← Int.natCast_add, ← e2, wrap64 _ (by omega)]
  have k3 : bits .and .u64 (IntKind.u64.wrap ((x2 : Int) / 16 + x2)) 1085102592571150095 = (x3 : Int) := by
    have h0 : (x2 : Int) / 16 + x2 = ((x2 / 16 + x2 : Nat) : Int) := by omega
    rw [h0, wrap64 _ (by omega)]
    have h1 := and64 (x2 / 16 + x2) 1085102592571150095 (by omega) (by omega)
    simp only [Int.cast_ofNat_Int] at h1
    rw [h1, ← e3]
  have k4 : IntKind.u64.wrap ((x3 : Int) + (x3 : Int) / 256) = y1 := by
    rw [show (x3 : Int) + (x3 : Int) / 256 = (y1 : Int) by omega, wrap64 _ b4]
  have k5 : IntKind.u64.wrap ((y1 : Int) + (y1 : Int) / 65536) = y2 := by
    rw [show (y1 : Int) + (y1 : Int) / 65536 = (y2 : Int) by omega, wrap64 _ b5]
  have k6 : IntKind.u64.wrap ((y2 : Int) + (y2 : Int) / 4294967296) = y3 := by
    rw [show (y2 : Int) + (y2 : Int) / 4294967296 = (y3 : Int) by omega, wrap64 _ (by omega)]
  rw [k1, k2, k3, k4, k5, k6, i64_and127, IntWalk.wrap64_in _ (by omega)]
  omega
set_option maxHeartbeats 1000000 in
theorem tz_core (x k idx : Nat) (w : World) (hx0 : ((x : Int) == 0) = false)
    (key : IntKind.u64.wrap (bits BinOp.and IntKind.u64 (x : Int) (IntKind.u64.wrap (-(x : Int))) * 285870213051353865) / 288230376151711744 = (idx : Int))
    (hi : idx < 64) (hk : k < 64) (hcell : w.cell? ⟨0, idx, none⟩ = some (.int .u8 k)) :
    Calls Tryd.prog 47 #[.int .u64 x] w fun e w' => e = .returned (.int .i64 k) ∧ w = w' := by
  go_enter Tryd.func47, Tryd.ntmps47
  go_wp2_with (simp only [key])
  go_ret
  exact ⟨rfl, rfl⟩
theorem tz_any (x : Nat) (h0 : x ≠ 0) (hx : x < 18446744073709551616) (w : World) (T : DbTab w) :
    Calls Tryd.prog 47 #[.int .u64 x] w fun e w' => e = .returned (.int .i64 (Lib.ctz 64 x)) ∧ w = w' := by
  obtain ⟨hlow, hk⟩ := Lib.lowest_bit 64 x h0 hx
  obtain ⟨hi, htab⟩ := Lib.deBruijn64_at _ hk
  have hc := T _ hi
  rw [htab] at hc
  exact tz_core x (Lib.ctz 64 x) _ w (beq_eq_false_iff_ne.2 (by omega)) (tz_key x _ hx h0 hlow) hi hk hc

/-- Block x is a mask of n numbers, block y its words: i is in, if f i. -/
structure Msk (w : World) (x y : Nat) (n : Nat) (W : List Nat) : Prop where
  h : ∃ cap cur, w.heap[x]? = some (.cells #[.int .i64 n, .slice (some ⟨y, 0, none⟩) W.length cap] 55 (0, 0)) ∧ w.heap[y]? = some (.cells cur 61 (0, 0)) ∧ W.length ≤ cap ∧ cap ≤ maxLen ∧ cur.size = cap ∧ cur.toList.take W.length = W.map fun v : Nat => Value.int .u64 (v : Int)
  ne : x ≠ y
  len : W.length = (n + 63) / 64
  wf : ∀ k, W.getD k 0 < 18446744073709551616
  out : ∀ i, n ≤ i → bitAt W i = false
  most : n ≤ 4096
namespace Msk
variable {w : World} {x y n : Nat} {W : List Nat}
theorem c0 (h : Msk w x y n W) : w.cell? ⟨x, 0, none⟩ = some (.int .i64 n) := by
  obtain ⟨cap, cur, hb, hg, h1, h2, h3, h4⟩ := h.h
  simp [World.cell?, hb]
theorem c1 (h : Msk w x y n W) : ∃ cap, w.cell? ⟨x, 1, none⟩ = some (.slice (some ⟨y, 0, none⟩) W.length cap) ∧ W.length ≤ cap ∧ cap ≤ maxLen := by
  obtain ⟨cap, cur, hb, hg, h1, h2, h3, h4⟩ := h.h
  exact ⟨cap, by simp [World.cell?, hb], h1, h2⟩
theorem fx (h : Msk w x y n W) (i : Nat) : w.frozen? ⟨x, i, none⟩ = false := by
  obtain ⟨cap, cur, hb, hg, h1, h2, h3, h4⟩ := h.h
  simp [World.frozen?, hb]
theorem fy (h : Msk w x y n W) (i : Nat) : w.frozen? ⟨y, i, none⟩ = false := by
  obtain ⟨cap, cur, hb, hg, h1, h2, h3, h4⟩ := h.h
  simp [World.frozen?, hg]
theorem cy (h : Msk w x y n W) (i : Nat) (hi : i < W.length) : w.cell? ⟨y, i, none⟩ = some (.int .u64 ((W.getD i 0 : Nat) : Int)) := by
  obtain ⟨cap, cur, hb, hg, h1, h2, h3, h4⟩ := h.h
  have e : (cur.toList.take W.length)[i]? = cur.toList[i]? := by rw [List.getElem?_take, if_pos hi]
  rw [h4] at e
  have e' : w.cell? ⟨y, i, none⟩ = cur.toList[i]? := by simp [World.cell?, hg]
  rw [e', ← e]
  simp [hi]
theorem sx (h : Msk w x y n W) : x < w.heap.size := by
  obtain ⟨cap, cur, hb, hg, h1, h2, h3, h4⟩ := h.h
  rw [Array.getElem?_eq_some_iff] at hb; exact hb.1
theorem sy (h : Msk w x y n W) : y < w.heap.size := by
  obtain ⟨cap, cur, hb, hg, h1, h2, h3, h4⟩ := h.h
  rw [Array.getElem?_eq_some_iff] at hg; exact hg.1
theorem kept (h : Msk w x y n W) {w' : World} (hx : w'.heap[x]? = w.heap[x]?) (hy : w'.heap[y]? = w.heap[y]?) : Msk w' x y n W := by
  obtain ⟨cap, cur, hb', hg', h1⟩ := h.h
  exact ⟨⟨cap, cur, hx.trans hb', hy.trans hg', h1⟩, h.ne, h.len, h.wf, h.out, h.most⟩
theorem other (h : Msk w x y n W) {b' g' : Nat} {w' : World} (ho : Only b' g' w w') (h1 : x ≠ b') (h2 : x ≠ g') (h3 : y ≠ b') (h4 : y ≠ g') : Msk w' x y n W :=
  h.kept (ho.block _ h.sx h1 h2) (ho.block _ h.sy h3 h4)
theorem below (h : Msk w x y n W) {B : Nat} {w' : World} (ho : Below B w w') (h1 : x < B) (h2 : y < B) : Msk w' x y n W :=
  h.kept (ho.block _ h1) (ho.block _ h2)
theorem quiet (h : Msk w x y n W) {w' : World} (q : Quiet w w') : Msk w' x y n W := h.kept (by rw [q.heap]) (by rw [q.heap])
theorem low (h : Msk w x y n W) {i : Nat} (hi : i < n) : i / 64 < W.length := by have := h.len; omega
end Msk

set_option maxHeartbeats 400000 in
theorem mlen_any (x y n : Nat) (W : List Nat) (w : World) (hm : Msk w x y n W) :
    Calls Tryd.prog 38 #[.pointer (some ⟨x, 0, none⟩)] w fun e w' => e = .returned (.int .i64 n) ∧ w = w' := by
  have h0 := hm.c0
  go_enter Tryd.func38, Tryd.ntmps38
  go_wp2
  go_ret
  exact ⟨rfl, rfl⟩

set_option maxHeartbeats 400000 in
theorem bit_out (x y n : Nat) (W : List Nat) (i : Int) (w : World) (hm : Msk w x y n W) (hi : i < 0 ∨ (n : Int) ≤ i) :
    Calls Tryd.prog 43 #[.pointer (some ⟨x, 0, none⟩), .int .i64 i] w fun e w' => e = .returned (.tuple #[.int .i64 0, .int .u64 0, .bool false]) ∧ w = w' := by
  have h0 := hm.c0
  by_cases h : i < 0
  · clear hi
    go_enter Tryd.func43, Tryd.ntmps43
    go_wp2
    go_ret3
    exact ⟨rfl, rfl⟩
  · have hi2 : (n : Int) ≤ i := by omega
    have hi3 : 0 ≤ i := by omega
    clear hi
    go_enter Tryd.func43, Tryd.ntmps43
    go_wp2
    go_ret3
    exact ⟨rfl, rfl⟩
set_option maxHeartbeats 400000 in
theorem bit_in (x y n : Nat) (W : List Nat) (i q r : Nat) (w : World) (hm : Msk w x y n W) (hi : i < n) (hq : i / 64 = q) (hr : i % 64 = r) :
    Calls Tryd.prog 43 #[.pointer (some ⟨x, 0, none⟩), .int .i64 i] w fun e w' => e = .returned (.tuple #[.int .i64 q, .int .u64 ((2 ^ r : Nat) : Int), .bool true]) ∧ Quiet w w' := by
  have h0 := hm.c0
  have hi2 : ¬ (n : Int) ≤ i := by omega
  have hi4 : (i : Int) < n := by omega
  have hi3 : ¬ (i : Int) < 0 := by omega
  have hi5 : 0 ≤ (i : Int) := by omega
  go_enter Tryd.func43, Tryd.ntmps43
  go_wp2_with fail
  go_quiet (fail)
  go_wp2_with fail
  go_ret3
  refine ⟨?_, nq, rfl⟩
  have e1 : RowKit.wrap64 ((i : Int) / 64) = q := by rw [IntWalk.wrap64_in _ (by have := hm.most; omega)]; omega
  have e2 : IntKind.u64.wrap (2 ^ (i % 64)) = ((2 ^ r : Nat) : Int) := by
    rw [hr, ← two_cast, wrap64 _ (pow_lt (by omega))]
  rw [e1, e2]
  rfl

/-- What a number's bit is, as the walk asks for it. -/
theorem and_yes {v r : Nat} (hv : v < 18446744073709551616) (hr : r < 64) (h : v.testBit r = true) : bits .and .u64 (v : Int) ((2 ^ r : Nat) : Int) = ((2 ^ r : Nat) : Int) := by
  rw [and64 v _ hv (pow_lt hr), and_pow, if_pos h]
theorem and_no {v r : Nat} (hv : v < 18446744073709551616) (hr : r < 64) (h : v.testBit r = false) : bits .and .u64 (v : Int) ((2 ^ r : Nat) : Int) = 0 := by
  rw [and64 v _ hv (pow_lt hr), and_pow, if_neg (by simp [h])]; rfl

set_option maxHeartbeats 1000000 in
theorem has_out (x y n : Nat) (W : List Nat) (i : Int) (w : World) (hm : Msk w x y n W) (hi : i < 0 ∨ (n : Int) ≤ i) :
    Calls Tryd.prog 31 #[.pointer (some ⟨x, 0, none⟩), .int .i64 i] w fun e w' => e = .returned (.bool false) ∧ w = w' := by
  go_enter Tryd.func31, Tryd.ntmps31
  go_wp2_with fail
  refine (bit_out x y n W i _ hm hi).mono ?_
  rintro e w' ⟨rfl, rfl⟩
  go_wp2
  go_ret
  exact ⟨rfl, rfl⟩
set_option maxHeartbeats 1000000 in
theorem has_in (x y n : Nat) (W : List Nat) (i : Nat) (b : Bool) (w : World) (hm : Msk w x y n W) (hi : i < n) (hb : bitAt W i = b) :
    Calls Tryd.prog 31 #[.pointer (some ⟨x, 0, none⟩), .int .i64 i] w fun e w' => e = .returned (.bool b) ∧ Quiet w w' := by
  obtain ⟨q, hq⟩ : ∃ q, i / 64 = q := ⟨_, rfl⟩
  obtain ⟨r, hr⟩ : ∃ r, i % 64 = r := ⟨_, rfl⟩
  obtain ⟨v, hv⟩ : ∃ v, v = W.getD q 0 := ⟨_, rfl⟩
  have hql : q < W.length := by have := hm.low hi; omega
  have BIT := hid (bit_in x y n W i q r w hm hi hq hr)
  have hvw := hm.wf q
  simp only [bitAt, hq, hr] at hb
  rw [← hv] at hb hvw
  have hr64 : r < 64 := by omega
  have HY := hid (and_yes hvw hr64)
  have HN := hid (and_no (r := r) hvw hr64)
  have HM := hid hm
  have hcy := hid (hm.cy q hql)
  rw [← hv] at hcy
  have hp0 : 0 < 2 ^ r := Nat.two_pow_pos r
  generalize hpp : 2 ^ r = p at BIT HY HN hp0
  obtain ⟨wl, hwl⟩ : ∃ wl, wl = W.length := ⟨_, rfl⟩
  have hqi : (q : Int) < (wl : Int) := by omega
  have hq0 : 0 ≤ (q : Int) := by omega
  have HWL := hid hwl
  clear hm hv hq hr hpp hi hwl hql
  go_enter Tryd.func31, Tryd.ntmps31
  go_wp2_with fail
  refine BIT.out.mono ?_
  rintro e w' ⟨rfl, hq'⟩
  obtain ⟨cap, h1, hcap, hcap2⟩ := (HM.out.quiet hq').c1
  rw [← HWL.out] at h1 hcap
  have h2 : w'.cell? ⟨y, q, none⟩ = some (.int .u64 v) := by rw [hq'.cell]; exact hcy.out
  have HQ := hid hq'
  clear hq'
  rcases b with _ | _
  · have hk := HN.out hb
    clear hb
    go_wp2
    go_ret
    exact ⟨rfl, HQ.out⟩
  · have hk := HY.out hb
    have t : ((p : Int) != 0) = true := by simp; omega
    clear hb
    go_wp2
    go_ret
    exact ⟨rfl, HQ.out⟩
end Go.Proofs.YtnabikoieolfcaaDoor
