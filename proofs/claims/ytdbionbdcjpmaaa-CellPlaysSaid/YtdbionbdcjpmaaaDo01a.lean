/- hostlerlaw01.do: one act (more of the kinds). -/
import Derived.Test.YtdbionbdcjpmaaaDo01
namespace Go.Proofs.Ytdbionbdcjpmaaa.cellPlays
open Go.RowKit
set_option linter.unusedVariables false
set_option linter.unusedSimpArgs false

set_option maxHeartbeats 4000000 in
theorem do_load_in (kd i X Y D : Int) (k base n c b g : Nat) (a : Option Addr) (xs : List Int) (w : World) (h : Offs w base 30 (.slice a n c) (vals xs)) (hm : Mem w b g xs k) (hb : b < base) (hg : g < base) (hbs : base ≤ w.heap.size) (hl : xs.length ≤ 1000) (hk9 : k ≤ 900000) (hk0 : 0 ≤ kd) (hk1 : kd ≤ 255) (hkd : kd % 6 = 0) (hi0 : 0 ≤ i) (hi : i < xs.length) :
    Calls Try.prog 9 #[.pointer (some ⟨b, 0, none⟩), .agg #[.slice a n c, .int .i64 k], .agg #[.int .u8 kd, .int .i64 i, .int .u64 X, .int .u64 Y, .int .i64 D]] w (DoPost w base n b g (.slice a n c) xs (k + 1)) := by
  have hk : k ≤ 1000000 := by omega
  have sb := hm.sb
  have sg := hm.sg
  have t0 : (kd % 6 == 0) = true := by rw [hkd]; rfl
  have t1 : (kd % 6 == 1) = false := by rw [hkd]; rfl
  have t3 : (kd % 6 == 3) = false := by rw [hkd]; rfl
  have t4 : (kd % 6 == 4) = false := by rw [hkd]; rfl
  have t5 : (kd % 6 == 5) = false := by rw [hkd]; rfl
  have Q0 := hid (D0.first w b g sb sg kd i X Y D (.slice a n c) k)
  have HO := hid (h.kept (fun q hq => Q0.out.only.block q (h.lt q hq).2 (by have := (h.lt q hq).1; omega) (by have := (h.lt q hq).1; omega)))
  have HM := hid (hm.below (D0.firstB w (.cells #[.slice a n c, .int .i64 k] 28)  (.cells #[.int .u8 kd, .int .i64 i, .int .u64 X, .int .u64 Y, .int .i64 D] 32) (.cells #[.slice none 0 0, .int .i64 0] 28)) sb sg)
  have HO0 := hid h
  obtain ⟨K2, hK2⟩ : ∃ m : Nat, m = (k + 1) := ⟨_, rfl⟩
  have RC := hid (rload_in k i base n c a xs _ HO.out (by have := Q0.out.size; omega) hl hk hi0 hi)
  have HC0 := hid (fun (w : World) (hm : Mem w b g xs k) => load_in b g xs k i w hm (by omega) hi0 hi)
  rw [set_self] at RC
  obtain ⟨v, hv⟩ : ∃ v, v = xs.getD i.toNat 0 := ⟨_, rfl⟩
  rw [← hv] at RC HC0
  have HV := hid hv
  have vv : (v == v) = true := by simp
  clear hv
  rw [← hK2] at RC HC0
  have HK2 := hid hK2
  clear h hm hkd hK2
  go_enter Try.func9, Try.ntmps9
  go_wp2_with fail
  refine (RC.out).mono ?_
  rintro e w5 ⟨a5, c5, rfl, hw5, ho5, hb5⟩
  have HW := hid (show ∀ q, (Value.slice a5 n c5).ownBlock = some q → q ≠ w.heap.size + 1 + 1 from fun q hq e => by
    rcases hw5 q hq with h1 | h1
    · have := (HO0.out.lt q h1).2; omega
    · have := Q0.out.size; omega)
  have HWO := hid (show ∀ q, (Value.slice a5 n c5).ownBlock = some q → (Value.slice a n c).ownBlock = some q ∨ w.heap.size ≤ q from fun q hq => by
    rcases hw5 q hq with h1 | h1
    · exact .inl h1
    · exact .inr (by have := Q0.out.size; omega))
  clear hw5
  have Q5 := hid (Q0.out.next hb5)
  have O5 := hid ho5
  have Z5 := hid (Q5.out.dz a5 n c5 K2)
  have OZ := hid (O5.out.alloc (.cells #[.slice a5 n c5, .int .i64 (K2 : Int)] 28))
  have MZ := hid (show Mem (w5.alloc (.cells #[.slice a5 n c5, .int .i64 (K2 : Int)] 28)) b g xs k from HM.out.below (hb5.alloc hb5.size _) HM.out.sb HM.out.sg)
  clear ho5 hb5 Q0
  have ZD := hid Z5.out.drew
  obtain ⟨⟨q0, q1⟩, q2, q3, q4, q5, q6⟩ := Q5.out.s
  go_wp2_with fail
  clear q0 q1 q2 q3 q4 q5 q6 Q5 O5
  have hss : w5.heap.size = w5.heap.size := rfl
  generalize hE : w5.heap.size = E at *
  generalize w5.alloc (.cells #[.slice a5 n c5, .int .i64 (K2 : Int)] 28) = w6 at *
  clear hE hss
  have MD := hid (show Mem w6.drew b g xs k from MZ.out.kept rfl rfl)
  have HC := hid (HC0.out _ MD.out)
  obtain ⟨e0, e1, e2, e3, e4, e5⟩ := Z5.out.s
  unfold Dz.S at *
  go_region_held3 (fun y => y.cell? ⟨E, 0, none⟩ = some (.slice a5 n c5) ∧ y.cell? ⟨E, 1, none⟩ = some (.int .i64 (K2 : Int)) ∧ y.cell? ⟨w.heap.size + 1, 1, none⟩ = some (.int .i64 i) ∧ y.cell? ⟨w.heap.size + 1, 2, none⟩ = some (.int .u64 X) ∧ y.cell? ⟨w.heap.size + 1, 3, none⟩ = some (.int .u64 Y) ∧ y.cell? ⟨w.heap.size + 1, 4, none⟩ = some (.int .i64 D))
    (first
      | exact ZD.out.s
      | exact ZA.out.stored _ _
      | exact ZA.out.s)
    (first
      | (go_at_call 13; refine (HC.out).mono ?_; rintro e y ⟨rfl, hmy, hoy⟩; have ZA := hid (ZD.out.next hoy); have MA := hid hmy; have OA := hid (show Offs y base 30 (.slice a5 n c5) (vals (xs)) from OZ.out.kept (fun q hq => by have h1 := OZ.out.lt q hq; exact hoy.block q h1.2 (by omega) (by omega))); obtain ⟨⟨r0, r1⟩, r2, r3⟩ := ZA.out.r; clear hmy hoy))
  all_goals
    obtain ⟨fo, fc, fk⟩ := ZA.out.fin (.slice a5 n c5) (.int .i64 K2)
    have H := hid (⟨MA.out.kept (fk b (by omega)) (fk g (by omega)), OA.out.kept (fun q hq => fk q (HW.out q hq)), fo⟩ : Mem _ b g xs K2 ∧ Offs _ base 30 _ _ ∧ Only b g w _)
    have d0 := cell_blk1 (i := 0) fc rfl
    have d1 := cell_blk1 (i := 1) fc rfl
    clear fo fc fk
    generalize (y.setCell ⟨w.heap.size + 1 + 1, 0, none⟩ (.slice a5 n c5)).setCell ⟨w.heap.size + 1 + 1, 1, none⟩ (.int .i64 (K2 : Int)) = W at *
    go_wp2
    refine bodyPost_ret (v := .tuple #[.agg #[.slice a5 n c5, .int .i64 (K2 : Int)], .bool true]) (by simp [results, Try.results9, go_sem, d0, d1]) rfl (HK2.out ▸ (⟨_, _, by rfl, HWO.out, H.out.2.1, H.out.1, H.out.2.2⟩ : DoPost w base n b g (.slice a n c) xs K2 _ _))

set_option maxHeartbeats 4000000 in
theorem do_load_out (kd i X Y D : Int) (k base n c b g : Nat) (a : Option Addr) (xs : List Int) (w : World) (h : Offs w base 30 (.slice a n c) (vals xs)) (hm : Mem w b g xs k) (hb : b < base) (hg : g < base) (hbs : base ≤ w.heap.size) (hl : xs.length ≤ 1000) (hk9 : k ≤ 900000) (hk0 : 0 ≤ kd) (hk1 : kd ≤ 255) (hkd : kd % 6 = 0) (hi : i < 0 ∨ (xs.length : Int) ≤ i) :
    Calls Try.prog 9 #[.pointer (some ⟨b, 0, none⟩), .agg #[.slice a n c, .int .i64 k], .agg #[.int .u8 kd, .int .i64 i, .int .u64 X, .int .u64 Y, .int .i64 D]] w (DoPost w base n b g (.slice a n c) xs k) := by
  have hk : k ≤ 1000000 := by omega
  have sb := hm.sb
  have sg := hm.sg
  have t0 : (kd % 6 == 0) = true := by rw [hkd]; rfl
  have t1 : (kd % 6 == 1) = false := by rw [hkd]; rfl
  have t3 : (kd % 6 == 3) = false := by rw [hkd]; rfl
  have t4 : (kd % 6 == 4) = false := by rw [hkd]; rfl
  have t5 : (kd % 6 == 5) = false := by rw [hkd]; rfl
  have Q0 := hid (D0.first w b g sb sg kd i X Y D (.slice a n c) k)
  have HO := hid (h.kept (fun q hq => Q0.out.only.block q (h.lt q hq).2 (by have := (h.lt q hq).1; omega) (by have := (h.lt q hq).1; omega)))
  have HM := hid (hm.below (D0.firstB w (.cells #[.slice a n c, .int .i64 k] 28)  (.cells #[.int .u8 kd, .int .i64 i, .int .u64 X, .int .u64 Y, .int .i64 D] 32) (.cells #[.slice none 0 0, .int .i64 0] 28)) sb sg)
  have HO0 := hid h
  have RC := hid (rload_out k i base n c a xs _ HO.out (by have := Q0.out.size; omega) hl hk hi)
  have HC0 := hid (fun (w : World) (hm : Mem w b g xs k) => load_o b g xs k i w hm hi)
  clear h hm hkd
  go_enter Try.func9, Try.ntmps9
  go_wp2_with fail
  refine (RC.out).mono ?_
  rintro e w5 ⟨a5, c5, rfl, hw5, ho5, hb5⟩
  have HW := hid (show ∀ q, (Value.slice a5 n c5).ownBlock = some q → q ≠ w.heap.size + 1 + 1 from fun q hq e => by
    rcases hw5 q hq with h1 | h1
    · have := (HO0.out.lt q h1).2; omega
    · have := Q0.out.size; omega)
  have HWO := hid (show ∀ q, (Value.slice a5 n c5).ownBlock = some q → (Value.slice a n c).ownBlock = some q ∨ w.heap.size ≤ q from fun q hq => by
    rcases hw5 q hq with h1 | h1
    · exact .inl h1
    · exact .inr (by have := Q0.out.size; omega))
  clear hw5
  have Q5 := hid (Q0.out.next hb5)
  have O5 := hid ho5
  have Z5 := hid (Q5.out.dz a5 n c5 k)
  have OZ := hid (O5.out.alloc (.cells #[.slice a5 n c5, .int .i64 (k : Int)] 28))
  have MZ := hid (show Mem (w5.alloc (.cells #[.slice a5 n c5, .int .i64 (k : Int)] 28)) b g xs k from HM.out.below (hb5.alloc hb5.size _) HM.out.sb HM.out.sg)
  clear ho5 hb5 Q0
  have ZD := hid Z5.out.drew
  obtain ⟨⟨q0, q1⟩, q2, q3, q4, q5, q6⟩ := Q5.out.s
  go_wp2_with fail
  clear q0 q1 q2 q3 q4 q5 q6 Q5 O5
  have hss : w5.heap.size = w5.heap.size := rfl
  generalize hE : w5.heap.size = E at *
  generalize w5.alloc (.cells #[.slice a5 n c5, .int .i64 (k : Int)] 28) = w6 at *
  clear hE hss
  have MD := hid (show Mem w6.drew b g xs k from MZ.out.kept rfl rfl)
  have HC := hid (HC0.out _ MD.out)
  obtain ⟨e0, e1, e2, e3, e4, e5⟩ := Z5.out.s
  unfold Dz.S at *
  go_region_held3 (fun y => y.cell? ⟨E, 0, none⟩ = some (.slice a5 n c5) ∧ y.cell? ⟨E, 1, none⟩ = some (.int .i64 (k : Int)) ∧ y.cell? ⟨w.heap.size + 1, 1, none⟩ = some (.int .i64 i) ∧ y.cell? ⟨w.heap.size + 1, 2, none⟩ = some (.int .u64 X) ∧ y.cell? ⟨w.heap.size + 1, 3, none⟩ = some (.int .u64 Y) ∧ y.cell? ⟨w.heap.size + 1, 4, none⟩ = some (.int .i64 D))
    (first
      | exact ZD.out.s
      | exact ZA.out.stored _ _
      | exact ZA.out.s)
    (first
      | (go_at_call 13; refine (HC.out).mono ?_; rintro e y ⟨rfl, hmy, hoy⟩; have ZA := hid (ZD.out.next hoy); have MA := hid hmy; have OA := hid (show Offs y base 30 (.slice a5 n c5) (vals (xs)) from OZ.out.kept (fun q hq => by have h1 := OZ.out.lt q hq; exact hoy.block q h1.2 (by omega) (by omega))); obtain ⟨⟨r0, r1⟩, r2, r3⟩ := ZA.out.r; clear hmy hoy))
  all_goals
    obtain ⟨fo, fc, fk⟩ := ZA.out.fin (.slice a5 n c5) (.int .i64 k)
    have H := hid (⟨MA.out.kept (fk b (by omega)) (fk g (by omega)), OA.out.kept (fun q hq => fk q (HW.out q hq)), fo⟩ : Mem _ b g xs k ∧ Offs _ base 30 _ _ ∧ Only b g w _)
    have d0 := cell_blk1 (i := 0) fc rfl
    have d1 := cell_blk1 (i := 1) fc rfl
    clear fo fc fk
    generalize (y.setCell ⟨w.heap.size + 1 + 1, 0, none⟩ (.slice a5 n c5)).setCell ⟨w.heap.size + 1 + 1, 1, none⟩ (.int .i64 (k : Int)) = W at *
    go_wp2
    refine bodyPost_ret (v := .tuple #[.agg #[.slice a5 n c5, .int .i64 (k : Int)], .bool true]) (by simp [results, Try.results9, go_sem, d0, d1]) rfl ((⟨_, _, by rfl, HWO.out, H.out.2.1, H.out.1, H.out.2.2⟩ : DoPost w base n b g (.slice a n c) xs k _ _))

set_option maxHeartbeats 4000000 in
theorem do_store_in (kd i X Y D : Int) (k base n c b g : Nat) (a : Option Addr) (xs : List Int) (w : World) (h : Offs w base 30 (.slice a n c) (vals xs)) (hm : Mem w b g xs k) (hb : b < base) (hg : g < base) (hbs : base ≤ w.heap.size) (hl : xs.length ≤ 1000) (hk9 : k ≤ 900000) (hk0 : 0 ≤ kd) (hk1 : kd ≤ 255) (hkd : kd % 6 = 1) (hi0 : 0 ≤ i) (hi : i < xs.length) :
    Calls Try.prog 9 #[.pointer (some ⟨b, 0, none⟩), .agg #[.slice a n c, .int .i64 k], .agg #[.int .u8 kd, .int .i64 i, .int .u64 X, .int .u64 Y, .int .i64 D]] w (DoPost w base n b g (.slice a n c) (xs.set i.toNat X) (k + 1)) := by
  have hk : k ≤ 1000000 := by omega
  have sb := hm.sb
  have sg := hm.sg
  have t0 : (kd % 6 == 0) = false := by rw [hkd]; rfl
  have t1 : (kd % 6 == 1) = true := by rw [hkd]; rfl
  have t3 : (kd % 6 == 3) = false := by rw [hkd]; rfl
  have t4 : (kd % 6 == 4) = false := by rw [hkd]; rfl
  have t5 : (kd % 6 == 5) = false := by rw [hkd]; rfl
  have Q0 := hid (D0.first w b g sb sg kd i X Y D (.slice a n c) k)
  have HO := hid (h.kept (fun q hq => Q0.out.only.block q (h.lt q hq).2 (by have := (h.lt q hq).1; omega) (by have := (h.lt q hq).1; omega)))
  have HM := hid (hm.below (D0.firstB w (.cells #[.slice a n c, .int .i64 k] 28)  (.cells #[.int .u8 kd, .int .i64 i, .int .u64 X, .int .u64 Y, .int .i64 D] 32) (.cells #[.slice none 0 0, .int .i64 0] 28)) sb sg)
  have HO0 := hid h
  obtain ⟨K2, hK2⟩ : ∃ m : Nat, m = (k + 1) := ⟨_, rfl⟩
  have RC := hid (rstore_in k i X base n c a xs _ HO.out (by have := Q0.out.size; omega) hl hk hi0 hi)
  have HC0 := hid (fun (w : World) (hm : Mem w b g xs k) => store_in b g xs k i X w hm (by omega) hi0 hi)
  rw [← hK2] at RC HC0
  have HK2 := hid hK2
  clear h hm hkd hK2
  go_enter Try.func9, Try.ntmps9
  go_wp2_with fail
  refine (RC.out).mono ?_
  rintro e w5 ⟨a5, c5, rfl, hw5, ho5, hb5⟩
  have HW := hid (show ∀ q, (Value.slice a5 n c5).ownBlock = some q → q ≠ w.heap.size + 1 + 1 from fun q hq e => by
    rcases hw5 q hq with h1 | h1
    · have := (HO0.out.lt q h1).2; omega
    · have := Q0.out.size; omega)
  have HWO := hid (show ∀ q, (Value.slice a5 n c5).ownBlock = some q → (Value.slice a n c).ownBlock = some q ∨ w.heap.size ≤ q from fun q hq => by
    rcases hw5 q hq with h1 | h1
    · exact .inl h1
    · exact .inr (by have := Q0.out.size; omega))
  clear hw5
  have Q5 := hid (Q0.out.next hb5)
  have O5 := hid ho5
  have Z5 := hid (Q5.out.dz a5 n c5 K2)
  have OZ := hid (O5.out.alloc (.cells #[.slice a5 n c5, .int .i64 (K2 : Int)] 28))
  have MZ := hid (show Mem (w5.alloc (.cells #[.slice a5 n c5, .int .i64 (K2 : Int)] 28)) b g xs k from HM.out.below (hb5.alloc hb5.size _) HM.out.sb HM.out.sg)
  clear ho5 hb5 Q0
  have ZD := hid Z5.out.drew
  obtain ⟨⟨q0, q1⟩, q2, q3, q4, q5, q6⟩ := Q5.out.s
  go_wp2_with fail
  clear q0 q1 q2 q3 q4 q5 q6 Q5 O5
  have hss : w5.heap.size = w5.heap.size := rfl
  generalize hE : w5.heap.size = E at *
  generalize w5.alloc (.cells #[.slice a5 n c5, .int .i64 (K2 : Int)] 28) = w6 at *
  clear hE hss
  have MD := hid (show Mem w6.drew b g xs k from MZ.out.kept rfl rfl)
  have HC := hid (HC0.out _ MD.out)
  obtain ⟨e0, e1, e2, e3, e4, e5⟩ := Z5.out.s
  unfold Dz.S at *
  go_region_held3 (fun y => y.cell? ⟨E, 0, none⟩ = some (.slice a5 n c5) ∧ y.cell? ⟨E, 1, none⟩ = some (.int .i64 (K2 : Int)) ∧ y.cell? ⟨w.heap.size + 1, 1, none⟩ = some (.int .i64 i) ∧ y.cell? ⟨w.heap.size + 1, 2, none⟩ = some (.int .u64 X) ∧ y.cell? ⟨w.heap.size + 1, 3, none⟩ = some (.int .u64 Y) ∧ y.cell? ⟨w.heap.size + 1, 4, none⟩ = some (.int .i64 D))
    (first
      | exact ZD.out.s
      | exact ZA.out.stored _ _
      | exact ZA.out.s)
    (first
      | (go_at_call 28; refine (HC.out).mono ?_; rintro e y ⟨rfl, hmy, hoy⟩; have ZA := hid (ZD.out.next hoy); have MA := hid hmy; have OA := hid (show Offs y base 30 (.slice a5 n c5) (vals ((xs.set i.toNat X))) from OZ.out.kept (fun q hq => by have h1 := OZ.out.lt q hq; exact hoy.block q h1.2 (by omega) (by omega))); obtain ⟨⟨r0, r1⟩, r2, r3⟩ := ZA.out.r; clear hmy hoy))
  all_goals
    obtain ⟨fo, fc, fk⟩ := ZA.out.fin (.slice a5 n c5) (.int .i64 K2)
    have H := hid (⟨MA.out.kept (fk b (by omega)) (fk g (by omega)), OA.out.kept (fun q hq => fk q (HW.out q hq)), fo⟩ : Mem _ b g (xs.set i.toNat X) K2 ∧ Offs _ base 30 _ _ ∧ Only b g w _)
    have d0 := cell_blk1 (i := 0) fc rfl
    have d1 := cell_blk1 (i := 1) fc rfl
    clear fo fc fk
    generalize (y.setCell ⟨w.heap.size + 1 + 1, 0, none⟩ (.slice a5 n c5)).setCell ⟨w.heap.size + 1 + 1, 1, none⟩ (.int .i64 (K2 : Int)) = W at *
    go_wp2
    refine bodyPost_ret (v := .tuple #[.agg #[.slice a5 n c5, .int .i64 (K2 : Int)], .bool true]) (by simp [results, Try.results9, go_sem, d0, d1]) rfl (HK2.out ▸ (⟨_, _, by rfl, HWO.out, H.out.2.1, H.out.1, H.out.2.2⟩ : DoPost w base n b g (.slice a n c) (xs.set i.toNat X) K2 _ _))

set_option maxHeartbeats 4000000 in
theorem do_store_out (kd i X Y D : Int) (k base n c b g : Nat) (a : Option Addr) (xs : List Int) (w : World) (h : Offs w base 30 (.slice a n c) (vals xs)) (hm : Mem w b g xs k) (hb : b < base) (hg : g < base) (hbs : base ≤ w.heap.size) (hl : xs.length ≤ 1000) (hk9 : k ≤ 900000) (hk0 : 0 ≤ kd) (hk1 : kd ≤ 255) (hkd : kd % 6 = 1) (hi : i < 0 ∨ (xs.length : Int) ≤ i) :
    Calls Try.prog 9 #[.pointer (some ⟨b, 0, none⟩), .agg #[.slice a n c, .int .i64 k], .agg #[.int .u8 kd, .int .i64 i, .int .u64 X, .int .u64 Y, .int .i64 D]] w (DoPost w base n b g (.slice a n c) xs k) := by
  have hk : k ≤ 1000000 := by omega
  have sb := hm.sb
  have sg := hm.sg
  have t0 : (kd % 6 == 0) = false := by rw [hkd]; rfl
  have t1 : (kd % 6 == 1) = true := by rw [hkd]; rfl
  have t3 : (kd % 6 == 3) = false := by rw [hkd]; rfl
  have t4 : (kd % 6 == 4) = false := by rw [hkd]; rfl
  have t5 : (kd % 6 == 5) = false := by rw [hkd]; rfl
  have Q0 := hid (D0.first w b g sb sg kd i X Y D (.slice a n c) k)
  have HO := hid (h.kept (fun q hq => Q0.out.only.block q (h.lt q hq).2 (by have := (h.lt q hq).1; omega) (by have := (h.lt q hq).1; omega)))
  have HM := hid (hm.below (D0.firstB w (.cells #[.slice a n c, .int .i64 k] 28)  (.cells #[.int .u8 kd, .int .i64 i, .int .u64 X, .int .u64 Y, .int .i64 D] 32) (.cells #[.slice none 0 0, .int .i64 0] 28)) sb sg)
  have HO0 := hid h
  have RC := hid (rstore_out k i X base n c a xs _ HO.out (by have := Q0.out.size; omega) hl hk hi)
  have HC0 := hid (fun (w : World) (hm : Mem w b g xs k) => store_o b g xs k i X w hm hi)
  clear h hm hkd
  go_enter Try.func9, Try.ntmps9
  go_wp2_with fail
  refine (RC.out).mono ?_
  rintro e w5 ⟨a5, c5, rfl, hw5, ho5, hb5⟩
  have HW := hid (show ∀ q, (Value.slice a5 n c5).ownBlock = some q → q ≠ w.heap.size + 1 + 1 from fun q hq e => by
    rcases hw5 q hq with h1 | h1
    · have := (HO0.out.lt q h1).2; omega
    · have := Q0.out.size; omega)
  have HWO := hid (show ∀ q, (Value.slice a5 n c5).ownBlock = some q → (Value.slice a n c).ownBlock = some q ∨ w.heap.size ≤ q from fun q hq => by
    rcases hw5 q hq with h1 | h1
    · exact .inl h1
    · exact .inr (by have := Q0.out.size; omega))
  clear hw5
  have Q5 := hid (Q0.out.next hb5)
  have O5 := hid ho5
  have Z5 := hid (Q5.out.dz a5 n c5 k)
  have OZ := hid (O5.out.alloc (.cells #[.slice a5 n c5, .int .i64 (k : Int)] 28))
  have MZ := hid (show Mem (w5.alloc (.cells #[.slice a5 n c5, .int .i64 (k : Int)] 28)) b g xs k from HM.out.below (hb5.alloc hb5.size _) HM.out.sb HM.out.sg)
  clear ho5 hb5 Q0
  have ZD := hid Z5.out.drew
  obtain ⟨⟨q0, q1⟩, q2, q3, q4, q5, q6⟩ := Q5.out.s
  go_wp2_with fail
  clear q0 q1 q2 q3 q4 q5 q6 Q5 O5
  have hss : w5.heap.size = w5.heap.size := rfl
  generalize hE : w5.heap.size = E at *
  generalize w5.alloc (.cells #[.slice a5 n c5, .int .i64 (k : Int)] 28) = w6 at *
  clear hE hss
  have MD := hid (show Mem w6.drew b g xs k from MZ.out.kept rfl rfl)
  have HC := hid (HC0.out _ MD.out)
  obtain ⟨e0, e1, e2, e3, e4, e5⟩ := Z5.out.s
  unfold Dz.S at *
  go_region_held3 (fun y => y.cell? ⟨E, 0, none⟩ = some (.slice a5 n c5) ∧ y.cell? ⟨E, 1, none⟩ = some (.int .i64 (k : Int)) ∧ y.cell? ⟨w.heap.size + 1, 1, none⟩ = some (.int .i64 i) ∧ y.cell? ⟨w.heap.size + 1, 2, none⟩ = some (.int .u64 X) ∧ y.cell? ⟨w.heap.size + 1, 3, none⟩ = some (.int .u64 Y) ∧ y.cell? ⟨w.heap.size + 1, 4, none⟩ = some (.int .i64 D))
    (first
      | exact ZD.out.s
      | exact ZA.out.stored _ _
      | exact ZA.out.s)
    (first
      | (go_at_call 28; refine (HC.out).mono ?_; rintro e y ⟨rfl, hmy, hoy⟩; have ZA := hid (ZD.out.next hoy); have MA := hid hmy; have OA := hid (show Offs y base 30 (.slice a5 n c5) (vals (xs)) from OZ.out.kept (fun q hq => by have h1 := OZ.out.lt q hq; exact hoy.block q h1.2 (by omega) (by omega))); obtain ⟨⟨r0, r1⟩, r2, r3⟩ := ZA.out.r; clear hmy hoy))
  all_goals
    obtain ⟨fo, fc, fk⟩ := ZA.out.fin (.slice a5 n c5) (.int .i64 k)
    have H := hid (⟨MA.out.kept (fk b (by omega)) (fk g (by omega)), OA.out.kept (fun q hq => fk q (HW.out q hq)), fo⟩ : Mem _ b g xs k ∧ Offs _ base 30 _ _ ∧ Only b g w _)
    have d0 := cell_blk1 (i := 0) fc rfl
    have d1 := cell_blk1 (i := 1) fc rfl
    clear fo fc fk
    generalize (y.setCell ⟨w.heap.size + 1 + 1, 0, none⟩ (.slice a5 n c5)).setCell ⟨w.heap.size + 1 + 1, 1, none⟩ (.int .i64 (k : Int)) = W at *
    go_wp2
    refine bodyPost_ret (v := .tuple #[.agg #[.slice a5 n c5, .int .i64 (k : Int)], .bool true]) (by simp [results, Try.results9, go_sem, d0, d1]) rfl ((⟨_, _, by rfl, HWO.out, H.out.2.1, H.out.1, H.out.2.2⟩ : DoPost w base n b g (.slice a n c) xs k _ _))
end Go.Proofs.Ytdbionbdcjpmaaa.cellPlays
