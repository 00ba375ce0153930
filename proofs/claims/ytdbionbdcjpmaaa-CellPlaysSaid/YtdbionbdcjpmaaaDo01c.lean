/- hostlerlaw01.do: one act (more of the kinds). -/
import Derived.Test.YtdbionbdcjpmaaaDo01
namespace Go.Proofs.Ytdbionbdcjpmaaa.cellPlays
open Go.RowKit
set_option linter.unusedVariables false
set_option linter.unusedSimpArgs false

set_option maxHeartbeats 8000000 in
theorem do_four_in (kd i X Y D : Int) (k base n c b g : Nat) (a : Option Addr) (xs : List Int) (w : World) (h : Offs w base 30 (.slice a n c) (vals xs)) (hm : Mem w b g xs k) (hb : b < base) (hg : g < base) (hbs : base ≤ w.heap.size) (hl : xs.length ≤ 1000) (hk9 : k ≤ 900000) (hk0 : 0 ≤ kd) (hk1 : kd ≤ 255) (hkd : kd % 6 = 4) (hi0 : 0 ≤ i) (hi : i < xs.length) :
    Calls Try.prog 9 #[.pointer (some ⟨b, 0, none⟩), .agg #[.slice a n c, .int .i64 k], .agg #[.int .u8 kd, .int .i64 i, .int .u64 X, .int .u64 Y, .int .i64 D]] w (DoPost w base n b g (.slice a n c) (xs.set i.toNat Y) (k + 2)) := by
  have sb := hm.sb
  have sg := hm.sg
  have t0 : (kd % 6 == 0) = false := by rw [hkd]; rfl
  have t1 : (kd % 6 == 1) = false := by rw [hkd]; rfl
  have t3 : (kd % 6 == 3) = false := by rw [hkd]; rfl
  have t4 : (kd % 6 == 4) = true := by rw [hkd]; rfl
  have t5 : (kd % 6 == 5) = false := by rw [hkd]; rfl
  have hk : k ≤ 1000000 := by omega
  have Q0 := hid (D0.first w b g sb sg kd i X Y D (.slice a n c) k)
  have HO := hid (h.kept (fun q hq => Q0.out.only.block q (h.lt q hq).2 (by have := (h.lt q hq).1; omega) (by have := (h.lt q hq).1; omega)))
  have HM := hid (hm.below (D0.firstB w (.cells #[.slice a n c, .int .i64 k] 28)  (.cells #[.int .u8 kd, .int .i64 i, .int .u64 X, .int .u64 Y, .int .i64 D] 32) (.cells #[.slice none 0 0, .int .i64 0] 28)) sb sg)
  have HO0 := hid h
  obtain ⟨K1, hK1⟩ : ∃ m : Nat, m = k + 1 := ⟨_, rfl⟩
  have RC := hid (rload_in k i base n c a xs _ HO.out (by have := Q0.out.size; omega) hl hk hi0 hi)
  have HC0 := hid (fun (w : World) (hm : Mem w b g xs k) => load_in b g xs k i w hm (by omega) hi0 hi)
  rw [set_self] at RC
  obtain ⟨v, hv⟩ : ∃ v, v = xs.getD i.toNat 0 := ⟨_, rfl⟩
  rw [← hv] at RC HC0
  have HV := hid hv
  have vv : (v != v) = false := by simp
  clear hv
  rw [← hK1] at RC HC0
  have HK1 := hid hK1
  clear h hm hkd hK1
  go_enter Try.func9, Try.ntmps9
  go_wp2_with fail
  refine (RC.out).mono ?_
  rintro e w5 ⟨a5, c5, rfl, hw5, ho5, hb5⟩
  have HW5 := hid (show ∀ q, (Value.slice a5 n c5).ownBlock = some q → q < w.heap.size ∨ w.heap.size + 1 + 1 < q from fun q hq => by
    rcases hw5 q hq with h1 | h1
    · exact .inl (HO0.out.lt q h1).2
    · have := Q0.out.size; omega)
  have HWQ := hid (show ∀ q, (Value.slice a5 n c5).ownBlock = some q → (Value.slice a n c).ownBlock = some q ∨ w.heap.size ≤ q from fun q hq => by
    rcases hw5 q hq with h1 | h1
    · exact .inl h1
    · exact .inr (by have := Q0.out.size; omega))
  have Q6 := hid ((Q0.out.next hb5).next ((Below.refl _ _).alloc (Nat.le_refl _) (.cells #[.slice a5 n c5, .int .i64 (K1 : Nat)] 28)))
  have O6 := hid (ho5.alloc (.cells #[.slice a5 n c5, .int .i64 (K1 : Nat)] 28))
  have M6 := hid (show Mem (w5.alloc (.cells #[.slice a5 n c5, .int .i64 (K1 : Nat)] 28)) b g xs k from HM.out.below (hb5.alloc hb5.size _) HM.out.sb HM.out.sg)
  have N6 := hid (Deep.blk_alloc_new w5 (.cells #[.slice a5 n c5, .int .i64 (K1 : Nat)] 28))
  have hs5 : w.heap.size + 3 ≤ w5.heap.size := (Q0.out.next hb5).size
  clear ho5 hb5 Q0 HO HM hw5 RC
  obtain ⟨⟨q0, q1⟩, q2, q3, q4, q5, q6⟩ := Q6.out.s
  go_wp2_with fail
  have hsE : (w5.alloc (.cells #[.slice a5 n c5, .int .i64 (K1 : Nat)] 28)).heap.size = w5.heap.size + 1 := by simp
  generalize hE : w5.heap.size = E at *
  generalize w5.alloc (.cells #[.slice a5 n c5, .int .i64 (K1 : Nat)] 28) = w6 at *
  clear hE q0 q1 q2 q3 q4 q5 q6
  have HC := hid (HC0.out _ M6.out)
  refine (HC.out).mono ?_
  rintro e w7 ⟨rfl, hm7, ho7⟩
  have Q7 := hid (Q6.out.call ho7)
  have M7 := hid hm7
  have O7 := hid (show Offs w7 base 30 (.slice a5 n c5) (vals xs) from O6.out.kept (fun q hq => by have h1 := O6.out.lt q hq; exact ho7.block q h1.2 (by omega) (by omega)))
  have N7 := (ho7.block E (by omega) (by omega) (by omega)).trans N6.out
  have z0 := cell_blk1 (i := 0) N7 rfl
  have z1 := cell_blk1 (i := 1) N7 rfl
  clear hm7 ho7 Q6 M6 O6 N6 N7 HC HC0
  obtain ⟨⟨q0, q1⟩, q2, q3, q4, q5, q6⟩ := Q7.out.s
  have f0 : w7.frozen? ⟨w.heap.size, 0, none⟩ = false := by simp [World.frozen?, Q7.out.box4]
  have f1 : w7.frozen? ⟨w.heap.size, 1, none⟩ = false := by simp [World.frozen?, Q7.out.box4]
  have f2 : w7.frozen? ⟨w.heap.size + 1, 2, none⟩ = false := by simp [World.frozen?, Q7.out.box5]
  have A8 := hid (Q7.out.again (.slice a5 n c5) K1 v)
  have Q8 := hid A8.out.1
  have M8 := hid (M7.out.kept (A8.out.2 b (by omega)) (A8.out.2 g (by omega)))
  have O8 := hid (O7.out.kept (fun q hq => A8.out.2 q (HW5.out q hq)))
  clear A8 Q7 M7 O7
  go_wp2_with fail
  clear q0 q1 q2 q3 q4 q5 q6 f0 f1 f2 z0 z1
  generalize ((w7.setCell ⟨w.heap.size, 0, none⟩ (.slice a5 n c5)).setCell ⟨w.heap.size, 1, none⟩ (.int .i64 (K1 : Nat))).setCell ⟨w.heap.size + 1, 2, none⟩ (.int .u64 v) = w8 at *
  obtain ⟨K3, hK3⟩ : ∃ m : Nat, m = K1 + 1 := ⟨_, rfl⟩
  have RD := hid (rswap_yes K1 i v Y base n c5 a5 xs w8 O8.out (by have := Q8.out.size; have := Q8.out.only.size; omega) hl (by have := HK1.out; omega) hi0 hi HV.out.symm)
  have HD0 := hid (fun (w : World) (hm : Mem w b g xs K1) => swap_yes b g xs K1 i v Y w hm (by have := HK1.out; omega) hi0 hi HV.out.symm)
  rw [← hK3] at RD HD0
  have HK3 := hid (show K3 = k + 2 by have := HK1.out; omega)
  clear hK3
  refine (RD.out).mono ?_
  rintro e w9 ⟨a9, c9, rfl, hw9, ho9, hb9⟩
  have HW := hid (show ∀ q, (Value.slice a9 n c9).ownBlock = some q → q ≠ w.heap.size + 1 + 1 from fun q hq e => by
    rcases hw9 q hq with h1 | h1
    · have := HW5.out q h1; omega
    · have := Q8.out.size; omega)
  have HWO := hid (show ∀ q, (Value.slice a9 n c9).ownBlock = some q → (Value.slice a n c).ownBlock = some q ∨ w.heap.size ≤ q from fun q hq => by
    rcases hw9 q hq with h1 | h1
    · exact HWQ.out q h1
    · exact .inr (by have := Q8.out.size; omega))
  have Q9 := hid (Q8.out.next hb9)
  have Z9 := hid (Q9.out.dz a9 n c9 K3)
  have OZ := hid (ho9.alloc (.cells #[.slice a9 n c9, .int .i64 (K3 : Nat)] 28))
  have MZ := hid (show Mem (w9.alloc (.cells #[.slice a9 n c9, .int .i64 (K3 : Nat)] 28)) b g xs K1 from M8.out.below (hb9.alloc hb9.size _) M8.out.sb M8.out.sg)
  have ZD := hid Z9.out.drew
  clear hw9 ho9 hb9 Q8 M8 O8 RD
  obtain ⟨⟨q0, q1⟩, q2, q3, q4, q5, q6⟩ := Q9.out.s
  go_wp2_with fail
  clear q0 q1 q2 q3 q4 q5 q6 Q9
  generalize hE9 : w9.heap.size = E9 at *
  generalize w9.alloc (.cells #[.slice a9 n c9, .int .i64 (K3 : Nat)] 28) = w10 at *
  clear hE9
  have MD := hid (show Mem w10.drew b g xs K1 from MZ.out.kept rfl rfl)
  have HD := hid (HD0.out _ MD.out)
  obtain ⟨e0, e1, e2, e3, e4, e5⟩ := Z9.out.s
  go_region_held3 (fun y => y.cell? ⟨E9, 0, none⟩ = some (.slice a9 n c9) ∧ y.cell? ⟨E9, 1, none⟩ = some (.int .i64 (K3 : Nat)) ∧ y.cell? ⟨w.heap.size + 1, 1, none⟩ = some (.int .i64 i) ∧ y.cell? ⟨w.heap.size + 1, 2, none⟩ = some (.int .u64 v) ∧ y.cell? ⟨w.heap.size + 1, 3, none⟩ = some (.int .u64 Y) ∧ y.cell? ⟨w.heap.size + 1, 4, none⟩ = some (.int .i64 D))
    (first
      | exact ZD.out.s
      | exact ZA.out.stored _ _
      | exact ZA.out.s)
    (first
      | (go_at_call 25; refine (HD.out).mono ?_; rintro e y ⟨rfl, hmy, hoy⟩; have ZA := hid (ZD.out.next hoy); have MA := hid hmy; have OA := hid (show Offs y base 30 (.slice a9 n c9) (vals (xs.set i.toNat Y)) from OZ.out.kept (fun q hq => by have h1 := OZ.out.lt q hq; exact hoy.block q h1.2 (by omega) (by omega))); obtain ⟨⟨r0, r1⟩, r2, r3⟩ := ZA.out.r; clear hmy hoy))
  all_goals
    obtain ⟨fo, fc, fk⟩ := ZA.out.fin (.slice a9 n c9) (.int .i64 (K3 : Nat))
    have H := hid (⟨MA.out.kept (fk b (by omega)) (fk g (by omega)), OA.out.kept (fun q hq => fk q (HW.out q hq)), fo⟩ : Mem _ b g (xs.set i.toNat Y) K3 ∧ Offs _ base 30 _ _ ∧ Only b g w _)
    have d0 := cell_blk1 (i := 0) fc rfl
    have d1 := cell_blk1 (i := 1) fc rfl
    clear fo fc fk
    generalize (y.setCell ⟨w.heap.size + 1 + 1, 0, none⟩ (.slice a9 n c9)).setCell ⟨w.heap.size + 1 + 1, 1, none⟩ (.int .i64 (K3 : Nat)) = W at *
    go_wp2
    refine bodyPost_ret (v := .tuple #[.agg #[.slice a9 n c9, .int .i64 (K3 : Nat)], .bool true]) (by simp [results, Try.results9, go_sem, d0, d1]) rfl (HK3.out ▸ (⟨_, _, by rfl, HWO.out, H.out.2.1, H.out.1, H.out.2.2⟩ : DoPost w base n b g (.slice a n c) (xs.set i.toNat Y) K3 _ _))

set_option maxHeartbeats 8000000 in
theorem do_four_out (kd i X Y D : Int) (k base n c b g : Nat) (a : Option Addr) (xs : List Int) (w : World) (h : Offs w base 30 (.slice a n c) (vals xs)) (hm : Mem w b g xs k) (hb : b < base) (hg : g < base) (hbs : base ≤ w.heap.size) (hl : xs.length ≤ 1000) (hk9 : k ≤ 900000) (hk0 : 0 ≤ kd) (hk1 : kd ≤ 255) (hkd : kd % 6 = 4) (hi : i < 0 ∨ (xs.length : Int) ≤ i) :
    Calls Try.prog 9 #[.pointer (some ⟨b, 0, none⟩), .agg #[.slice a n c, .int .i64 k], .agg #[.int .u8 kd, .int .i64 i, .int .u64 X, .int .u64 Y, .int .i64 D]] w (DoPost w base n b g (.slice a n c) xs k) := by
  have sb := hm.sb
  have sg := hm.sg
  have t0 : (kd % 6 == 0) = false := by rw [hkd]; rfl
  have t1 : (kd % 6 == 1) = false := by rw [hkd]; rfl
  have t3 : (kd % 6 == 3) = false := by rw [hkd]; rfl
  have t4 : (kd % 6 == 4) = true := by rw [hkd]; rfl
  have t5 : (kd % 6 == 5) = false := by rw [hkd]; rfl
  have hk : k ≤ 1000000 := by omega
  have Q0 := hid (D0.first w b g sb sg kd i X Y D (.slice a n c) k)
  have HO := hid (h.kept (fun q hq => Q0.out.only.block q (h.lt q hq).2 (by have := (h.lt q hq).1; omega) (by have := (h.lt q hq).1; omega)))
  have HM := hid (hm.below (D0.firstB w (.cells #[.slice a n c, .int .i64 k] 28)  (.cells #[.int .u8 kd, .int .i64 i, .int .u64 X, .int .u64 Y, .int .i64 D] 32) (.cells #[.slice none 0 0, .int .i64 0] 28)) sb sg)
  have HO0 := hid h
  have RC := hid (rload_out k i base n c a xs _ HO.out (by have := Q0.out.size; omega) hl hk hi)
  have HC0 := hid (fun (w : World) (hm : Mem w b g xs k) => load_o b g xs k i w hm hi)
  clear h hm hkd
  go_enter Try.func9, Try.ntmps9
  go_wp2_with fail
  refine (RC.out).mono ?_
  rintro e w5 ⟨a5, c5, rfl, hw5, ho5, hb5⟩
  have HW5 := hid (show ∀ q, (Value.slice a5 n c5).ownBlock = some q → q < w.heap.size ∨ w.heap.size + 1 + 1 < q from fun q hq => by
    rcases hw5 q hq with h1 | h1
    · exact .inl (HO0.out.lt q h1).2
    · have := Q0.out.size; omega)
  have HWQ := hid (show ∀ q, (Value.slice a5 n c5).ownBlock = some q → (Value.slice a n c).ownBlock = some q ∨ w.heap.size ≤ q from fun q hq => by
    rcases hw5 q hq with h1 | h1
    · exact .inl h1
    · exact .inr (by have := Q0.out.size; omega))
  have Q6 := hid ((Q0.out.next hb5).next ((Below.refl _ _).alloc (Nat.le_refl _) (.cells #[.slice a5 n c5, .int .i64 (k : Nat)] 28)))
  have O6 := hid (ho5.alloc (.cells #[.slice a5 n c5, .int .i64 (k : Nat)] 28))
  have M6 := hid (show Mem (w5.alloc (.cells #[.slice a5 n c5, .int .i64 (k : Nat)] 28)) b g xs k from HM.out.below (hb5.alloc hb5.size _) HM.out.sb HM.out.sg)
  have N6 := hid (Deep.blk_alloc_new w5 (.cells #[.slice a5 n c5, .int .i64 (k : Nat)] 28))
  have hs5 : w.heap.size + 3 ≤ w5.heap.size := (Q0.out.next hb5).size
  clear ho5 hb5 Q0 HO HM hw5 RC
  obtain ⟨⟨q0, q1⟩, q2, q3, q4, q5, q6⟩ := Q6.out.s
  go_wp2_with fail
  have hsE : (w5.alloc (.cells #[.slice a5 n c5, .int .i64 (k : Nat)] 28)).heap.size = w5.heap.size + 1 := by simp
  generalize hE : w5.heap.size = E at *
  generalize w5.alloc (.cells #[.slice a5 n c5, .int .i64 (k : Nat)] 28) = w6 at *
  clear hE q0 q1 q2 q3 q4 q5 q6
  have HC := hid (HC0.out _ M6.out)
  refine (HC.out).mono ?_
  rintro e w7 ⟨rfl, hm7, ho7⟩
  have Q7 := hid (Q6.out.call ho7)
  have M7 := hid hm7
  have O7 := hid (show Offs w7 base 30 (.slice a5 n c5) (vals xs) from O6.out.kept (fun q hq => by have h1 := O6.out.lt q hq; exact ho7.block q h1.2 (by omega) (by omega)))
  have N7 := (ho7.block E (by omega) (by omega) (by omega)).trans N6.out
  have z0 := cell_blk1 (i := 0) N7 rfl
  have z1 := cell_blk1 (i := 1) N7 rfl
  clear hm7 ho7 Q6 M6 O6 N6 N7 HC HC0
  obtain ⟨⟨q0, q1⟩, q2, q3, q4, q5, q6⟩ := Q7.out.s
  have f0 : w7.frozen? ⟨w.heap.size, 0, none⟩ = false := by simp [World.frozen?, Q7.out.box4]
  have f1 : w7.frozen? ⟨w.heap.size, 1, none⟩ = false := by simp [World.frozen?, Q7.out.box4]
  have f2 : w7.frozen? ⟨w.heap.size + 1, 2, none⟩ = false := by simp [World.frozen?, Q7.out.box5]
  have A8 := hid (Q7.out.again (.slice a5 n c5) k 0)
  have Q8 := hid A8.out.1
  have M8 := hid (M7.out.kept (A8.out.2 b (by omega)) (A8.out.2 g (by omega)))
  have O8 := hid (O7.out.kept (fun q hq => A8.out.2 q (HW5.out q hq)))
  clear A8 Q7 M7 O7
  go_wp2_with fail
  clear q0 q1 q2 q3 q4 q5 q6 f0 f1 f2 z0 z1
  generalize ((w7.setCell ⟨w.heap.size, 0, none⟩ (.slice a5 n c5)).setCell ⟨w.heap.size, 1, none⟩ (.int .i64 (k : Nat))).setCell ⟨w.heap.size + 1, 2, none⟩ (.int .u64 0) = w8 at *
  have RD := hid (rswap_out k i 0 Y base n c5 a5 xs w8 O8.out (by have := Q8.out.size; have := Q8.out.only.size; omega) hl hk hi)
  have HD0 := hid (fun (w : World) (hm : Mem w b g xs k) => swap_o b g xs k i 0 Y w hm hi)
  refine (RD.out).mono ?_
  rintro e w9 ⟨a9, c9, rfl, hw9, ho9, hb9⟩
  have HW := hid (show ∀ q, (Value.slice a9 n c9).ownBlock = some q → q ≠ w.heap.size + 1 + 1 from fun q hq e => by
    rcases hw9 q hq with h1 | h1
    · have := HW5.out q h1; omega
    · have := Q8.out.size; omega)
  have HWO := hid (show ∀ q, (Value.slice a9 n c9).ownBlock = some q → (Value.slice a n c).ownBlock = some q ∨ w.heap.size ≤ q from fun q hq => by
    rcases hw9 q hq with h1 | h1
    · exact HWQ.out q h1
    · exact .inr (by have := Q8.out.size; omega))
  have Q9 := hid (Q8.out.next hb9)
  have Z9 := hid (Q9.out.dz a9 n c9 k)
  have OZ := hid (ho9.alloc (.cells #[.slice a9 n c9, .int .i64 (k : Nat)] 28))
  have MZ := hid (show Mem (w9.alloc (.cells #[.slice a9 n c9, .int .i64 (k : Nat)] 28)) b g xs k from M8.out.below (hb9.alloc hb9.size _) M8.out.sb M8.out.sg)
  have ZD := hid Z9.out.drew
  clear hw9 ho9 hb9 Q8 M8 O8 RD
  obtain ⟨⟨q0, q1⟩, q2, q3, q4, q5, q6⟩ := Q9.out.s
  go_wp2_with fail
  clear q0 q1 q2 q3 q4 q5 q6 Q9
  generalize hE9 : w9.heap.size = E9 at *
  generalize w9.alloc (.cells #[.slice a9 n c9, .int .i64 (k : Nat)] 28) = w10 at *
  clear hE9
  have MD := hid (show Mem w10.drew b g xs k from MZ.out.kept rfl rfl)
  have HD := hid (HD0.out _ MD.out)
  obtain ⟨e0, e1, e2, e3, e4, e5⟩ := Z9.out.s
  go_region_held3 (fun y => y.cell? ⟨E9, 0, none⟩ = some (.slice a9 n c9) ∧ y.cell? ⟨E9, 1, none⟩ = some (.int .i64 (k : Nat)) ∧ y.cell? ⟨w.heap.size + 1, 1, none⟩ = some (.int .i64 i) ∧ y.cell? ⟨w.heap.size + 1, 2, none⟩ = some (.int .u64 0) ∧ y.cell? ⟨w.heap.size + 1, 3, none⟩ = some (.int .u64 Y) ∧ y.cell? ⟨w.heap.size + 1, 4, none⟩ = some (.int .i64 D))
    (first
      | exact ZD.out.s
      | exact ZA.out.stored _ _
      | exact ZA.out.s)
    (first
      | (go_at_call 25; refine (HD.out).mono ?_; rintro e y ⟨rfl, hmy, hoy⟩; have ZA := hid (ZD.out.next hoy); have MA := hid hmy; have OA := hid (show Offs y base 30 (.slice a9 n c9) (vals xs) from OZ.out.kept (fun q hq => by have h1 := OZ.out.lt q hq; exact hoy.block q h1.2 (by omega) (by omega))); obtain ⟨⟨r0, r1⟩, r2, r3⟩ := ZA.out.r; clear hmy hoy))
  all_goals
    obtain ⟨fo, fc, fk⟩ := ZA.out.fin (.slice a9 n c9) (.int .i64 (k : Nat))
    have H := hid (⟨MA.out.kept (fk b (by omega)) (fk g (by omega)), OA.out.kept (fun q hq => fk q (HW.out q hq)), fo⟩ : Mem _ b g xs k ∧ Offs _ base 30 _ _ ∧ Only b g w _)
    have d0 := cell_blk1 (i := 0) fc rfl
    have d1 := cell_blk1 (i := 1) fc rfl
    clear fo fc fk
    generalize (y.setCell ⟨w.heap.size + 1 + 1, 0, none⟩ (.slice a9 n c9)).setCell ⟨w.heap.size + 1 + 1, 1, none⟩ (.int .i64 (k : Nat)) = W at *
    go_wp2
    refine bodyPost_ret (v := .tuple #[.agg #[.slice a9 n c9, .int .i64 (k : Nat)], .bool true]) (by simp [results, Try.results9, go_sem, d0, d1]) rfl ⟨_, _, by rfl, HWO.out, H.out.2.1, H.out.1, H.out.2.2⟩

set_option maxHeartbeats 8000000 in
theorem do_five_in (kd i X Y D : Int) (k base n c b g : Nat) (a : Option Addr) (xs : List Int) (w : World) (h : Offs w base 30 (.slice a n c) (vals xs)) (hm : Mem w b g xs k) (hb : b < base) (hg : g < base) (hbs : base ≤ w.heap.size) (hl : xs.length ≤ 1000) (hk9 : k ≤ 900000) (hk0 : 0 ≤ kd) (hk1 : kd ≤ 255) (hkd : kd % 6 = 5) (hi0 : 0 ≤ i) (hi : i < xs.length) :
    Calls Try.prog 9 #[.pointer (some ⟨b, 0, none⟩), .agg #[.slice a n c, .int .i64 k], .agg #[.int .u8 kd, .int .i64 i, .int .u64 X, .int .u64 Y, .int .i64 D]] w (DoPost w base n b g (.slice a n c) xs k) := by
  have sb := hm.sb
  have sg := hm.sg
  have t0 : (kd % 6 == 0) = false := by rw [hkd]; rfl
  have t1 : (kd % 6 == 1) = false := by rw [hkd]; rfl
  have t3 : (kd % 6 == 3) = false := by rw [hkd]; rfl
  have t4 : (kd % 6 == 4) = false := by rw [hkd]; rfl
  have t5 : (kd % 6 == 5) = true := by rw [hkd]; rfl
  have hk : k ≤ 1000000 := by omega
  have Q0 := hid (D0.first w b g sb sg kd i X Y D (.slice a n c) k)
  have HO := hid (h.kept (fun q hq => Q0.out.only.block q (h.lt q hq).2 (by have := (h.lt q hq).1; omega) (by have := (h.lt q hq).1; omega)))
  have HM := hid (hm.below (D0.firstB w (.cells #[.slice a n c, .int .i64 k] 28)  (.cells #[.int .u8 kd, .int .i64 i, .int .u64 X, .int .u64 Y, .int .i64 D] 32) (.cells #[.slice none 0 0, .int .i64 0] 28)) sb sg)
  have HO0 := hid h
  clear h hm hkd
  go_enter Try.func9, Try.ntmps9
  go_wp2_with fail
  generalize ((w.alloc (.cells #[.slice a n c, .int .i64 k] 28)).alloc (.cells #[.int .u8 kd, .int .i64 i, .int .u64 X, .int .u64 Y, .int .i64 D] 32)).alloc (.cells #[.slice none 0 0, .int .i64 0] 28) = w3 at *
  have MD := hid (show Mem w3.drew b g xs k from HM.out.kept rfl rfl)
  have QD := hid (Q0.out.next (Quiet.below (w' := w3.drew) ⟨1, rfl⟩ _))
  have CP := hid (copy_any b g xs k w3.drew MD.out)
  obtain ⟨⟨q0, q1⟩, q2, q3, q4, q5, q6⟩ := Q0.out.s
  go_region_held3 (fun y => y.cell? ⟨w.heap.size + 1, 1, none⟩ = some (.int .i64 i))
    (first
      | exact QD.out.s.2.2.1
      | exact Q6.out.s.2.2.1
      | exact Q5.out.s.2.2.1)
    (first
      | (go_at_call 12; refine (CP.out).mono ?_; rintro e w5 ⟨b2, g2, rfl, hm5, h51, h52, hb5⟩; have Q5 := hid (QD.out.next hb5); have M5 := hid hm5; have B5 := hid hb5; clear hm5 hb5)
      | (go_at_call 24; refine (add_in b2 g2 xs k i 1 w5 M5.out (by omega) hi0 hi).mono ?_; rintro e w6 ⟨rfl, hm6, ho6⟩; have B6 := hid (ho6.below h51 h52 B5.out.size); have Q6 := hid (QD.out.next (B5.out.trans B6.out)); clear hm6 ho6))
  all_goals
    have HWO := hid (show ∀ q, (Value.slice a n c).ownBlock = some q → (Value.slice a n c).ownBlock = some q ∨ w.heap.size ≤ q from fun q hq => .inl hq)
    have E6 : Only b g w w6 := Q6.out.only
    obtain ⟨⟨q0, q1⟩, q2, q3, q4, q5, q6⟩ := Q6.out.s
    have r0 : w6.cell? ⟨w.heap.size + 1 + 1, 0, none⟩ = some (.slice none 0 0) := cell_blk1 Q6.out.res rfl
    have r1 : w6.cell? ⟨w.heap.size + 1 + 1, 1, none⟩ = some (.int .i64 0) := cell_blk1 Q6.out.res rfl
    have r2 : w6.frozen? ⟨w.heap.size + 1 + 1, 0, none⟩ = false := by simp [World.frozen?, Q6.out.res]
    have r3 : w6.frozen? ⟨w.heap.size + 1 + 1, 1, none⟩ = false := by simp [World.frozen?, Q6.out.res]
    have hb36 : Below w3.drew.heap.size w3.drew w6 := B5.out.trans B6.out
    have M6 := hid (MD.out.below hb36 MD.out.sb MD.out.sg)
    have O6 := hid (show Offs w6 base 30 (.slice a n c) (vals xs) from HO.out.kept (fun q hq => hb36.block q (HO.out.lt q hq).2))
    have k6 : ∀ q, q ≠ w.heap.size + 1 + 1 → ((w6.setCell ⟨w.heap.size + 1 + 1, 0, none⟩ (.slice a n c)).setCell ⟨w.heap.size + 1 + 1, 1, none⟩ (.int .i64 k)).heap[q]? = w6.heap[q]? := fun q hq => by
      rw [Below.heap_setCell _ _ _ _ hq, Below.heap_setCell _ _ _ _ hq]
    have fc : ((w6.setCell ⟨w.heap.size + 1 + 1, 0, none⟩ (.slice a n c)).setCell ⟨w.heap.size + 1 + 1, 1, none⟩ (.int .i64 k)).heap[w.heap.size + 1 + 1]? = some (.cells #[.slice a n c, .int .i64 k] 28 (0, 0)) := by
      simp [World.setCell, Array.getElem?_modify, Q6.out.res]
    have H := hid (⟨M6.out.kept (k6 b (by omega)) (k6 g (by omega)), O6.out.kept (fun q hq => k6 q (by have := (HO0.out.lt q hq).2; omega)), ⟨E6.os, E6.tape, E6.output, by simpa [World.setCell] using E6.size, fun q h1 h2 h3 => (k6 q (by omega)).trans (E6.block q h1 h2 h3)⟩⟩ : Mem _ b g xs k ∧ Offs _ base 30 _ _ ∧ Only b g w ((w6.setCell ⟨w.heap.size + 1 + 1, 0, none⟩ (.slice a n c)).setCell ⟨w.heap.size + 1 + 1, 1, none⟩ (.int .i64 k)))
    have d0 := cell_blk1 (i := 0) fc rfl
    have d1 := cell_blk1 (i := 1) fc rfl
    clear fc k6 hb36 E6 M6 O6 QD CP Q0
    go_wp2_with fail
    generalize (w6.setCell ⟨w.heap.size + 1 + 1, 0, none⟩ (.slice a n c)).setCell ⟨w.heap.size + 1 + 1, 1, none⟩ (.int .i64 k) = W at *
    refine bodyPost_ret (v := .tuple #[.agg #[.slice a n c, .int .i64 k], .bool true]) (by simp [results, Try.results9, go_sem, d0, d1]) rfl ⟨_, _, by rfl, HWO.out, H.out.2.1, H.out.1, H.out.2.2⟩

set_option maxHeartbeats 8000000 in
theorem do_five_out (kd i X Y D : Int) (k base n c b g : Nat) (a : Option Addr) (xs : List Int) (w : World) (h : Offs w base 30 (.slice a n c) (vals xs)) (hm : Mem w b g xs k) (hb : b < base) (hg : g < base) (hbs : base ≤ w.heap.size) (hl : xs.length ≤ 1000) (hk9 : k ≤ 900000) (hk0 : 0 ≤ kd) (hk1 : kd ≤ 255) (hkd : kd % 6 = 5) (hi : i < 0 ∨ (xs.length : Int) ≤ i) :
    Calls Try.prog 9 #[.pointer (some ⟨b, 0, none⟩), .agg #[.slice a n c, .int .i64 k], .agg #[.int .u8 kd, .int .i64 i, .int .u64 X, .int .u64 Y, .int .i64 D]] w (DoPost w base n b g (.slice a n c) xs k) := by
  have sb := hm.sb
  have sg := hm.sg
  have t0 : (kd % 6 == 0) = false := by rw [hkd]; rfl
  have t1 : (kd % 6 == 1) = false := by rw [hkd]; rfl
  have t3 : (kd % 6 == 3) = false := by rw [hkd]; rfl
  have t4 : (kd % 6 == 4) = false := by rw [hkd]; rfl
  have t5 : (kd % 6 == 5) = true := by rw [hkd]; rfl
  have hk : k ≤ 1000000 := by omega
  have Q0 := hid (D0.first w b g sb sg kd i X Y D (.slice a n c) k)
  have HO := hid (h.kept (fun q hq => Q0.out.only.block q (h.lt q hq).2 (by have := (h.lt q hq).1; omega) (by have := (h.lt q hq).1; omega)))
  have HM := hid (hm.below (D0.firstB w (.cells #[.slice a n c, .int .i64 k] 28)  (.cells #[.int .u8 kd, .int .i64 i, .int .u64 X, .int .u64 Y, .int .i64 D] 32) (.cells #[.slice none 0 0, .int .i64 0] 28)) sb sg)
  have HO0 := hid h
  clear h hm hkd
  go_enter Try.func9, Try.ntmps9
  go_wp2_with fail
  generalize ((w.alloc (.cells #[.slice a n c, .int .i64 k] 28)).alloc (.cells #[.int .u8 kd, .int .i64 i, .int .u64 X, .int .u64 Y, .int .i64 D] 32)).alloc (.cells #[.slice none 0 0, .int .i64 0] 28) = w3 at *
  have MD := hid (show Mem w3.drew b g xs k from HM.out.kept rfl rfl)
  have QD := hid (Q0.out.next (Quiet.below (w' := w3.drew) ⟨1, rfl⟩ _))
  have CP := hid (copy_any b g xs k w3.drew MD.out)
  obtain ⟨⟨q0, q1⟩, q2, q3, q4, q5, q6⟩ := Q0.out.s
  go_region_held3 (fun y => y.cell? ⟨w.heap.size + 1, 1, none⟩ = some (.int .i64 i))
    (first
      | exact QD.out.s.2.2.1
      | exact Q6.out.s.2.2.1
      | exact Q5.out.s.2.2.1)
    (first
      | (go_at_call 12; refine (CP.out).mono ?_; rintro e w5 ⟨b2, g2, rfl, hm5, h51, h52, hb5⟩; have Q5 := hid (QD.out.next hb5); have M5 := hid hm5; have B5 := hid hb5; clear hm5 hb5)
      | (go_at_call 24; refine (add_o b2 g2 xs k i 1 w5 M5.out hi).mono ?_; rintro e w6 ⟨rfl, hm6, ho6⟩; have B6 := hid (ho6.below h51 h52 B5.out.size); have Q6 := hid (QD.out.next (B5.out.trans B6.out)); clear hm6 ho6))
  all_goals
    have HWO := hid (show ∀ q, (Value.slice a n c).ownBlock = some q → (Value.slice a n c).ownBlock = some q ∨ w.heap.size ≤ q from fun q hq => .inl hq)
    have E6 : Only b g w w6 := Q6.out.only
    obtain ⟨⟨q0, q1⟩, q2, q3, q4, q5, q6⟩ := Q6.out.s
    have r0 : w6.cell? ⟨w.heap.size + 1 + 1, 0, none⟩ = some (.slice none 0 0) := cell_blk1 Q6.out.res rfl
    have r1 : w6.cell? ⟨w.heap.size + 1 + 1, 1, none⟩ = some (.int .i64 0) := cell_blk1 Q6.out.res rfl
    have r2 : w6.frozen? ⟨w.heap.size + 1 + 1, 0, none⟩ = false := by simp [World.frozen?, Q6.out.res]
    have r3 : w6.frozen? ⟨w.heap.size + 1 + 1, 1, none⟩ = false := by simp [World.frozen?, Q6.out.res]
    have hb36 : Below w3.drew.heap.size w3.drew w6 := B5.out.trans B6.out
    have M6 := hid (MD.out.below hb36 MD.out.sb MD.out.sg)
    have O6 := hid (show Offs w6 base 30 (.slice a n c) (vals xs) from HO.out.kept (fun q hq => hb36.block q (HO.out.lt q hq).2))
    have k6 : ∀ q, q ≠ w.heap.size + 1 + 1 → ((w6.setCell ⟨w.heap.size + 1 + 1, 0, none⟩ (.slice a n c)).setCell ⟨w.heap.size + 1 + 1, 1, none⟩ (.int .i64 k)).heap[q]? = w6.heap[q]? := fun q hq => by
      rw [Below.heap_setCell _ _ _ _ hq, Below.heap_setCell _ _ _ _ hq]
    have fc : ((w6.setCell ⟨w.heap.size + 1 + 1, 0, none⟩ (.slice a n c)).setCell ⟨w.heap.size + 1 + 1, 1, none⟩ (.int .i64 k)).heap[w.heap.size + 1 + 1]? = some (.cells #[.slice a n c, .int .i64 k] 28 (0, 0)) := by
      simp [World.setCell, Array.getElem?_modify, Q6.out.res]
    have H := hid (⟨M6.out.kept (k6 b (by omega)) (k6 g (by omega)), O6.out.kept (fun q hq => k6 q (by have := (HO0.out.lt q hq).2; omega)), ⟨E6.os, E6.tape, E6.output, by simpa [World.setCell] using E6.size, fun q h1 h2 h3 => (k6 q (by omega)).trans (E6.block q h1 h2 h3)⟩⟩ : Mem _ b g xs k ∧ Offs _ base 30 _ _ ∧ Only b g w ((w6.setCell ⟨w.heap.size + 1 + 1, 0, none⟩ (.slice a n c)).setCell ⟨w.heap.size + 1 + 1, 1, none⟩ (.int .i64 k)))
    have d0 := cell_blk1 (i := 0) fc rfl
    have d1 := cell_blk1 (i := 1) fc rfl
    clear fc k6 hb36 E6 M6 O6 QD CP Q0
    go_wp2_with fail
    generalize (w6.setCell ⟨w.heap.size + 1 + 1, 0, none⟩ (.slice a n c)).setCell ⟨w.heap.size + 1 + 1, 1, none⟩ (.int .i64 k) = W at *
    refine bodyPost_ret (v := .tuple #[.agg #[.slice a n c, .int .i64 k], .bool true]) (by simp [results, Try.results9, go_sem, d0, d1]) rfl ⟨_, _, by rfl, HWO.out, H.out.2.1, H.out.1, H.out.2.2⟩
end Go.Proofs.Ytdbionbdcjpmaaa.cellPlays
