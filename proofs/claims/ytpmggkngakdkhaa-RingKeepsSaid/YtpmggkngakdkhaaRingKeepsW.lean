/- The walk of the statement RingKeeps: the law answers true and turns nothing that was there. -/
import Derived.Test.YtpmggkngakdkhaaTell
import Derived.OpenShut
namespace Go.Proofs.Ytpmggkngakdkhaa.ringKeeps
open Go.RowKit
set_option linter.unusedVariables false
set_option linter.unusedSimpArgs false

def nums (n : Nat) : List Int := (List.range n).map fun (i : Nat) => (i : Int)
theorem nums_succ (n : Nat) : nums (n + 1) = nums n ++ [(n : Int)] := by simp [nums, List.range_succ]
theorem nums_len (n : Nat) : (nums n).length = n := by simp [nums]
theorem nums_nodup (n : Nat) : (nums n).Nodup := by
  unfold nums
  rw [List.nodup_iff_pairwise_ne, List.pairwise_map]
  exact List.nodup_range.imp fun h e => h (by omega)
theorem nums_row (n m : Nat) : nums (n + m) = nums n ++ row6L n m := by
  induction m with
  | zero => simp [row6L]
  | succ m ih => rw [← Nat.add_assoc, nums_succ, ih, row6_succ, List.append_assoc]; congr 2
theorem mem_nums {n : Nat} {a : Int} : a ∈ nums n ↔ 0 ≤ a ∧ a < n := by
  simp only [nums, List.mem_map, List.mem_range]
  constructor
  · rintro ⟨i, hi, rfl⟩; omega
  · intro h; exact ⟨a.toNat, by omega, by omega⟩
/-- What stands between two deeds: the ring, the numbers that were told (ks), so many were put. -/
structure Kp (w : World) (p sb mb put : Nat) (ks xs : List Int) (nx : Int) (hs : Bool) (st : Int) (wr : World) : Prop where
  rg : Rg wr p xs nx hs st
  cm : Cm wr mb ks
  hsb : wr.heap[sb]? = some (.cells #[.map (some mb)] 56 (0, 0))
  pm : (ks ++ allL xs nx hs).Perm (nums put)
  st0 : 0 ≤ st
  bl : Below w.heap.size w wr
  ne : p ≠ mb ∧ p ≠ sb ∧ sb ≠ mb ∧ w.heap.size ≤ p ∧ w.heap.size ≤ sb ∧ w.heap.size ≤ mb
section
variable {w : World} {p sb mb put put' : Nat} {ks xs ys xs' nw : List Int} {nx nx' st st' : Int} {hs hs' : Bool} {wr w5 w6 : World}
theorem Kp.pre (h : Kp w p sb mb put ks xs nx hs st wr) (hp : (ys ++ allL xs' nx' hs').Perm (allL xs nx hs ++ nw)) (hn : nums put' = nums put ++ nw) : ((ks ++ ys) ++ allL xs' nx' hs').Perm (nums put') := by
  rw [List.append_assoc, hn]
  exact (hp.append_left ks).trans (by rw [← List.append_assoc]; exact h.pm.append_right nw)
theorem Kp.dis (h : ((ks ++ ys) ++ allL xs' nx' hs').Perm (nums put')) : ys.Nodup ∧ ∀ y ∈ ys, y ∉ ks := by
  have hn := h.nodup_iff.2 (nums_nodup put')
  have h1 := (List.nodup_append.1 hn).1
  obtain ⟨_, h2, h3⟩ := List.nodup_append.1 h1
  exact ⟨h2, fun y hy hk => h3 y hk y hy rfl⟩
theorem Kp.onlyO (h : Kp w p sb mb put ks xs nx hs st wr) (ho : OnlyO p none wr w5) : Cm w5 mb ks ∧ w5.heap[sb]? = some (.cells #[.map (some mb)] 56 (0, 0)) ∧ Below w.heap.size w w5 := by
  have ls := (Array.getElem?_eq_some_iff.1 h.hsb).1
  exact ⟨h.cm.kept (ho.block _ h.cm.lt h.ne.1.symm (by simp)), (ho.block _ ls h.ne.2.1.symm (by simp)).trans h.hsb, h.bl.trans (ho.low h.ne.2.2.2.1 h.bl.size)⟩
/-- A deed told some, and they will be seen. -/
theorem Kp.told (h : Kp w p sb mb put ks xs nx hs st wr) {e : Ending} (ht : RTold p ys xs' nx' hs' st' wr e w5) (hp : (ys ++ allL xs' nx' hs').Perm (allL xs nx hs ++ nw)) (hn : nums put' = nums put ++ nw) (h0 : 0 ≤ st') (hl : put' ≤ 100000) :
    ∃ v, e = .returned v ∧ Calls Try.prog 29 #[v, .pointer (some ⟨sb, 0, none⟩)] w5 fun e w' => e = .returned (.tuple #[]) ∧ Kp w p sb mb put' (ks ++ ys) xs' nx' hs' st' w' := by
  obtain ⟨v, he, ho, hr, hx⟩ := ht
  obtain ⟨c5, s5, b5⟩ := h.onlyO hx
  have pm := h.pre hp hn
  obtain ⟨d1, d2⟩ := Kp.dis pm
  have lm := h.cm.lt
  have lp := pm.length_eq
  rw [nums_len] at lp
  simp only [List.length_append] at lp
  refine ⟨v, he, (tell_c sb mb v ks ys w5 s5 c5 (ho.stay lm (fun k hk => by cases hk)) d1 d2 (by omega)).mono ?_⟩
  rintro e w6 ⟨rfl, c6, o6⟩
  exact ⟨rfl, hr.kept (o6.block _ hr.lt h.ne.1 h.ne.1), c6, only_blk o6 s5 h.ne.2.2.1, pm, h0, b5.trans (o6.below h.ne.2.2.2.2.2 h.ne.2.2.2.2.2 b5.size), h.ne⟩
/-- One was got, and is seen. -/
theorem Kp.got (h : Kp w p sb mb put ks xs nx hs st wr) {g : Int} (hr : Rg w5 p xs' nx' hs' st') (hx : OnlyO p none wr w5) (hp : (g :: allL xs' nx' hs').Perm (allL xs nx hs)) (h0 : 0 ≤ st') :
    g ∉ ks ∧ Cm w5 mb ks ∧ w5.heap[sb]? = some (.cells #[.map (some mb)] 56 (0, 0)) ∧ ∀ w6, Cm w6 mb (ks ++ [g]) → Only mb mb w5 w6 → Kp w p sb mb put (ks ++ [g]) xs' nx' hs' st' w6 := by
  obtain ⟨c5, s5, b5⟩ := h.onlyO hx
  have pm := h.pre (ys := [g]) (nw := []) (put' := put) (by simpa using hp) (by simp)
  obtain ⟨d1, d2⟩ := Kp.dis pm
  exact ⟨d2 g (by simp), c5, s5, fun w6 c6 o6 => ⟨hr.kept (o6.block _ hr.lt h.ne.1 h.ne.1), c6, only_blk o6 s5 h.ne.2.2.1, pm, h0, b5.trans (o6.below h.ne.2.2.2.2.2 h.ne.2.2.2.2.2 b5.size), h.ne⟩⟩
theorem Kp.none (h : Kp w p sb mb put ks xs nx hs st wr) (hr : Rg w5 p xs nx hs st') (hx : OnlyO p none wr w5) (h0 : 0 ≤ st') : Kp w p sb mb put ks xs nx hs st' w5 := by
  obtain ⟨c5, s5, b5⟩ := h.onlyO hx
  exact ⟨hr, c5, s5, h.pm, h0, b5, h.ne⟩
end
theorem cnt_td (xs : List Int) (k : Nat) (a : Int) : (xs.take k).count a + (xs.drop k).count a = xs.count a := by
  have := congrArg (List.count a) (List.take_append_drop k xs)
  rwa [List.count_append] at this
theorem putp (xs : List Int) (nx g : Int) (hs : Bool) : (putT xs g ++ allL (putL xs g) nx hs).Perm (allL xs nx hs ++ [g]) := by
  refine List.perm_iff_count.2 fun a => ?_
  have := cnt_td xs 128 a
  unfold putT putL allL
  by_cases h : xs.length < 256 <;> cases hs <;> simp only [h, if_true, if_false, Bool.false_eq_true, List.nil_append, List.count_append] <;> omega
theorem readyp (xs : List Int) (nx g : Int) : (putT xs nx ++ allL (putL xs nx) g true).Perm (allL xs nx true ++ [g]) := by
  have h := putp xs 0 nx false
  simp only [allL, Bool.false_eq_true, if_false, if_true] at h ⊢
  rw [← List.append_assoc]
  exact h.append_right [g]
theorem allp (xs ys : List Int) (nx : Int) (hs : Bool) (k : Nat) : (ys.drop k ++ allL (xs ++ ys.take k) nx hs).Perm (allL xs nx hs ++ ys) := by
  have h1 : (ys.drop k ++ ys.take k).Perm ys := List.perm_append_comm.trans (by rw [List.take_append_drop])
  unfold allL
  cases hs <;> simp only [if_true, if_false, Bool.false_eq_true]
  · rw [← List.append_assoc]
    exact (List.perm_append_comm.append_right _).trans (by rw [List.append_assoc]; exact h1.append_left xs)
  · have h2 : (ys.drop k ++ (xs ++ ys.take k)).Perm (xs ++ ys) := by
      rw [← List.append_assoc]
      exact (List.perm_append_comm.append_right _).trans (by rw [List.append_assoc]; exact h1.append_left xs)
    rw [← List.append_assoc]
    refine (h2.append_right [nx]).trans ?_
    rw [List.append_assoc, List.append_assoc]
    exact List.perm_append_comm.append_left xs
theorem stealp (xs : List Int) (nx : Int) (hs : Bool) (k : Nat) : (xs.take k ++ allL (xs.drop k) nx hs).Perm (allL xs nx hs ++ []) := by
  rw [List.append_nil]
  unfold allL
  cases hs <;> simp only [if_true, if_false, Bool.false_eq_true]
  · rw [List.take_append_drop]
  · rw [← List.append_assoc, List.take_append_drop]
theorem Kp.below {w : World} {p sb mb put : Nat} {ks xs : List Int} {nx st : Int} {hs : Bool} {wr w5 : World} (h : Kp w p sb mb put ks xs nx hs st wr) (hb : Below wr.heap.size wr w5) : Kp w p sb mb put ks xs nx hs st w5 :=
  ⟨h.rg.below hb, h.cm.kept (hb.block _ h.cm.lt), (hb.block _ (Array.getElem?_eq_some_iff.1 h.hsb).1).trans h.hsb, h.pm, h.st0, h.bl.trans (hb.mono h.bl.size), h.ne⟩
set_option maxRecDepth 100000 in
set_option maxHeartbeats 16000000 in
theorem walk (a0 : Option Addr) (len0 cap0 : Nat) (z0 : List Int) (w : World) (w0 : IsRow .u8 w a0 len0 cap0 z0) :
    Calls Try.prog 6 #[.slice a0 len0 cap0] w fun e w' => e = .returned (.bool true) ∧ Below w.heap.size w w' := by
  by_cases hlen : (200 : Int) < len0
  · go_enter Try.func6, Try.ntmps6
    go_wp2_with fail
    refine (lives6 _).mono ?_
    rintro e w2 ⟨rfl, hb1⟩
    go_wp2_with fail
    refine (lives6 _).mono ?_
    rintro e w3 ⟨rfl, hb2⟩
    go_wp2
    go_ret
    exact ⟨rfl, hb1.trans (hb2.mono hb1.size)⟩
  · have hlen' : len0 ≤ 200 := by omega
    have W0 := hid w0
    clear w0 hlen
    have hmf : ∀ (fn : Fn) (first cap : Array Value) (w : World), (Instr.makeFunc fn first cap).run Try.prog w = .ok (.func fn first cap) w := fun _ _ _ _ => rfl
    go_enter Try.func6, Try.ntmps6
    go_wp2_with fail
    refine (lives6 _).mono ?_
    rintro e w2 ⟨rfl, hb1⟩
    have HB1 := hid hb1
    have hs1 := hb1.size
    clear hb1
    go_wp2_with fail
    refine (new_r _).mono ?_
    rintro e w3 ⟨p, rfl, hr3, hp3, hb3⟩
    obtain ⟨mb, hmb⟩ : ∃ x, x = w3.heap.size := ⟨_, rfl⟩
    obtain ⟨sb, hsb⟩ : ∃ x, x = w3.heap.size + 1 := ⟨_, rfl⟩
    have S0 : Hid (Kp w p sb mb 0 [] [] 0 false 0 ((w3.alloc (.map #[] 0)).alloc (.cells #[.map (some mb)] 56))) := by
      have s3 := hb3.size
      have hpl := hr3.lt
      have c1 := Cm.new w3
      rw [← hmb] at c1
      have c2 := Deep.blk_alloc_new (w3.alloc (.map #[] 0)) (.cells #[.map (some mb)] 56)
      rw [World.size_alloc, ← hsb] at c2
      have b2 : Below w3.heap.size w3 ((w3.alloc (.map #[] 0)).alloc (.cells #[.map (some mb)] 56)) := (bl_al w3 _).trans ((bl_al _ _).mono (by simp))
      exact hid ⟨hr3.below b2, c1.kept (Below.heap_alloc _ _ _ (by simp; omega)), c2, by simp [nums, allL], by decide, (HB1.out.trans (hb3.mono hs1)).trans (b2.mono (by omega)), by omega⟩
    have mk := mkM w3
    rw [← hmb] at mk
    clear hr3 hp3 hb3 HB1
    go_wp2_with fail
    clear mk
    rw [← hsb]
    try rw [← hmb]
    clear hmb hsb hs1
    go_loopw [5, 26] (fun pt i wr => ∃ (k put : Nat) (ks xs : List Int) (nx : Int) (hs : Bool) (st : Int), k ≤ len0 ∧ i = .int .i64 k ∧ pt = .int .i64 put ∧ put ≤ 126 * k ∧ Hid (Kp w p sb mb put ks xs nx hs st wr) ∧ Below w.heap.size w wr) (fun _ i _ => len0 - (intOf i).toNat)
    case atStart => exact ⟨0, 0, [], [], 0, false, 0, by omega, rfl, rfl, by omega, S0, S0.out.bl⟩
    case round =>
      clear S0
      obtain ⟨k, put, ks, xs, nx, hs, st, hk, rfl, rfl, hput, F, hbr⟩ := hrel
      by_cases hlt : k < len0
      · obtain ⟨bx, off, rfl, hzl, hwf, hcell⟩ := W0.out.open.resolve_left (by omega)
        have hy := hcell _ hbr k hlt
        have hyI := range_u8 hwf k
        obtain ⟨y, hye⟩ : ∃ y, y = z0.getD k 0 := ⟨_, rfl⟩
        rw [← List.getD_eq_getElem?_getD, ← hye] at hyI
        rw [← hye] at hy
        obtain ⟨y0, y1⟩ := hyI
        clear hcell hwf hzl hye hbr
        rcases (show y % 6 = 0 ∨ y % 6 = 1 ∨ y % 6 = 2 ∨ y % 6 = 3 ∨ (y % 6 = 4 ∨ y % 6 = 5) by omega) with hq | hq | hq | hq | hq
        · go_wp2_with fail
          refine (put_r p xs nx hs st put wr F.out.rg).mono ?_
          intro e w5 ht
          obtain ⟨v, rfl, TC⟩ := F.out.told ht (putp xs nx put hs) (nums_succ put) F.out.st0 (by omega)
          have HTC := hid TC
          clear ht TC F
          go_wp2_with fail
          refine (HTC.out).mono ?_
          rintro e w6 ⟨rfl, f6⟩
          have F6 := hid f6
          have B6 := f6.bl
          clear f6 HTC hq
          go_wp2
          go_roundw
          case rel => exact ⟨k + 1, put + 1, _, _, _, _, _, by omega, by go_num, by go_num, by omega, F6, B6⟩
          case measure => simp [intOf]; omega
        · cases hs
          · go_wp2_with fail
            refine (ready_no p xs nx st put wr F.out.rg).mono ?_
            intro e w5 ht
            obtain ⟨v, rfl, TC⟩ := F.out.told ht (by simp [allL]) (nums_succ put) F.out.st0 (by omega)
            have HTC := hid TC
            clear ht TC F
            go_wp2_with fail
            refine (HTC.out).mono ?_
            rintro e w6 ⟨rfl, f6⟩
            have F6 := hid f6
            have B6 := f6.bl
            clear f6 HTC hq
            go_wp2
            go_roundw
            case rel => exact ⟨k + 1, put + 1, _, _, _, _, _, by omega, by go_num, by go_num, by omega, F6, B6⟩
            case measure => simp [intOf]; omega
          · go_wp2_with fail
            refine (ready_yes p xs nx st put wr F.out.rg).mono ?_
            intro e w5 ht
            obtain ⟨v, rfl, TC⟩ := F.out.told ht (readyp xs nx put) (nums_succ put) F.out.st0 (by omega)
            have HTC := hid TC
            clear ht TC F
            go_wp2_with fail
            refine (HTC.out).mono ?_
            rintro e w6 ⟨rfl, f6⟩
            have F6 := hid f6
            have B6 := f6.bl
            clear f6 HTC hq
            go_wp2
            go_roundw
            case rel => exact ⟨k + 1, put + 1, _, _, _, _, _, by omega, by go_num, by go_num, by omega, F6, B6⟩
            case measure => simp [intOf]; omega
        · obtain ⟨m, hm⟩ : ∃ m : Nat, y / 6 * 3 = m := ⟨(y / 6 * 3).toNat, by omega⟩
          have m1 : m ≤ 126 := by omega
          have q0 : 0 ≤ y / 6 := by omega
          have q1 : y / 6 ≤ 42 := by omega
          have RW := hid (fun w => row6 put m (by omega) (by omega) (by omega) w)
          go_wp2_with fail
          refine (RW.out _).mono ?_
          rintro e w4 ⟨v4, rfl, ho4, hb4⟩
          have F4 := hid (F.out.below hb4)
          have ST := hid (ho4.stay (p := p) (r := none) F.out.rg.lt (fun k hk => by cases hk))
          clear ho4 hb4 F RW
          go_wp2_with fail
          refine (putall_r p xs (row6L put m) v4 nx hs st w4 F4.out.rg ST.out (by rw [row6_length]; omega)).mono ?_
          intro e w5 ht
          obtain ⟨v, rfl, TC⟩ := F4.out.told ht (allp xs (row6L put m) nx hs _) (nums_row put m) F4.out.st0 (by omega)
          have HTC := hid TC
          clear ht TC F4 ST
          go_wp2_with fail
          refine (HTC.out).mono ?_
          rintro e w6 ⟨rfl, f6⟩
          have F6 := hid f6
          have B6 := f6.bl
          have HPM := hid (show (put : Int) + m = ((put + m : Nat) : Int) by omega)
          clear f6 HTC hq
          go_wp2
          go_roundw
          case rel => exact ⟨k + 1, put + m, _, _, _, _, _, by omega, by go_num, by go_num, by omega, F6, B6⟩
          case measure => simp [intOf]; omega
        · rcases List.eq_nil_or_concat xs with rfl | ⟨_, _, hcon⟩
          · cases hs
            · go_wp2_with fail
              refine (steal_none p nx st wr F.out.rg).mono ?_
              intro e w5 ht
              obtain ⟨v, rfl, TC⟩ := F.out.told ht (List.Perm.refl _) (List.append_nil _).symm F.out.st0 (by omega)
              have HTC := hid TC
              clear ht TC F
              go_wp2_with fail
              refine (HTC.out).mono ?_
              rintro e w6 ⟨rfl, f6⟩
              have F6 := hid f6
              have B6 := f6.bl
              clear f6 HTC hq
              go_wp2
              go_roundw
              case rel => exact ⟨k + 1, put, _, _, _, _, _, by omega, by go_num, rfl, by omega, F6, B6⟩
              case measure => simp [intOf]; omega
            · go_wp2_with fail
              refine (steal_next p nx st wr F.out.rg).mono ?_
              intro e w5 ht
              obtain ⟨v, rfl, TC⟩ := F.out.told ht (List.Perm.refl _) (List.append_nil _).symm (Int.le_refl _) (by omega)
              have HTC := hid TC
              clear ht TC F
              go_wp2_with fail
              refine (HTC.out).mono ?_
              rintro e w6 ⟨rfl, f6⟩
              have F6 := hid f6
              have B6 := f6.bl
              clear f6 HTC hq
              go_wp2
              go_roundw
              case rel => exact ⟨k + 1, put, _, _, _, _, _, by omega, by go_num, rfl, by omega, F6, B6⟩
              case measure => simp [intOf]; omega
          · have hpos : 0 < xs.length := by rw [hcon]; simp
            clear hcon
            go_wp2_with fail
            refine (steal_row p xs nx hs st wr F.out.rg hpos).mono ?_
            intro e w5 ht
            obtain ⟨v, rfl, TC⟩ := F.out.told ht (stealp xs nx hs _) (List.append_nil _).symm F.out.st0 (by omega)
            have HTC := hid TC
            clear ht TC F
            go_wp2_with fail
            refine (HTC.out).mono ?_
            rintro e w6 ⟨rfl, f6⟩
            have F6 := hid f6
            have B6 := f6.bl
            clear f6 HTC hq
            go_wp2
            go_roundw
            case rel => exact ⟨k + 1, put, _, _, _, _, _, by omega, by go_num, rfl, by omega, F6, B6⟩
            case measure => simp [intOf]; omega
        · rcases hq with hq | hq
          · rcases xs with _ | ⟨x, l⟩
            · cases hs
              · go_wp2_with fail
                refine (get_none p nx st wr F.out.rg).mono ?_
                rintro e w5 ⟨rfl, hr5, hx5⟩
                have F6 := hid (F.out.none hr5 hx5 F.out.st0)
                have B6 := F6.out.bl
                clear hr5 hx5 F
                go_wp2
                go_roundw
                case rel => exact ⟨k + 1, put, _, _, _, _, _, by omega, by go_num, rfl, by omega, F6, B6⟩
                case measure => simp [intOf]; omega
              · go_wp2_with fail
                refine (get_last p nx st wr F.out.rg).mono ?_
                rintro e w5 ⟨rfl, hr5, hx5⟩
                obtain ⟨hni, c5, s5, NX⟩ := F.out.got hr5 hx5 (List.Perm.refl _) (Int.le_refl _)
                have cs := cellx s5 (i := 0) rfl
                have lk := c5.miss hni
                obtain ⟨w6, p6, c6, o6⟩ := c5.put hni
                have F6 := hid (NX w6 c6 o6)
                have B6 := F6.out.bl
                clear hr5 hx5 hni c5 s5 NX c6 o6 F
                go_wp2
                go_roundw
                case rel => exact ⟨k + 1, put, _, _, _, _, _, by omega, by go_num, rfl, by omega, F6, B6⟩
                case measure => simp [intOf]; omega
            · cases hs
              · go_wp2_with fail
                refine (get_row_no p x l nx st wr F.out.rg).mono ?_
                rintro e w5 ⟨rfl, hr5, hx5⟩
                obtain ⟨hni, c5, s5, NX⟩ := F.out.got hr5 hx5 (List.Perm.refl _) (Int.le_refl _)
                have cs := cellx s5 (i := 0) rfl
                have lk := c5.miss hni
                obtain ⟨w6, p6, c6, o6⟩ := c5.put hni
                have F6 := hid (NX w6 c6 o6)
                have B6 := F6.out.bl
                clear hr5 hx5 hni c5 s5 NX c6 o6 F
                go_wp2
                go_roundw
                case rel => exact ⟨k + 1, put, _, _, _, _, _, by omega, by go_num, rfl, by omega, F6, B6⟩
                case measure => simp [intOf]; omega
              · by_cases h4 : st < 4
                · have hst1 : 0 ≤ st + 1 := by have := F.out.st0; omega
                  go_wp2_with fail
                  refine (get_inherit p (x :: l) nx st wr F.out.rg (by simp) F.out.st0 h4).mono ?_
                  rintro e w5 ⟨rfl, hr5, hx5⟩
                  obtain ⟨hni, c5, s5, NX⟩ := F.out.got hr5 hx5 (by simp only [allL, if_true, Bool.false_eq_true, if_false]; exact (List.perm_append_singleton nx (x :: l)).symm) hst1
                  have cs := cellx s5 (i := 0) rfl
                  have lk := c5.miss hni
                  obtain ⟨w6, p6, c6, o6⟩ := c5.put hni
                  have F6 := hid (NX w6 c6 o6)
                  have B6 := F6.out.bl
                  clear hr5 hx5 hni c5 s5 NX c6 o6 F
                  go_wp2
                  go_roundw
                  case rel => exact ⟨k + 1, put, _, _, _, _, _, by omega, by go_num, rfl, by omega, F6, B6⟩
                  case measure => simp [intOf]; omega
                · go_wp2_with fail
                  refine (get_row_yes p x l nx st wr F.out.rg (by omega)).mono ?_
                  rintro e w5 ⟨rfl, hr5, hx5⟩
                  obtain ⟨hni, c5, s5, NX⟩ := F.out.got hr5 hx5 (List.Perm.refl _) (Int.le_refl _)
                  have cs := cellx s5 (i := 0) rfl
                  have lk := c5.miss hni
                  obtain ⟨w6, p6, c6, o6⟩ := c5.put hni
                  have F6 := hid (NX w6 c6 o6)
                  have B6 := F6.out.bl
                  clear hr5 hx5 hni c5 s5 NX c6 o6 F
                  go_wp2
                  go_roundw
                  case rel => exact ⟨k + 1, put, _, _, _, _, _, by omega, by go_num, rfl, by omega, F6, B6⟩
                  case measure => simp [intOf]; omega
          · rcases xs with _ | ⟨x, l⟩
            · cases hs
              · go_wp2_with fail
                refine (get_none p nx st wr F.out.rg).mono ?_
                rintro e w5 ⟨rfl, hr5, hx5⟩
                have F6 := hid (F.out.none hr5 hx5 F.out.st0)
                have B6 := F6.out.bl
                clear hr5 hx5 F
                go_wp2
                go_roundw
                case rel => exact ⟨k + 1, put, _, _, _, _, _, by omega, by go_num, rfl, by omega, F6, B6⟩
                case measure => simp [intOf]; omega
              · go_wp2_with fail
                refine (get_last p nx st wr F.out.rg).mono ?_
                rintro e w5 ⟨rfl, hr5, hx5⟩
                obtain ⟨hni, c5, s5, NX⟩ := F.out.got hr5 hx5 (List.Perm.refl _) (Int.le_refl _)
                have cs := cellx s5 (i := 0) rfl
                have lk := c5.miss hni
                obtain ⟨w6, p6, c6, o6⟩ := c5.put hni
                have F6 := hid (NX w6 c6 o6)
                have B6 := F6.out.bl
                clear hr5 hx5 hni c5 s5 NX c6 o6 F
                go_wp2
                go_roundw
                case rel => exact ⟨k + 1, put, _, _, _, _, _, by omega, by go_num, rfl, by omega, F6, B6⟩
                case measure => simp [intOf]; omega
            · cases hs
              · go_wp2_with fail
                refine (get_row_no p x l nx st wr F.out.rg).mono ?_
                rintro e w5 ⟨rfl, hr5, hx5⟩
                obtain ⟨hni, c5, s5, NX⟩ := F.out.got hr5 hx5 (List.Perm.refl _) (Int.le_refl _)
                have cs := cellx s5 (i := 0) rfl
                have lk := c5.miss hni
                obtain ⟨w6, p6, c6, o6⟩ := c5.put hni
                have F6 := hid (NX w6 c6 o6)
                have B6 := F6.out.bl
                clear hr5 hx5 hni c5 s5 NX c6 o6 F
                go_wp2
                go_roundw
                case rel => exact ⟨k + 1, put, _, _, _, _, _, by omega, by go_num, rfl, by omega, F6, B6⟩
                case measure => simp [intOf]; omega
              · by_cases h4 : st < 4
                · have hst1 : 0 ≤ st + 1 := by have := F.out.st0; omega
                  go_wp2_with fail
                  refine (get_inherit p (x :: l) nx st wr F.out.rg (by simp) F.out.st0 h4).mono ?_
                  rintro e w5 ⟨rfl, hr5, hx5⟩
                  obtain ⟨hni, c5, s5, NX⟩ := F.out.got hr5 hx5 (by simp only [allL, if_true, Bool.false_eq_true, if_false]; exact (List.perm_append_singleton nx (x :: l)).symm) hst1
                  have cs := cellx s5 (i := 0) rfl
                  have lk := c5.miss hni
                  obtain ⟨w6, p6, c6, o6⟩ := c5.put hni
                  have F6 := hid (NX w6 c6 o6)
                  have B6 := F6.out.bl
                  clear hr5 hx5 hni c5 s5 NX c6 o6 F
                  go_wp2
                  go_roundw
                  case rel => exact ⟨k + 1, put, _, _, _, _, _, by omega, by go_num, rfl, by omega, F6, B6⟩
                  case measure => simp [intOf]; omega
                · go_wp2_with fail
                  refine (get_row_yes p x l nx st wr F.out.rg (by omega)).mono ?_
                  rintro e w5 ⟨rfl, hr5, hx5⟩
                  obtain ⟨hni, c5, s5, NX⟩ := F.out.got hr5 hx5 (List.Perm.refl _) (Int.le_refl _)
                  have cs := cellx s5 (i := 0) rfl
                  have lk := c5.miss hni
                  obtain ⟨w6, p6, c6, o6⟩ := c5.put hni
                  have F6 := hid (NX w6 c6 o6)
                  have B6 := F6.out.bl
                  clear hr5 hx5 hni c5 s5 NX c6 o6 F
                  go_wp2
                  go_roundw
                  case rel => exact ⟨k + 1, put, _, _, _, _, _, by omega, by go_num, rfl, by omega, F6, B6⟩
                  case measure => simp [intOf]; omega
      · obtain rfl : k = len0 := by omega
        go_wp2_with fail
        refine (list_r p xs nx hs st wr F.out.rg).mono ?_
        rintro e w5 ⟨v5, rfl, ho5, hb5⟩
        have F5 := F.out.below hb5
        have hpl := F5.pm.length_eq
        rw [nums_len, List.length_append] at hpl
        have hnd := F5.pm.nodup_iff.2 (nums_nodup put)
        obtain ⟨_, d1, d2⟩ := List.nodup_append.1 hnd
        have TC := hid (tell_c sb mb v5 ks (allL xs nx hs) w5 F5.hsb F5.cm (ho5.stay F.out.cm.lt (fun k hk => by cases hk)) d1 (fun y hy hk => d2 y hk y hy rfl) (by omega))
        have HF5 := hid F5
        clear F5 hpl hnd d1 d2 ho5 hb5 F
        go_wp2_with fail
        refine (TC.out).mono ?_
        rintro e w6 ⟨rfl, c6, o6⟩
        have s6 := only_blk o6 HF5.out.hsb HF5.out.ne.2.2.1
        have cs := cellx s6 (i := 0) rfl
        have B6 := hid (HF5.out.bl.trans (o6.below HF5.out.ne.2.2.2.2.2 HF5.out.ne.2.2.2.2.2 HF5.out.bl.size))
        have C6 := hid c6
        have PM := hid HF5.out.pm
        clear c6 o6 s6 HF5 TC
        go_wp2_with fail
        go_loopw [88] (fun i w7 => ∃ (j : Nat), j ≤ put ∧ i = .int .i64 j ∧ w7 = w6) (fun i _ => put - (intOf i).toNat)
        case atStart => exact ⟨0, by omega, rfl, rfl⟩
        case round =>
          obtain ⟨j, hj, rfl, rfl⟩ := hrel
          by_cases hlt2 : j < put
          · have lk := C6.out.hit (a := (j : Int)) (PM.out.mem_iff.2 (mem_nums.2 (by omega)))
            go_wp2
            go_roundw
            case rel => exact ⟨j + 1, by omega, by go_num, by trivial⟩
            case measure => simp [intOf]; omega
          · obtain rfl : j = put := by omega
            have ln := C6.out.len 3
            rw [PM.out.length_eq, nums_len] at ln
            go_wp2
            go_ret
            exact ⟨rfl, B6.out⟩
end Go.Proofs.Ytpmggkngakdkhaa.ringKeeps
