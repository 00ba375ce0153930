/- The walk of the statement TallyRows: the law answers true and turns nothing that was there. -/
import Derived.Test.YtopidlcifaenjaaGreatDoorLives27
import Derived.Test.YtopidlcifaenjaaGreatDoorPreV
import Derived.Test.YtopidlcifaenjaaGreatDoorPreW
import Derived.OpenShut
import Derived.Maps.AppendAt
import Derived.Deep.CutRange
namespace Go.Proofs.YtopidlcifaenjaaGreatDoor.tallyRows
open Go.RowKit
set_option linter.unusedVariables false
set_option linter.unusedSimpArgs false
set_option maxRecDepth 20000
theorem cnt0 {g : Int} {es : List Ev} (h : anyg g es = false) : rowc 0 (cntf g es) 0 = rowc 0 (fun _ => 0) 0 := row_eq fun j _ => cntf_none h j
theorem last_pos {g L : Int} {es : List Ev} (h : LastIs g es L) (ha : anyg g es = true) : 0 ≤ L := by
  rcases h with ⟨rfl, hn⟩ | ⟨q, rfl, _⟩
  · unfold anyg at ha
    obtain ⟨e, he, h2⟩ := List.any_eq_true.1 ha
    obtain ⟨j, hj, rfl⟩ := List.getElem_of_mem he
    exact absurd (by simpa [evAt, hj] using h2) (hn j hj)
  · omega
theorem last_neg {g L : Int} {es : List Ev} (h : LastIs g es L) (ha : anyg g es = false) : L = -1 := by
  rcases h with ⟨rfl, hn⟩ | ⟨q, rfl, hq, hg, _⟩
  · rfl
  · unfold anyg at ha
    have := (List.any_eq_false.1 ha) (evAt es q) (by simp [evAt, hq])
    simp [hg] at this
theorem eq8 (w : World) : (Op.equalIn 9999 30 (.agg #[.int .i64 0, .int .i64 0, .int .i64 0, .int .i64 0, .int .i64 0, .int .i64 0, .int .i64 0, .int .i64 0]) (.agg #[.int .i64 0, .int .i64 0, .int .i64 0, .int .i64 0, .int .i64 0, .int .i64 0, .int .i64 0, .int .i64 0])).run Tryz.prog w = .ok true w := by kernel_rfl
theorem own_sliceR {w : World} {base sz n : Nat} {t : TypeId} {v : Value} {xs : List Value} (h : w.ownsRow base t sz v n xs) : ∃ a c, v = .slice a n c := by
  obtain ⟨h0, ⟨h1, h2⟩ | ⟨g, cap, cur, h1, _⟩⟩ := h
  · exact ⟨none, 0, by rw [h1, h2]⟩
  · exact ⟨_, _, h1⟩
set_option maxHeartbeats 8000000 in
theorem walk (a0 : Option Addr) (len0 cap0 : Nat) (z0 : Nat → Nat → Int) (a1 : Int) (w : World)
    (w0 : IsStructs [.i64, .i64, .i64, .i64, .i64] w a0 len0 cap0 z0) (w1 : (Lit.int .i64 a1).wf = true) (T2 : EvNames w) (T3 : EvSteps w) (T1 : MaPlaces w) :
    Calls Tryz.prog 4 #[.slice a0 len0 cap0, .int .i64 a1] w fun e w' => e = .returned (.bool true) ∧ Below w.heap.size w w' := by
  have LV := hid (lives27 w T1 T2 T3)
  by_cases hbig : (60 : Int) < len0
  · have LV2 : Hid (∀ w2 : World, Below w.heap.size w w2 → Calls Tryz.prog 7 #[] w2 fun e w' => e = .returned (.bool true) ∧ Below w2.heap.size w2 w') := hid (fun w2 hb => lives27 w2 (T1.at hb) (T2.at hb) (T3.at hb))
    clear T1 T2 T3 w0 w1
    go_enter Tryz.func4, Tryz.ntmps4
    go_wp2_with fail
    refine LV.out.mono ?_
    rintro e w2 ⟨rfl, hb⟩
    have B2 := hid hb
    clear LV
    go_wp2_with fail
    refine (LV2.out w2 hb).mono ?_
    rintro e w3 ⟨rfl, hb3⟩
    have B3 := hid (B2.out.trans (hb3.mono B2.out.size))
    clear hb hb3 B2 LV2
    go_wp2
    go_ret
    exact ⟨rfl, B3.out⟩
  · have h0 : (len0 : Int) ≤ 60 := by omega
    have l0 : len0 ≤ 60 := by omega
    obtain ⟨es, hes, re⟩ := w0.rdE
    have RE := hid re
    have HES := hid hes
    clear hbig T1 T2 T3 re hes w0 w1
    have hle : es.length ≤ 1000 := by rw [HES.out]; omega
    go_enter Tryz.func4, Tryz.ntmps4
    go_wp2_with fail
    refine LV.out.mono ?_
    rintro e w2 ⟨rfl, hb⟩
    have B2 := hid hb
    have RF := hid (refs27 w2 _ es (RE.out _ hb) hle)
    clear LV hb
    go_wp2_with fail
    refine RF.out.mono ?_
    rintro e w3 ⟨v3, rfl, rd3, hb⟩
    have RD := hid rd3
    have B3 := hid (B2.out.trans (hb.mono B2.out.size))
    clear rd3 hb RF B2
    have TO := hid (tof_last _ es a1 w3 (RE.out _ B3.out) hle)
    go_wp2_with fail
    refine TO.out.mono ?_
    rintro e w4 ⟨G, L, rfl, hy, hn, hb⟩
    have RD4 := hid (RD.out.below hb)
    have B4 := hid (B3.out.trans (hb.mono B3.out.size))
    have HY := hid (And.intro hy hn)
    clear hb RD B3 TO hy hn
    go_upto_region 5 with (refine wpList_store_new rfl 32 (.tmp 6) (.tmp 28) rfl _ (rowc G (cntf a1 es) L) 32 rfl rfl (by kernel_rfl) (by rfl) (rowc_ones _ _ _) ?_)
    have RD5 := hid (RD4.out.below ((Below.refl _ _).alloc (Nat.le_refl _) (.cells (rowc G (cntf a1 es) L) 32)))
    have B5 := hid (B4.out.alloc B4.out.size (.cells (rowc G (cntf a1 es) L) 32))
    have K5 := hid (Deep.blk_alloc_new w4 (.cells (rowc G (cntf a1 es) L) 32))
    clear RD4 B4
    generalize w4.alloc (.cells (rowc G (cntf a1 es) L) 32) = w5 at *
    generalize w4.heap.size = p5 at *
    have RL := hid (rlast_any _ es a1 w5 RD5.out hle)
    go_cut [7, 68] from 24 to 68 (fun s7 s68 wx => s68 = .bool false ∧ Hid (Below w5.heap.size w5 wx))
    case first =>
      by_cases ha : anyg a1 es = true
      · obtain ⟨rfl, hL⟩ := HY.out.1 ha
        rw [ha]
        have LP := hid hL
        have L0 := hid (last_pos hL ha)
        have RW := hid (fun wx (hb : Below w5.heap.size w5 wx) => row27 wx _ es G L (RE.out _ (B5.out.trans (hb.mono B5.out.size))) hle LP.out L0.out)
        have LO := hid (fun wx (hb : Below w5.heap.size w5 wx) => longest_any _ es G wx (RE.out _ (B5.out.trans (hb.mono B5.out.size))) hle)
        have RO := hid (fun wx (hb : Below w5.heap.size w5 wx) => rlongest_any _ es G wx (RD5.out.below hb) hle)
        rw [lfold_dl] at LO
        clear ha hL HY
        go_wp2_with fail
        refine RL.out.mono ?_
        rintro e w6 ⟨x, rfl, hx, rfl⟩
        obtain rfl := hx.unique LP.out
        have hp := L0.out
        clear RL hx
        have c0 : w6.cell? ⟨p5, 0, none⟩ = some (.int .i64 G) := blk_cell K5.out rfl
        go_wp2_with (refine wpList_load_known (by rfl) 32 (.tmp 6) rfl p5 rfl 32 _ _ _ K5.out Tryz.underlying32 rfl (by kernel_rfl) ?_)
        refine (RW.out _ (Below.refl _ _)).mono ?_
        rintro e w7 ⟨rfl, hb7⟩
        have B7 := hid hb7
        clear hb7 RW c0
        go_wp2_with fail
        refine (LO.out _ B7.out).mono ?_
        rintro e w8 ⟨rfl, hb8⟩
        have B8 := hid (B7.out.trans (hb8.mono B7.out.size))
        clear hb8 LO B7
        go_wp2_with fail
        refine (RO.out _ B8.out).mono ?_
        rintro e w9 ⟨rfl, hb9⟩
        have B9 := hid (B8.out.trans (hb9.mono B8.out.size))
        clear hb9 RO B8
        go_wp2_with fail
        go_meet
        exact ⟨rfl, B9⟩
      · have ha : anyg a1 es = false := by simpa using ha
        obtain ⟨rfl, rfl⟩ := HY.out.2 ha
        rw [ha]
        have HA := hid ha
        have LO := hid (fun wx (hb : Below w5.heap.size w5 wx) => longest_any _ es a1 wx (RE.out _ (B5.out.trans (hb.mono B5.out.size))) hle)
        have RO := hid (fun wx (hb : Below w5.heap.size w5 wx) => rlongest_any _ es a1 wx (RD5.out.below hb) hle)
        rw [lfold_dl] at LO
        rw [cnt0 ha] at K5
        clear ha HY
        go_wp2_with fail
        refine RL.out.mono ?_
        rintro e w6 ⟨x, rfl, hx, rfl⟩
        obtain rfl := last_neg hx HA.out
        clear RL hx
        have B7 := hid (Below.refl w6.heap.size w6)
        have EQ := eq8 w6
        have c0 : w6.cell? ⟨p5, 0, none⟩ = some (.int .i64 0) := blk_cell K5.out rfl
        have c1 : w6.cell? ⟨p5, 1, none⟩ = some (.int .i64 0) := blk_cell K5.out rfl
        have c2 : w6.cell? ⟨p5, 2, none⟩ = some (.int .i64 0) := blk_cell K5.out rfl
        have c3 : w6.cell? ⟨p5, 3, none⟩ = some (.int .i64 0) := blk_cell K5.out rfl
        have c4 : w6.cell? ⟨p5, 4, none⟩ = some (.int .i64 0) := blk_cell K5.out rfl
        have c5 : w6.cell? ⟨p5, 5, none⟩ = some (.int .i64 0) := blk_cell K5.out rfl
        have c6 : w6.cell? ⟨p5, 6, none⟩ = some (.int .i64 0) := blk_cell K5.out rfl
        have c7 : w6.cell? ⟨p5, 7, none⟩ = some (.int .i64 0) := blk_cell K5.out rfl
        have c8 : w6.cell? ⟨p5, 8, none⟩ = some (.int .i64 0) := blk_cell K5.out rfl
        have c9 : w6.cell? ⟨p5, 9, none⟩ = some (.int .i64 0) := blk_cell K5.out rfl
        go_wp2_with fail
        refine (LO.out _ B7.out).mono ?_
        rintro e w8 ⟨rfl, hb8⟩
        have B8 := hid (B7.out.trans (hb8.mono B7.out.size))
        clear hb8 LO B7
        go_wp2_with fail
        refine (RO.out _ B8.out).mono ?_
        rintro e w9 ⟨rfl, hb9⟩
        have B9 := hid (B8.out.trans (hb9.mono B8.out.size))
        clear hb9 RO B8
        go_wp2_with fail
        go_meet
        exact ⟨rfl, B9⟩
    case rest =>
    obtain ⟨rfl, B6⟩ := hcut
    have B7 := hid (B5.out.trans (B6.out.mono B5.out.size))
    have TA := hid (tall_any _ es wc (RE.out _ B7.out) hle)
    clear B5 B6 RD5 K5 RL HY
    go_wp2_with fail
    refine TA.out.mono ?_
    rintro e w8 ⟨v8, rs, rfl, ho, hA, hR, hb⟩
    have RB := hid (World.ownsRow.lt ho)
    obtain ⟨a8, c8, rfl⟩ := own_sliceR ho
    have B8 := hid (B7.out.trans (hb.mono B7.out.size))
    have OW := hid ho
    have AI := hid hA
    have RI := hid hR
    clear TA ho hA hR hb B7
    have MK := mkM9
    obtain ⟨bs, hbs⟩ : ∃ bs, bs = wc.heap.size + 1 := ⟨_, rfl⟩
    rw [← hbs] at OW RB
    have P0 := hid (show TrW w bs (.slice a8 rs.length c8) w8.heap.size rs 0 (w8.alloc (.map #[] 0)) from
      ⟨OW.out.alloc _, Sm.new w8 rs, B8.out.alloc B8.out.size _, fun q hq => (RB.out q hq).2, B8.out.size⟩)
    clear OW B8 RB hbs
    go_wp2_with fail
    clear MK
    obtain ⟨b, hb⟩ : ∃ b, b = w8.heap.size := ⟨_, rfl⟩
    rw [← hb] at P0 ⊢
    clear hb
    have RN := hid (show rs.length ≤ 60 by have := AI.out.len; rw [HES.out] at this; omega)
    go_loopw [74] (fun i wr => ∃ k : Nat, k ≤ rs.length ∧ i = .int .i64 k ∧ Hid (TrW w bs (.slice a8 rs.length c8) b rs k wr)) (fun i _ => rs.length - (intOf i).toNat)
    case atStart => exact ⟨0, by omega, rfl, P0⟩
    case round =>
      clear P0
      obtain ⟨k, hk, rfl, W⟩ := hrel
      by_cases hlt : k < rs.length
      · obtain ⟨q, c9, e, hq⟩ := own_slice9 W.out.ow (by omega)
        simp only [Value.slice.injEq] at e
        obtain ⟨rfl, _, rfl⟩ := e
        have R := hid (AI.out.row k hlt)
        have PR : 0 < k → w.os = w.os ∧ (rwAt rs (k - 1)).1 < (rwAt rs k).1 := fun h => ⟨rfl, RI.out (k - 1) k (by omega) hlt⟩
        have PR := hid PR
        have C := fun j hj => W.out.cell hlt j hj
        obtain ⟨G, f, L, hrw⟩ : ∃ G f L, rwAt rs k = (G, f, L) := ⟨_, _, _, rfl⟩
        have HRW := hid hrw
        rw [hrw] at C R PR
        have C0 : wr.cell? ⟨q, k * 10, none⟩ = some (.int .i64 G) := C 0 (by omega)
        have C1 : wr.cell? ⟨q, k * 10 + 1, none⟩ = some (.int .i64 (f 0)) := C 1 (by omega)
        have C2 : wr.cell? ⟨q, k * 10 + 2, none⟩ = some (.int .i64 (f 1)) := C 2 (by omega)
        have C3 : wr.cell? ⟨q, k * 10 + 3, none⟩ = some (.int .i64 (f 2)) := C 3 (by omega)
        have C4 : wr.cell? ⟨q, k * 10 + 4, none⟩ = some (.int .i64 (f 3)) := C 4 (by omega)
        have C5 : wr.cell? ⟨q, k * 10 + 5, none⟩ = some (.int .i64 (f 4)) := C 5 (by omega)
        have C6 : wr.cell? ⟨q, k * 10 + 6, none⟩ = some (.int .i64 (f 5)) := C 6 (by omega)
        have C7 : wr.cell? ⟨q, k * 10 + 7, none⟩ = some (.int .i64 (f 6)) := C 7 (by omega)
        have C8 : wr.cell? ⟨q, k * 10 + 8, none⟩ = some (.int .i64 (f 7)) := C 8 (by omega)
        have C9 : wr.cell? ⟨q, k * 10 + 9, none⟩ = some (.int .i64 L) := C 9 (by omega)
        clear C hrw
        simp only at R PR
        have hf : f = cntf G es := R.out.1
        subst hf
        have W2 := hid (W.out.below ((Below.refl wr.heap.size wr).alloc (Nat.le_refl _) (.cells (rowc G (cntf G es) L) 32)))
        have BX := hid (Deep.blk_alloc_new wr (.cells (rowc G (cntf G es) L) 32))
        have LK := W2.out.sm.miss RI.out hlt
        obtain ⟨w3, U1, sm3, o3⟩ := W2.out.sm.put RI.out hlt
        rw [HRW.out] at LK U1
        have SB := hid W2.out.sm.lt
        have W3 := hid (W2.out.put o3 sm3)
        have bl := W.out.sm.lt
        have BX3 := hid (show w3.heap[wr.heap.size]? = some (.cells (rowc G (cntf G es) L) 32 (0, 0)) from by
          rw [o3.block _ (by simp) (by omega) (by omega)]
          exact BX.out)
        have e0 : (wr.alloc (.cells (rowc G (cntf G es) L) 32)).cell? ⟨wr.heap.size, 0, none⟩ = some (.int .i64 G) := blk_cell BX.out rfl
        clear W W2 sm3 o3 SB bl
        have hk60 : k < 60 := by have := RN.out; omega
        go_upto_region 13 with (refine wpList_store_new rfl 32 (.tmp 11) (.tmp 78) rfl _ (rowc G (cntf G es) L) 32 rfl rfl (by kernel_rfl) (by rfl) (rowc_ones _ _ _) ?_)
        obtain ⟨x, hx⟩ : ∃ x, x = wr.heap.size := ⟨_, rfl⟩
        rw [← hx] at BX3 ⊢
        have W4 := hid (W3.out.below (w' := w3.drew) (Quiet.below ⟨1, rfl⟩ _))
        obtain ⟨HQ, hHQ⟩ : ∃ HQ : World → Prop, HQ = fun y => TrW w bs (.slice (some ⟨q, 0, none⟩) rs.length c8) b rs (k + 1) y ∧ y.heap[x]? = some (.cells (rowc G (cntf G es) L) 32 (0, 0)) := ⟨_, rfl⟩
        have HD : HQ w3.drew := by rw [hHQ]; exact ⟨W4.out, BX3.out⟩
        have HT := hid (show ∀ y, HQ y → TrW w bs (.slice (some ⟨q, 0, none⟩) rs.length c8) b rs (k + 1) y from by rw [hHQ]; exact fun y h => h.1)
        have HX := hid (show ∀ y, HQ y → y.heap[x]? = some (.cells (rowc G (cntf G es) L) 32 (0, 0)) from by rw [hHQ]; exact fun y h => h.2)
        have HB := hid (show ∀ y y', HQ y → Below y.heap.size y y' → HQ y' from by rw [hHQ]; exact fun y y' h hb => ⟨h.1.below hb, (hb.block x (blk_lt h.2)).trans h.2⟩)
        have RW := hid (show ∀ y, HQ y → Calls Tryz.prog 11 #[.slice a0 len0 cap0, .agg (rowc G (cntf G es) L)] y fun e y' => e = .returned (.bool true) ∧ HQ y' from fun y h => (row27 y _ es G L (RE.out _ (HT.out y h).bl) hle R.out.2.1 R.out.2.2).mono fun e y' h' => ⟨h'.1, HB.out y y' h h'.2⟩)
        clear C0 C1 C2 C3 C4 C5 C6 C7 C8 C9 e0 LK U1 BX W3 W4 BX3 hx hHQ
        go_cut [74, 102] from 75 to 103 (fun s74 s102 wx => s74 = .int .i64 k ∧ s102 = .bool false ∧ HQ wx)
        case first => as_aux_lemma =>
          unfold rowc at RW
          rcases (show k = 0 ∨ ∃ j, k = j + 1 by rcases k with _ | j; exact .inl rfl; exact .inr ⟨j, rfl⟩) with rfl | ⟨j, rfl⟩
          · have SX := hid (fun y (h : HQ y) => (show HQ y ∧ _ from ⟨h, rowcells (HX.out y h)⟩))
            refine wp_region_held_drew (S := fun w' => HQ w' ∧ w'.cell? ⟨x, 0, none⟩ = some (.int .i64 G) ∧ w'.cell? ⟨x, 1, none⟩ = some (.int .i64 (cntf G es 0)) ∧ w'.cell? ⟨x, 2, none⟩ = some (.int .i64 (cntf G es 1)) ∧ w'.cell? ⟨x, 3, none⟩ = some (.int .i64 (cntf G es 2)) ∧ w'.cell? ⟨x, 4, none⟩ = some (.int .i64 (cntf G es 3)) ∧ w'.cell? ⟨x, 5, none⟩ = some (.int .i64 (cntf G es 4)) ∧ w'.cell? ⟨x, 6, none⟩ = some (.int .i64 (cntf G es 5)) ∧ w'.cell? ⟨x, 7, none⟩ = some (.int .i64 (cntf G es 6)) ∧ w'.cell? ⟨x, 8, none⟩ = some (.int .i64 (cntf G es 7)) ∧ w'.cell? ⟨x, 9, none⟩ = some (.int .i64 L)) (by kernel_rfl) (SX.out _ HD) (fun hHeld => ?_)
            refine wpAnyH_take (i := 0) (oi := _) (v := ?_) rfl (by kernel_rfl) (by kernel_rfl) (by kernel_rfl) (fun _ _ _ h => h) (Or.inl ⟨by rfl, ?_⟩) (by assumption) ?_
            rotate_left
            · intro w hSw
              try dsimp only at hSw
              go_simp
              with_reducible rfl
            try simp only [Act.put, List.getElem_toArray, List.getElem_cons_zero, List.getElem_cons_succ, List.setIfInBounds_toArray, List.set_cons_zero, List.set_cons_succ]
            refine wpAnyH_take (i := 1) (oi := _) (v := ?_) rfl (by kernel_rfl) (by kernel_rfl) (by kernel_rfl) (fun _ _ _ h => h) (Or.inl ⟨by rfl, ?_⟩) (by assumption) ?_
            rotate_left
            · intro w hSw
              try dsimp only at hSw
              go_simp
              with_reducible rfl
            try simp only [Act.put, List.getElem_toArray, List.getElem_cons_zero, List.getElem_cons_succ, List.setIfInBounds_toArray, List.set_cons_zero, List.set_cons_succ]
            refine wpAnyH_ready (rs := [2]) (by kernel_rfl) (by simp) ?_
            refine AllReadyH.cons (o := _) rfl (fun K hK => ?_) AllReadyH.nil
            go_simp
            go_at_call 11
            refine (RW.out _ hHeld.1).mono ?_
            rintro e y1 ⟨rfl, HY⟩
            go_wp2_with fail
            refine hK.out _ _ (SX.out _ HY) (fun hHeld => ?_)
            clear hK K
            try simp only [Act.put, List.getElem_toArray, List.getElem_cons_zero, List.getElem_cons_succ, List.setIfInBounds_toArray, List.set_cons_zero, List.set_cons_succ]
            refine wpAnyH_take (i := 3) (oi := _) (v := ?_) rfl (by kernel_rfl) (by kernel_rfl) (by kernel_rfl) (fun _ _ _ h => h) (Or.inl ⟨by rfl, ?_⟩) (by assumption) ?_
            rotate_left
            · intro w hSw
              try dsimp only at hSw
              go_simp
              with_reducible rfl
            try simp only [Act.put, List.getElem_toArray, List.getElem_cons_zero, List.getElem_cons_succ, List.setIfInBounds_toArray, List.set_cons_zero, List.set_cons_succ]
            refine wpAnyH_take (i := 4) (oi := _) (v := ?_) rfl (by kernel_rfl) (by kernel_rfl) (by kernel_rfl) (fun _ _ _ h => h) (Or.inl ⟨by rfl, ?_⟩) (by assumption) ?_
            rotate_left
            · intro w hSw
              try dsimp only at hSw
              go_simp
              with_reducible rfl
            try simp only [Act.put, List.getElem_toArray, List.getElem_cons_zero, List.getElem_cons_succ, List.setIfInBounds_toArray, List.set_cons_zero, List.set_cons_succ]
            refine wpAnyH_take (i := 5) (oi := _) (v := ?_) rfl (by kernel_rfl) (by kernel_rfl) (by kernel_rfl) (fun _ _ _ h => h) (Or.inl ⟨by rfl, ?_⟩) (by assumption) ?_
            rotate_left
            · intro w hSw
              try dsimp only at hSw
              go_simp
              with_reducible rfl
            try simp only [Act.put, List.getElem_toArray, List.getElem_cons_zero, List.getElem_cons_succ, List.setIfInBounds_toArray, List.set_cons_zero, List.set_cons_succ]
            refine wpAnyH_take (i := 6) (oi := _) (v := ?_) rfl (by kernel_rfl) (by kernel_rfl) (by kernel_rfl) (fun _ _ _ h => h) (Or.inl ⟨by rfl, ?_⟩) (by assumption) ?_
            rotate_left
            · intro w hSw
              try dsimp only at hSw
              go_simp
              with_reducible rfl
            try simp only [Act.put, List.getElem_toArray, List.getElem_cons_zero, List.getElem_cons_succ, List.setIfInBounds_toArray, List.set_cons_zero, List.set_cons_succ]
            refine wpAnyH_take (i := 7) (oi := _) (v := ?_) rfl (by kernel_rfl) (by kernel_rfl) (by kernel_rfl) (fun _ _ _ h => h) (Or.inl ⟨by rfl, ?_⟩) (by assumption) ?_
            rotate_left
            · intro w hSw
              try dsimp only at hSw
              go_simp
              with_reducible rfl
            try simp only [Act.put, List.getElem_toArray, List.getElem_cons_zero, List.getElem_cons_succ, List.setIfInBounds_toArray, List.set_cons_zero, List.set_cons_succ]
            refine wpAnyH_take (i := 8) (oi := _) (v := undef) rfl (by kernel_rfl) (by kernel_rfl) (by kernel_rfl) (fun _ _ _ h => h) (Or.inr ⟨by rfl, rfl⟩) (by assumption) ?_
            try simp only [Act.put, List.getElem_toArray, List.getElem_cons_zero, List.getElem_cons_succ, List.setIfInBounds_toArray, List.set_cons_zero, List.set_cons_succ]
            refine wpAnyH_take (i := 9) (oi := _) (v := undef) rfl (by kernel_rfl) (by kernel_rfl) (by kernel_rfl) (fun _ _ _ h => h) (Or.inr ⟨by rfl, rfl⟩) (by assumption) ?_
            try simp only [Act.put, List.getElem_toArray, List.getElem_cons_zero, List.getElem_cons_succ, List.setIfInBounds_toArray, List.set_cons_zero, List.set_cons_succ]
            refine wpAnyH_take (i := 10) (oi := _) (v := undef) rfl (by kernel_rfl) (by kernel_rfl) (by kernel_rfl) (fun _ _ _ h => h) (Or.inr ⟨by rfl, rfl⟩) (by assumption) ?_
            try simp only [Act.put, List.getElem_toArray, List.getElem_cons_zero, List.getElem_cons_succ, List.setIfInBounds_toArray, List.set_cons_zero, List.set_cons_succ]
            refine wpAnyH_take (i := 11) (oi := _) (v := undef) rfl (by kernel_rfl) (by kernel_rfl) (by kernel_rfl) (fun _ _ _ h => h) (Or.inr ⟨by rfl, rfl⟩) (by assumption) ?_
            try simp only [Act.put, List.getElem_toArray, List.getElem_cons_zero, List.getElem_cons_succ, List.setIfInBounds_toArray, List.set_cons_zero, List.set_cons_succ]
            refine wpAnyH_take (i := 12) (oi := _) (v := undef) rfl (by kernel_rfl) (by kernel_rfl) (by kernel_rfl) (fun _ _ _ h => h) (Or.inr ⟨by rfl, rfl⟩) (by assumption) ?_
            try simp only [Act.put, List.getElem_toArray, List.getElem_cons_zero, List.getElem_cons_succ, List.setIfInBounds_toArray, List.set_cons_zero, List.set_cons_succ]
            refine wpAnyH_take (i := 13) (oi := _) (v := undef) rfl (by kernel_rfl) (by kernel_rfl) (by kernel_rfl) (fun _ _ _ h => h) (Or.inr ⟨by rfl, rfl⟩) (by assumption) ?_
            try simp only [Act.put, List.getElem_toArray, List.getElem_cons_zero, List.getElem_cons_succ, List.setIfInBounds_toArray, List.set_cons_zero, List.set_cons_succ]
            refine wpAnyH_take (i := 14) (oi := _) (v := undef) rfl (by kernel_rfl) (by kernel_rfl) (by kernel_rfl) (fun _ _ _ h => h) (Or.inr ⟨by rfl, rfl⟩) (by assumption) ?_
            try simp only [Act.put, List.getElem_toArray, List.getElem_cons_zero, List.getElem_cons_succ, List.setIfInBounds_toArray, List.set_cons_zero, List.set_cons_succ]
            refine wpAnyH_take (i := 15) (oi := _) (v := undef) rfl (by kernel_rfl) (by kernel_rfl) (by kernel_rfl) (fun _ _ _ h => h) (Or.inr ⟨by rfl, rfl⟩) (by assumption) ?_
            try simp only [Act.put, List.getElem_toArray, List.getElem_cons_zero, List.getElem_cons_succ, List.setIfInBounds_toArray, List.set_cons_zero, List.set_cons_succ]
            refine wpAnyH_take (i := 16) (oi := _) (v := undef) rfl (by kernel_rfl) (by kernel_rfl) (by kernel_rfl) (fun _ _ _ h => h) (Or.inr ⟨by rfl, rfl⟩) (by assumption) ?_
            try simp only [Act.put, List.getElem_toArray, List.getElem_cons_zero, List.getElem_cons_succ, List.setIfInBounds_toArray, List.set_cons_zero, List.set_cons_succ]
            refine wpAnyH_take (i := 17) (oi := _) (v := ?_) rfl (by kernel_rfl) (by kernel_rfl) (by kernel_rfl) (fun _ _ _ h => h) (Or.inl ⟨by rfl, ?_⟩) (by assumption) ?_
            rotate_left
            · intro w hSw
              try dsimp only at hSw
              go_simp
              with_reducible rfl
            try simp only [Act.put, List.getElem_toArray, List.getElem_cons_zero, List.getElem_cons_succ, List.setIfInBounds_toArray, List.set_cons_zero, List.set_cons_succ]
            refine wpAnyH_take (i := 18) (oi := _) (v := ?_) rfl (by kernel_rfl) (by kernel_rfl) (by kernel_rfl) (fun _ _ _ h => h) (Or.inl ⟨by rfl, ?_⟩) (by assumption) ?_
            rotate_left
            · intro w hSw
              try dsimp only at hSw
              go_simp
              with_reducible rfl
            try simp only [Act.put, List.getElem_toArray, List.getElem_cons_zero, List.getElem_cons_succ, List.setIfInBounds_toArray, List.set_cons_zero, List.set_cons_succ]
            refine wpAnyH_done (by kernel_rfl) ?_ _
            go_wp2_with fail
            go_meet
            exact ⟨rfl, rfl, hHeld.1⟩
          · obtain ⟨G', hG'⟩ : ∃ G', G' = (rwAt rs j).1 := ⟨_, rfl⟩
            have hlt2 : G' < G := by rw [hG']; exact (PR.out (by omega)).2
            have PW := hid (fun y (h : TrW w bs (.slice (some ⟨q, 0, none⟩) rs.length c8) b rs (j + 1 + 1) y) => show y.cell? ⟨q, j * 10, none⟩ = some (.int .i64 G') from by
              have := h.cell (r := j) (by omega) 0 (by omega)
              rw [hG']; exact this)
            have hj1 : (j : Int) < (rs.length : Int) := by omega
            have hj0 : (0 : Int) ≤ (j : Int) := by omega
            have hjw : IntKind.i64.wrap (j : Int) = j := IntWalk.i64_in _ (by omega)
            have dj : decide (0 < (j : Int) + 1) = true := decide_eq_true (by omega)
            have dg : decide (G ≤ G') = false := decide_eq_false (by omega)
            have SX := hid (show ∀ y, HQ y → HQ y ∧ y.cell? ⟨x, 0, none⟩ = some (.int .i64 G) ∧ y.cell? ⟨x, 1, none⟩ = some (.int .i64 (cntf G es 0)) ∧ y.cell? ⟨x, 2, none⟩ = some (.int .i64 (cntf G es 1)) ∧ y.cell? ⟨x, 3, none⟩ = some (.int .i64 (cntf G es 2)) ∧ y.cell? ⟨x, 4, none⟩ = some (.int .i64 (cntf G es 3)) ∧ y.cell? ⟨x, 5, none⟩ = some (.int .i64 (cntf G es 4)) ∧ y.cell? ⟨x, 6, none⟩ = some (.int .i64 (cntf G es 5)) ∧ y.cell? ⟨x, 7, none⟩ = some (.int .i64 (cntf G es 6)) ∧ y.cell? ⟨x, 8, none⟩ = some (.int .i64 (cntf G es 7)) ∧ y.cell? ⟨x, 9, none⟩ = some (.int .i64 L) ∧ y.cell? ⟨q, j * 10, none⟩ = some (.int .i64 G') from fun y h => by
              obtain ⟨d0, d1, d2, d3, d4, d5, d6, d7, d8, d9⟩ := rowcells (HX.out y h)
              exact ⟨h, d0, d1, d2, d3, d4, d5, d6, d7, d8, d9, PW.out y (HT.out y h)⟩)
            clear hG' PR
            refine wp_region_held_drew (S := fun w' => HQ w' ∧ w'.cell? ⟨x, 0, none⟩ = some (.int .i64 G) ∧ w'.cell? ⟨x, 1, none⟩ = some (.int .i64 (cntf G es 0)) ∧ w'.cell? ⟨x, 2, none⟩ = some (.int .i64 (cntf G es 1)) ∧ w'.cell? ⟨x, 3, none⟩ = some (.int .i64 (cntf G es 2)) ∧ w'.cell? ⟨x, 4, none⟩ = some (.int .i64 (cntf G es 3)) ∧ w'.cell? ⟨x, 5, none⟩ = some (.int .i64 (cntf G es 4)) ∧ w'.cell? ⟨x, 6, none⟩ = some (.int .i64 (cntf G es 5)) ∧ w'.cell? ⟨x, 7, none⟩ = some (.int .i64 (cntf G es 6)) ∧ w'.cell? ⟨x, 8, none⟩ = some (.int .i64 (cntf G es 7)) ∧ w'.cell? ⟨x, 9, none⟩ = some (.int .i64 L) ∧ w'.cell? ⟨q, j * 10, none⟩ = some (.int .i64 G')) (by kernel_rfl) (SX.out _ HD) (fun hHeld => ?_)
            refine wpAnyH_take (i := 0) (oi := _) (v := ?_) rfl (by kernel_rfl) (by kernel_rfl) (by kernel_rfl) (fun _ _ _ h => h) (Or.inl ⟨by rfl, ?_⟩) (by assumption) ?_
            rotate_left
            · intro w hSw
              try dsimp only at hSw
              go_simp
              with_reducible rfl
            try simp only [Act.put, List.getElem_toArray, List.getElem_cons_zero, List.getElem_cons_succ, List.setIfInBounds_toArray, List.set_cons_zero, List.set_cons_succ]
            refine wpAnyH_take (i := 1) (oi := _) (v := ?_) rfl (by kernel_rfl) (by kernel_rfl) (by kernel_rfl) (fun _ _ _ h => h) (Or.inl ⟨by rfl, ?_⟩) (by assumption) ?_
            rotate_left
            · intro w hSw
              try dsimp only at hSw
              go_simp
              with_reducible rfl
            try simp only [Act.put, List.getElem_toArray, List.getElem_cons_zero, List.getElem_cons_succ, List.setIfInBounds_toArray, List.set_cons_zero, List.set_cons_succ]
            refine wpAnyH_ready (rs := [2]) (by kernel_rfl) (by simp) ?_
            refine AllReadyH.cons (o := _) rfl (fun K hK => ?_) AllReadyH.nil
            go_simp
            go_at_call 11
            refine (RW.out _ hHeld.1).mono ?_
            rintro e y1 ⟨rfl, HY⟩
            go_wp2_with fail
            refine hK.out _ _ (SX.out _ HY) (fun hHeld => ?_)
            clear hK K
            try simp only [Act.put, List.getElem_toArray, List.getElem_cons_zero, List.getElem_cons_succ, List.setIfInBounds_toArray, List.set_cons_zero, List.set_cons_succ]
            refine wpAnyH_take (i := 3) (oi := _) (v := ?_) rfl (by kernel_rfl) (by kernel_rfl) (by kernel_rfl) (fun _ _ _ h => h) (Or.inl ⟨by rfl, ?_⟩) (by assumption) ?_
            rotate_left
            · intro w hSw
              try dsimp only at hSw
              go_simp
              with_reducible rfl
            try simp only [Act.put, List.getElem_toArray, List.getElem_cons_zero, List.getElem_cons_succ, List.setIfInBounds_toArray, List.set_cons_zero, List.set_cons_succ]
            refine wpAnyH_take (i := 4) (oi := _) (v := ?_) rfl (by kernel_rfl) (by kernel_rfl) (by kernel_rfl) (fun _ _ _ h => h) (Or.inl ⟨by rfl, ?_⟩) (by assumption) ?_
            rotate_left
            · intro w hSw
              try dsimp only at hSw
              go_simp
              with_reducible rfl
            try simp only [Act.put, List.getElem_toArray, List.getElem_cons_zero, List.getElem_cons_succ, List.setIfInBounds_toArray, List.set_cons_zero, List.set_cons_succ]
            refine wpAnyH_take (i := 5) (oi := _) (v := ?_) rfl (by kernel_rfl) (by kernel_rfl) (by kernel_rfl) (fun _ _ _ h => h) (Or.inl ⟨by rfl, ?_⟩) (by assumption) ?_
            rotate_left
            · intro w hSw
              try dsimp only at hSw
              go_simp
              with_reducible rfl
            try simp only [Act.put, List.getElem_toArray, List.getElem_cons_zero, List.getElem_cons_succ, List.setIfInBounds_toArray, List.set_cons_zero, List.set_cons_succ]
            refine wpAnyH_take (i := 6) (oi := _) (v := ?_) rfl (by kernel_rfl) (by kernel_rfl) (by kernel_rfl) (fun _ _ _ h => h) (Or.inl ⟨by rfl, ?_⟩) (by assumption) ?_
            rotate_left
            · intro w hSw
              try dsimp only at hSw
              go_simp
              with_reducible rfl
            try simp only [Act.put, List.getElem_toArray, List.getElem_cons_zero, List.getElem_cons_succ, List.setIfInBounds_toArray, List.set_cons_zero, List.set_cons_succ]
            refine wpAnyH_take (i := 7) (oi := _) (v := ?_) rfl (by kernel_rfl) (by kernel_rfl) (by kernel_rfl) (fun _ _ _ h => h) (Or.inl ⟨by rfl, ?_⟩) (by assumption) ?_
            rotate_left
            · intro w hSw
              try dsimp only at hSw
              go_simp
              with_reducible rfl
            try simp only [Act.put, List.getElem_toArray, List.getElem_cons_zero, List.getElem_cons_succ, List.setIfInBounds_toArray, List.set_cons_zero, List.set_cons_succ]
            refine wpAnyH_take (i := 8) (oi := _) (v := ?_) rfl (by kernel_rfl) (by kernel_rfl) (by kernel_rfl) (fun _ _ _ h => h) (Or.inl ⟨by rfl, ?_⟩) (by assumption) ?_
            rotate_left
            · intro w hSw
              try dsimp only at hSw
              go_simp
              with_reducible rfl
            try simp only [Act.put, List.getElem_toArray, List.getElem_cons_zero, List.getElem_cons_succ, List.setIfInBounds_toArray, List.set_cons_zero, List.set_cons_succ]
            refine wpAnyH_take (i := 9) (oi := _) (v := ?_) rfl (by kernel_rfl) (by kernel_rfl) (by kernel_rfl) (fun _ _ _ h => h) (Or.inl ⟨by rfl, ?_⟩) (by assumption) ?_
            rotate_left
            · intro w hSw
              try dsimp only at hSw
              go_simp
              with_reducible rfl
            try simp only [Act.put, List.getElem_toArray, List.getElem_cons_zero, List.getElem_cons_succ, List.setIfInBounds_toArray, List.set_cons_zero, List.set_cons_succ]
            refine wpAnyH_take (i := 10) (oi := _) (v := ?_) rfl (by kernel_rfl) (by kernel_rfl) (by kernel_rfl) (fun _ _ _ h => h) (Or.inl ⟨by rfl, ?_⟩) (by assumption) ?_
            rotate_left
            · intro w hSw
              try dsimp only at hSw
              go_simp
              with_reducible rfl
            try simp only [Act.put, List.getElem_toArray, List.getElem_cons_zero, List.getElem_cons_succ, List.setIfInBounds_toArray, List.set_cons_zero, List.set_cons_succ]
            refine wpAnyH_take (i := 11) (oi := _) (v := ?_) rfl (by kernel_rfl) (by kernel_rfl) (by kernel_rfl) (fun _ _ _ h => h) (Or.inl ⟨by rfl, ?_⟩) (by assumption) ?_
            rotate_left
            · intro w hSw
              try dsimp only at hSw
              go_simp
              with_reducible rfl
            try simp only [Act.put, List.getElem_toArray, List.getElem_cons_zero, List.getElem_cons_succ, List.setIfInBounds_toArray, List.set_cons_zero, List.set_cons_succ]
            refine wpAnyH_take (i := 12) (oi := _) (v := ?_) rfl (by kernel_rfl) (by kernel_rfl) (by kernel_rfl) (fun _ _ _ h => h) (Or.inl ⟨by rfl, ?_⟩) (by assumption) ?_
            rotate_left
            · intro w hSw
              try dsimp only at hSw
              go_simp
              with_reducible rfl
            try simp only [Act.put, List.getElem_toArray, List.getElem_cons_zero, List.getElem_cons_succ, List.setIfInBounds_toArray, List.set_cons_zero, List.set_cons_succ]
            refine wpAnyH_take (i := 13) (oi := _) (v := ?_) rfl (by kernel_rfl) (by kernel_rfl) (by kernel_rfl) (fun _ _ _ h => h) (Or.inl ⟨by rfl, ?_⟩) (by assumption) ?_
            rotate_left
            · intro w hSw
              try dsimp only at hSw
              go_simp
              with_reducible rfl
            try simp only [Act.put, List.getElem_toArray, List.getElem_cons_zero, List.getElem_cons_succ, List.setIfInBounds_toArray, List.set_cons_zero, List.set_cons_succ]
            refine wpAnyH_take (i := 14) (oi := _) (v := ?_) rfl (by kernel_rfl) (by kernel_rfl) (by kernel_rfl) (fun _ _ _ h => h) (Or.inl ⟨by rfl, ?_⟩) (by assumption) ?_
            rotate_left
            · intro w hSw
              try dsimp only at hSw
              go_simp
              with_reducible rfl
            try simp only [Act.put, List.getElem_toArray, List.getElem_cons_zero, List.getElem_cons_succ, List.setIfInBounds_toArray, List.set_cons_zero, List.set_cons_succ]
            refine wpAnyH_take (i := 15) (oi := _) (v := ?_) rfl (by kernel_rfl) (by kernel_rfl) (by kernel_rfl) (fun _ _ _ h => h) (Or.inl ⟨by rfl, ?_⟩) (by assumption) ?_
            rotate_left
            · intro w hSw
              try dsimp only at hSw
              go_simp
              with_reducible rfl
            try simp only [Act.put, List.getElem_toArray, List.getElem_cons_zero, List.getElem_cons_succ, List.setIfInBounds_toArray, List.set_cons_zero, List.set_cons_succ]
            refine wpAnyH_take (i := 16) (oi := _) (v := ?_) rfl (by kernel_rfl) (by kernel_rfl) (by kernel_rfl) (fun _ _ _ h => h) (Or.inl ⟨by rfl, ?_⟩) (by assumption) ?_
            rotate_left
            · intro w hSw
              try dsimp only at hSw
              go_simp
              with_reducible rfl
            try simp only [Act.put, List.getElem_toArray, List.getElem_cons_zero, List.getElem_cons_succ, List.setIfInBounds_toArray, List.set_cons_zero, List.set_cons_succ]
            refine wpAnyH_take (i := 17) (oi := _) (v := ?_) rfl (by kernel_rfl) (by kernel_rfl) (by kernel_rfl) (fun _ _ _ h => h) (Or.inl ⟨by rfl, ?_⟩) (by assumption) ?_
            rotate_left
            · intro w hSw
              try dsimp only at hSw
              go_simp
              with_reducible rfl
            try simp only [Act.put, List.getElem_toArray, List.getElem_cons_zero, List.getElem_cons_succ, List.setIfInBounds_toArray, List.set_cons_zero, List.set_cons_succ]
            refine wpAnyH_take (i := 18) (oi := _) (v := ?_) rfl (by kernel_rfl) (by kernel_rfl) (by kernel_rfl) (fun _ _ _ h => h) (Or.inl ⟨by rfl, ?_⟩) (by assumption) ?_
            rotate_left
            · intro w hSw
              try dsimp only at hSw
              go_simp
              with_reducible rfl
            try simp only [Act.put, List.getElem_toArray, List.getElem_cons_zero, List.getElem_cons_succ, List.setIfInBounds_toArray, List.set_cons_zero, List.set_cons_succ]
            refine wpAnyH_done (by kernel_rfl) ?_ _
            go_wp2_with fail
            go_meet
            exact ⟨rfl, rfl, hHeld.1⟩
        case rest =>
        obtain ⟨rfl, rfl, H5⟩ := hcut
        have W5 := hid (HT.out _ H5)
        clear RW HT HX HB HD H5 PR R
        go_wp2
        go_roundw
        case rel => exact ⟨k + 1, by omega, by go_num, W5⟩
        case measure => simp [intOf]; omega
      · obtain rfl : k = rs.length := by omega
        have LE := hid (show es.length = len0 from HES.out)
        go_wp2_with fail
        go_loopw [106] (fun i wy => ∃ k : Nat, k ≤ len0 ∧ i = .int .i64 k ∧ Hid (TrW w bs (.slice a8 rs.length c8) b rs rs.length wy)) (fun i _ => len0 - (intOf i).toNat)
        case atStart => exact ⟨0, by omega, rfl, W⟩
        case round =>
          clear W
          obtain ⟨k, hk2, rfl, W⟩ := hrel
          by_cases hlt2 : k < len0
          · obtain ⟨a', c', e, _, hh⟩ := RE.out _ W.out.bl
            simp only [Value.slice.injEq] at e
            obtain ⟨rfl, e9, rfl⟩ := e
            obtain ⟨q, off, rfl, _, hc⟩ := hh (by have := LE.out; omega)
            obtain ⟨h0, h1, h2, h3, h4⟩ := hc k (by have := LE.out; omega)
            obtain ⟨r, hr, hg⟩ := AI.out.all (evAt es k) (by unfold evAt; rw [List.getD_eq_getElem?_getD, List.getElem?_eq_getElem (by have := LE.out; omega)]; exact List.getElem_mem _)
            generalize evAt es k = ev at *
            obtain ⟨kd, gg, mm, pp, vv⟩ := ev
            simp only at h0 h1 h2 h3 h4 hg
            have W2 := hid (W.out.below ((Below.refl _ _).alloc (Nat.le_refl _) (.cells #[.int .i64 kd, .int .i64 gg, .int .i64 mm, .int .i64 pp, .int .i64 vv] 43)))
            have LK := W2.out.sm.hit hr hg
            clear hh hc e9 W
            go_wp2
            go_roundw
            case rel => exact ⟨k + 1, by omega, by go_num, W2⟩
            case measure => simp [intOf]; omega
          · have FN := hid W.out.bl
            clear W
            go_wp2
            go_ret
            exact ⟨rfl, FN.out⟩
end Go.Proofs.YtopidlcifaenjaaGreatDoor.tallyRows
