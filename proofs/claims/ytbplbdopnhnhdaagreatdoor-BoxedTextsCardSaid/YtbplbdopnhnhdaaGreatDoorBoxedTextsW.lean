/- The walk of the statement BoxedTexts: the law answers true and turns nothing that was there. -/
import Derived.Test.YtbplbdopnhnhdaaGreatDoorPreB
import Derived.Test.YtbplbdopnhnhdaaGreatDoorText
import Derived.OpenShut
import Derived.Deep.CutRange
import Derived.BigQuiet
namespace Go.Proofs.YtbplbdopnhnhdaaGreatDoor.boxedTexts
open Go.RowKit
set_option linter.unusedVariables false
set_option linter.unusedSimpArgs false
set_option maxRecDepth 20000
theorem eqSt (a b c d e : Int) (w : World) : (Op.equalIn 10000 28 (.agg #[.int .u8 a, .int .u8 b, .int .i64 c, .int .i64 d, .int .i64 e]) (.agg #[.int .u8 a, .int .u8 b, .int .i64 c, .int .i64 d, .int .i64 e])).run Tryz.prog w = .ok true w := by
  have u0 := Tryz.underlying5
  have u1 := Tryz.underlying3
  have u2 := Tryz.underlying2
  have hS : Tryz.prog.underlying 28 = some (.struct (Tryz.prog.fieldsOf 28)) := by kernel_rfl
  have hp : Tryz.prog.stoodInHeld 28 = false := by kernel_rfl
  rw [show (10000 : Nat) = 9999 + 1 from rfl, run_equalIn_agg w 9999 28 _ _ hS hp]
  simp only [Program.fieldsOf, Tryz.underlying28]
  go_simp
/-- A digit or none: what the loop's test says. -/
theorem dg_cases (r : Nat) : (dgB r = true ∧ (48 : Int) ≤ r ∧ (r : Int) ≤ 57) ∨ (dgB r = false ∧ (r : Int) < 48) ∨ (dgB r = false ∧ (48 : Int) ≤ r ∧ (57 : Int) < r) := by
  unfold dgB
  rcases Nat.lt_or_ge r 48 with h | h
  · exact .inr (.inl ⟨decide_eq_false (by omega), by omega⟩)
  · rcases Nat.lt_or_ge 57 r with h2 | h2
    · exact .inr (.inr ⟨decide_eq_false (by omega), by omega, by omega⟩)
    · exact .inl ⟨decide_eq_true ⟨h, h2⟩, by omega, by omega⟩
set_option maxHeartbeats 8000000 in
theorem walk (a0 : ByteArray) (w : World) (w0 : a0.size ≤ maxLen) (T2 : EvNames w) (T3 : EvSteps w) (T1 : MaPlaces w) :
    Calls Tryz.prog 3 #[.string a0] w fun e w' => e = .returned (.bool true) ∧ Below w.heap.size w w' := by
  have LV := hid (lives26 w T1 T2 T3 T1.lt T2.lt T3.lt)
  by_cases hbig : (100 : Int) < a0.size
  · have LV2 : Hid (∀ w2 : World, Below w.heap.size w w2 → Calls Tryz.prog 6 #[] w2 fun e w' => e = .returned (.bool true) ∧ Below w2.heap.size w2 w') := hid (fun w2 hb => lives26 w2 (T1.at hb) (T2.at hb) (T3.at hb) (by have := hb.size; have := T1.lt; omega) (by have := hb.size; have := T2.lt; omega) (by have := hb.size; have := T3.lt; omega))
    clear T1 T2 T3 w0
    go_enter Tryz.func3, Tryz.ntmps3
    go_wp2_with fail
    refine LV.out.mono ?_
    rintro e w2 ⟨rfl, hb⟩
    have B2 := hid hb
    clear LV
    go_wp2_with fail
    refine (LV2.out w2 hb).mono ?_
    rintro e w3 ⟨rfl, hb3⟩
    have B3 := hid (B2.out.trans (hb3.mono B2.out.size))
    clear hb hb3 B2 LV2
    go_wp2
    go_ret
    exact ⟨rfl, B3.out⟩
  · have h0 : (a0.size : Int) ≤ 100 := by omega
    have l0 : a0.size ≤ 100 := by omega
    have HW0 := hid w0
    clear hbig T1 T2 T3 w0
    obtain ⟨i0, hi, hz0, hz1, hz2⟩ := info_parts infoAny
    have HI := hid (And.intro hi (And.intro hz0 (And.intro hz1 hz2)))
    clear hi hz0 hz1 hz2
    go_enter Tryz.func3, Tryz.ntmps3
    go_wp2_with fail
    refine LV.out.mono ?_
    rintro e w2 ⟨rfl, hb⟩
    have B2 := hid hb
    clear LV hb
    have RS := run_range_string (P := Tryz.prog) w2 9 a0 Tryz.underlying9
    have P0 := hid (show TxW w2 w2.heap.size a0 0 [] [] (.slice none 0 0) (.slice none 0 0) (w2.iter a0 0) from
      ⟨World.iter_heap w2 a0 0, World.ownsRow_nil _ _ _ _, World.ownsRow_nil _ _ _ _, (Below.refl _ _).alloc (Nat.le_refl _) _, by simp [Value.ownBlock], by simp [Value.ownBlock], fun q hq => by simp [Value.ownBlock] at hq, Nat.le_refl _⟩)
    go_wp2_with fail
    clear RS
    obtain ⟨g, hg⟩ : ∃ g, g = w2.heap.size := ⟨_, rfl⟩
    rw [← hg] at P0 ⊢
    have HG := hid hg
    clear hg
    go_loopw [3, 4, 5] (fun x3 x4 x5 wr => ∃ (pos : Nat) (d : List Nat) (a3 a4 : Option Addr) (m3 c3 m4 c4 : Nat) (cl : Bool), x3 = .slice a3 m3 c3 ∧ x4 = .slice a4 m4 c4 ∧ x5 = .bool cl ∧ Hid (m3 = (rus d).length ∧ m4 = (nus d).length ∧ pos = wr.iterPos g ∧ d ++ rnn a0 a0.size pos = runesOf a0 ∧ (cl = true → ∀ c ∈ d, c ≠ 65533)) ∧ Hid (TxW w2 g a0 pos (rus d) (nus d) (.slice a3 m3 c3) (.slice a4 m4 c4) wr)) (fun _ _ _ wr => a0.size - wr.iterPos g)
    case atStart => exact ⟨0, [], none, none, 0, 0, 0, 0, true, rfl, rfl, rfl, hid ⟨rfl, rfl, by simp [World.iterPos, P0.out.it], rfl, by simp⟩, P0⟩
    case round =>
      clear P0
      obtain ⟨pos, d, a3, a4, m3, c3, m4, c4, cl, rfl, rfl, rfl, HE, D⟩ := hrel
      obtain ⟨rfl, rfl, hpos, hE, hcl⟩ := HE.out
      have HE2 := hid (And.intro hE hcl)
      clear HE hE hcl
      by_cases hlt : pos < a0.size
      · have NX := fun ty => next_at (P := Tryz.prog) D.out.it ty hlt
        have D1 := hid (D.out.turn (pos + (Utf8.decode a0 pos).2))
        have ST := hid (rnn_step a0 pos hlt)
        have DP := hid (dec_pos a0 pos)
        have HP := hid (itSet_pos (w := wr) a0 (pos + (Utf8.decode a0 pos).2) (blk_lt D.out.it))
        obtain ⟨r, hr⟩ : ∃ r, r = (Utf8.decode a0 pos).1 := ⟨_, rfl⟩
        obtain ⟨k, hk⟩ : ∃ k, k = (Utf8.decode a0 pos).2 := ⟨_, rfl⟩
        have RL := hid (show r ≤ 1114111 from by rw [hr]; exact rnn_le a0 a0.size pos _ (by rw [ST.out]; simp))
        rw [← hr, ← hk] at NX ST
        rw [← hk] at D1 DP HP
        have DL := hid (show (d ++ [r]).length ≤ 100 from by
          have h1 : (runesOf a0).length ≤ a0.size := rnn_len a0 _ _
          rw [← HE2.out.1, ST.out] at h1
          simp at h1 ⊢
          omega)
        have HE3 := hid (show (d ++ [r]) ++ rnn a0 a0.size (pos + k) = runesOf a0 from by rw [← HE2.out.1, ST.out]; simp)
        clear hr hk D
        generalize itSet wr g a0 (pos + k) = w3 at *
        have O3 := hid ((D1.out.alloc (.cells #[.iface 21 (.int .i32 r)] 20)).o3)
        have NW := hid (news_bx w3 (.ru r))
        have S3 := hid (show w2.heap.size ≤ (w3.alloc (.cells #[.iface 21 (.int .i32 r)] 20)).heap.size from by have := D1.out.bl.size; simp; omega)
        go_upto_region 9 with (at_builtin; refine wpList_append_own_at _ rfl _ _ 23 rfl w2.heap.size 20 i0 _ 1 16 Tryz.underlying23 HI.out.1 HI.out.2.1 HI.out.2.2.1 HI.out.2.2.2 rfl (by decide) _ _ _ rfl O3.out ⟨w3.heap.size, 0, none⟩ 1 1 [bxV (.ru r)] rfl rfl NW.out (bxV_one _) ?c1 ?c2 S3.out ?_)
        case c1 => have := DL.out; simp [rus] at this ⊢; unfold maxLen; omega
        case c2 => have := DL.out; simp [rus] at this ⊢; omega
        intro v' w6 hown6 hgrow _ hx
        have own6 : w6.ownsRow w2.heap.size 20 1 v' (rus (d ++ [r])).length ((rus (d ++ [r])).map bxV) := by
          rw [show rus (d ++ [r]) = rus d ++ [.ru r] from by simp [rus], List.length_append, List.map_append]
          exact hown6
        have D6 := hid ((D1.out.alloc (.cells #[.iface 21 (.int .i32 r)] 20)).push3 own6 hgrow (by simpa using hx))
        obtain ⟨a5, c5, rfl⟩ := own_sliceB own6
        have hp6 : w6.iterPos g = pos + k := by simp [World.iterPos, D6.out.it]
        clear hown6 own6 hgrow hx O3 NW S3 D1 NX
        cases cl with
        | false =>
          rcases dg_cases r with ⟨hd, h1, h2⟩ | ⟨hd, h1⟩ | ⟨hd, h1, h2⟩
          · have N4 := hid (show nus (d ++ [r]) = nus d ++ [.nu ((r : Int) - 48)] from by unfold nus; rw [dgs_app, dgs_yes hd]; simp)
            have hw : IntKind.i32.wrap ((r : Int) - 48) = (r : Int) - 48 := by
              have hb : IntKind.i32.bits = 32 := rfl
              have hs : IntKind.i32.signed = true := rfl
              simp [IntKind.wrap, hb, hs]; split <;> omega
            have hw2 : IntKind.i64.wrap ((r : Int) - 48) = (r : Int) - 48 := IntWalk.i64_in _ (by omega)
            have O7 := hid ((D6.out.alloc (.cells #[.iface 3 (.int .i64 ((r : Int) - 48))] 20)).o4)
            have NW7 := hid (news_bx w6 (.nu ((r : Int) - 48)))
            have S7 := hid (show w2.heap.size ≤ (w6.alloc (.cells #[.iface 3 (.int .i64 ((r : Int) - 48))] 20)).heap.size from by have := D6.out.bl.size; simp; omega)
            have DL7 := hid (show (nus d).length ≤ 100 from by have h1 := DL.out; have h2 := dgs_len d; unfold nus; rw [List.length_map]; simp at h1; omega)
            clear hd
            go_wp2_with (at_builtin; refine wpList_append_own_at _ rfl _ _ 23 rfl w2.heap.size 20 i0 _ 1 16 Tryz.underlying23 HI.out.1 HI.out.2.1 HI.out.2.2.1 HI.out.2.2.2 rfl (by decide) _ _ _ rfl O7.out ⟨w6.heap.size, 0, none⟩ 1 1 [bxV (.nu ((r : Int) - 48))] rfl rfl NW7.out (bxV_one _) ?d1 ?d2 S7.out ?_)
            case d1 => have := DL7.out; unfold maxLen; omega
            case d2 => have := DL7.out; omega
            intro v7 w8 hown8 hgrow8 _ hx8
            have own8 : w8.ownsRow w2.heap.size 20 1 v7 (nus (d ++ [r])).length ((nus (d ++ [r])).map bxV) := by
              rw [N4.out, List.length_append, List.map_append]
              exact hown8
            have D8 := hid ((D6.out.alloc (.cells #[.iface 3 (.int .i64 ((r : Int) - 48))] 20)).push4 own8 hgrow8 (by simpa using hx8))
            obtain ⟨a6, c6, rfl⟩ := own_sliceB own8
            have hp8 : w8.iterPos g = pos + k := by simp [World.iterPos, D8.out.it]
            clear hown8 own8 hgrow8 hx8 O7 NW7 D6
            go_wp2
            go_roundw
            case rel => exact ⟨pos + k, d ++ [r], a5, a6, _, c5, _, c6, false, rfl, rfl, rfl, hid ⟨rfl, rfl, hp8.symm, HE3.out, fun h => by simp at h⟩, D8⟩
            case measure => rw [hp8, ← hpos]; have := DP.out; omega
          · have N4 := hid (show nus (d ++ [r]) = nus d from by unfold nus; rw [dgs_app, dgs_no hd]; simp)
            clear hd
            go_wp2
            go_roundw
            case rel => exact ⟨pos + k, d ++ [r], a5, a4, _, c5, _, c4, false, rfl, rfl, rfl, hid ⟨rfl, by rw [N4.out], hp6.symm, HE3.out, fun h => by simp at h⟩, by rw [N4.out]; exact D6⟩
            case measure => rw [hp6, ← hpos]; have := DP.out; omega
          · have N4 := hid (show nus (d ++ [r]) = nus d from by unfold nus; rw [dgs_app, dgs_no hd]; simp)
            clear hd
            go_wp2
            go_roundw
            case rel => exact ⟨pos + k, d ++ [r], a5, a4, _, c5, _, c4, false, rfl, rfl, rfl, hid ⟨rfl, by rw [N4.out], hp6.symm, HE3.out, fun h => by simp at h⟩, by rw [N4.out]; exact D6⟩
            case measure => rw [hp6, ← hpos]; have := DP.out; omega
        | true =>
          by_cases h5 : r = 65533
          · have e5 : ((r : Int) != 65533) = false := by subst h5; rfl
            have N4 := hid (show nus (d ++ [r]) = nus d from by unfold nus; rw [dgs_app, dgs_no (by subst h5; rfl)]; simp)
            have h1 : (48 : Int) ≤ r := by omega
            have h2 : (57 : Int) < r := by omega
            clear h5
            go_wp2
            go_roundw
            case rel => exact ⟨pos + k, d ++ [r], a5, a4, _, c5, _, c4, false, rfl, rfl, rfl, hid ⟨rfl, by rw [N4.out], hp6.symm, HE3.out, fun h => by simp at h⟩, by rw [N4.out]; exact D6⟩
            case measure => rw [hp6, ← hpos]; have := DP.out; omega
          have e5 : ((r : Int) != 65533) = true := by simp; omega
          have N5 := hid h5
          clear h5
          rcases dg_cases r with ⟨hd, h1, h2⟩ | ⟨hd, h1⟩ | ⟨hd, h1, h2⟩
          · have N4 := hid (show nus (d ++ [r]) = nus d ++ [.nu ((r : Int) - 48)] from by unfold nus; rw [dgs_app, dgs_yes hd]; simp)
            have hw : IntKind.i32.wrap ((r : Int) - 48) = (r : Int) - 48 := by
              have hb : IntKind.i32.bits = 32 := rfl
              have hs : IntKind.i32.signed = true := rfl
              simp [IntKind.wrap, hb, hs]; split <;> omega
            have hw2 : IntKind.i64.wrap ((r : Int) - 48) = (r : Int) - 48 := IntWalk.i64_in _ (by omega)
            have O7 := hid ((D6.out.alloc (.cells #[.iface 3 (.int .i64 ((r : Int) - 48))] 20)).o4)
            have NW7 := hid (news_bx w6 (.nu ((r : Int) - 48)))
            have S7 := hid (show w2.heap.size ≤ (w6.alloc (.cells #[.iface 3 (.int .i64 ((r : Int) - 48))] 20)).heap.size from by have := D6.out.bl.size; simp; omega)
            have DL7 := hid (show (nus d).length ≤ 100 from by have h1 := DL.out; have h2 := dgs_len d; unfold nus; rw [List.length_map]; simp at h1; omega)
            clear hd
            go_wp2_with (at_builtin; refine wpList_append_own_at _ rfl _ _ 23 rfl w2.heap.size 20 i0 _ 1 16 Tryz.underlying23 HI.out.1 HI.out.2.1 HI.out.2.2.1 HI.out.2.2.2 rfl (by decide) _ _ _ rfl O7.out ⟨w6.heap.size, 0, none⟩ 1 1 [bxV (.nu ((r : Int) - 48))] rfl rfl NW7.out (bxV_one _) ?d1 ?d2 S7.out ?_)
            case d1 => have := DL7.out; unfold maxLen; omega
            case d2 => have := DL7.out; omega
            intro v7 w8 hown8 hgrow8 _ hx8
            have own8 : w8.ownsRow w2.heap.size 20 1 v7 (nus (d ++ [r])).length ((nus (d ++ [r])).map bxV) := by
              rw [N4.out, List.length_append, List.map_append]
              exact hown8
            have D8 := hid ((D6.out.alloc (.cells #[.iface 3 (.int .i64 ((r : Int) - 48))] 20)).push4 own8 hgrow8 (by simpa using hx8))
            obtain ⟨a6, c6, rfl⟩ := own_sliceB own8
            have hp8 : w8.iterPos g = pos + k := by simp [World.iterPos, D8.out.it]
            clear hown8 own8 hgrow8 hx8 O7 NW7 D6
            go_wp2
            go_roundw
            case rel => exact ⟨pos + k, d ++ [r], a5, a6, _, c5, _, c6, true, rfl, rfl, rfl, hid ⟨rfl, rfl, hp8.symm, HE3.out, fun _ c hc => by rcases List.mem_append.1 hc with h | h; exact HE2.out.2 (by first | rfl | trivial) c h; rw [List.mem_singleton] at h; rw [h]; exact N5.out⟩, D8⟩
            case measure => rw [hp8, ← hpos]; have := DP.out; omega
          · have N4 := hid (show nus (d ++ [r]) = nus d from by unfold nus; rw [dgs_app, dgs_no hd]; simp)
            clear hd
            go_wp2
            go_roundw
            case rel => exact ⟨pos + k, d ++ [r], a5, a4, _, c5, _, c4, true, rfl, rfl, rfl, hid ⟨rfl, by rw [N4.out], hp6.symm, HE3.out, fun _ c hc => by rcases List.mem_append.1 hc with h | h; exact HE2.out.2 (by first | rfl | trivial) c h; rw [List.mem_singleton] at h; rw [h]; exact N5.out⟩, by rw [N4.out]; exact D6⟩
            case measure => rw [hp6, ← hpos]; have := DP.out; omega
          · have N4 := hid (show nus (d ++ [r]) = nus d from by unfold nus; rw [dgs_app, dgs_no hd]; simp)
            clear hd
            go_wp2
            go_roundw
            case rel => exact ⟨pos + k, d ++ [r], a5, a4, _, c5, _, c4, true, rfl, rfl, rfl, hid ⟨rfl, by rw [N4.out], hp6.symm, HE3.out, fun _ c hc => by rcases List.mem_append.1 hc with h | h; exact HE2.out.2 (by first | rfl | trivial) c h; rw [List.mem_singleton] at h; rw [h]; exact N5.out⟩, by rw [N4.out]; exact D6⟩
            case measure => rw [hp6, ← hpos]; have := DP.out; omega
      · have NX := fun ty => next_end (P := Tryz.prog) D.out.it ty hlt
        have hd : d = runesOf a0 := by
          have h1 := HE2.out.1
          rw [rnn_end a0 pos hlt, List.append_nil] at h1
          exact h1
        subst hd
        have CL := hid HE2.out.2
        have R3 := hid (own_rdX D.out.o3)
        have R4 := hid (own_rdX D.out.o4)
        have B4 := hid (B2.out.trans (D.out.bl.mono B2.out.size))
        clear D HE2 B2
        have SA := hid (steps_any _ [Bx.tx a0] _ (rdX_built wr _ #[.iface 9 (.string a0)] 20 rfl (by simp [maxLen])) (ok_tx (by omega)) (by simp))
        have SB := hid (fun (y : World) (hb : Below wr.heap.size wr y) => steps_any _ (rus (runesOf a0)) y (R3.out.below hb) (ok_rus a0) (by have := len_rus a0; omega))
        have SC := hid (fun (y : World) (hb : Below wr.heap.size wr y) => steps_any _ (nus (runesOf a0)) y (R4.out.below hb) (ok_nus _) (by have := len_nus a0; omega))
        have RA := hid (fun (y : World) => runes_any _ [Bx.tx a0] _ (rdX_built y _ #[.iface 9 (.string a0)] 20 rfl (by simp [maxLen])) (ok_tx (by omega)) (by simp))
        have RB := hid (fun (y : World) (hb : Below wr.heap.size wr y) => runes_any _ (rus (runesOf a0)) y (R3.out.below hb) (ok_rus a0) (by have := len_rus a0; omega))
        rw [txs_tx] at RA
        have hlen : ((dgs (runesOf a0)).map pk).length ≤ 100 := by rw [List.length_map]; exact Nat.le_trans (dgs_len _) (Nat.le_trans (rnn_len a0 _ _) l0)
        have TB := hid (fun h => txs_back a0 h)
        generalize hS : (dgs (runesOf a0)).map pk = L at hlen
        have AL := hid (And.intro ((all_tx a0).trans hS) (And.intro ((all_rus (runesOf a0)).trans hS) ((all_nus (runesOf a0)).trans hS)))
        clear hS R3 R4
        go_wp2_with fail
        refine SA.out.mono ?_
        rintro e y1 ⟨va, rfl, oa, hb1⟩
        rw [AL.out.1] at oa
        have QA := hid (own_rdB oa)
        obtain ⟨xa, ca, rfl⟩ := own_sliceB oa
        have C1 := hid ((bla wr (.cells #[.iface 9 (.string a0)] 20)).trans (hb1.mono (by simp)))
        clear oa hb1 SA
        go_wp2_with fail
        refine (SB.out y1 C1.out).mono ?_
        rintro e y2 ⟨vb, rfl, ob, hb2⟩
        rw [AL.out.2.1] at ob
        have QB := hid (own_rdB ob)
        have QA2 := hid (QA.out.below hb2)
        obtain ⟨xb, cb, rfl⟩ := own_sliceB ob
        have C2 := hid (C1.out.trans (hb2.mono C1.out.size))
        clear ob hb2 SB QA C1
        go_wp2_with fail
        refine (SC.out y2 C2.out).mono ?_
        rintro e y3 ⟨vc, rfl, oc, hb3⟩
        rw [AL.out.2.2] at oc
        have QC := hid (own_rdB oc)
        have QB3 := hid (QB.out.below hb3)
        have QA3 := hid (QA2.out.below hb3)
        obtain ⟨xc, cc, rfl⟩ := own_sliceB oc
        have C3 := hid (C2.out.trans (hb3.mono C2.out.size))
        clear oc hb3 SC QB QA2 C2 AL
        go_upto_region 13 with (fail)
        go_cut [84] from 48 to 84 (fun s84 wx => s84 = .bool false ∧ Hid (Below y3.heap.size y3 wx))
        case first =>
          have tq := txt_eq a0
          cases cl with
          | false =>
            have RA3 := hid (RA.out y3)
            clear RA RB TB CL
            go_wp2_with fail
            refine RA3.out.mono ?_
            rintro e y5 ⟨rfl, hb5⟩
            have B5 := hid ((bla y3 (.cells #[.iface 9 (.string a0)] 20)).trans (hb5.mono (by simp)))
            clear hb5 RA3
            go_wp2_with fail
            go_meet
            exact ⟨rfl, B5⟩
          | true =>
            have RB3 := RB.out y3 C3.out
            rw [TB.out (CL.out (by first | rfl | trivial))] at RB3
            have RB3 := hid RB3
            clear RB TB CL
            go_wp2_with fail
            refine RB3.out.mono ?_
            rintro e y4 ⟨rfl, hb4⟩
            have B4' := hid hb4
            have RA3 := hid (RA.out y4)
            clear hb4 RB3 RA
            go_wp2_with fail
            refine RA3.out.mono ?_
            rintro e y5 ⟨rfl, hb5⟩
            have B5 := hid (B4'.out.trans (((bla y4 (.cells #[.iface 9 (.string a0)] 20)).trans (hb5.mono (by simp))).mono B4'.out.size))
            clear hb5 RA3
            go_wp2_with fail
            go_meet
            exact ⟨rfl, B5⟩
        case rest =>
        obtain ⟨rfl, B5⟩ := hcut
        have FN := hid (B4.out.trans ((C3.out.trans (B5.out.mono C3.out.size)).mono B4.out.size))
        have KA := hid (QA3.out.below B5.out)
        have KB := hid (QB3.out.below B5.out)
        have KC := hid (QC.out.below B5.out)
        clear QA3 QB3 QC B5 C3 B4 RA RB TB CL
        have hl0 : (L.length : Int) ≤ 100 := by omega
        go_wp2_with fail
        go_loopw [87] (fun i wy => ∃ k : Nat, k ≤ L.length ∧ i = .int .i64 k ∧ Hid (Below wc.heap.size wc wy)) (fun i _ => L.length - (intOf i).toNat)
        case atStart => exact ⟨0, by omega, rfl, hid (Below.refl _ _)⟩
        case round =>
          obtain ⟨k, hk, rfl, BR⟩ := hrel
          by_cases hlt3 : k < L.length
          · obtain ⟨a', c', e, _, _, hh⟩ := KA.out.below BR.out
            simp only [Value.slice.injEq] at e
            obtain ⟨rfl, _, rfl⟩ := e
            obtain ⟨q1, f1, rfl, _, hc⟩ := hh (by omega)
            obtain ⟨p0, p1, p2, p3, p4⟩ := hc k hlt3
            clear hh hc
            obtain ⟨a', c', e, _, _, hh⟩ := KB.out.below BR.out
            simp only [Value.slice.injEq] at e
            obtain ⟨rfl, _, rfl⟩ := e
            obtain ⟨q2, f2, rfl, _, hc⟩ := hh (by omega)
            obtain ⟨r0, r1, r2, r3, r4⟩ := hc k hlt3
            clear hh hc
            obtain ⟨a', c', e, _, _, hh⟩ := KC.out.below BR.out
            simp only [Value.slice.injEq] at e
            obtain ⟨rfl, _, rfl⟩ := e
            obtain ⟨q3, f3, rfl, _, hc⟩ := hh (by omega)
            obtain ⟨t0, t1, t2, t3, t4⟩ := hc k hlt3
            clear hh hc
            generalize sbAt L k = x at *
            obtain ⟨x0, x1, x2, x3, x4⟩ := x
            simp only at p0 p1 p2 p3 p4 r0 r1 r2 r3 r4 t0 t1 t2 t3 t4
            have hk0 : (0 : Int) ≤ k := by omega
            have hk1 : (k : Int) < L.length := by omega
            have EQ := eqSt x0 x1 x2 x3 x4
            go_upto_region 18 with (fail)
            go_quiet (fail)
            have B6 := hid (BR.out.trans ((Quiet.below ⟨nq, rfl⟩ wr.heap.size : Below wr.heap.size wr (wr.drewN nq)).mono BR.out.size))
            clear EQ BR p0 p1 p2 p3 p4 r0 r1 r2 r3 r4 t0 t1 t2 t3 t4
            generalize wr.drewN nq = wd at *
            go_wp2
            go_roundw
            case rel => exact ⟨k + 1, by omega, by go_num, B6⟩
            case measure => simp [intOf]; omega
          · have F2 := hid (FN.out.trans (BR.out.mono FN.out.size))
            clear BR
            go_wp2
            go_ret
            exact ⟨rfl, F2.out⟩
end Go.Proofs.YtbplbdopnhnhdaaGreatDoor.boxedTexts
