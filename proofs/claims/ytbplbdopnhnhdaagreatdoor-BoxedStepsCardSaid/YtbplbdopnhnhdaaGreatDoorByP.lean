/- hostlerlaw26.things: a row of raw things, as things and as the document's: the walk. -/
import Derived.Test.YtbplbdopnhnhdaaGreatDoorPreZ
import Derived.Deep.CutRange
namespace Go.Proofs.YtbplbdopnhnhdaaGreatDoor
open Go.RowKit
set_option linter.unusedVariables false
set_option linter.unusedSimpArgs false
set_option maxRecDepth 20000
set_option maxHeartbeats 8000000 in
theorem things_any (v : Value) (l : List Raw) (w : World) (hr : RdR w v l) (hok : ∀ x ∈ l, RawOk x) (hl : l.length ≤ 40) : Calls Tryz.prog 12 #[v] w (ThingsP w) := by
  have RD := hid hr
  have OK := hid hok
  obtain ⟨a, c, rfl, hlc, hcm, _⟩ := hr
  obtain ⟨n, hn⟩ : ∃ n, n = l.length := ⟨_, rfl⟩
  have HN := hid hn
  rw [← hn] at hl ⊢
  obtain ⟨i0, hi, hz0, hz1, hz2⟩ := info_parts infoAny
  have HI := hid (And.intro hi (And.intro hz0 (And.intro hz1 hz2)))
  clear hi hz0 hz1 hz2
  obtain ⟨i1, hi, hz0, hz1, hz2⟩ := info_parts infoTg
  have HJ := hid (And.intro hi (And.intro hz0 (And.intro hz1 hz2)))
  clear hn hi hz0 hz1 hz2 hok
  go_enter Tryz.func12, Tryz.ntmps12
  go_wp2_with fail
  go_loopw [4, 5, 12] (fun x4 x5 i wr => ∃ (k : Nat) (bs : List Bx) (gs : List Tg) (a4 a5 : Option Addr) (m4 c4 m5 c5 : Nat), k ≤ n ∧ i = .int .i64 k ∧ x4 = .slice a4 m4 c4 ∧ x5 = .slice a5 m5 c5 ∧ Hid (m4 = bs.length ∧ m5 = gs.length ∧ bs.length = k ∧ Pair bs gs) ∧ Hid (ThW w bs gs (.slice a4 m4 c4) (.slice a5 m5 c5) wr)) (fun _ _ i _ => n - (intOf i).toNat)
  case atStart => exact ⟨0, [], [], none, none, 0, 0, 0, 0, Nat.zero_le _, rfl, rfl, rfl, hid ⟨rfl, rfl, rfl, Pair.nil⟩, hid ⟨World.ownsRow_nil _ _ _ _, World.ownsRow_nil _ _ _ _, Below.refl _ _, fun q hq => by simp [Value.ownBlock] at hq⟩⟩
  case round =>
    obtain ⟨k, bs, gs, a4, a5, m4, c4, m5, c5, hk, rfl, rfl, rfl, HE, W⟩ := hrel
    obtain ⟨rfl, rfl, hbk, hpr⟩ := HE.out
    have PR := hid (And.intro hbk hpr)
    clear HE hbk hpr
    by_cases hlt : k < n
    · obtain ⟨a', c', e, _, _, hh⟩ := RD.out.below W.out.bl
      simp only [Value.slice.injEq] at e
      obtain ⟨rfl, e9, rfl⟩ := e
      clear e9
      obtain ⟨q, off, rfl, _, hc⟩ := hh (by have := HN.out; omega)
      obtain ⟨h0, h1, h2, h3, h4, h5, h6, h7, h8, h9, h10, h11, h12, h13, h14, h15, h16⟩ := raw17 (hc k (by have := HN.out; omega))
      have RO := hid (OK.out _ (raw_mem (l := l) (k := k) (by have := HN.out; omega)))
      generalize rawAt l k = x at *
      have W2 := hid (W.out.below ((Below.refl wr.heap.size wr).alloc (Nat.le_refl _) (.cells (rawc x) 36)))
      have BX := hid (Deep.blk_alloc_new wr (.cells (rawc x) 36))
      clear hh hc W
      go_upto_region 6 with (refine wpList_store_new rfl 36 (.tmp 7) (.tmp 15) rfl _ (rawc x) 36 rfl rfl (by kernel_rfl) (by rfl) (rawc_all x) ?_)
      clear h0 h1 h2 h3 h4 h5 h6 h7 h8 h9 h10 h11 h12 h13 h14 h15 h16
      generalize wr.alloc (.cells (rawc x) 36) = w2 at *
      simp only [Act.put]
      go_cut [8, 9, 12] from 13 to 29 (fun s8 s9 s12 wc => ∃ (b : Bx) (g : Tg) (g0 : Nat), s8 = bxV b ∧ s9 = .pointer (some ⟨g0, 0, none⟩) ∧ s12 = .int .i64 k ∧ Hid (ThRel x b g) ∧ Hid (ThW w bs gs (.slice a4 bs.length c4) (.slice a5 gs.length c5) wc) ∧ Hid (wc.heap[g0]? = some (.cells (tgc g) 41 (0, 0)) ∧ (∀ q, (Value.slice a4 bs.length c4).ownBlock = some q → q ≠ g0)))
      case first =>
        have TH := hid (thing_any x RO.out w2)
        clear RO
        go_wp2_with (refine wpList_load_known (by rfl) 36 (.tmp 7) rfl wr.heap.size rfl 36 _ _ _ BX.out Tryz.underlying36 rfl (by kernel_rfl) ?_)
        refine TH.out.mono ?_
        rintro e w3 ⟨b, g, rfl, hrel, hb3⟩
        have W3 := hid (W2.out.below hb3)
        have TR := hid hrel
        clear TH hb3 hrel W2 BX
        have W4 := hid (W3.out.below ((Below.refl w3.heap.size w3).alloc (Nat.le_refl _) (.cells (tgc g) 41)))
        have GX := hid (Deep.blk_alloc_new w3 (.cells (tgc g) 41))
        have NG := hid (show ∀ q, (Value.slice a4 bs.length c4).ownBlock = some q → q ≠ w3.heap.size from fun q hq => by have := (World.ownsRow.lt W3.out.o4 q hq).2; omega)
        clear W3
        go_wp2_with (refine wpList_store_new rfl 41 (.tmp 9) (.tmp 20) rfl _ (tgc g) 41 rfl rfl (by kernel_rfl) (by rfl) (tgc_all _) ?_)
        generalize w3.alloc (.cells (tgc g) 41) = w4 at *
        go_meet
        exact ⟨b, g, _, rfl, rfl, rfl, TR, W4, hid ⟨GX.out, NG.out⟩⟩
      case rest =>
      obtain ⟨b, g, g0, rfl, rfl, rfl, TR, W4, GN⟩ := hcut
      have GX := hid GN.out.1
      have PR2 := hid (PR.out.2.snoc TR.out)
      clear TR RO
      generalize wc = w4 at *
      rcases bxV_form b with ⟨tb, vb, hvb⟩ | hvb
      · have HV := hid hvb
        rw [hvb]
        clear hvb
        have O4 := hid ((W4.out.below ((Below.refl w4.heap.size w4).alloc (Nat.le_refl _) (.cells #[(.iface tb vb)] 20))).o4)
        have NW := hid (cell_one_new w4 (.iface tb vb) 20)
        have S4 := hid (show w.heap.size ≤ (w4.alloc (.cells #[(.iface tb vb)] 20)).heap.size from by have := W4.out.bl.size; simp; omega)
        have LB := hid (show bs.length ≤ 40 ∧ gs.length ≤ 40 from by have := PR.out.1; have := PR.out.2.ln; omega)
        go_wp2_with (at_builtin; refine wpList_append_own_at _ rfl _ _ 23 rfl w.heap.size 20 i0 _ 1 16 Tryz.underlying23 HI.out.1 HI.out.2.1 HI.out.2.2.1 HI.out.2.2.2 rfl (by decide) _ _ _ rfl O4.out ⟨w4.heap.size, 0, none⟩ 1 1 [(.iface tb vb)] rfl rfl NW.out (by intro u hu; rw [List.mem_singleton] at hu; subst hu; rfl) ?c1 ?c2 S4.out ?_)
        case c1 => have := LB.out.1; unfold maxLen; omega
        case c2 => have := LB.out.1; omega
        intro v6 w6 hown6 hgrow6 _ hx6
        have own6 : w6.ownsRow w.heap.size 20 1 v6 (bs ++ [b]).length ((bs ++ [b]).map bxV) := by
          rw [List.length_append, List.map_append, show List.map bxV [b] = [(.iface tb vb)] from by rw [← HV.out]; rfl]
          exact hown6
        have W6 := hid ((W4.out.below ((Below.refl w4.heap.size w4).alloc (Nat.le_refl _) (.cells #[(.iface tb vb)] 20))).push4 own6 hgrow6 (by simpa using hx6))
        have GX6 := hid (show w6.heap[g0]? = some (.cells (tgc g) 41 (0, 0)) from by
          have hl := blk_lt GX.out
          rw [hgrow6.block _ (by simp; omega) (fun e => GN.out.2 _ e.symm rfl), Below.heap_alloc _ _ _ hl]
          exact GX.out)
        obtain ⟨a6, c6, rfl⟩ := own_sliceB own6
        clear hown6 own6 hgrow6 hx6 O4 NW S4 GX W4
        have O7 := hid ((W6.out.below ((Below.refl w6.heap.size w6).alloc (Nat.le_refl _) (.cells #[.int .i64 g.k, .int .i64 g.p.1, .int .i64 g.p.2.1, .int .i64 g.p.2.2, .int .u8 g.s.1, .int .u8 g.s.2.1, .int .i64 g.s.2.2.1, .int .i64 g.s.2.2.2.1, .int .i64 g.s.2.2.2.2, .int .i64 g.n, .string g.t] 41))).o5)
        have NW7 := hid (show ∀ j u, (tgc g).toList[j]? = some u → (w6.alloc (.cells #[.int .i64 g.k, .int .i64 g.p.1, .int .i64 g.p.2.1, .int .i64 g.p.2.2, .int .u8 g.s.1, .int .u8 g.s.2.1, .int .i64 g.s.2.2.1, .int .i64 g.s.2.2.2.1, .int .i64 g.s.2.2.2.2, .int .i64 g.n, .string g.t] 41)).cell? ((⟨w6.heap.size, 0, none⟩ : Addr).add j) = some u from news_tg w6 g 41)
        have GX7 := hid (show w6.heap[g0]? = some (.cells #[.int .i64 g.k, .int .i64 g.p.1, .int .i64 g.p.2.1, .int .i64 g.p.2.2, .int .u8 g.s.1, .int .u8 g.s.2.1, .int .i64 g.s.2.2.1, .int .i64 g.s.2.2.2.1, .int .i64 g.s.2.2.2.2, .int .i64 g.n, .string g.t] 41 (0, 0)) from GX6.out)
        have S7 := hid (show w.heap.size ≤ (w6.alloc (.cells #[.int .i64 g.k, .int .i64 g.p.1, .int .i64 g.p.2.1, .int .i64 g.p.2.2, .int .u8 g.s.1, .int .u8 g.s.2.1, .int .i64 g.s.2.2.1, .int .i64 g.s.2.2.2.1, .int .i64 g.s.2.2.2.2, .int .i64 g.n, .string g.t] 41)).heap.size from by have := W6.out.bl.size; simp; omega)
        go_wp2_with (first
          | (refine wpList_load_known (by rfl) 41 (.tmp 9) rfl g0 rfl 41 _ _ _ GX7.out Tryz.underlying41 rfl (by kernel_rfl) ?_)
          | (at_builtin; refine wpList_append_own_at _ rfl _ _ 47 rfl w.heap.size 41 i1 _ 11 88 Tryz.underlying47 HJ.out.1 HJ.out.2.1 HJ.out.2.2.1 HJ.out.2.2.2 rfl (by decide) _ _ _ rfl O7.out ⟨w6.heap.size, 0, none⟩ 1 1 (tgc g).toList rfl rfl NW7.out (tgc_ones _) ?d1 ?d2 S7.out ?_))
        case d1 => have := LB.out.2; unfold maxLen; omega
        case d2 => have := LB.out.2; omega
        intro v8 w8 hown8 hgrow8 _ hx8
        have own8 : w8.ownsRow w.heap.size 41 11 v8 (gs ++ [g]).length (ftg (gs ++ [g])) := by
          rw [List.length_append, ftg_app]
          simpa [ftg] using hown8
        have W8 := hid ((W6.out.below ((Below.refl w6.heap.size w6).alloc (Nat.le_refl _) (.cells #[.int .i64 g.k, .int .i64 g.p.1, .int .i64 g.p.2.1, .int .i64 g.p.2.2, .int .u8 g.s.1, .int .u8 g.s.2.1, .int .i64 g.s.2.2.1, .int .i64 g.s.2.2.2.1, .int .i64 g.s.2.2.2.2, .int .i64 g.n, .string g.t] 41))).push5 own8 hgrow8 (by simpa using hx8))
        obtain ⟨a8, c8, rfl⟩ := own_sliceB own8
        clear hown8 own8 hgrow8 hx8 O7 NW7 S7 W6 GX6 GX7
        go_wp2
        go_roundw
        case rel => exact ⟨k + 1, bs ++ [b], gs ++ [g], a6, a8, _, c6, _, c8, by omega, by go_num, rfl, rfl, hid ⟨by simp, rfl, by simp; exact PR.out.1, PR2.out⟩, hid (by have h := W8.out; rw [show (bs ++ [b]).length = bs.length + 1 by simp] at h; exact h)⟩
        case measure => simp [intOf]; omega
      · have HV := hid hvb
        rw [hvb]
        clear hvb
        have O4 := hid ((W4.out.below ((Below.refl w4.heap.size w4).alloc (Nat.le_refl _) (.cells #[.nilIface] 20))).o4)
        have NW := hid (cell_one_new w4 .nilIface 20)
        have S4 := hid (show w.heap.size ≤ (w4.alloc (.cells #[.nilIface] 20)).heap.size from by have := W4.out.bl.size; simp; omega)
        have LB := hid (show bs.length ≤ 40 ∧ gs.length ≤ 40 from by have := PR.out.1; have := PR.out.2.ln; omega)
        go_wp2_with (at_builtin; refine wpList_append_own_at _ rfl _ _ 23 rfl w.heap.size 20 i0 _ 1 16 Tryz.underlying23 HI.out.1 HI.out.2.1 HI.out.2.2.1 HI.out.2.2.2 rfl (by decide) _ _ _ rfl O4.out ⟨w4.heap.size, 0, none⟩ 1 1 [.nilIface] rfl rfl NW.out (by intro u hu; rw [List.mem_singleton] at hu; subst hu; rfl) ?c1 ?c2 S4.out ?_)
        case c1 => have := LB.out.1; unfold maxLen; omega
        case c2 => have := LB.out.1; omega
        intro v6 w6 hown6 hgrow6 _ hx6
        have own6 : w6.ownsRow w.heap.size 20 1 v6 (bs ++ [b]).length ((bs ++ [b]).map bxV) := by
          rw [List.length_append, List.map_append, show List.map bxV [b] = [.nilIface] from by rw [← HV.out]; rfl]
          exact hown6
        have W6 := hid ((W4.out.below ((Below.refl w4.heap.size w4).alloc (Nat.le_refl _) (.cells #[.nilIface] 20))).push4 own6 hgrow6 (by simpa using hx6))
        have GX6 := hid (show w6.heap[g0]? = some (.cells (tgc g) 41 (0, 0)) from by
          have hl := blk_lt GX.out
          rw [hgrow6.block _ (by simp; omega) (fun e => GN.out.2 _ e.symm rfl), Below.heap_alloc _ _ _ hl]
          exact GX.out)
        obtain ⟨a6, c6, rfl⟩ := own_sliceB own6
        clear hown6 own6 hgrow6 hx6 O4 NW S4 GX W4
        have O7 := hid ((W6.out.below ((Below.refl w6.heap.size w6).alloc (Nat.le_refl _) (.cells #[.int .i64 g.k, .int .i64 g.p.1, .int .i64 g.p.2.1, .int .i64 g.p.2.2, .int .u8 g.s.1, .int .u8 g.s.2.1, .int .i64 g.s.2.2.1, .int .i64 g.s.2.2.2.1, .int .i64 g.s.2.2.2.2, .int .i64 g.n, .string g.t] 41))).o5)
        have NW7 := hid (show ∀ j u, (tgc g).toList[j]? = some u → (w6.alloc (.cells #[.int .i64 g.k, .int .i64 g.p.1, .int .i64 g.p.2.1, .int .i64 g.p.2.2, .int .u8 g.s.1, .int .u8 g.s.2.1, .int .i64 g.s.2.2.1, .int .i64 g.s.2.2.2.1, .int .i64 g.s.2.2.2.2, .int .i64 g.n, .string g.t] 41)).cell? ((⟨w6.heap.size, 0, none⟩ : Addr).add j) = some u from news_tg w6 g 41)
        have GX7 := hid (show w6.heap[g0]? = some (.cells #[.int .i64 g.k, .int .i64 g.p.1, .int .i64 g.p.2.1, .int .i64 g.p.2.2, .int .u8 g.s.1, .int .u8 g.s.2.1, .int .i64 g.s.2.2.1, .int .i64 g.s.2.2.2.1, .int .i64 g.s.2.2.2.2, .int .i64 g.n, .string g.t] 41 (0, 0)) from GX6.out)
        have S7 := hid (show w.heap.size ≤ (w6.alloc (.cells #[.int .i64 g.k, .int .i64 g.p.1, .int .i64 g.p.2.1, .int .i64 g.p.2.2, .int .u8 g.s.1, .int .u8 g.s.2.1, .int .i64 g.s.2.2.1, .int .i64 g.s.2.2.2.1, .int .i64 g.s.2.2.2.2, .int .i64 g.n, .string g.t] 41)).heap.size from by have := W6.out.bl.size; simp; omega)
        go_wp2_with (first
          | (refine wpList_load_known (by rfl) 41 (.tmp 9) rfl g0 rfl 41 _ _ _ GX7.out Tryz.underlying41 rfl (by kernel_rfl) ?_)
          | (at_builtin; refine wpList_append_own_at _ rfl _ _ 47 rfl w.heap.size 41 i1 _ 11 88 Tryz.underlying47 HJ.out.1 HJ.out.2.1 HJ.out.2.2.1 HJ.out.2.2.2 rfl (by decide) _ _ _ rfl O7.out ⟨w6.heap.size, 0, none⟩ 1 1 (tgc g).toList rfl rfl NW7.out (tgc_ones _) ?d1 ?d2 S7.out ?_))
        case d1 => have := LB.out.2; unfold maxLen; omega
        case d2 => have := LB.out.2; omega
        intro v8 w8 hown8 hgrow8 _ hx8
        have own8 : w8.ownsRow w.heap.size 41 11 v8 (gs ++ [g]).length (ftg (gs ++ [g])) := by
          rw [List.length_append, ftg_app]
          simpa [ftg] using hown8
        have W8 := hid ((W6.out.below ((Below.refl w6.heap.size w6).alloc (Nat.le_refl _) (.cells #[.int .i64 g.k, .int .i64 g.p.1, .int .i64 g.p.2.1, .int .i64 g.p.2.2, .int .u8 g.s.1, .int .u8 g.s.2.1, .int .i64 g.s.2.2.1, .int .i64 g.s.2.2.2.1, .int .i64 g.s.2.2.2.2, .int .i64 g.n, .string g.t] 41))).push5 own8 hgrow8 (by simpa using hx8))
        obtain ⟨a8, c8, rfl⟩ := own_sliceB own8
        clear hown8 own8 hgrow8 hx8 O7 NW7 S7 W6 GX6 GX7
        go_wp2
        go_roundw
        case rel => exact ⟨k + 1, bs ++ [b], gs ++ [g], a6, a8, _, c6, _, c8, by omega, by go_num, rfl, rfl, hid ⟨by simp, rfl, by simp; exact PR.out.1, PR2.out⟩, hid (by have h := W8.out; rw [show (bs ++ [b]).length = bs.length + 1 by simp] at h; exact h)⟩
        case measure => simp [intOf]; omega
    · obtain rfl : k = n := by omega
      have FN := hid (show ThingsP w (.returned (.tuple #[.slice a4 bs.length c4, .slice a5 gs.length c5])) wr from
        ⟨_, _, bs, gs, rfl, own_rdX W.out.o4, own_rdG W.out.o5, PR.out.2, by have := PR.out.1; omega, W.out.bl⟩)
      clear W
      go_wp2
      go_ret2
      exact FN.out
end Go.Proofs.YtbplbdopnhnhdaaGreatDoor
