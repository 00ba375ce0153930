/- The walk of the statement SourceDrains: the law answers true and turns nothing that was there. -/
import Derived.Test.YtoljicfpphnlcaaLives12
import Derived.Test.YtoljicfpphnlcaaSrcP
import Derived.Test.YtoljicfpphnlcaaStructs
import Derived.Laws.AppendOwn
import Derived.Maps.AppendAt
import Derived.OwnWalk
namespace Go.Proofs.Ytoljicfpphnlcaa.sourceDrains
open Go.RowKit
set_option linter.unusedVariables false
set_option linter.unusedSimpArgs false
theorem infoU16 : (Try.prog.info? 31).map (fun i => (i.zero, i.size, i.bytes)) = some (some (.int .u16 0), 1, 2) := by kernel_rfl
theorem row_kept {w w' : World} {base : Nat} {e : TypeId} {size : Nat} {v : Value} {n : Nat} {xs : List Value} (h : w.ownsRow base e size v n xs) (hb : ∀ k, v.ownBlock = some k → w'.heap[k]? = w.heap[k]?) : w'.ownsRow base e size v n xs := by
  obtain ⟨h0, h1 | ⟨g, cap, cur, h1, h2, h3, h4⟩⟩ := h
  · exact ⟨h0, .inl h1⟩
  · exact ⟨h0, .inr ⟨g, cap, cur, h1, h2, by rw [hb g (by rw [h1]; rfl)]; exact h3, h4⟩⟩
section
variable {w : World} {Z : Nat → Prop} {s t p b1 b2 b3 n k : Nat} {now : Int} {es : Nat → List En} {L : List En} {ad : Nat} {W : List (Int × Int)} {R : List Int} {wr w5 w6 : World}
theorem Ss.grown {o : Option Nat} (h : Ss w Z s t p b1 b2 b3 n k now es L ad W R wr) (hg : wr.grownBy w6 o) (ho : ∀ g, o = some g → Z g ∧ w.heap.size ≤ g) : Ss w Z s t p b1 b2 b3 n k now es L ad W R w6 := by
  refine ⟨?_, h.ln, h.bl.trans ⟨hg.os, hg.tape, hg.output, hg.size, fun x hx => hg.block x (Nat.lt_of_lt_of_le hx h.bl.size) (fun e => by have := (ho x e.symm).2; omega)⟩, h.zb⟩
  rcases o with _ | g
  · exact h.sq.below ⟨hg.os, hg.tape, hg.output, hg.size, fun x hx => hg.block x hx (by simp)⟩
  · exact h.sq.only ⟨hg.os, hg.tape, hg.output, hg.size, fun x hx h1 _ => hg.block x hx (by simpa using h1)⟩ (ho g rfl).1
theorem Sq.newZ {o : Option Nat} (h : Sq Z wr s t p b1 b2 b3 n now es L ad W R) (hg : wr.grownBy w6 o) (ho : ∀ g, o = some g → Z g) (h6 : Sq Z w6 s t p b1 b2 b3 n now es L ad W R) (hs : wr.heap.size < w6.heap.size) :
    Sq (fun q => Z q ∨ q = wr.heap.size) w6 s t p b1 b2 b3 n now es L ad W R := by
  have l0 := h.lt
  obtain ⟨l1, l2, l3, l4⟩ := h.pq.lt
  obtain ⟨z0, z1, z2, z3, z4⟩ := h.zf
  have t1 := h.te.reZ (Nat.le_refl wr.heap.size)
  have t6 : Te (fun q => Zt Z s p b1 b2 b3 q ∨ q = wr.heap.size) w6 t n es L ad := by
    rcases o with _ | g
    · exact t1.below ⟨hg.os, hg.tape, hg.output, hg.size, fun x hx => hg.block x hx (by simp)⟩
    · exact t1.only ⟨hg.os, hg.tape, hg.output, hg.size, fun x hx h1 _ => hg.block x hx (by simpa using h1)⟩ (.inl (.inl (ho g rfl)))
  refine ⟨h6.box, t6.weak ?_, h6.pq, h.now, h.whn, h.dis, ⟨?_, ?_, ?_, ?_, ?_⟩, h.ne, ?_⟩
  · rintro q ((hq | hq) | hq | hq | hq | hq | hq)
    · exact .inl (.inl hq)
    · exact .inr hq
    · exact .inl (.inr (.inl hq))
    · exact .inl (.inr (.inr (.inl hq)))
    · exact .inl (.inr (.inr (.inr (.inl hq))))
    · exact .inl (.inr (.inr (.inr (.inr (.inl hq)))))
    · exact .inl (.inr (.inr (.inr (.inr (.inr hq)))))
  · rintro (e | e)
    · exact z0 e
    · omega
  · rintro (e | e)
    · exact z1 e
    · omega
  · rintro (e | e)
    · exact z2 e
    · omega
  · rintro (e | e)
    · exact z3 e
    · omega
  · rintro (e | e)
    · exact z4 e
    · omega
  · rintro q (hq | rfl)
    · exact h6.hz q hq
    · exact hs
/-- What stands between two rounds of the first loop: F is what 'fds' holds. -/
structure D1 (w : World) (Z : Nat → Prop) (s t p b1 b2 b3 k : Nat) (now : Int) (es : Nat → List En) (L : List En) (ad : Nat) (W : List (Int × Int)) (R : List Int) (F : List Int) (v : Value) (wr : World) : Prop where
  ss : Ss w Z s t p b1 b2 b3 4 k now es L ad W R wr
  fr : wr.ownsRow w.heap.size 31 1 v F.length (F.map (Value.int .u16))
  fz : ∀ g, v.ownBlock = some g → Z g
variable {F : List Int} {v v' : Value}
theorem D1.below (h : D1 w Z s t p b1 b2 b3 k now es L ad W R F v wr) (hb : Below wr.heap.size wr w5) : D1 w Z s t p b1 b2 b3 k now es L ad W R F v w5 :=
  ⟨h.ss.below hb, row_kept h.fr (fun g hg => hb.block g (h.fr.lt g hg).2), h.fz⟩
theorem D1.mono {k' : Nat} (h : D1 w Z s t p b1 b2 b3 k now es L ad W R F v wr) (hk : k ≤ k') : D1 w Z s t p b1 b2 b3 k' now es L ad W R F v wr :=
  ⟨⟨h.ss.sq, by have := h.ss.ln; omega, h.ss.bl, h.ss.zb⟩, h.fr, h.fz⟩
theorem D1.step {now' : Int} {es' : Nat → List En} {L' : List En} {ad' : Nat} {W' : List (Int × Int)} {R' : List Int} (h : D1 w Z s t p b1 b2 b3 k now es L ad W R F v wr) (ok : OkPost Z wr s t p b1 b2 b3 4 now' es' L' ad' W' R' w5) (hl : L'.length ≤ k + 1 ∧ W'.length ≤ k + 1 ∧ R'.length ≤ k + 1 ∧ ad' ≤ k + 1) : D1 w Z s t p b1 b2 b3 (k + 1) now' es' L' ad' W' R' F v w5 :=
  ⟨h.ss.step ok hl, row_kept h.fr (fun g hg => ok.1.block g (h.fr.lt g hg).2 (h.fz g hg)), h.fz⟩
/-- With the act's block, that none writes. -/
theorem D1.alloc (h : D1 w Z s t p b1 b2 b3 k now es L ad W R F v wr) (o : Obj) : D1 w (fun q => Z q ∨ q = wr.heap.size) s t p b1 b2 b3 k now es L ad W R F v (wr.alloc o) := by
  have b := bl_al wr o
  have g := h.below b
  exact ⟨⟨Sq.newZ (o := none) h.ss.sq ⟨b.os, b.tape, b.output, b.size, fun k hk _ => b.block k hk⟩ (fun g hg => (by cases hg)) g.ss.sq (al_lt wr o), g.ss.ln, g.ss.bl, fun q hq => .inl (h.ss.zb q hq)⟩, g.fr, fun q hq => .inl (h.fz q hq)⟩
/-- One more in 'fds'. -/
theorem D1.app {fd : Int} (h : D1 w Z s t p b1 b2 b3 k now es L ad W R F v wr) (hr : w6.ownsRow w.heap.size 31 1 v' (F.length + 1) (F.map (Value.int .u16) ++ [.int .u16 fd])) (hg : wr.grownBy w6 v.ownBlock) (hat : v'.ownBlock = v.ownBlock ∨ v'.ownBlock = some wr.heap.size) :
    ∃ Z', D1 w Z' s t p b1 b2 b3 k now es L ad W R (F ++ [fd]) v' w6 := by
  have ho : ∀ g, v.ownBlock = some g → Z g ∧ w.heap.size ≤ g := fun g hg => ⟨h.fz g hg, (h.fr.lt g hg).1⟩
  have hr' : w6.ownsRow w.heap.size 31 1 v' (F ++ [fd]).length ((F ++ [fd]).map (Value.int .u16)) := by
    rw [List.length_append, List.map_append]; exact hr
  rcases hat with e | e
  · exact ⟨Z, Ss.grown h.ss hg ho, hr', fun g h2 => h.fz g (e ▸ h2)⟩
  · have h6 := Ss.grown h.ss hg ho
    exact ⟨_, ⟨Sq.newZ h.ss.sq hg (fun g hg => (ho g hg).1) h6.sq (hr.lt _ e).2, h6.ln, h6.bl, fun q hq => .inl (h.ss.zb q hq)⟩, hr', fun g h2 => .inr (by rw [e] at h2; injection h2 with h2; exact h2.symm)⟩
theorem row_open {e : TypeId} {size nF : Nat} {xs : List Value} (h : wr.ownsRow n e size v nF xs) : ∃ a c, v = .slice a nF c := by
  rcases h.2 with ⟨rfl, rfl⟩ | ⟨g, cap, cur, rfl, _⟩
  · exact ⟨none, 0, rfl⟩
  · exact ⟨_, _, rfl⟩
theorem row_cell {nF c : Nat} {a : Option Addr} (hn : F.length = nF) (h : wr.ownsRow n 31 1 (.slice a nF c) nF (F.map (Value.int .u16))) (j : Nat) (hj : j < nF) : ∃ g, a = some ⟨g, 0, none⟩ ∧ nF ≤ c ∧ wr.cell? ⟨g, j, none⟩ = some (.int .u16 (F.getD j 0)) := by
  rcases h.2 with ⟨e, e0⟩ | ⟨g, cap, cur, e, _, _, h1, _⟩
  · omega
  · injection e with e1 e2 e3
    subst e1; subst e3
    refine ⟨g, rfl, h1, (h.cellAt j (by omega)).trans ?_⟩
    rw [List.getElem?_map, List.getD_eq_getElem?_getD, List.getElem?_eq_getElem (by omega)]
    rfl
end
/-- All that is waited for is ready. -/
def Rdy (W : List (Int × Int)) (R : List Int) : Prop := ∀ e ∈ W, e.1 ∈ R
theorem rdy_any {W : List (Int × Int)} {R : List Int} (h : Rdy W R) (hw : W ≠ []) : anyDue W R = true := by
  rcases W with _ | ⟨e, W⟩
  · exact absurd rfl hw
  · exact List.any_eq_true.2 ⟨e, List.mem_cons_self, decide_eq_true (h e List.mem_cons_self)⟩
theorem rdy_filter {W : List (Int × Int)} {R : List Int} {m : Int} (h : Rdy W R) : Rdy (W.filter fun e => !(e.1 == m)) (R.filter fun a => !(a == m)) := by
  intro e he
  obtain ⟨h1, h2⟩ := List.mem_filter.1 he
  exact List.mem_filter.2 ⟨h e h1, h2⟩
theorem addR_mem {R : List Int} {fd a : Int} (h : a ∈ R) : a ∈ addR R fd := by
  unfold addR; split
  · exact h
  · exact List.mem_cons_of_mem _ h
theorem addR_self {R : List Int} {fd : Int} : fd ∈ addR R fd := by
  unfold addR; split
  · assumption
  · exact List.mem_cons_self
set_option maxRecDepth 100000 in
set_option maxHeartbeats 32000000 in
theorem walk (a0 : Option Addr) (len0 cap0 : Nat) (z0 : Nat → Nat → Int) (w : World) (w0 : IsStructs [.u8, .i64, .i64, .i64, .u16] w a0 len0 cap0 z0) :
    Calls Try.prog 7 #[.slice a0 len0 cap0] w fun e w' => e = .returned (.bool true) ∧ Below w.heap.size w w' := by
  by_cases hlen : (50 : Int) < len0
  · go_enter Try.func7, Try.ntmps7
    go_wp2_with fail
    refine (lives12 _).mono ?_
    rintro e w2 ⟨rfl, hb1⟩
    go_wp2_with fail
    refine (lives12 _).mono ?_
    rintro e w3 ⟨rfl, hb2⟩
    go_wp2
    go_ret
    exact ⟨rfl, hb1.trans (hb2.mono hb1.size)⟩
  · have hlen' : len0 ≤ 50 := by omega
    have W0 := hid w0
    clear w0 hlen
    obtain ⟨i0, hi, hz0, hz1, hz2⟩ := info_parts infoU16
    have HI := hid hi
    clear hi
    go_enter Try.func7, Try.ntmps7
    go_wp2_with fail
    refine (lives12 _).mono ?_
    rintro e w2 ⟨rfl, hb1⟩
    have HB1 := hid hb1
    clear hb1
    go_wp2_with fail
    refine (snew 4 (by decide) (by decide) _).mono ?_
    rintro e w3 ⟨Z, s, t, p, b1, b2, b3, rfl, q3, bl3, hz, hz2⟩
    have S0 := hid (show D1 w Z s t p b1 b2 b3 0 0 (fun _ => []) [] 0 [] [] [] (.slice none 0 0) w3 from ⟨⟨q3, by simp, HB1.out.trans (bl3.mono HB1.out.size), fun q hq => hz q (Nat.lt_of_lt_of_le hq HB1.out.size)⟩, ⟨rfl, .inl ⟨rfl, rfl⟩⟩, fun g hg => (by cases hg)⟩)
    clear q3 bl3 hz hz2 HB1
    go_wp2_with fail
    go_loopw [4, 27] (fun v i wr => ∃ (k : Nat) (Z : Nat → Prop) (es : Nat → List En) (L : List En) (ad : Nat) (W : List (Int × Int)) (F : List Int), k ≤ len0 ∧ i = .int .i64 k ∧ Hid (D1 w Z s t p b1 b2 b3 k 0 es L ad W [] F v wr) ∧ Below w.heap.size w wr ∧ Hid ((∀ e ∈ W, e.1 ∈ F) ∧ F.length ≤ k)) (fun _ i _ => len0 - (intOf i).toNat)
    case atStart => exact ⟨0, Z, _, [], 0, [], [], by omega, rfl, S0, S0.out.ss.bl, hid ⟨fun e he => (by cases he), by simp⟩⟩
    case round =>
      clear S0
      obtain ⟨k, Z, es, L, ad, W, F, hk, rfl, S, hbr, HF⟩ := hrel
      by_cases hlt : k < len0
      · obtain ⟨bx, off, rfl, hcell⟩ := W0.out.open (by omega) (by simp)
        obtain ⟨hq0, hw0⟩ := hcell _ hbr k hlt 0 .u8 rfl
        obtain ⟨hq1, hw1⟩ := hcell _ hbr k hlt 1 .i64 rfl
        obtain ⟨hq2, hw2⟩ := hcell _ hbr k hlt 2 .i64 rfl
        obtain ⟨hq3, hw3⟩ := hcell _ hbr k hlt 3 .i64 rfl
        obtain ⟨hq4, hw4⟩ := hcell _ hbr k hlt 4 .u16 rfl
        obtain ⟨K, hK⟩ : ∃ x, x = z0 k 0 := ⟨_, rfl⟩
        obtain ⟨P, hP⟩ : ∃ x, x = z0 k 1 := ⟨_, rfl⟩
        obtain ⟨G, hG⟩ : ∃ x, x = z0 k 2 := ⟨_, rfl⟩
        obtain ⟨D, hD⟩ : ∃ x, x = z0 k 3 := ⟨_, rfl⟩
        obtain ⟨fd, hf⟩ : ∃ x, x = z0 k 4 := ⟨_, rfl⟩
        rw [← hK] at hq0 hw0
        rw [← hP] at hq1
        rw [← hG] at hq2
        rw [← hD] at hq3 hw3
        rw [← hf] at hq4
        obtain ⟨K0, K1⟩ := bounds_u8 hw0
        have ID := hid (show inI D from bounds_i64 hw3)
        simp only [List.length_cons, List.length_nil, Nat.reduceAdd, Nat.add_zero] at hq0 hq1 hq2 hq3 hq4
        rw [← Nat.add_assoc] at hq1 hq2 hq3 hq4
        clear hcell hw0 hw1 hw2 hw3 hw4 hK hP hG hD hf hbr
        have LN := hid S.out.ss.ln
        have FA := hid (S.out.alloc (.cells #[.int .u8 K, .int .i64 P, .int .i64 G, .int .i64 D, .int .u16 fd] 38))
        have EB := hid (Go.MapKept.heap_alloc wr (.cells #[.int .u8 K, .int .i64 P, .int .i64 G, .int .i64 D, .int .u16 fd] 38)).1
        clear S
        rcases (show K % 2 = 0 ∨ K % 2 = 1 by omega) with hq | hq
        · have A6 := hid (sleepP FA.out.ss.sq (by have := LN.out; omega) (by have := LN.out; omega) P G D ID.out)
          go_wp2_with fail
          refine (A6.out).mono ?_
          rintro e w6 ⟨is, c, es', L', ad', rfl, o6, h6⟩
          have F6 := hid (FA.out.step o6 (by
            have := LN.out
            rcases h6 with ⟨_, _, h1, h2, _⟩ | ⟨_, _, h1, h2⟩
            · rw [h1, h2, len_ins]; omega
            · rw [h1, h2]; omega))
          have B6 := F6.out.ss.bl
          have HF6 := hid (show (∀ e ∈ W, e.1 ∈ F) ∧ F.length ≤ k + 1 from ⟨HF.out.1, Nat.le_succ_of_le HF.out.2⟩)
          clear o6 h6 A6 FA EB hq0 hq1 hq2 hq3 hq4
          go_wp2
          go_roundw
          case rel => exact ⟨k + 1, _, es', L', ad', W, F, by omega, by go_num, F6, B6, HF6⟩
          case measure => simp [intOf]; omega
        · have A6 := hid (waitP FA.out.ss.sq (by have := LN.out; simp; omega) fd G)
          go_wp2_with fail
          refine (A6.out).mono ?_
          rintro e w6 ⟨is, c, W', rfl, o6, h6⟩
          rcases h6 with ⟨rfl, _, rfl, _⟩ | ⟨hc, rfl, rfl⟩
          · have F6 := hid (FA.out.step o6 (by have := LN.out; simp; omega))
            have e4 : w6.cell? ⟨wr.heap.size, 4, none⟩ = some (.int .u16 fd) := cellx ((o6.1.block _ (al_lt wr _) (.inr rfl)).trans EB.out) rfl
            have LF := hid HF.out.2
            clear o6 A6 FA hq0 hq1 hq2 hq3 hq4
            go_wp2_with (at_builtin; refine wpList_append_own_at _ rfl _ _ 70 rfl w.heap.size 31 i0 (.int .u16 0) 1 2 Try.underlying70 HI.out hz0 hz1 hz2 rfl (by decide) _ _ _ rfl ((F6.out.below (bl_al w6 _)).fr) ⟨w6.heap.size, 0, none⟩ 1 1 [.int .u16 fd] rfl rfl ?c1 ?c2 ?c3 ?c4 ?c5 ?_)
            case c1 =>
              intro j u hj
              rcases j with _ | j
              · simp only [List.getElem?_cons_zero, Option.some.injEq] at hj
                subst hj
                exact cellx (Deep.blk_alloc_new _ _) rfl
              · simp at hj
            case c2 => simp [Value.oneCell']
            case c3 => have := LF.out; unfold maxLen; omega
            case c4 => have := LF.out; omega
            case c5 => have := F6.out.ss.bl.size; simp; omega
            intro v' w7 hr7 hg7 _ hat7
            obtain ⟨Z7, f7⟩ := (F6.out.below (bl_al w6 _)).app hr7 hg7 (by rw [World.size_alloc]; exact hat7)
            have F7 := hid f7
            have B7 := f7.ss.bl
            have HF7 := hid (show (∀ e ∈ (fd, G) :: W, e.1 ∈ F ++ [fd]) ∧ (F ++ [fd]).length ≤ k + 1 from ⟨fun e he => by
              rcases List.mem_cons.1 he with rfl | he
              · exact List.mem_append_right _ (by simp)
              · exact List.mem_append_left _ (HF.out.1 e he), by have := LF.out; simp; omega⟩)
            clear hr7 hg7 hat7 f7 F6 EB
            go_wp2
            go_roundw
            case rel => exact ⟨k + 1, Z7, es, L, ad, _, _, by omega, by go_num, F7, B7, HF7⟩
            case measure => simp [intOf]; omega
          · have F6 := hid (FA.out.step o6 (by have := LN.out; simp; omega))
            have B6 := F6.out.ss.bl
            have HF6 := hid (show (∀ e ∈ W', e.1 ∈ F) ∧ F.length ≤ k + 1 from ⟨HF.out.1, Nat.le_succ_of_le HF.out.2⟩)
            have HC := hid hc
            have hcb : (c == 0) = false := by simpa using hc
            clear o6 A6 FA hq0 hq1 hq2 hq3 hq4 EB hc
            go_wp2
            go_roundw
            case rel => exact ⟨k + 1, _, es, L, ad, _, F, by omega, by go_num, F6, B6, HF6⟩
            case measure => simp [intOf]; omega
      · obtain rfl : k = len0 := by omega
        obtain ⟨nF, hnF⟩ : ∃ n, F.length = n := ⟨_, rfl⟩
        have fr0 := S.out.fr
        rw [hnF] at fr0
        obtain ⟨a, c, rfl⟩ := row_open fr0
        have HN := hid hnF
        have hnk : nF ≤ k := by have := HF.out.2; omega
        have TK := hid (stick S.out.ss.sq 9223372036854775807 (by unfold inI; omega) _ rfl)
        clear fr0 hbr hnF
        go_wp2_with fail
        refine (TK.out).mono ?_
        rintro e w4 ⟨rfl, o4⟩
        rw [show sat 0 (max 9223372036854775807 0) = 9223372036854775807 by decide] at o4
        have S4 := hid (S.out.step o4 (by have := S.out.ss.ln; omega))
        clear o4 TK S
        go_wp2_with fail
        go_loopw [64] (fun i wr => ∃ (j : Nat) (R : List Int), j ≤ nF ∧ i = .int .i64 j ∧ Hid (D1 w Z s t p b1 b2 b3 (k + 1 + j) 9223372036854775807 es L ad W R F (.slice a nF c) wr) ∧ Hid (∀ q, q < j → F.getD q 0 ∈ R)) (fun i _ => nF - (intOf i).toNat)
        case atStart => exact ⟨0, [], by omega, rfl, S4, hid fun q hq => (by omega)⟩
        case round =>
          clear S4
          obtain ⟨j, R, hj, rfl, S, HR⟩ := hrel
          by_cases hlt2 : j < nF
          · have fr := S.out.fr
            rw [HN.out] at fr
            obtain ⟨g, rfl, hnc, hcj⟩ := row_cell HN.out fr j hlt2
            obtain ⟨fd, hfd⟩ : ∃ x, x = F.getD j 0 := ⟨_, rfl⟩
            rw [← hfd] at hcj
            have HFD := hid hfd
            have LN := hid S.out.ss.ln
            have A := hid (readyP S.out.ss.sq (by have := LN.out; omega) fd)
            clear fr hfd
            go_wp2_with fail
            refine (A.out).mono ?_
            rintro e w6 ⟨rfl, o6⟩
            have F6 := hid (S.out.step o6 (by have := LN.out; have := addR_len R fd; omega))
            have HR6 := hid (show ∀ q, q < j + 1 → F.getD q 0 ∈ addR R fd from fun q hq => by
              rcases Nat.lt_or_ge q j with h | h
              · exact addR_mem (HR.out q h)
              · rw [show q = j by omega, ← HFD.out]; exact addR_self)
            clear o6 A S hcj
            go_wp2
            go_roundw
            case rel => exact ⟨j + 1, _, by omega, by go_num, F6, HR6⟩
            case measure => simp [intOf]; omega
          · obtain rfl : j = nF := by omega
            have RD := hid (show Rdy W R from fun e he => by
              obtain ⟨i, hi, h2⟩ := List.getElem_of_mem (HF.out.1 e he)
              have := HR.out i (by have := HN.out; omega)
              rw [List.getD_eq_getElem?_getD, List.getElem?_eq_getElem hi, Option.getD_some, h2] at this
              exact this)
            obtain ⟨nn, hnn⟩ : ∃ n, L.length + W.length = n := ⟨_, rfl⟩
            have HNN := hid hnn
            have LN := hid S.out.ss.ln
            have hnn2 : nn ≤ 400 := by have := LN.out; omega
            have A := hid (slen S.out.ss.sq (by have := LN.out; omega) nn hnn)
            clear hnn
            go_wp2_with fail
            refine (A.out).mono ?_
            rintro e w5 ⟨rfl, b5⟩
            have S5 := hid (S.out.ss.below b5)
            clear b5 A S HR HF
            go_wp2_with fail
            go_loopw [75] (fun i wr => ∃ (q : Nat) (es : Nat → List En) (L : List En) (W : List (Int × Int)) (R : List Int) (ad : Nat), q ≤ nn ∧ i = .int .i64 q ∧ Hid (Ss w Z s t p b1 b2 b3 4 1000 9223372036854775807 es L ad W R wr ∧ Rdy W R ∧ L.length + W.length + q = nn)) (fun i _ => nn - (intOf i).toNat)
            case atStart => exact ⟨0, es, L, W, R, ad, by omega, rfl, hid ⟨⟨S5.out.sq, by have := LN.out; omega, S5.out.bl, S5.out.zb⟩, RD.out, by have := HNN.out; omega⟩⟩
            case round =>
              clear S5 RD HNN LN
              obtain ⟨q, es, L, W, R, ad, hq, rfl, S⟩ := hrel
              by_cases hlt3 : q < nn
              · rcases hL : L with _ | ⟨⟨x1, x2, x3⟩, l⟩
                · subst hL
                  have A := hid (stake_p S.out.1.sq rfl (rdy_any S.out.2.1 (fun e => by have := S.out.2.2; rw [e] at this; simp at this; omega)) (by have := S.out.1.ln; omega))
                  go_wp2_with fail
                  refine (A.out).mono ?_
                  rintro e w6 ⟨m, y, rfl, hm, hmr, _, o6⟩
                  have hl6 := len_drop S.out.1.sq.pq.n1 hm
                  have hl0 := List.length_pos_of_mem hm
                  have S6 := hid (show Ss w Z s t p b1 b2 b3 4 1000 9223372036854775807 es [] ad (W.filter fun e => !(e.1 == m)) (R.filter fun a => !(a == m)) w6 ∧ Rdy (W.filter fun e => !(e.1 == m)) (R.filter fun a => !(a == m)) ∧ ([] : List En).length + (W.filter fun e => !(e.1 == m)).length + (q + 1) = nn from
                    ⟨⟨o6.2, by have := S.out.1.ln; have := List.length_filter_le (fun e : Int × Int => !(e.1 == m)) W; have := List.length_filter_le (fun a => !(a == m)) R; omega, S.out.1.bl.trans (o6.1.below S.out.1.zb S.out.1.bl.size), S.out.1.zb⟩, rdy_filter S.out.2.1, by have := S.out.2.2; rw [hl6]; simp at this ⊢; omega⟩)
                  clear hl6 hl0 hm hmr o6 A S
                  go_wp2
                  go_roundw
                  case rel => exact ⟨q + 1, es, [], _, _, ad, by omega, by go_num, S6⟩
                  case measure => simp [intOf]; omega
                · subst hL
                  have A := hid (stake_t S.out.1.sq (by have := (S.out.1.sq.whn _ List.mem_cons_self).2; exact this))
                  go_wp2_with fail
                  refine (A.out).mono ?_
                  rintro e w6 ⟨rfl, es6, o6⟩
                  have S6 := hid (show Ss w Z s t p b1 b2 b3 4 1000 9223372036854775807 es6 l ad W R w6 ∧ Rdy W R ∧ l.length + W.length + (q + 1) = nn from
                    ⟨⟨o6.2, by have := S.out.1.ln; simp at this; omega, S.out.1.bl.trans (o6.1.below S.out.1.zb S.out.1.bl.size), S.out.1.zb⟩, S.out.2.1, by have := S.out.2.2; simp at this; omega⟩)
                  clear o6 A S
                  go_wp2
                  go_roundw
                  case rel => exact ⟨q + 1, es6, l, W, R, ad, by omega, by go_num, S6⟩
                  case measure => simp [intOf]; omega
              · obtain rfl : q = nn := by omega
                obtain rfl : L = [] := List.length_eq_zero_iff.1 (by have := S.out.2.2; omega)
                obtain rfl : W = [] := List.length_eq_zero_iff.1 (by have := S.out.2.2; omega)
                have S1 := hid S.out.1
                clear S
                have A := hid (stake_n S1.out.sq rfl rfl)
                go_wp2_with fail
                refine (A.out).mono ?_
                rintro e w6 ⟨rfl, b6⟩
                have S6 := hid (S1.out.below b6)
                clear b6 A S1
                have A := hid (slen S6.out.sq (by simp) 0 rfl)
                go_wp2_with fail
                refine (A.out).mono ?_
                rintro e w7 ⟨rfl, b7⟩
                have S7 := hid (S6.out.below b7)
                clear b7 A S6
                go_wp2_with fail
                refine (sdue S7.out.sq false rfl).mono ?_
                rintro e w8 ⟨rfl, b8⟩
                have B8 := hid (S7.out.below b8).bl
                clear b8 S7
                go_wp2
                go_ret
                exact ⟨rfl, B8.out⟩
end Go.Proofs.Ytoljicfpphnlcaa.sourceDrains
