/- The walk of HeapPlaces, given that Heap.Sorted answers the row in order (HSO). -/
import Derived.Test.YthkaachdggajkaaLives09
import Derived.Test.YthkaachdggajkaaHeap8
import Derived.Test.YthkaachdggajkaaHeapG
import Derived.Test.YthkaachdggajkaaHeapU
import Derived.Test.YthkaachdggajkaaHeapV
import Derived.Test.YthkaachdggajkaaStructs
import Derived.Deep.CutRange
import Derived.Deep.CutBlock
import Derived.Deep.QuietTactic
import Derived.BigQuiet
import Derived.Deep.RegionHeld3
namespace Go.Proofs.Ythkaachdggajkaa.heapPlaces
open Go.RowKit
set_option linter.unusedVariables false
set_option linter.unusedSimpArgs false

theorem insAll_step {es : List (Int × Int × Int)} {k : Nat} (h : k < es.length) : insAll (es.take (k + 1)) = insF (enAt es k) (insAll (es.take k)) := by
  rw [Dg.tk1 es k h]
  unfold insAll
  rw [List.foldl_append]
  rfl
theorem insAll_len (l : List (Int × Int × Int)) : (insAll l).length = l.length := by rw [insAll_sort]; exact (sortE_perm l).length_eq
/-- What an act leaves. -/
structure Ac (w : World) (P B : Nat) (es : List (Int × Int × Int)) (v : Value) (wr : World) : Prop where
  hp : Hp wr (P + 1) P v es
  ord : Ord es
  bl : Below w.heap.size w wr
  sz : P + 1 ≤ wr.heap.size
  len : es.length ≤ B
  wP : w.heap.size ≤ P

theorem Ac.below {w wr w' : World} {P B : Nat} {es : List (Int × Int × Int)} {v : Value} (h : Ac w P B es v wr) (hb : Below wr.heap.size wr w') : Ac w P B es v w' :=
  ⟨h.hp.below hb, h.ord, h.bl.trans (hb.mono h.bl.size), Nat.le_trans h.sz hb.size, h.len, h.wP⟩
set_option maxRecDepth 100000 in
set_option maxHeartbeats 4000000 in
theorem walk0 (HSO : ∀ (w : World) (base p : Nat) (v : Value) (es : List (Int × Int × Int)), Hp w base p v es → Calls Try.prog 14 #[.pointer (some ⟨p, 0, none⟩)] w (Cl3 (sortE es) w)) (a0 : Option Addr) (len0 cap0 : Nat) (z0 : Nat → Nat → Int) (w : World) (w0 : IsStructs [.u8, .i64, .u64, .i64] w a0 len0 cap0 z0) :
    Calls Try.prog 3 #[.slice a0 len0 cap0] w fun e w' => e = .returned (.bool true) ∧ Below w.heap.size w w' := by
  by_cases hlen : (80 : Int) < len0
  · go_enter Try.func3, Try.ntmps3
    go_wp2_with fail
    refine (lives9 _).mono ?_
    rintro e w2 ⟨rfl, hb1⟩
    go_wp2_with fail
    refine (lives9 _).mono ?_
    rintro e w3 ⟨rfl, hb2⟩
    go_wp2
    go_ret
    exact ⟨rfl, hb1.trans (hb2.mono hb1.size)⟩
  have hlen' : len0 ≤ 80 := by omega
  have HSO' := hid HSO
  clear HSO
  have W0 := hid w0
  clear w0
  go_enter Try.func3, Try.ntmps3
  go_wp2_with fail
  refine (lives9 _).mono ?_
  rintro e w2 ⟨rfl, hb1⟩
  have S0 : Hid (Ac w w2.heap.size 0 [] (.slice none 0 0) (w2.alloc (.cells #[.slice none 0 0] 26))) :=
    ⟨⟨Deep.blk_alloc_new _ _, ⟨by simp [fl], .inl ⟨rfl, rfl⟩⟩, by simp [Value.ownBlock], by simp⟩, fun k h1 h2 => by simp at h2, hb1.alloc hb1.size _, by simp, by simp, hb1.size⟩
  clear hb1
  go_wp2_with fail
  generalize hP : w2.heap.size = P at *
  generalize w2.alloc (.cells #[.slice none 0 0] 26) = w3 at *
  clear hP
  go_loopw [21] (fun i wr => ∃ (q : Nat) (v : Value) (es : List (Int × Int × Int)), q ≤ len0 ∧ i = .int .i64 q ∧ Hid (Ac w P q es v wr))
    (fun i _ => len0 - (intOf i).toNat)
  case atStart => exact ⟨0, _, [], by omega, rfl, S0⟩
  case round =>
    clear S0
    obtain ⟨q, v, es, hq, rfl, S⟩ := hrel
    by_cases hlt : q < len0
    · obtain ⟨bx, off, rfl, hcell⟩ := W0.out.open (by omega) (by simp)
      obtain ⟨h0, hw0⟩ := hcell _ S.out.bl q hlt 0 .u8 rfl
      obtain ⟨h1, hw1⟩ := hcell _ S.out.bl q hlt 1 .i64 rfl
      obtain ⟨h2, hw2⟩ := hcell _ S.out.bl q hlt 2 .u64 rfl
      obtain ⟨h3, hw3⟩ := hcell _ S.out.bl q hlt 3 .i64 rfl
      have hr8 := bounds_u8 hw0
      obtain ⟨kd, hkd⟩ : ∃ x, x = z0 q 0 := ⟨_, rfl⟩
      obtain ⟨x1, hx1⟩ : ∃ x, x = z0 q 1 := ⟨_, rfl⟩
      obtain ⟨x2, hx2⟩ : ∃ x, x = z0 q 2 := ⟨_, rfl⟩
      obtain ⟨x3, hx3⟩ : ∃ x, x = z0 q 3 := ⟨_, rfl⟩
      rw [← hkd] at h0 hr8
      rw [← hx1] at h1
      rw [← hx2] at h2
      rw [← hx3] at h3
      simp only [List.length_cons, List.length_nil, Nat.reduceAdd, Nat.add_zero] at h0 h1 h2 h3
      rw [← Nat.add_assoc] at h1 h2 h3
      have kd0 := hr8.1
      have kd1 := hr8.2
      clear hkd hx1 hx2 hx3 hcell hw0 hw1 hw2 hw3 hr8
      have HA := hid (S.out.hp.below ((Below.refl _ _).alloc (Nat.le_refl _) (.cells #[.int .u8 kd, .int .i64 x1, .int .u64 x2, .int .i64 x3] 31)))
      have BA := hid (S.out.bl.alloc S.out.bl.size (.cells #[.int .u8 kd, .int .i64 x1, .int .u64 x2, .int .i64 x3] 31))
      go_upto_block 2 with (fail)
      go_cut [21] from 22 to 77 (fun s21 wc => ∃ (v2 : Value) (es2 : List (Int × Int × Int)), s21 = .int .i64 q ∧ Hid (Ac w P (q + 1) es2 v2 wc))
      case first => as_aux_lemma =>
        by_cases d3 : kd % 7 = 3
        · have t3 : (kd % 7 == 3) = true := by simp [d3]
          clear d3
          rcases List.eq_nil_or_concat es with hnil | ⟨_, _, hcon⟩
          · subst hnil
            have TN := hid (take_none _ (P + 1) P v HA.out)
            go_wp2_with fail
            refine (TN.out).mono ?_
            rintro e w5 ⟨rfl, h5⟩
            have S5 := hid (show Ac w P (q + 1) [] v w5 from ⟨HA.out.below h5, S.out.ord, BA.out.trans (h5.mono BA.out.size), by have h9 := h5.size; simp only [World.size_alloc] at h9; have h8 := S.out.sz; omega, by simp, S.out.wP⟩)
            clear h5
            go_wp2
            go_meet
            exact ⟨_, _, rfl, S5⟩
          · have hpos : 0 < es.length := by rw [hcon]; simp
            clear hcon
            obtain ⟨m, hm⟩ : ∃ m, es.length = m + 1 := ⟨es.length - 1, by omega⟩
            obtain ⟨g, c, rfl, hs⟩ := HA.out.hs hpos
            rw [hm] at hs
            obtain ⟨y1, y2, y3, hy⟩ : ∃ y1 y2 y3, enAt es 0 = (y1, y2, y3) := ⟨_, _, _, rfl⟩
            have TK := hid (take_some _ (P + 1) P g m c es hs y1 y2 y3 hy)
            have TO := hid (take_ord S.out.ord hm)
            have TL := hid (show (sinkF (m + 1) ((sw es 0 m).take m) m 0).length ≤ q + 1 by rw [sink_len, List.length_take, sw_len]; have := S.out.len; omega)
            obtain ⟨hg1, hg2, hg3⟩ := hs.ge
            clear hs hy hpos hm
            go_wp2_with fail
            refine (TK.out).mono ?_
            rintro e w5 ⟨rfl, h5⟩
            have S5 := hid (show Ac w P (q + 1) _ _ w5 from ⟨h5.hp, TO.out, BA.out.trans ((OnlyV.of_h h5.ho hg1).below (B := w.heap.size) (by have := S.out.wP; omega) S.out.wP BA.out.size), by have h9 := h5.ho.size; simp only [World.size_alloc] at h9; have h8 := S.out.sz; omega, TL.out, S.out.wP⟩)
            clear h5 TK
            go_wp2
            go_meet
            exact ⟨_, _, rfl, S5⟩
        · have t3 : (kd % 7 == 3) = false := by simpa using d3
          by_cases d4 : kd % 7 = 4
          · have t4 : (kd % 7 == 4) = true := by simp [d4]
            clear d3 d4
            rcases List.eq_nil_or_concat es with hnil | ⟨_, _, hcon⟩
            · subst hnil
              have TN := hid (take_none _ (P + 1) P v HA.out)
              go_wp2_with fail
              refine (TN.out).mono ?_
              rintro e w5 ⟨rfl, h5⟩
              have S5 := hid (show Ac w P (q + 1) [] v w5 from ⟨HA.out.below h5, S.out.ord, BA.out.trans (h5.mono BA.out.size), by have h9 := h5.size; simp only [World.size_alloc] at h9; have h8 := S.out.sz; omega, by simp, S.out.wP⟩)
              clear h5
              go_wp2
              go_meet
              exact ⟨_, _, rfl, S5⟩
            · have hpos : 0 < es.length := by rw [hcon]; simp
              clear hcon
              obtain ⟨m, hm⟩ : ∃ m, es.length = m + 1 := ⟨es.length - 1, by omega⟩
              obtain ⟨g, c, rfl, hs⟩ := HA.out.hs hpos
              rw [hm] at hs
              obtain ⟨y1, y2, y3, hy⟩ : ∃ y1 y2 y3, enAt es 0 = (y1, y2, y3) := ⟨_, _, _, rfl⟩
              have TK := hid (take_some _ (P + 1) P g m c es hs y1 y2 y3 hy)
              have TO := hid (take_ord S.out.ord hm)
              have TL := hid (show (sinkF (m + 1) ((sw es 0 m).take m) m 0).length ≤ q + 1 by rw [sink_len, List.length_take, sw_len]; have := S.out.len; omega)
              obtain ⟨hg1, hg2, hg3⟩ := hs.ge
              clear hs hy hpos hm
              go_wp2_with fail
              refine (TK.out).mono ?_
              rintro e w5 ⟨rfl, h5⟩
              have S5 := hid (show Ac w P (q + 1) _ _ w5 from ⟨h5.hp, TO.out, BA.out.trans ((OnlyV.of_h h5.ho hg1).below (B := w.heap.size) (by have := S.out.wP; omega) S.out.wP BA.out.size), by have h9 := h5.ho.size; simp only [World.size_alloc] at h9; have h8 := S.out.sz; omega, TL.out, S.out.wP⟩)
              clear h5 TK
              go_wp2
              go_meet
              exact ⟨_, _, rfl, S5⟩
          · have t4 : (kd % 7 == 4) = false := by simpa using d4
            by_cases d5 : kd % 7 = 5
            · have t5 : (kd % 7 == 5) = true := by simp [d5]
              clear d3 d4 d5
              have RM := hid (hremove _ (P + 1) P v es x3 HA.out)
              go_wp2_with fail
              refine (RM.out).mono ?_
              rintro e w5 ⟨v5, T, rfl, h5, o5, c5, _, _, k5⟩
              have S5 := hid (show Ac w P (q + 1) T v5 w5 from ⟨h5, o5 S.out.ord, BA.out.trans (k5.below (B := w.heap.size) (by have := S.out.wP; omega) S.out.wP BA.out.size), by have h9 := k5.size; simp only [World.size_alloc] at h9; have h8 := S.out.sz; omega, Nat.le_trans (rm_len c5) (by have := S.out.len; omega), S.out.wP⟩)
              clear h5 o5 c5 k5 RM
              go_wp2
              go_meet
              exact ⟨_, _, rfl, S5⟩
            · have t5 : (kd % 7 == 5) = false := by simpa using d5
              clear d3 d4 d5
              have PT := hid (put_any _ (P + 1) P v es x1 x2 x3 HA.out (by have := S.out.sz; simp; omega) (by have := S.out.len; omega))
              go_wp2_with fail
              refine (PT.out).mono ?_
              rintro e w5 ⟨rfl, v5, h5, k5⟩
              have S5 := hid (show Ac w P (q + 1) _ v5 w5 from ⟨h5, put_ord S.out.ord _, BA.out.trans (k5.below (B := w.heap.size) (by have := S.out.wP; omega) S.out.wP BA.out.size), by have h9 := k5.size; simp only [World.size_alloc] at h9; have h8 := S.out.sz; omega, by rw [rise_len]; have := S.out.len; simp; omega, S.out.wP⟩)
              clear h5 k5 PT
              go_wp2
              go_meet
              exact ⟨_, _, rfl, S5⟩
      case rest =>
        clear HA BA S h0 h1 h2 h3
        obtain ⟨v2, es2, rfl, C⟩ := hcut
        have LI := hid (hlist wc (P + 1) P v2 es2 C.out.hp)
        go_wp2_with fail
        refine (LI.out).mono ?_
        rintro e w6 ⟨vp, rfl, hop, hb6⟩
        have OP := hid hop
        have B6 := hid hb6
        obtain ⟨ap, cp, rfl⟩ : ∃ a c, vp = .slice a es2.length c := by
          obtain ⟨_, ⟨h1, h2⟩ | ⟨_, _, _, h1, _⟩⟩ := hop
          · exact ⟨none, 0, by rw [h1, h2]⟩
          · exact ⟨_, _, h1⟩
        have RP : Hid (0 < es2.length → ∃ g off, ap = some ⟨g, off, none⟩ ∧ g < w6.heap.size ∧ ∀ i, i < es2.length → w6.cell? ⟨g, off + i * 3, none⟩ = some (.int .i64 (enAt es2 i).1) ∧ w6.cell? ⟨g, off + i * 3 + 1, none⟩ = some (.int .u64 (enAt es2 i).2.1) ∧ w6.cell? ⟨g, off + i * 3 + 2, none⟩ = some (.int .i64 (enAt es2 i).2.2)) := by
          obtain ⟨a, c, e, _, _, h⟩ := own_rd3 hop
          simp only [Value.slice.injEq] at e
          obtain ⟨rfl, _, _⟩ := e
          exact hid h
        obtain ⟨hnc, hcm⟩ : es2.length ≤ cp ∧ cp ≤ maxLen := by
          obtain ⟨a, c, e, h1, h2, _⟩ := own_rd3 hop
          simp only [Value.slice.injEq] at e
          obtain ⟨_, _, rfl⟩ := e
          exact ⟨h1, h2⟩
        unfold maxLen at hcm
        obtain ⟨n, hn⟩ : ∃ n, n = es2.length := ⟨_, rfl⟩
        have HN := hid hn
        have hn81 : n ≤ 81 := by have := C.out.len; omega
        rw [← hn] at OP hnc ⊢
        clear hop hb6 hn LI
        go_wp2_with fail
        go_loopw [44] (fun i wr => ∃ (k : Nat), k ≤ n ∧ i = .int .i64 k ∧ Hid (Below w6.heap.size w6 wr))
          (fun i _ => n - (intOf i).toNat)
        case atStart => exact ⟨0, by omega, rfl, hid (Below.refl _ _)⟩
        case round =>
          obtain ⟨k, hk, rfl, BR⟩ := hrel
          by_cases hkn : k < n
          · obtain ⟨gp, op, rfl, hgp, hcp⟩ := RP.out (by have := HN.out; omega)
            rcases Nat.eq_zero_or_pos k with hk0 | hk0
            · have hk0' : (k : Int) ≤ 0 := by omega
              have hd : decide ((0 : Int) < k) = false := decide_eq_false (by omega)
              have HK0 := hid hk0
              clear hk0
              go_wp2_with fail
              refine wp_region_held_drew (S := fun w' => True) (by kernel_rfl) trivial (fun hHeld => ?_)
              refine wpAnyH_take (i := 0) (oi := { dst := some 47, op := Op.move (Operand.tmp 7), type := 3, pos := "law.go:94", after := #[], guard := none }) (v := ?_) rfl (by kernel_rfl) (by kernel_rfl) (by kernel_rfl) (fun _ _ _ h => h) (Or.inl ⟨by rfl, ?_⟩) (by assumption) ?_
              rotate_left
              · intro w hSw
                go_simp
                with_reducible rfl
              try simp only [Act.put, List.setIfInBounds_toArray, List.set_cons_zero, List.set_cons_succ]
              refine wpAnyH_take (i := 1) (oi := { dst := some 48, op := Op.binOp BinOp.gtr 3 (Operand.tmp 47) (Operand.const (Value.int IntKind.i64 0)) 3, type := 4, pos := "law.go:94", after := #[{ on := 0, ground := Ground.data }], guard := none }) (v := .bool false) rfl (by kernel_rfl) (by kernel_rfl) (by kernel_rfl) (fun _ _ _ h => h) (Or.inl ⟨by rfl, ?_⟩) (by assumption) ?_
              · intro w hSw
                go_simp
                exact HK0.out
              try simp only [Act.put, List.setIfInBounds_toArray, List.set_cons_zero, List.set_cons_succ]
              refine wpAnyH_take (i := 2) (oi := { dst := some 49, op := Op.move (Operand.tmp 48), type := 4, pos := "law.go:94", after := #[{ on := 1, ground := Ground.data }], guard := none }) (v := ?_) rfl (by kernel_rfl) (by kernel_rfl) (by kernel_rfl) (fun _ _ _ h => h) (Or.inl ⟨by rfl, ?_⟩) (by assumption) ?_
              rotate_left
              · intro w hSw
                go_simp
                with_reducible rfl
              try simp only [Act.put, List.setIfInBounds_toArray, List.set_cons_zero, List.set_cons_succ]
              refine wpAnyH_take (i := 3) (oi := { dst := some 50, op := Op.move (Operand.tmp 6), type := 24, pos := "law.go:94", after := #[{ on := 2, ground := Ground.guard }], guard := some (2, true) }) (v := undef) rfl (by kernel_rfl) (by kernel_rfl) (by kernel_rfl) (fun _ _ _ h => h) (Or.inr ⟨by rfl, rfl⟩) (by assumption) ?_
              try simp only [Act.put, List.setIfInBounds_toArray, List.set_cons_zero, List.set_cons_succ]
              refine wpAnyH_take (i := 4) (oi := { dst := some 51, op := Op.move (Operand.tmp 7), type := 3, pos := "law.go:94", after := #[{ on := 2, ground := Ground.guard }], guard := some (2, true) }) (v := undef) rfl (by kernel_rfl) (by kernel_rfl) (by kernel_rfl) (fun _ _ _ h => h) (Or.inr ⟨by rfl, rfl⟩) (by assumption) ?_
              try simp only [Act.put, List.setIfInBounds_toArray, List.set_cons_zero, List.set_cons_succ]
              refine wpAnyH_take (i := 5) (oi := { dst := some 52, op := Op.indexAddr 24 (Operand.tmp 50) (Operand.tmp 51), type := 0, pos := "law.go:94", after := #[{ on := 3, ground := Ground.data }, { on := 4, ground := Ground.data }, { on := 2, ground := Ground.guard }], guard := some (2, true) }) (v := undef) rfl (by kernel_rfl) (by kernel_rfl) (by kernel_rfl) (fun _ _ _ h => h) (Or.inr ⟨by rfl, rfl⟩) (by assumption) ?_
              try simp only [Act.put, List.setIfInBounds_toArray, List.set_cons_zero, List.set_cons_succ]
              refine wpAnyH_take (i := 6) (oi := { dst := some 53, op := Op.load 29 (Operand.tmp 52), type := 29, pos := "law.go:94", after := #[{ on := 5, ground := Ground.data }, { on := 2, ground := Ground.guard }], guard := some (2, true) }) (v := undef) rfl (by kernel_rfl) (by kernel_rfl) (by kernel_rfl) (fun _ _ _ h => h) (Or.inr ⟨by rfl, rfl⟩) (by assumption) ?_
              try simp only [Act.put, List.setIfInBounds_toArray, List.set_cons_zero, List.set_cons_succ]
              refine wpAnyH_take (i := 7) (oi := { dst := some 54, op := Op.move (Operand.tmp 6), type := 24, pos := "law.go:94", after := #[{ on := 2, ground := Ground.guard }], guard := some (2, true) }) (v := undef) rfl (by kernel_rfl) (by kernel_rfl) (by kernel_rfl) (fun _ _ _ h => h) (Or.inr ⟨by rfl, rfl⟩) (by assumption) ?_
              try simp only [Act.put, List.setIfInBounds_toArray, List.set_cons_zero, List.set_cons_succ]
              refine wpAnyH_take (i := 8) (oi := { dst := some 55, op := Op.move (Operand.tmp 7), type := 3, pos := "law.go:94", after := #[{ on := 2, ground := Ground.guard }], guard := some (2, true) }) (v := undef) rfl (by kernel_rfl) (by kernel_rfl) (by kernel_rfl) (fun _ _ _ h => h) (Or.inr ⟨by rfl, rfl⟩) (by assumption) ?_
              try simp only [Act.put, List.setIfInBounds_toArray, List.set_cons_zero, List.set_cons_succ]
              refine wpAnyH_take (i := 9) (oi := { dst := some 56, op := Op.binOp BinOp.sub 3 (Operand.tmp 55) (Operand.const (Value.int IntKind.i64 1)) 3, type := 3, pos := "law.go:94", after := #[{ on := 8, ground := Ground.data }, { on := 2, ground := Ground.guard }], guard := some (2, true) }) (v := undef) rfl (by kernel_rfl) (by kernel_rfl) (by kernel_rfl) (fun _ _ _ h => h) (Or.inr ⟨by rfl, rfl⟩) (by assumption) ?_
              try simp only [Act.put, List.setIfInBounds_toArray, List.set_cons_zero, List.set_cons_succ]
              refine wpAnyH_take (i := 10) (oi := { dst := some 57, op := Op.binOp BinOp.quo 3 (Operand.tmp 56) (Operand.const (Value.int IntKind.i64 4)) 3, type := 3, pos := "law.go:94", after := #[{ on := 9, ground := Ground.data }, { on := 2, ground := Ground.guard }], guard := some (2, true) }) (v := undef) rfl (by kernel_rfl) (by kernel_rfl) (by kernel_rfl) (fun _ _ _ h => h) (Or.inr ⟨by rfl, rfl⟩) (by assumption) ?_
              try simp only [Act.put, List.setIfInBounds_toArray, List.set_cons_zero, List.set_cons_succ]
              refine wpAnyH_take (i := 11) (oi := { dst := some 58, op := Op.indexAddr 24 (Operand.tmp 54) (Operand.tmp 57), type := 0, pos := "law.go:94", after := #[{ on := 7, ground := Ground.data }, { on := 10, ground := Ground.data }, { on := 2, ground := Ground.guard }], guard := some (2, true) }) (v := undef) rfl (by kernel_rfl) (by kernel_rfl) (by kernel_rfl) (fun _ _ _ h => h) (Or.inr ⟨by rfl, rfl⟩) (by assumption) ?_
              try simp only [Act.put, List.setIfInBounds_toArray, List.set_cons_zero, List.set_cons_succ]
              refine wpAnyH_take (i := 12) (oi := { dst := some 59, op := Op.load 29 (Operand.tmp 58), type := 29, pos := "law.go:94", after := #[{ on := 11, ground := Ground.data }, { on := 2, ground := Ground.guard }], guard := some (2, true) }) (v := undef) rfl (by kernel_rfl) (by kernel_rfl) (by kernel_rfl) (fun _ _ _ h => h) (Or.inr ⟨by rfl, rfl⟩) (by assumption) ?_
              try simp only [Act.put, List.setIfInBounds_toArray, List.set_cons_zero, List.set_cons_succ]
              refine wpAnyH_take (i := 13) (oi := { dst := some 60, op := Op.call { callee := Callee.value (Operand.func 11), args := #[Operand.tmp 53, Operand.tmp 59], argTypes := #[29, 29] }, type := 4, pos := "law.go:94", after := #[{ on := 6, ground := Ground.data }, { on := 12, ground := Ground.data }, { on := 2, ground := Ground.chain }, { on := 2, ground := Ground.guard }], guard := some (2, true) }) (v := undef) rfl (by kernel_rfl) (by kernel_rfl) (by kernel_rfl) (fun _ _ _ h => h) (Or.inr ⟨by rfl, rfl⟩) (by assumption) ?_
              try simp only [Act.put, List.setIfInBounds_toArray, List.set_cons_zero, List.set_cons_succ]
              refine wpAnyH_take (i := 14) (oi := { dst := some 61, op := Op.pick (Operand.tmp 49) (Operand.tmp 60) (Operand.const (Value.bool false)), type := 4, pos := "law.go:94", after := #[{ on := 2, ground := Ground.data }, { on := 13, ground := Ground.data }], guard := none }) (v := ?_) rfl (by kernel_rfl) (by kernel_rfl) (by kernel_rfl) (fun _ _ _ h => h) (Or.inl ⟨by rfl, ?_⟩) (by assumption) ?_
              rotate_left
              · intro w hSw
                go_simp
                with_reducible rfl
              try simp only [Act.put, List.setIfInBounds_toArray, List.set_cons_zero, List.set_cons_succ]
              refine wpAnyH_done (by kernel_rfl) ?_ _
              go_wp2
              go_roundw
              case rel => exact ⟨k + 1, by omega, by go_num, hid (BR.out.trans (Quiet.below ⟨1, rfl⟩ _))⟩
              case measure => simp [intOf]; omega
            · obtain ⟨i, rfl⟩ : ∃ i, k = i + 1 := ⟨k - 1, by omega⟩
              obtain ⟨p0, p1, p2⟩ := hcp (i + 1) (by have := HN.out; omega)
              obtain ⟨j, hj⟩ : ∃ j, i / 4 = j := ⟨_, rfl⟩
              obtain ⟨s0, s1, s2⟩ := hcp (j) (by have := HN.out; omega)
              obtain ⟨x1, x2, x3, hx⟩ : ∃ x1 x2 x3, enAt es2 (i + 1) = (x1, x2, x3) := ⟨_, _, _, rfl⟩
              obtain ⟨y1, y2, y3, hy⟩ : ∃ y1 y2 y3, enAt es2 (j) = (y1, y2, y3) := ⟨_, _, _, rfl⟩
              have hah : aheadE (x1, x2, x3) (y1, y2, y3) = false := by
                have := C.out.ord (i + 1) (by omega) (by have := HN.out; omega)
                rw [show (i + 1 - 1) / 4 = j by rw [Nat.add_sub_cancel]; exact hj, hx, hy] at this
                exact this
              have HAH := hid hah
              rw [hx] at p0 p1 p2
              rw [hy] at s0 s1 s2
              have SS := hid (fun (y : World) (hb : Below w6.heap.size w6 y) => (⟨(hb.cell (p := ⟨gp, op + (i + 1) * 3, none⟩) hgp).trans p0, (hb.cell (p := ⟨gp, op + (i + 1) * 3 + 1, none⟩) hgp).trans p1, (hb.cell (p := ⟨gp, op + (i + 1) * 3 + 2, none⟩) hgp).trans p2,
                (hb.cell (p := ⟨gp, op + j * 3, none⟩) hgp).trans s0, (hb.cell (p := ⟨gp, op + j * 3 + 1, none⟩) hgp).trans s1, (hb.cell (p := ⟨gp, op + j * 3 + 2, none⟩) hgp).trans s2⟩ :
                y.cell? ⟨gp, op + (i + 1) * 3, none⟩ = some (.int .i64 x1) ∧ y.cell? ⟨gp, op + (i + 1) * 3 + 1, none⟩ = some (.int .u64 x2) ∧ y.cell? ⟨gp, op + (i + 1) * 3 + 2, none⟩ = some (.int .i64 x3) ∧
                y.cell? ⟨gp, op + j * 3, none⟩ = some (.int .i64 y1) ∧ y.cell? ⟨gp, op + j * 3 + 1, none⟩ = some (.int .u64 y2) ∧ y.cell? ⟨gp, op + j * 3 + 2, none⟩ = some (.int .i64 y3)))
              have BD := hid (BR.out.trans (Quiet.below (w' := wr.drew) ⟨1, rfl⟩ _))
              have AC : Hid (Calls Try.prog 11 #[.agg #[.int .i64 x1, .int .u64 x2, .int .i64 x3], .agg #[.int .i64 y1, .int .u64 y2, .int .i64 y3]] wr.drew fun e w' => e = .returned (.bool false) ∧ Below wr.drew.heap.size wr.drew w') := by
                rw [← HAH.out]; exact hid (ahead_any x1 x2 x3 y1 y2 y3 _)
              have i1 : (i : Int) + 1 < n := by omega
              have i4 : (0 : Int) < (i : Int) + 1 := by omega
              have i5 : (0 : Int) ≤ (i : Int) + 1 := by omega
              have hd : decide ((0 : Int) < (i : Int) + 1) = true := decide_eq_true (by omega)
              have i6 : (i : Int).tdiv 4 = (j : Int) := by rw [Int.tdiv_eq_ediv_of_nonneg (by omega)]; omega
              have i7 : (j : Int) < n := by omega
              have i8 : (0 : Int) ≤ (j : Int) := by omega
              have i9 : IntKind.i64.wrap (i : Int) = i := IntWalk.i64_in _ (by omega)
              have i10 : IntKind.i64.wrap (j : Int) = j := IntWalk.i64_in _ (by omega)
              have HJ := hid hj
              clear hj
              clear p0 p1 p2 s0 s1 s2 hx hy hah hcp hk0
              go_wp2_with fail
              go_region_held3 (fun y => y.cell? ⟨gp, op + (i + 1) * 3, none⟩ = some (.int .i64 x1) ∧ y.cell? ⟨gp, op + (i + 1) * 3 + 1, none⟩ = some (.int .u64 x2) ∧ y.cell? ⟨gp, op + (i + 1) * 3 + 2, none⟩ = some (.int .i64 x3) ∧
                y.cell? ⟨gp, op + j * 3, none⟩ = some (.int .i64 y1) ∧ y.cell? ⟨gp, op + j * 3 + 1, none⟩ = some (.int .u64 y2) ∧ y.cell? ⟨gp, op + j * 3 + 2, none⟩ = some (.int .i64 y3))
                (first
                  | with_reducible exact SS.out _ BD.out
                  | with_reducible exact SS.out _ B9.out)
                (first
                  | (go_at_call 11; with_reducible refine (AC.out).mono ?_; rintro e w9 ⟨rfl, h9⟩; have B9 := hid (BD.out.trans (h9.mono BD.out.size)); clear h9))
              all_goals
                go_wp2
                go_roundw
                case rel => exact ⟨i + 1 + 1, by omega, by go_num, B9⟩
                case measure => simp [intOf]; omega
          · have hkn' : ¬ ((k : Int) < n) := by omega
            have BR0 := hid BR.out
            clear BR
            go_wp2_with fail
            go_loopw [8, 65] (fun r i wr => ∃ (k : Nat), k ≤ n ∧ i = .int .i64 k ∧ Hid (Rd3 wr r (insAll (es2.take k))) ∧ Hid (Below w6.heap.size w6 wr))
              (fun _ i _ => n - (intOf i).toNat)
            case atStart => exact ⟨0, by omega, rfl, hid ⟨none, 0, rfl, Nat.le_refl _, by simp, fun h => absurd h (by simp [insAll])⟩, BR0⟩
            case round =>
              clear BR0
              obtain ⟨k3, hk3, rfl, RR, BR3⟩ := hrel
              by_cases hk3n : k3 < n
              · obtain ⟨gp, op, rfl, hgp, hcp⟩ := RP.out (by have := HN.out; omega)
                obtain ⟨p0, p1, p2⟩ := hcp k3 (by have := HN.out; omega)
                obtain ⟨y1, y2, y3, hy⟩ : ∃ y1 y2 y3, enAt es2 k3 = (y1, y2, y3) := ⟨_, _, _, rfl⟩
                rw [hy] at p0 p1 p2
                have q0 := (BR3.out.cell (p := ⟨gp, op + k3 * 3, none⟩) hgp).trans p0
                have q1 := (BR3.out.cell (p := ⟨gp, op + k3 * 3 + 1, none⟩) hgp).trans p1
                have q2 := (BR3.out.cell (p := ⟨gp, op + k3 * 3 + 2, none⟩) hgp).trans p2
                have HY := hid hy
                have PT := hid (refput _ _ y1 y2 y3 _ (RR.out.below ((Below.refl _ _).alloc (Nat.le_refl _) (.cells #[.int .i64 y1, .int .u64 y2, .int .i64 y3] 29))) (by rw [insAll_len, List.length_take]; have := HN.out; omega))
                have B3 := hid (BR3.out.alloc BR3.out.size (.cells #[.int .i64 y1, .int .u64 y2, .int .i64 y3] 29))
                clear p0 p1 p2 hy hcp
                go_wp2_with fail
                refine (PT.out).mono ?_
                rintro e w7 ⟨v7, rfl, o7, b7⟩
                have R7 := hid (own_rd3 o7)
                rw [← HY.out, ← insAll_step (by have := HN.out; omega)] at R7
                have B7 := hid (B3.out.trans (b7.mono B3.out.size))
                clear o7 b7
                go_wp2
                go_roundw
                case rel => exact ⟨k3 + 1, by omega, by go_num, R7, B7⟩
                case measure => simp [intOf]; omega
              · have hk3n' : ¬ ((k3 : Int) < n) := by omega
                obtain rfl : k3 = n := by omega
                have BT := hid (B6.out.trans (BR3.out.mono B6.out.size))
                have SO := hid (HSO'.out _ (P + 1) P v2 es2 (C.out.hp.below BT.out))
                go_wp2_with fail
                refine (SO.out).mono ?_
                rintro e w8 ⟨v8, rfl, o8, b8⟩
                have B8 := hid (BT.out.trans (b8.mono BT.out.size))
                have SY := hid (same_yes _ _ (sortE es2) _ (own_rd3 o8) (by
                  have := RR.out.below b8
                  rw [HN.out, List.take_length, insAll_sort] at this
                  exact this) (by rw [(sortE_perm es2).length_eq]; have := HN.out; omega))
                clear o8 b8
                go_wp2_with fail
                refine (SY.out).mono ?_
                rintro e w9 ⟨rfl, q9⟩
                have S9 := hid (C.out.below (B8.out.trans ((Quiet.below q9 _).mono B8.out.size)))
                clear q9
                go_wp2
                go_roundw
                case rel => exact ⟨q + 1, v2, es2, by omega, by go_num, S9⟩
                case measure => simp [intOf]; omega
    · have HB := hid S.out.bl
      go_wp2
      go_ret
      exact ⟨rfl, HB.out⟩
end Go.Proofs.Ythkaachdggajkaa.heapPlaces
