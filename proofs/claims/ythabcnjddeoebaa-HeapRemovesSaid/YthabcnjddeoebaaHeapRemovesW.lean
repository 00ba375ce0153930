/- The walk of the statement HeapRemoves: two heaps side by side. -/
import Derived.Test.YthabcnjddeoebaaHeapQ
import Derived.Test.YthabcnjddeoebaaHeapG
import Derived.Test.YthabcnjddeoebaaHeapSo
import Derived.Test.YthabcnjddeoebaaStructs
import Derived.Deep.QuietTactic
import Derived.BigQuiet
namespace Go.Proofs.Ythabcnjddeoebaa.heapRemoves
open Go.RowKit
set_option linter.unusedVariables false
set_option linter.unusedSimpArgs false

/-- Two heaps, at P and behind it; the first has just la, the second lb. -/
structure Tw (w : World) (P : Nat) (la lb : List (Int × Int × Int)) (va vb : Value) (ea eb : List (Int × Int × Int)) (wr : World) : Prop where
  ha : Hp wr (P + 2) P va ea
  hb : Hp wr (P + 2) (P + 1) vb eb
  sep : ∀ q, va.ownBlock = some q → vb.ownBlock ≠ some q
  pa : ea.Perm la
  pb : eb.Perm lb
  bl : Below w.heap.size w wr
  sz : P + 2 ≤ wr.heap.size
  wP : w.heap.size ≤ P
variable {w wr w' : World} {P : Nat} {la lb ea eb : List (Int × Int × Int)} {va vb : Value}
theorem Tw.below (h : Tw w P la lb va vb ea eb wr) (hb : Below wr.heap.size wr w') : Tw w P la lb va vb ea eb w' :=
  ⟨h.ha.below hb, h.hb.below hb, h.sep, h.pa, h.pb, h.bl.trans (hb.mono h.bl.size), Nat.le_trans h.sz hb.size, h.wP⟩
theorem rise_perm (es : List (Int × Int × Int)) (x : Int × Int × Int) : (riseF es.length (es ++ [x]) es.length).Perm (es ++ [x]) :=
  List.perm_iff_count.2 fun e => rise_count _ _ _ (by simp) e
theorem Tw.stepA (h : Tw w P la lb va vb ea eb wr) {v' : Value} {T l' : List (Int × Int × Int)} (hp : Hp w' (P + 2) P v' T) (hT : T.Perm l') (hv : OnlyV P (P + 2) wr w') (hq : OnlyQ P va wr w')
    (hn : ∀ q, v'.ownBlock = some q → va.ownBlock = some q ∨ wr.heap.size ≤ q) : Tw w P l' lb v' vb T eb w' := by
  have hz := h.sz
  have hw := h.wP
  refine ⟨hp, h.hb.kept (hq.block _ (by omega) (by omega) (fun e => by have := (h.ha.own_lt _ e).1; omega)) (fun q e => hq.block _ (h.hb.own_lt _ e).2 (fun e2 => by have := (h.hb.own_lt _ e).1; omega) (fun e2 => h.sep _ e2 e)), fun q e e2 => ?_, hT, h.pb, h.bl.trans (hv.below (by omega) hw h.bl.size), Nat.le_trans hz hv.size, hw⟩
  rcases hn q e with h1 | h1
  · exact h.sep _ h1 e2
  · have := (h.hb.own_lt _ e2).2; omega
theorem Tw.stepB (h : Tw w P la lb va vb ea eb wr) {v' : Value} {T l' : List (Int × Int × Int)} (hp : Hp w' (P + 2) (P + 1) v' T) (hT : T.Perm l') (hv : OnlyV (P + 1) (P + 2) wr w') (hq : OnlyQ (P + 1) vb wr w')
    (hn : ∀ q, v'.ownBlock = some q → vb.ownBlock = some q ∨ wr.heap.size ≤ q) : Tw w P la l' va v' ea T w' := by
  have hz := h.sz
  have hw := h.wP
  refine ⟨h.ha.kept (hq.block _ (by omega) (by omega) (fun e => by have := (h.hb.own_lt _ e).1; omega)) (fun q e => hq.block _ (h.ha.own_lt _ e).2 (fun e2 => by have := (h.ha.own_lt _ e).1; omega) (fun e2 => h.sep _ e e2)), hp, fun q e e2 => ?_, h.pa, hT, h.bl.trans (hv.below (by omega) (by omega) h.bl.size), Nat.le_trans hz hv.size, hw⟩
  rcases hn q e2 with h1 | h1
  · exact h.sep _ e h1
  · have := (h.ha.own_lt _ e).2; omega
def pre (z : Nat → Nat → Int) (k : Nat) : List (Int × Int × Int) := (List.range k).map fun i => (z i 0, z i 1, z i 2)
theorem pre_len (z : Nat → Nat → Int) (k : Nat) : (pre z k).length = k := by simp [pre]
theorem pre_succ (z : Nat → Nat → Int) (k : Nat) : pre z (k + 1) = pre z k ++ [(z k 0, z k 1, z k 2)] := by simp [pre, List.range_succ]
theorem rest_app (g : Int) (l : List (Int × Int × Int)) (x : Int × Int × Int) : rest g (l ++ [x]) = rest g l ++ if x.2.2 = g then [] else [x] := by
  by_cases h : x.2.2 = g <;> simp [rest, isG, h]
theorem rest_rest (g : Int) (l : List (Int × Int × Int)) : rest g (rest g l) = rest g l := by simp [rest]
theorem rest_perm (g : Int) {l m : List (Int × Int × Int)} (h : l.Perm m) : (rest g l).Perm (rest g m) := h.filter _
theorem rest_ne (g : Int) {l : List (Int × Int × Int)} {x : Int × Int × Int} (h : x ∈ rest g l) : x.2.2 ≠ g := by
  have := (List.mem_filter.1 h).2
  simpa [isG] using this
theorem enAt_mem {es : List (Int × Int × Int)} {i : Nat} (h : i < es.length) : enAt es i ∈ es := by
  simp only [enAt, List.getD, List.getElem?_eq_getElem h, Option.getD_some]
  exact List.getElem_mem h
theorem sort_perm {l m : List (Int × Int × Int)} (h : l.Perm m) : sortE l = sortE m :=
  ord_unique _ _ ((sortE_perm l).trans (h.trans (sortE_perm m).symm)) (sortE_ord l) (sortE_ord m)

set_option maxRecDepth 100000 in
set_option maxHeartbeats 8000000 in
theorem walk (a0 : Option Addr) (len0 cap0 : Nat) (z0 : Nat → Nat → Int) (a1 : Int) (w : World) (w0 : IsStructs [.i64, .u64, .i64] w a0 len0 cap0 z0) (w1 : (Lit.int .i64 a1).wf = true) :
    Calls Try.prog 3 #[.slice a0 len0 cap0, .int .i64 a1] w fun e w' => e = .returned (.bool true) ∧ Below w.heap.size w w' := by
  by_cases h60 : (60 : Int) < len0
  · go_enter Try.func3, Try.ntmps3
    go_wp2_with fail
    refine (lives9 _).mono ?_
    rintro e w2 ⟨rfl, hb1⟩
    go_wp2_with fail
    refine (lives9 _).mono ?_
    rintro e w3 ⟨rfl, hb2⟩
    go_wp2
    go_ret
    exact ⟨rfl, hb1.trans (hb2.mono hb1.size)⟩
  have h60n : len0 ≤ 60 := by omega
  have W0 := hid w0
  clear w0
  go_enter Try.func3, Try.ntmps3
  go_wp2_with fail
  refine (lives9 _).mono ?_
  rintro e w2 ⟨rfl, hb1⟩
  have S0 : Hid (Tw w w2.heap.size (pre z0 0) (rest a1 (pre z0 0)) (.slice none 0 0) (.slice none 0 0) [] [] ((w2.alloc (.cells #[.slice none 0 0] 25)).alloc (.cells #[.slice none 0 0] 25))) := by
    have hB := (hb1.alloc hb1.size (.cells #[.slice none 0 0] 25)).alloc (by have := hb1.size; simp; omega) (.cells #[.slice none 0 0] 25)
    refine ⟨⟨(Below.heap_alloc _ _ _ (by simp)).trans (Deep.blk_alloc_new _ _), ⟨by simp [fl], .inl ⟨rfl, rfl⟩⟩, by simp [Value.ownBlock], by simp⟩, ⟨?_, ⟨by simp [fl], .inl ⟨rfl, rfl⟩⟩, by simp [Value.ownBlock], by simp⟩, by simp [Value.ownBlock], by simp [pre], by simp [pre, rest], hB, by simp, hb1.size⟩
    have := Deep.blk_alloc_new (w2.alloc (.cells #[.slice none 0 0] 25)) (.cells #[.slice none 0 0] 25)
    rw [World.size_alloc] at this
    exact this
  clear hb1
  go_wp2_with fail
  generalize hP : w2.heap.size = P at *
  generalize (w2.alloc (.cells #[.slice none 0 0] 25)).alloc (.cells #[.slice none 0 0] 25) = w3 at *
  clear hP
  go_loopw [7, 23] (fun s i wr => ∃ (q c : Nat) (va vb : Value) (ea eb : List (Int × Int × Int)), q ≤ len0 ∧ c = q - (rest a1 (pre z0 q)).length ∧ s = .int .i64 c ∧ i = .int .i64 q ∧ Hid (Tw w P (pre z0 q) (rest a1 (pre z0 q)) va vb ea eb wr))
    (fun _ i _ => len0 - (intOf i).toNat)
  case atStart => exact ⟨0, 0, _, _, [], [], by omega, by simp, rfl, rfl, S0⟩
  case round =>
    clear S0
    obtain ⟨q, c, va, vb, ea, eb, hq, hc, rfl, rfl, S⟩ := hrel
    by_cases hlt : q < len0
    · obtain ⟨bx, off, rfl, hcell⟩ := W0.out.open (by omega) (by simp)
      obtain ⟨h0, hw0⟩ := hcell _ S.out.bl q hlt 0 .i64 rfl
      obtain ⟨h1, hw1⟩ := hcell _ S.out.bl q hlt 1 .u64 rfl
      obtain ⟨h2, hw2⟩ := hcell _ S.out.bl q hlt 2 .i64 rfl
      have hps := hid (pre_succ z0 q)
      obtain ⟨x0, hx0⟩ : ∃ x, x = z0 q 0 := ⟨_, rfl⟩
      obtain ⟨x1, hx1⟩ : ∃ x, x = z0 q 1 := ⟨_, rfl⟩
      obtain ⟨x2, hx2⟩ : ∃ x, x = z0 q 2 := ⟨_, rfl⟩
      rw [← hx0, ← hx1, ← hx2] at hps
      rw [← hx0] at h0
      rw [← hx1] at h1
      rw [← hx2] at h2
      simp only [List.length_cons, List.length_nil, Nat.reduceAdd, Nat.add_zero] at h0 h1 h2
      rw [← Nat.add_assoc] at h1 h2
      clear hx0 hx1 hx2 hcell hw0 hw1 hw2
      have hrl : (rest a1 (pre z0 q)).length ≤ q := by have := rest_len a1 (pre z0 q); rwa [pre_len] at this
      have HRL := hid hrl
      have HC := hid hc
      have hc' : c ≤ 60 := by omega
      have hl3 : ea.length = q := by rw [S.out.pa.length_eq, pre_len]
      have hl4 : eb.length ≤ q := by rw [S.out.pb.length_eq]; exact hrl
      have SA := hid (S.out.below ((Below.refl _ _).alloc (Nat.le_refl _) (.cells #[.int .i64 x0, .int .u64 x1, .int .i64 x2] 28)))
      have PA := hid (put_sep _ (P + 2) P va ea x0 x1 x2 SA.out.ha (by have := SA.out.sz; omega) (by omega))
      have NB := hid (Deep.blk_alloc_new wr (.cells #[.int .i64 x0, .int .u64 x1, .int .i64 x2] 28))
      have SZ := hid S.out.sz
      have OA := hid (fun e => (S.out.ha.own_lt wr.heap.size e).2)
      clear S hc hrl hl3
      go_wp2_with fail
      refine (PA.out).mono ?_
      rintro e w6 ⟨rfl, v6, h6, k6, q6, n6⟩
      have S6 := hid (SA.out.stepA h6 ((rise_perm _ _).trans (SA.out.pa.append (List.Perm.refl _))) k6 q6 n6)
      have hE := q6.blk NB.out (by have := SZ.out; omega) (fun e => by have := OA.out e; omega)
      have e0 := cell_ent (i := 0) hE rfl
      have e1 := cell_ent (i := 1) hE rfl
      have e2 := cell_ent (i := 2) hE rfl
      clear h6 k6 q6 n6 hE PA
      by_cases hg : x2 = a1
      · have tg : (x2 == a1) = true := by simp [hg]
        have hps2 : rest a1 (pre z0 (q + 1)) = rest a1 (pre z0 q) := by rw [hps.out, rest_app, if_pos hg, List.append_nil]
        rw [← hps.out, ← hps2] at S6
        have HP2 := hid hps2
        clear hps2
        go_wp2
        go_roundw
        case rel => exact ⟨q + 1, c + 1, _, _, _, _, by omega, by rw [HP2.out]; have := HRL.out; have := HC.out; omega, by go_num, by go_num, S6⟩
        case measure => simp [intOf]; omega
      · have tg : (x2 == a1) = false := by simp [hg]
        have hps2 : rest a1 (pre z0 (q + 1)) = rest a1 (pre z0 q) ++ [(x0, x1, x2)] := by rw [hps.out, rest_app, if_neg hg]
        have PB := hid (put_sep _ (P + 2) (P + 1) vb eb x0 x1 x2 S6.out.hb (by have := S6.out.sz; omega) (by omega))
        have HP2 := hid hps2
        have HS := hid hps.out
        clear hps2 hg
        go_wp2_with fail
        refine (PB.out).mono ?_
        rintro e w8 ⟨rfl, v8, h8, k8, q8, n8⟩
        have S8 := hid (S6.out.stepB h8 ((rise_perm _ _).trans (S6.out.pb.append (List.Perm.refl _))) k8 q8 n8)
        rw [← HS.out, ← HP2.out] at S8
        clear h8 k8 q8 n8 PB
        go_wp2
        go_roundw
        case rel => exact ⟨q + 1, c, _, _, _, _, by omega, by rw [HP2.out, List.length_append]; have := HRL.out; have := HC.out; simp; omega, by go_num, by go_num, S8⟩
        case measure => simp [intOf]; omega
    · obtain rfl : q = len0 := by omega
      have hrl : (rest a1 (pre z0 q)).length ≤ q := by have := rest_len a1 (pre z0 q); rwa [pre_len] at this
      have n1 : ea.length - (rest a1 ea).length = c := by rw [S.out.pa.length_eq, (rest_perm a1 S.out.pa).length_eq, pre_len, hc]
      have RA := hid (hremove_c c _ (P + 2) P va ea a1 S.out.ha n1)
      have hc' : c ≤ 60 := by omega
      have cc : ((c : Int) != c) = false := by simp
      obtain ⟨rr, hrr⟩ : ∃ rr, rr = rest a1 (pre z0 q) := ⟨_, rfl⟩
      have HRR := hid hrr
      rw [← hrr] at S hrl
      clear hc n1 hrr
      go_wp2_with fail
      refine (RA.out).mono ?_
      rintro e w5 ⟨v5, T5, rfl, h5, _, c5, q5, n5, k5⟩
      have S5 := hid (S.out.stepA h5 ((List.perm_iff_count.2 c5).trans (rest_perm a1 S.out.pa)) k5 q5 (fun q e => .inl (n5 q e)))
      rw [← HRR.out] at S5
      have p5 : (rest a1 T5).Perm rr := by have := rest_perm a1 S5.out.pa; rw [HRR.out, rest_rest] at this; rw [HRR.out]; exact this
      have HP5 := hid p5
      have n2 : T5.length - (rest a1 T5).length = 0 := by rw [S5.out.pa.length_eq, p5.length_eq]; omega
      have RB := hid (hremove_c 0 _ (P + 2) P v5 T5 a1 S5.out.ha n2)
      clear h5 c5 q5 n5 k5 n2 p5 RA
      go_wp2_with fail
      refine (RB.out).mono ?_
      rintro e w6 ⟨v6, T6, rfl, h6, _, c6, q6, n6, k6⟩
      have S6 := hid (S5.out.stepA h6 ((List.perm_iff_count.2 c6).trans HP5.out) k6 q6 (fun q e => .inl (n6 q e)))
      obtain ⟨m, hm⟩ : ∃ m, rr.length = m := ⟨_, rfl⟩
      have mm : ((m : Int) != m) = false := by simp
      have LA := hid (hlen _ (P + 2) P v6 T6 S6.out.ha)
      have LB := hid (hlen _ (P + 2) (P + 1) vb eb S6.out.hb)
      rw [S6.out.pa.length_eq, hm] at LA
      rw [S6.out.pb.length_eq, hm] at LB
      clear h6 c6 q6 n6 k6 RB
      go_wp2_with fail
      refine (LA.out).mono ?_
      rintro e w7 ⟨rfl, hw7⟩
      have HW7 := hid hw7
      rw [← HW7.out] at LB
      clear hw7
      go_wp2_with fail
      refine (LB.out).mono ?_
      rintro e w8 ⟨rfl, hw8⟩
      have S8 := S6
      rw [← HW7.out, ← hw8] at S8
      have XA := hid (hsorted _ (P + 2) P v6 T6 S8.out.ha)
      clear hw8 HW7 LA LB
      go_wp2_with fail
      refine (XA.out).mono ?_
      rintro e w9 ⟨v9, rfl, o9, b9⟩
      have S9 := hid (S8.out.below b9)
      have R9 := hid (own_rd3 o9)
      have XB := hid (hsorted _ (P + 2) (P + 1) vb eb S9.out.hb)
      have HSE := hid (sort_perm (S9.out.pb.trans S9.out.pa.symm))
      rw [HSE.out] at XB
      clear o9 b9 XA
      go_wp2_with fail
      refine (XB.out).mono ?_
      rintro e w10 ⟨v10, rfl, o10, b10⟩
      have S10 := hid (S9.out.below b10)
      have r1 := R9.out.below b10
      have r2 := own_rd3 o10
      have HM := hid (fun i (h : i < (sortE T6).length) => rest_ne a1 (l := pre z0 q) (by rw [← HRR.out]; exact S9.out.pa.subset ((sortE_perm T6).subset (enAt_mem h))))
      obtain ⟨ss, hss⟩ : ∃ ss, ss = sortE T6 := ⟨_, rfl⟩
      rw [← hss] at r1 r2 HM
      have hsl : ss.length ≤ 60 := by rw [hss, (sortE_perm T6).length_eq, S9.out.pa.length_eq]; omega
      clear o10 b10 XB R9 HSE hss
      obtain ⟨a2, c2, rfl, hc2, hm2, hr2⟩ := r1
      obtain ⟨a3, c3, rfl, hc3, hm3, hr3⟩ := r2
      obtain ⟨n, hn⟩ : ∃ n, n = ss.length := ⟨_, rfl⟩
      have HN := hid hn
      have R2 := hid hr2
      have R3 := hid hr3
      rw [← hn] at hc2 hc3 hsl ⊢
      unfold maxLen at hm2 hm3
      clear hr2 hr3 hn
      go_wp2_with fail
      go_loopw [56] (fun i wr => ∃ (k : Nat), k ≤ n ∧ i = .int .i64 k ∧ Hid (Quiet w10 wr))
        (fun i _ => n - (intOf i).toNat)
      case atStart => exact ⟨0, by omega, rfl, hid (Quiet.refl _)⟩
      case round =>
        obtain ⟨k, hk, rfl, HQ⟩ := hrel
        by_cases hlt : k < n
        · obtain ⟨g1, o1, rfl, hg1, d1⟩ := R2.out (by have := HN.out; omega)
          obtain ⟨g2, o2, rfl, hg2, d2⟩ := R3.out (by have := HN.out; omega)
          obtain ⟨p0, p1, p2⟩ := d1 k (by have := HN.out; omega)
          obtain ⟨q0, q1, q2⟩ := d2 k (by have := HN.out; omega)
          have hne := HM.out k (by have := HN.out; omega)
          obtain ⟨x1, x2, x3, hx⟩ : ∃ x1 x2 x3, enAt ss k = (x1, x2, x3) := ⟨_, _, _, rfl⟩
          rw [hx] at p0 p1 p2 q0 q1 q2 hne
          have r0 := (HQ.out.cell ⟨g1, o1 + k * 3, none⟩).trans p0
          have r1 := (HQ.out.cell ⟨g1, o1 + k * 3 + 1, none⟩).trans p1
          have r2 := (HQ.out.cell ⟨g1, o1 + k * 3 + 2, none⟩).trans p2
          have s0 := (HQ.out.cell ⟨g2, o2 + k * 3, none⟩).trans q0
          have s1 := (HQ.out.cell ⟨g2, o2 + k * 3 + 1, none⟩).trans q1
          have s2 := (HQ.out.cell ⟨g2, o2 + k * 3 + 2, none⟩).trans q2
          have e1 : (x1 == x1) = true := by simp
          have e2 : (x2 == x2) = true := by simp
          have e3 : (x3 == x3) = true := by simp
          have e4 : (x3 == a1) = false := by simpa using hne
          clear p0 p1 p2 q0 q1 q2 hx d1 d2 hg1 hg2 hne
          go_wp2_with fail
          go_quiet (fail)
          go_wp2
          go_roundw
          case rel => exact ⟨k + 1, by omega, by go_num, hid (HQ.out.drewN _)⟩
          case measure => simp [intOf]; omega
        · go_wp2
          go_ret
          exact ⟨rfl, S10.out.bl.trans ((Quiet.below HQ.out _).mono S10.out.bl.size)⟩
end Go.Proofs.Ythabcnjddeoebaa.heapRemoves
