/- model.Check, and the example of the chapter. -/
import Derived.Test.YtkimfejhgfnjoaaDoorModN
import Derived.WalkLawsBesides
import Derived.WalkSpells
import Derived.OpenShut
import Derived.Deep.CutRange
import Derived.Deep.AppendLies
namespace Go.Proofs.YtkimfejhgfnjoaaDoor
open Go.RowKit
set_option linter.unusedVariables false
set_option linter.unusedSimpArgs false

/-- The model behind so many events, and what is wrong with them. -/
def mst (s0 : Ms) (z : Nat → Nat → Int) : Nat → Ms
  | 0 => s0
  | q + 1 => addM (mst s0 z q) (z q 0) (z q 1) (z q 2) (z q 3) (z q 4)
def fnd (s0 : Ms) (z : Nat → Nat → Int) : Nat → List (Int × Int)
  | 0 => []
  | q + 1 => match wrongM (mst s0 z q) (z q 0) (z q 1) (z q 2) (z q 3) (z q 4) with
    | none => fnd s0 z q
    | some x => fnd s0 z q ++ [((x : Int), (q : Int))]
def flF (l : List (Int × Int)) : List Value := l.flatMap fun x => [.int .u8 x.1, .int .i64 x.2]
theorem flF_app (l : List (Int × Int)) (x : Int × Int) : flF (l ++ [x]) = flF l ++ [.int .u8 x.1, .int .i64 x.2] := by simp [flF]
theorem fnd_none {s0 : Ms} {z : Nat → Nat → Int} {q : Nat} (h : wrongM (mst s0 z q) (z q 0) (z q 1) (z q 2) (z q 3) (z q 4) = none) : fnd s0 z (q + 1) = fnd s0 z q := by
  simp only [fnd, h]
theorem fnd_some {s0 : Ms} {z : Nat → Nat → Int} {q x : Nat} (h : wrongM (mst s0 z q) (z q 0) (z q 1) (z q 2) (z q 3) (z q 4) = some x) : fnd s0 z (q + 1) = fnd s0 z q ++ [((x : Int), (q : Int))] := by
  simp only [fnd, h]
theorem fnd_len (s0 : Ms) (z : Nat → Nat → Int) : ∀ q, (fnd s0 z q).length ≤ q
  | 0 => by simp [fnd]
  | q + 1 => by
    have := fnd_len s0 z q
    rcases h : wrongM (mst s0 z q) (z q 0) (z q 1) (z q 2) (z q 3) (z q 4) with _ | x
    · rw [fnd_none h]; omega
    · rw [fnd_some h]; simp; omega
theorem infoF : (Tryd.prog.info? 38).map (fun i => (i.zero, i.size, i.bytes)) = some (some (.agg #[.int .u8 0, .int .i64 0]), 2, 16) := by kernel_rfl
def CkPost (s0 : Ms) (z : Nat → Nat → Int) (n : Nat) (w : World) (e : Ending) (w' : World) : Prop :=
  ∃ v, e = .returned v ∧ w'.ownsRow w.heap.size 38 2 v (fnd s0 z n).length (flF (fnd s0 z n)) ∧ Below w.heap.size w w'
/-- The events at a slice. -/
def Evs (w : World) (a : Option Addr) (n : Nat) (z : Nat → Nat → Int) : Prop :=
  0 < n → ∃ bx off, a = some ⟨bx, off, none⟩ ∧ bx < w.heap.size ∧ ∀ j, j < n → ∀ i, i < 5 → w.cell? ⟨bx, off + j * 5 + i, none⟩ = some (.int .i64 (z j i))
structure Ck (w : World) (hi b : Nat) (s0 : Ms) (z : Nat → Nat → Int) (q : Nat) (v : Value) (wr : World) : Prop where
  m : Mdl wr w.heap.size hi b (mst s0 z q)
  own : wr.ownsRow hi 38 2 v (fnd s0 z q).length (flF (fnd s0 z q))
  bl : Below w.heap.size w wr
  hs : hi ≤ wr.heap.size
  ws : w.heap.size ≤ hi
theorem own_kept {w w' : World} {base sz n : Nat} {t : TypeId} {v : Value} {xs : List Value} (h : w.ownsRow base t sz v n xs) (hb : ∀ q, q < w.heap.size → base ≤ q → w'.heap[q]? = w.heap[q]?) : w'.ownsRow base t sz v n xs := by
  obtain ⟨h0, h1 | ⟨q, cap, cur, h1, h2, h3, h4⟩⟩ := h
  · exact ⟨h0, .inl h1⟩
  · exact ⟨h0, .inr ⟨q, cap, cur, h1, h2, (hb q (by obtain ⟨hl, _⟩ := Array.getElem?_eq_some_iff.1 h3; exact hl) h2).trans h3, h4⟩⟩
theorem own_base {w : World} {base base' sz n : Nat} {t : TypeId} {v : Value} {xs : List Value} (h : w.ownsRow base t sz v n xs) (hb : base' ≤ base) : w.ownsRow base' t sz v n xs := by
  obtain ⟨h0, h1 | ⟨q, cap, cur, h1, h2, h3⟩⟩ := h
  · exact ⟨h0, .inl h1⟩
  · exact ⟨h0, .inr ⟨q, cap, cur, h1, by omega, h3⟩⟩
theorem Ck.below {w wr w' : World} {hi b q : Nat} {s0 : Ms} {z : Nat → Nat → Int} {v : Value} (h : Ck w hi b s0 z q v wr) (hb : Below wr.heap.size wr w') : Ck w hi b s0 z q v w' :=
  ⟨h.m.below hb, own_kept h.own fun q hq _ => hb.block q hq, h.bl.trans (hb.mono h.bl.size), Nat.le_trans h.hs hb.size, h.ws⟩
theorem Ck.sl {w wr : World} {hi b q : Nat} {s0 : Ms} {z : Nat → Nat → Int} {v : Value} (h : Ck w hi b s0 z q v wr) : ∃ a c, v = .slice a (fnd s0 z q).length c := by
  obtain ⟨_, ⟨h1, h2⟩ | ⟨q, cap, cur, h1, _⟩⟩ := h.own
  · exact ⟨none, 0, by rw [h1, h2]⟩
  · exact ⟨_, _, h1⟩
theorem Ck.add {w wr w' : World} {hi b q : Nat} {s0 : Ms} {z : Nat → Nat → Int} {v : Value} (h : Ck w hi b s0 z q v wr) (hm : Mdl w' w.heap.size hi b (mst s0 z (q + 1))) (ho : OM w.heap.size hi wr w')
    (hf : fnd s0 z (q + 1) = fnd s0 z q) : Ck w hi b s0 z (q + 1) v w' :=
  ⟨hm, by rw [hf]; exact own_kept h.own fun k hk hn => ho.block k hk (.inr hn), h.bl.trans ((ho.below (Nat.le_refl _) h.bl.size)), Nat.le_trans h.hs ho.size, h.ws⟩
/-- A step that found something, ahead of the append. -/
structure Ck1 (w : World) (hi b : Nat) (s0 : Ms) (z : Nat → Nat → Int) (q : Nat) (v : Value) (wr : World) : Prop where
  m : Mdl wr w.heap.size hi b (mst s0 z (q + 1))
  own : wr.ownsRow hi 38 2 v (fnd s0 z q).length (flF (fnd s0 z q))
  bl : Below w.heap.size w wr
  hs : hi ≤ wr.heap.size
  ws : w.heap.size ≤ hi
theorem Ck.add1 {w wr w' : World} {hi b q : Nat} {s0 : Ms} {z : Nat → Nat → Int} {v : Value} (h : Ck w hi b s0 z q v wr) (hm : Mdl w' w.heap.size hi b (mst s0 z (q + 1))) (ho : OM w.heap.size hi wr w') : Ck1 w hi b s0 z q v w' :=
  ⟨hm, own_kept h.own fun k hk hn => ho.block k hk (.inr hn), h.bl.trans ((ho.below (Nat.le_refl _) h.bl.size)), Nat.le_trans h.hs ho.size, h.ws⟩
theorem Ck1.below {w wr w' : World} {hi b q : Nat} {s0 : Ms} {z : Nat → Nat → Int} {v : Value} (h : Ck1 w hi b s0 z q v wr) (hb : Below wr.heap.size wr w') : Ck1 w hi b s0 z q v w' :=
  ⟨h.m.below hb, own_kept h.own fun q hq _ => hb.block q hq, h.bl.trans (hb.mono h.bl.size), Nat.le_trans h.hs hb.size, h.ws⟩
theorem Ck1.app {w wr w' : World} {hi b q x : Nat} {s0 : Ms} {z : Nat → Nat → Int} {v v' : Value} (h : Ck1 w hi b s0 z q v wr)
    (hx : wrongM (mst s0 z q) (z q 0) (z q 1) (z q 2) (z q 3) (z q 4) = some x)
    (ho : w'.ownsRow hi 38 2 v' ((fnd s0 z q).length + 1) (flF (fnd s0 z q) ++ [.int .u8 x, .int .i64 q])) (hg : wr.grownBy w' v.ownBlock) : Ck w hi b s0 z (q + 1) v' w' := by
  have hlt : ∀ k, v.ownBlock = some k → hi ≤ k := fun k hk => by
    obtain ⟨_, ⟨h1, _⟩ | ⟨k', cap, cur, h1, h2, _⟩⟩ := h.own
    · rw [h1] at hk; cases hk
    · rw [h1] at hk; cases hk; exact h2
  refine ⟨h.m.other (lo' := hi) (hi' := wr.heap.size) ⟨hg.os, hg.tape, hg.output, hg.size, fun k hk hn => hg.block k hk (fun e => ?_)⟩ (.inl (Nat.le_refl _)), ?_, ?_, Nat.le_trans h.hs hg.size, h.ws⟩
  · have := hlt k e.symm
    omega
  · rw [fnd_some hx, List.length_append, List.length_singleton, flF_app]
    exact ho
  · exact h.bl.grown hg h.bl.size (fun k hk => by have := hlt k hk; have := h.ws; omega)
set_option maxHeartbeats 8000000 in
theorem mcheck_of (P0 M0 G0 P M G : Int) (a : Option Addr) (n cap : Nat) (z : Nat → Nat → Int) (w : World) (h : Evs w a n z) (hn : n ≤ 1000) (hN : Calls Tryd.prog 5 #[.int .i64 P0, .int .i64 M0, .int .i64 G0] w (NewPost P M G w)) (T2 : EvNames w) (T3 : EvSteps w) :
    Calls Tryd.prog 16 #[.int .i64 P0, .int .i64 M0, .int .i64 G0, .slice a n cap] w (CkPost (newM P M G) z n w) := by
  have EV := hid h
  have TN := hid T2
  have TS := hid T3
  have NW := hid hN
  clear h T2 T3 hN
  go_enter Tryd.func16, Tryd.ntmps16
  go_wp2_with fail
  refine (NW.out).mono ?_
  rintro e w2 ⟨b, rfl, hm, hb⟩
  obtain ⟨hi, hhi⟩ : ∃ x, x = w2.heap.size := ⟨_, rfl⟩
  rw [← hhi] at hm
  have C0 : Hid (Ck w hi b (newM P M G) z 0 (.slice none 0 0) w2) := ⟨hm, ⟨by simp [fnd, flF], .inl ⟨by simp [fnd], by simp [fnd]⟩⟩, hb, by omega, by rw [hhi]; exact hb.size⟩
  clear hm hb hhi NW
  go_wp2_with fail
  go_loopw [10, 21] (fun fv i wr => ∃ (q : Nat), q ≤ n ∧ i = .int .i64 q ∧ Hid (Ck w hi b (newM P M G) z q fv wr))
    (fun _ i _ => n - (intOf i).toNat)
  case atStart => exact ⟨0, by omega, rfl, C0⟩
  case round =>
    clear C0
    obtain ⟨q, hq, rfl, C⟩ := hrel
    by_cases hlt : q < n
    · obtain ⟨bx, off, rfl, hbx, hcell⟩ := EV.out (by omega)
      have c0 := (C.out.bl.cell (p := ⟨bx, off + q * 5 + 0, none⟩) hbx).trans (hcell q hlt 0 (by omega))
      have c1 := (C.out.bl.cell (p := ⟨bx, off + q * 5 + 1, none⟩) hbx).trans (hcell q hlt 1 (by omega))
      have c2 := (C.out.bl.cell (p := ⟨bx, off + q * 5 + 2, none⟩) hbx).trans (hcell q hlt 2 (by omega))
      have c3 := (C.out.bl.cell (p := ⟨bx, off + q * 5 + 3, none⟩) hbx).trans (hcell q hlt 3 (by omega))
      have c4 := (C.out.bl.cell (p := ⟨bx, off + q * 5 + 4, none⟩) hbx).trans (hcell q hlt 4 (by omega))
      rw [Nat.add_zero] at c0
      obtain ⟨x0, hx0⟩ : ∃ x, x = z q 0 := ⟨_, rfl⟩
      obtain ⟨x1, hx1⟩ : ∃ x, x = z q 1 := ⟨_, rfl⟩
      obtain ⟨x2, hx2⟩ : ∃ x, x = z q 2 := ⟨_, rfl⟩
      obtain ⟨x3, hx3⟩ : ∃ x, x = z q 3 := ⟨_, rfl⟩
      obtain ⟨x4, hx4⟩ : ∃ x, x = z q 4 := ⟨_, rfl⟩
      rw [← hx0] at c0
      rw [← hx1] at c1
      rw [← hx2] at c2
      rw [← hx3] at c3
      rw [← hx4] at c4
      have HX := hid (And.intro hx0 (And.intro hx1 (And.intro hx2 (And.intro hx3 hx4))))
      have CA := hid (C.out.below (bl_ad wr (.cells #[.int .i64 x0, .int .i64 x1, .int .i64 x2, .int .i64 x3, .int .i64 x4] 30)))
      have AD := hid (madd CA.out.m CA.out.hs (TN.out.at (CA.out.bl)) (TS.out.at CA.out.bl) x0 x1 x2 x3 x4)
      obtain ⟨u, hu⟩ : ∃ u, u = wrongM (mst (newM P M G) z q) x0 x1 x2 x3 x4 := ⟨_, rfl⟩
      have HU := hid hu
      unfold AddPost at AD
      rw [← hu] at AD
      have HS := hid (show mst (newM P M G) z (q + 1) = addM (mst (newM P M G) z q) x0 x1 x2 x3 x4 by obtain ⟨e0, e1, e2, e3, e4⟩ := HX.out; rw [e0, e1, e2, e3, e4]; rfl)
      rw [← HS.out] at AD
      have FL := hid (fnd_len (newM P M G) z q)
      obtain ⟨av, cv, hv⟩ := C.out.sl
      clear hx0 hx1 hx2 hx3 hx4 hcell hbx hu C
      rcases u with _ | x
      · have HF := hid (fnd_none (s0 := newM P M G) (z := z) (q := q) (by obtain ⟨e0, e1, e2, e3, e4⟩ := HX.out; rw [← e0, ← e1, ← e2, ← e3, ← e4, ← HU.out]))
        simp only [Option.getD_none, Option.isNone_none] at AD
        clear hv
        go_wp2_with fail
        refine (AD.out).mono ?_
        rintro e w6 ⟨rfl, m6, o6⟩
        have C6 := hid (CA.out.add m6 o6 HF.out)
        clear m6 o6 CA AD
        go_wp2
        go_roundw
        case rel => exact ⟨q + 1, by omega, by go_num, C6⟩
        case measure => simp [intOf]; omega
      · have HX2 := hid (show wrongM (mst (newM P M G) z q) (z q 0) (z q 1) (z q 2) (z q 3) (z q 4) = some x by obtain ⟨e0, e1, e2, e3, e4⟩ := HX.out; rw [← e0, ← e1, ← e2, ← e3, ← e4, ← HU.out])
        simp only [Option.getD_some, Option.isNone_some] at AD
        obtain ⟨fl, hfl⟩ : ∃ fl, fl = (fnd (newM P M G) z q).length := ⟨_, rfl⟩
        have HFL := hid hfl
        rw [← hfl] at hv
        have hfl2 : fl ≤ q := by rw [hfl]; exact FL.out
        clear hfl
        subst hv
        go_wp2_with fail
        refine (AD.out).mono ?_
        rintro e w6 ⟨rfl, m6, o6⟩
        have C6 := hid (CA.out.add1 m6 o6)
        have C7 := hid (C6.out.below (bl_ad w6 (.cells #[.int .u8 (x : Int), .int .i64 (q : Int)] 38)))
        have XB := hid (heap_alloc_new w6 (.cells #[.int .u8 (x : Int), .int .i64 (q : Int)] 38))
        have OW := hid (show (w6.alloc (.cells #[.int .u8 (x : Int), .int .i64 (q : Int)] 38)).ownsRow hi 38 2 (.slice av fl cv) fl (flF (fnd (newM P M G) z q)) by rw [HFL.out] at *; exact C7.out.own)
        obtain ⟨i0, hi0, hz0, hz1, hz2⟩ := info_parts infoF
        have HI := hid hi0
        clear hi0 m6 o6 CA AD C6
        go_wp2_with (at_builtin; refine wpList_append_own_at _ rfl _ _ 27 rfl hi 38 i0 _ 2 16 Tryd.underlying27 HI.out hz0 hz1 hz2 rfl (by decide) _ _ _ rfl OW.out ⟨w6.heap.size, 0, none⟩ 1 1 [.int .u8 (x : Int), .int .i64 (q : Int)] rfl rfl ?s1 ?s2 ?s3 ?s4 ?s5 ?_)
        case s1 => exact World.news_of_block (cs := #[.int .u8 (x : Int), .int .i64 (q : Int)]) (t := 38) (fr := (0, 0)) XB.out
        case s2 => simp [Value.oneCell']
        case s3 => unfold maxLen; omega
        case s4 => omega
        case s5 => have := C7.out.hs; exact this
        intro v' w7 hown7 hgrow7 _ _
        have C8 := hid (C7.out.app HX2.out (by rw [← HFL.out]; exact hown7) (by rw [← HFL.out] at *; exact hgrow7))
        clear hown7 hgrow7 C7 OW XB
        go_wp2
        go_roundw
        case rel => exact ⟨q + 1, by omega, by go_num, C8⟩
        case measure => simp [intOf]; omega
    · obtain rfl : q = n := by omega
      have HO := hid C.out.own
      have HB := hid C.out.bl
      have HW := hid C.out.ws
      go_wp2
      go_ret
      exact ⟨_, rfl, own_base HO.out HW.out, HB.out⟩
theorem mcheck (P M G : Int) (a : Option Addr) (n cap : Nat) (z : Nat → Nat → Int) (w : World) (h : Evs w a n z) (hn : n ≤ 1000) (hP : 0 ≤ P) (hM : 0 ≤ M) (hG : 0 ≤ G) (T2 : EvNames w) (T3 : EvSteps w) :
    Calls Tryd.prog 16 #[.int .i64 P, .int .i64 M, .int .i64 G, .slice a n cap] w (CkPost (newM P M G) z n w) :=
  mcheck_of P M G P M G a n cap z w h hn (mnew P M G w hP hM hG) T2 T3
end Go.Proofs.YtkimfejhgfnjoaaDoor
