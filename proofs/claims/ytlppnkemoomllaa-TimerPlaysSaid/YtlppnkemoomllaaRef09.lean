/- The document's row of entries: Put. -/
import Derived.Test.YtlppnkemoomllaaHeapO
import Derived.Deep.CutRange
import Derived.Deep.AppendLies
namespace Go.Proofs.Ytlppnkemoomllaa
set_option linter.unusedVariables false
set_option linter.unusedSimpArgs false
open Go.RowKit

/-- A slice that reads as entries (three cells each), in memory that is there. -/
def Rd3 (w : World) (v : Value) (es : List (Int × Int × Int)) : Prop :=
  ∃ a c, v = .slice a es.length c ∧ es.length ≤ c ∧ c ≤ maxLen ∧ (0 < es.length → ∃ g off, a = some ⟨g, off, none⟩ ∧ g < w.heap.size ∧ ∀ i, i < es.length →
    w.cell? ⟨g, off + i * 3, none⟩ = some (.int .i64 (enAt es i).1) ∧ w.cell? ⟨g, off + i * 3 + 1, none⟩ = some (.int .u64 (enAt es i).2.1) ∧ w.cell? ⟨g, off + i * 3 + 2, none⟩ = some (.int .i64 (enAt es i).2.2))
theorem Rd3.below {w w' : World} {v : Value} {es : List (Int × Int × Int)} (h : Rd3 w v es) (hb : Below w.heap.size w w') : Rd3 w' v es := by
  obtain ⟨a, c, h1, h2, h3, h4⟩ := h
  refine ⟨a, c, h1, h2, h3, fun h0 => ?_⟩
  obtain ⟨g, off, e, hg, hc⟩ := h4 h0
  have hs := hb.size
  refine ⟨g, off, e, by omega, fun i hi => ?_⟩
  obtain ⟨q0, q1, q2⟩ := hc i hi
  exact ⟨(hb.cell (p := ⟨g, _, none⟩) hg).trans q0, (hb.cell (p := ⟨g, _, none⟩) hg).trans q1, (hb.cell (p := ⟨g, _, none⟩) hg).trans q2⟩
theorem own_rd3 {w : World} {base : Nat} {t : TypeId} {v : Value} {es : List (Int × Int × Int)} (h : w.ownsRow base t 3 v es.length (fl es)) : Rd3 w v es := by
  obtain ⟨h0, ⟨h1, h2⟩ | ⟨q, cap, cur, h1, h2, h3, h4, h5, h6, h7⟩⟩ := id h
  · exact ⟨none, 0, by rw [h1, h2], by omega, by simp, fun h => by omega⟩
  · refine ⟨_, cap, h1, h4, h5, fun hn => ⟨q, 0, rfl, by obtain ⟨hl, _⟩ := Array.getElem?_eq_some_iff.1 h3; exact hl, fun i hi => ?_⟩⟩
    subst h1
    obtain ⟨k1, k2, k3⟩ := fl_get es i hi
    have k := fun j => h.cellAt (g := q) (cap := cap) j
    have hl := fl_len es
    simp only [Nat.zero_add]
    exact ⟨(k _ (by omega)).trans k1, (k _ (by omega)).trans k2, (k _ (by omega)).trans k3⟩
/-- One more, at its place. -/
def insF (e : Int × Int × Int) : List (Int × Int × Int) → List (Int × Int × Int)
  | [] => [e]
  | x :: xs => if aheadE e x then e :: x :: xs else x :: insF e xs
theorem drop_enAt {es : List (Int × Int × Int)} {k : Nat} (h : k < es.length) : es.drop k = enAt es k :: es.drop (k + 1) := by
  rw [List.drop_eq_getElem_cons h, enAt_get h]
theorem infoRef : (Try.prog.info? 34).map (fun i => (i.zero, i.size, i.bytes)) = some (some (.agg #[.int .i64 0, .int .u64 0, .int .i64 0]), 3, 24) := by kernel_rfl
def PutPost (e : Int × Int × Int) (es : List (Int × Int × Int)) (w : World) (x : Ending) (w' : World) : Prop :=
  ∃ v, x = .returned v ∧ w'.ownsRow w.heap.size 34 3 v (insF e es).length (fl (insF e es)) ∧ Below w.heap.size w w'
structure Pg (w : World) (e : Int × Int × Int) (es : List (Int × Int × Int)) (k : Nat) (d : Bool) (v : Value) (out : List (Int × Int × Int)) (wr : World) : Prop where
  own : wr.ownsRow (w.heap.size + 1) 34 3 v out.length (fl out)
  eq : out ++ (if d then es.drop k else insF e (es.drop k)) = insF e es
  len : out.length ≤ k + 1
  lk : d = false → out.length ≤ k
  box : wr.heap[w.heap.size]? = some (.cells (ent e).toArray 34 (0, 0))
  bl : Below w.heap.size w wr
  sz : w.heap.size + 1 ≤ wr.heap.size
theorem Pg.below {w wr w' : World} {e : Int × Int × Int} {es out : List (Int × Int × Int)} {k : Nat} {d : Bool} {v : Value} (h : Pg w e es k d v out wr) (hb : Below wr.heap.size wr w') : Pg w e es k d v out w' := by
  have hs := hb.size
  have hz := h.sz
  refine ⟨?_, h.eq, h.len, h.lk, (hb.block _ (by omega)).trans h.box, h.bl.trans (hb.mono h.bl.size), by omega⟩
  obtain ⟨h0, h1 | ⟨q, cap, cur, h1, h2, h3, h4⟩⟩ := h.own
  · exact ⟨h0, .inl h1⟩
  · exact ⟨h0, .inr ⟨q, cap, cur, h1, h2, (hb.block q (by obtain ⟨hl, _⟩ := Array.getElem?_eq_some_iff.1 h3; exact hl)).trans h3, h4⟩⟩
theorem Pg.app {w wr w' : World} {e x : Int × Int × Int} {es out : List (Int × Int × Int)} {k k' : Nat} {d d' : Bool} {v v' : Value} (h : Pg w e es k d v out wr)
    (hown : w'.ownsRow (w.heap.size + 1) 34 3 v' (out.length + 1) (fl out ++ [.int .i64 x.1, .int .u64 x.2.1, .int .i64 x.2.2])) (hg : wr.grownBy w' v.ownBlock)
    (he : (out ++ [x]) ++ (if d' then es.drop k' else insF e (es.drop k')) = insF e es) (hl : (out ++ [x]).length ≤ k' + 1) (hlk : d' = false → (out ++ [x]).length ≤ k') : Pg w e es k' d' v' (out ++ [x]) w' := by
  have hz := h.sz
  have hs := hg.size
  have hlt : ∀ q, v.ownBlock = some q → w.heap.size + 1 ≤ q := fun q hq => by
    obtain ⟨_, ⟨h1, _⟩ | ⟨q', cap, cur, h1, h2, _⟩⟩ := h.own
    · rw [h1] at hq; cases hq
    · rw [h1] at hq; cases hq; exact h2
  refine ⟨?_, he, hl, hlk, (hg.block _ (by omega) (fun e => by have := hlt _ e.symm; omega)).trans h.box, h.bl.grown hg h.bl.size (fun q hq => by have := hlt q hq; omega), by omega⟩
  rw [List.length_append, List.length_singleton, fl_app]
  simpa [fl, ent] using hown
theorem Pg.own_lt {w wr : World} {e : Int × Int × Int} {es out : List (Int × Int × Int)} {k : Nat} {d : Bool} {v : Value} (h : Pg w e es k d v out wr) : ∀ q, v.ownBlock = some q → q < wr.heap.size := fun q hq => by
  obtain ⟨_, ⟨h1, _⟩ | ⟨q', cap, cur, h1, h2, h3, _⟩⟩ := h.own
  · rw [h1] at hq; cases hq
  · rw [h1] at hq; cases hq; obtain ⟨hl, _⟩ := Array.getElem?_eq_some_iff.1 h3; exact hl
theorem own_base {w : World} {base base' sz n : Nat} {t : TypeId} {v : Value} {xs : List Value} (h : w.ownsRow base t sz v n xs) (hb : base' ≤ base) : w.ownsRow base' t sz v n xs := by
  obtain ⟨h0, h1 | ⟨q, cap, cur, h1, h2, h3⟩⟩ := h
  · exact ⟨h0, .inl h1⟩
  · exact ⟨h0, .inr ⟨q, cap, cur, h1, by omega, h3⟩⟩
theorem Pg.sl {w wr : World} {e : Int × Int × Int} {es out : List (Int × Int × Int)} {k : Nat} {d : Bool} {v : Value} (h : Pg w e es k d v out wr) : ∃ a c, v = .slice a out.length c := by
  obtain ⟨_, ⟨h1, h2⟩ | ⟨q, cap, cur, h1, _⟩⟩ := h.own
  · exact ⟨none, 0, by rw [h1, h2]⟩
  · exact ⟨_, _, h1⟩
set_option maxHeartbeats 8000000 in
theorem refput (v0 : Value) (es : List (Int × Int × Int)) (e1 e2 e3 : Int) (w : World) (h : Rd3 w v0 es) (hl : es.length ≤ 1000) :
    Calls Try.prog 24 #[v0, .agg #[.int .i64 e1, .int .u64 e2, .int .i64 e3]] w (PutPost (e1, e2, e3) es w) := by
  obtain ⟨a, c, rfl, hc1, hc2, hrd⟩ := h
  obtain ⟨n, hn⟩ : ∃ n, n = es.length := ⟨_, rfl⟩
  have HN := hid hn
  have HR := hid hrd
  rw [← hn] at hc1 hl ⊢
  clear hrd hn
  have P0 : Hid (Pg w (e1, e2, e3) es 0 false (.slice none 0 0) [] (w.alloc (.cells #[.int .i64 e1, .int .u64 e2, .int .i64 e3] 34))) :=
    ⟨⟨by simp [fl], .inl ⟨rfl, rfl⟩⟩, by simp, by simp, by simp, Deep.blk_alloc_new _ _, (Below.refl _ _).alloc (Nat.le_refl _) _, by simp⟩
  go_enter Try.func24, Try.ntmps24
  go_wp2_with fail
  go_loopw [5, 6, 11] (fun v d i wr => ∃ (k : Nat) (b : Bool) (out : List (Int × Int × Int)), k ≤ n ∧ i = .int .i64 k ∧ d = .bool b ∧ Hid (Pg w (e1, e2, e3) es k b v out wr))
    (fun _ _ i _ => n - (intOf i).toNat)
  case atStart => exact ⟨0, false, [], by omega, rfl, rfl, P0⟩
  case round =>
    clear P0
    obtain ⟨k, b, out, hk, rfl, rfl, P⟩ := hrel
    obtain ⟨av, cv, rfl⟩ := P.out.sl
    by_cases hlt : k < n
    · obtain ⟨g, off, rfl, hg, hcell⟩ := HR.out (by have := HN.out; omega)
      obtain ⟨q0, q1, q2⟩ := hcell k (by have := HN.out; omega)
      obtain ⟨x1, x2, x3, hx⟩ : ∃ x1 x2 x3, enAt es k = (x1, x2, x3) := ⟨_, _, _, rfl⟩
      rw [hx] at q0 q1 q2
      have r0 := (P.out.bl.cell (p := ⟨g, off + k * 3, none⟩) hg).trans q0
      have r1 := (P.out.bl.cell (p := ⟨g, off + k * 3 + 1, none⟩) hg).trans q1
      have r2 := (P.out.bl.cell (p := ⟨g, off + k * 3 + 2, none⟩) hg).trans q2
      have HX := hid (show es.drop k = (x1, x2, x3) :: es.drop (k + 1) by rw [drop_enAt (by have := HN.out; omega), hx])
      have PA := hid (P.out.below ((Below.refl _ _).alloc (Nat.le_refl _) (.cells #[.int .i64 x1, .int .u64 x2, .int .i64 x3] 34)))
      have HE := hid P.out.eq
      have HLo := hid P.out.len
      have HLk := hid P.out.lk
      have OWL := hid (fun q hq => P.out.own_lt q hq)
      have b0 : (wr.alloc (.cells #[.int .i64 x1, .int .u64 x2, .int .i64 x3] 34)).cell? ⟨w.heap.size, 0, none⟩ = some (.int .i64 e1) := cell_ent PA.out.box rfl
      have b1 : (wr.alloc (.cells #[.int .i64 x1, .int .u64 x2, .int .i64 x3] 34)).cell? ⟨w.heap.size, 1, none⟩ = some (.int .u64 e2) := cell_ent PA.out.box rfl
      have b2 : (wr.alloc (.cells #[.int .i64 x1, .int .u64 x2, .int .i64 x3] 34)).cell? ⟨w.heap.size, 2, none⟩ = some (.int .i64 e3) := cell_ent PA.out.box rfl
      have XB := hid (Deep.blk_alloc_new wr (.cells #[.int .i64 x1, .int .u64 x2, .int .i64 x3] 34))
      clear q0 q1 q2 hcell hx hg P
      obtain ⟨i0, hi0, hz0, hz1, hz2⟩ := info_parts infoRef
      have HI := hid hi0
      clear hi0
      cases b
      · cases hah : aheadE (e1, e2, e3) (x1, x2, x3)
        · have RA := hid (heapAhead.ref_ahead e1 e2 e3 x1 x2 x3 false hah (wr.alloc (.cells #[.int .i64 x1, .int .u64 x2, .int .i64 x3] 34)))
          have HAH := hid hah
          clear hah
          go_wp2_with fail
          refine (RA.out).mono ?_
          rintro e w5 ⟨rfl, hb5⟩
          have P5 := hid (PA.out.below hb5)
          have X5 := (hb5.block _ (by simp)).trans XB.out
          have y0 : w5.cell? ⟨wr.heap.size, 0, none⟩ = some (.int .i64 x1) := cell_ent X5 rfl
          have y1 : w5.cell? ⟨wr.heap.size, 1, none⟩ = some (.int .u64 x2) := cell_ent X5 rfl
          have y2 : w5.cell? ⟨wr.heap.size, 2, none⟩ = some (.int .i64 x3) := cell_ent X5 rfl
          clear hb5 RA X5 PA b0 b1 b2 r0 r1 r2 XB
          go_wp2_with (at_builtin; refine wpList_append_own_at _ rfl _ _ 45 rfl (w.heap.size + 1) 34 i0 _ 3 24 Try.underlying45 HI.out hz0 hz1 hz2 rfl (by decide) _ _ _ rfl (P5.out.below ((Below.refl _ _).alloc (Nat.le_refl _) _)).own ⟨w5.heap.size, 0, none⟩ 1 1 [.int .i64 x1, .int .u64 x2, .int .i64 x3] rfl rfl ?p1 ?p2 ?p3 ?p4 ?p5 ?_)
          case p1 => exact World.news_of_block (cs := #[.int .i64 x1, .int .u64 x2, .int .i64 x3]) (t := 34) (fr := (0, 0)) (Deep.blk_alloc_new _ _)
          case p2 => intro u hu; simp at hu; rcases hu with rfl | rfl | rfl <;> rfl
          case p3 => have := HLo.out; unfold maxLen; omega
          case p4 => have := HLo.out; omega
          case p5 => have := P5.out.sz; simp; omega
          intro v' w6 hown6 hgrow _ _
          have P6 := hid (Pg.app (x := (x1, x2, x3)) (P5.out.below ((Below.refl _ _).alloc (Nat.le_refl _) _)) hown6 hgrow (d' := false) (k' := k + 1) (by have := HE.out; rw [HX.out] at this; simp only [insF, HAH.out] at this; simpa using this) (by have := HLo.out; simp; omega) (fun _ => by have := HLk.out (by simp); simp; omega))
          clear hown6 hgrow P5
          go_wp2
          go_roundw
          case rel => exact ⟨k + 1, false, _, by omega, by go_num, rfl, P6⟩
          case measure => simp [intOf]; omega
        · have RA := hid (heapAhead.ref_ahead e1 e2 e3 x1 x2 x3 true hah (wr.alloc (.cells #[.int .i64 x1, .int .u64 x2, .int .i64 x3] 34)))
          have HAH := hid hah
          clear hah
          go_wp2_with fail
          refine (RA.out).mono ?_
          rintro e w5 ⟨rfl, hb5⟩
          have P5 := hid (PA.out.below hb5)
          have X5 := hid ((hb5.block _ (by simp)).trans XB.out)
          have s5 : wr.heap.size + 1 ≤ w5.heap.size := by have := hb5.size; simpa using this
          have y0 : w5.cell? ⟨w.heap.size, 0, none⟩ = some (.int .i64 e1) := cell_ent P5.out.box rfl
          have y1 : w5.cell? ⟨w.heap.size, 1, none⟩ = some (.int .u64 e2) := cell_ent P5.out.box rfl
          have y2 : w5.cell? ⟨w.heap.size, 2, none⟩ = some (.int .i64 e3) := cell_ent P5.out.box rfl
          clear hb5 RA PA b0 b1 b2 r0 r1 r2 XB
          go_wp2_with (at_builtin; refine wpList_append_own_at _ rfl _ _ 45 rfl (w.heap.size + 1) 34 i0 _ 3 24 Try.underlying45 HI.out hz0 hz1 hz2 rfl (by decide) _ _ _ rfl (P5.out.below ((Below.refl _ _).alloc (Nat.le_refl _) _)).own ⟨w5.heap.size, 0, none⟩ 1 1 [.int .i64 e1, .int .u64 e2, .int .i64 e3] rfl rfl ?q1 ?q2 ?q3 ?q4 ?q5 ?_)
          case q1 => exact World.news_of_block (cs := #[.int .i64 e1, .int .u64 e2, .int .i64 e3]) (t := 34) (fr := (0, 0)) (Deep.blk_alloc_new _ _)
          case q2 => intro u hu; simp at hu; rcases hu with rfl | rfl | rfl <;> rfl
          case q3 => have := HLo.out; unfold maxLen; omega
          case q4 => have := HLo.out; omega
          case q5 => have := P5.out.sz; simp; omega
          intro v' w6 hown6 hgrow _ _
          have P6 := hid (Pg.app (x := (e1, e2, e3)) (P5.out.below ((Below.refl _ _).alloc (Nat.le_refl _) _)) hown6 hgrow (d' := true) (k' := k) (by have := HE.out; rw [HX.out] at this ⊢; simp only [insF, HAH.out] at this; simpa using this) (by have := HLo.out; have := HLk.out (by simp); simp; omega) (fun h => by cases h))
          have X6 : w6.heap[wr.heap.size]? = some (.cells #[.int .i64 x1, .int .u64 x2, .int .i64 x3] 34 (0, 0)) := by
            rw [hgrow.block _ (by simp; omega) (fun e => by have := OWL.out _ e.symm; omega), Below.heap_alloc _ _ _ (by omega)]
            exact X5.out
          have z0 : w6.cell? ⟨wr.heap.size, 0, none⟩ = some (.int .i64 x1) := cell_ent X6 rfl
          have z1 : w6.cell? ⟨wr.heap.size, 1, none⟩ = some (.int .u64 x2) := cell_ent X6 rfl
          have z2 : w6.cell? ⟨wr.heap.size, 2, none⟩ = some (.int .i64 x3) := cell_ent X6 rfl
          clear hown6 hgrow P5 X5 X6 y0 y1 y2
          obtain ⟨out2, ho2⟩ : ∃ o, o = out ++ [(e1, e2, e3)] := ⟨_, rfl⟩
          have HL2 := hid (show out2.length ≤ k + 1 by rw [ho2]; have := HLk.out (by simp); simp; omega)
          rw [← ho2] at P6
          clear ho2
          obtain ⟨a6, c6, rfl⟩ := P6.out.sl
          go_wp2_with (at_builtin; refine wpList_append_own_at _ rfl _ _ 45 rfl (w.heap.size + 1) 34 i0 _ 3 24 Try.underlying45 HI.out hz0 hz1 hz2 rfl (by decide) _ _ _ rfl (P6.out.below ((Below.refl _ _).alloc (Nat.le_refl _) _)).own ⟨w6.heap.size, 0, none⟩ 1 1 [.int .i64 x1, .int .u64 x2, .int .i64 x3] rfl rfl ?r1 ?r2 ?r3 ?r4 ?r5 ?_)
          case r1 => exact World.news_of_block (cs := #[.int .i64 x1, .int .u64 x2, .int .i64 x3]) (t := 34) (fr := (0, 0)) (Deep.blk_alloc_new _ _)
          case r2 => intro u hu; simp at hu; rcases hu with rfl | rfl | rfl <;> rfl
          case r3 => have := HL2.out; unfold maxLen; omega
          case r4 => have := HL2.out; omega
          case r5 => have := P6.out.sz; simp; omega
          intro v' w7 hown7 hgrow _ _
          have P7 := hid (Pg.app (x := (x1, x2, x3)) (P6.out.below ((Below.refl _ _).alloc (Nat.le_refl _) _)) hown7 hgrow (d' := true) (k' := k + 1) (by have := P6.out.eq; rw [HX.out] at this; simpa using this) (by have := HL2.out; simp; omega) (fun h => by cases h))
          clear hown7 hgrow P6
          go_wp2
          go_roundw
          case rel => exact ⟨k + 1, true, _, by omega, by go_num, rfl, P7⟩
          case measure => simp [intOf]; omega
      · have X5 := XB
        have y0 : (wr.alloc (.cells #[.int .i64 x1, .int .u64 x2, .int .i64 x3] 34)).cell? ⟨wr.heap.size, 0, none⟩ = some (.int .i64 x1) := cell_ent X5.out rfl
        have y1 : (wr.alloc (.cells #[.int .i64 x1, .int .u64 x2, .int .i64 x3] 34)).cell? ⟨wr.heap.size, 1, none⟩ = some (.int .u64 x2) := cell_ent X5.out rfl
        have y2 : (wr.alloc (.cells #[.int .i64 x1, .int .u64 x2, .int .i64 x3] 34)).cell? ⟨wr.heap.size, 2, none⟩ = some (.int .i64 x3) := cell_ent X5.out rfl
        clear b0 b1 b2 X5 XB
        go_wp2_with (at_builtin; refine wpList_append_own_at _ rfl _ _ 45 rfl (w.heap.size + 1) 34 i0 _ 3 24 Try.underlying45 HI.out hz0 hz1 hz2 rfl (by decide) _ _ _ rfl (PA.out.below ((Below.refl _ _).alloc (Nat.le_refl _) _)).own ⟨wr.heap.size + 1, 0, none⟩ 1 1 [.int .i64 x1, .int .u64 x2, .int .i64 x3] rfl rfl ?s1 ?s2 ?s3 ?s4 ?s5 ?_)
        case s2 => first | exact ⟨rfl, rfl, rfl⟩ | (intro u hu; simp at hu; rcases hu with rfl | rfl | rfl <;> rfl)
        case s3 => have := HLo.out; unfold maxLen; omega
        case s4 => have := HLo.out; omega
        case s5 => have := PA.out.sz; simp at this ⊢; omega
        intro v' w6 hown6 hgrow _ _
        have P6 := hid (Pg.app (x := (x1, x2, x3)) (PA.out.below ((Below.refl _ _).alloc (Nat.le_refl _) _)) hown6 hgrow (d' := true) (k' := k + 1) (by have := HE.out; rw [HX.out] at this; simpa using this) (by have := HLo.out; simp; omega) (fun h => by cases h))
        clear hown6 hgrow PA
        go_wp2
        go_roundw
        case rel => exact ⟨k + 1, true, _, by omega, by go_num, rfl, P6⟩
        case measure => simp [intOf]; omega
    · have hkn : k = es.length := by have := HN.out; omega
      have HE := hid P.out.eq
      rw [hkn, List.drop_length] at HE
      have HB := hid P.out.bl
      have HLo := hid P.out.len
      have HLk := hid P.out.lk
      have HP := P
      clear hkn P
      cases b
      · obtain ⟨i0, hi0, hz0, hz1, hz2⟩ := info_parts infoRef
        have HI := hid hi0
        clear hi0
        have y0 : wr.cell? ⟨w.heap.size, 0, none⟩ = some (.int .i64 e1) := cell_ent HP.out.box rfl
        have y1 : wr.cell? ⟨w.heap.size, 1, none⟩ = some (.int .u64 e2) := cell_ent HP.out.box rfl
        have y2 : wr.cell? ⟨w.heap.size, 2, none⟩ = some (.int .i64 e3) := cell_ent HP.out.box rfl
        go_wp2_with (at_builtin; refine wpList_append_own_at _ rfl _ _ 45 rfl (w.heap.size + 1) 34 i0 _ 3 24 Try.underlying45 HI.out hz0 hz1 hz2 rfl (by decide) _ _ _ rfl (HP.out.below ((Below.refl _ _).alloc (Nat.le_refl _) _)).own ⟨wr.heap.size, 0, none⟩ 1 1 [.int .i64 e1, .int .u64 e2, .int .i64 e3] rfl rfl ?u1 ?u2 ?u3 ?u4 ?u5 ?_)
        case u2 => first | exact ⟨rfl, rfl, rfl⟩ | (intro u hu; simp at hu; rcases hu with rfl | rfl | rfl <;> rfl)
        case u3 => have := HLo.out; unfold maxLen; omega
        case u4 => have := HLo.out; omega
        case u5 => have := HP.out.sz; simp at this ⊢; omega
        intro v' w6 hown6 hgrow _ _
        have P6 := hid (Pg.app (x := (e1, e2, e3)) (HP.out.below ((Below.refl _ _).alloc (Nat.le_refl _) _)) hown6 hgrow (d' := true) (k' := es.length) (by have := HE.out; simp only [insF] at this; simpa using this) (by have := HLk.out (by simp); have := HN.out; simp; omega) (fun h => by cases h))
        clear hown6 hgrow
        go_wp2
        go_ret
        have hq := P6.out.eq
        simp only [if_true, List.drop_length, List.append_nil] at hq
        refine ⟨_, rfl, ?_, P6.out.bl⟩
        rw [← hq]
        exact own_base P6.out.own (by omega)
      · go_wp2
        go_ret
        have hq := HE.out
        simp only [if_true, List.append_nil] at hq
        refine ⟨_, rfl, ?_, HB.out⟩
        rw [← hq]
        exact own_base HP.out.own (by omega)
end Go.Proofs.Ytlppnkemoomllaa
