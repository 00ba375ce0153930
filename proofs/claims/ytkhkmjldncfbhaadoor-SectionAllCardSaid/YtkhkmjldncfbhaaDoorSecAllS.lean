/- SectionAll: one step of section i, whatever it does; a new one. -/
import Derived.Test.YtkhkmjldncfbhaaDoorSecAll
namespace Go.Proofs.YtkhkmjldncfbhaaDoor
set_option linter.unusedVariables false
set_option linter.unusedSimpArgs false
open Go.RowKit
section
variable {w0 w w' : World} {A b g po pe k e c d c' d' i q n : Nat} {z : Bool} {v : Value}
/-- What a step of section i leaves. -/
def SNext (w0 : World) (A b g po pe k e : Nat) (z : Bool) (c d c' d' i q pi : Nat) (x : Ending) (w' : World) : Prop :=
  (∃ r, x = .returned (.bool r)) ∧ ∃ v', Sa w0 A b g po pe k e z c d c' d' (i + 1) (q + 2) (olI z e c d (i + 1)) v' w' ∧ w'.heap[pi]? = some (.cells #[.int .i64 i] 3 (0, 0))
theorem sstep (h : Sa w0 A b g po pe k e z c d c' d' i q n v w) (hn : Nxt e z c d c' d') (he : 1 ≤ e) (he5 : e ≤ 5) (hd : d ≤ e) (hik : i < k) (hk8 : k ≤ 8) (hck : c ≤ k) (hol : n = olI z e c d i) (hq : q ≤ 10000) (pi : Nat)
    (hpi : w.heap[pi]? = some (.cells #[.int .i64 i] 3 (0, 0))) (hpn : pi ≠ A ∧ pi ≠ b ∧ pi ≠ g ∧ pi ≠ po ∧ pi ≠ pe) (hpv : ∀ q, v.ownBlock = some q → q ≠ pi) :
    Calls Tryd.prog 8 #[.pointer (some ⟨A, i * 5, none⟩), .pointer (some ⟨b, 0, none⟩), .func (.func 9) #[] #[.pointer (some ⟨po, 0, none⟩), .pointer (some ⟨pi, 0, none⟩), .pointer (some ⟨pe, 0, none⟩)]] w (SNext w0 A b g po pe k e z c d c' d' i q pi) := by
  subst hol
  have hsc := h.sc i hik
  rw [sg_here, tk_here, tm_here] at hsc
  obtain ⟨xs, x1, x2, hM⟩ := h.m
  obtain ⟨cc, hcc, hm⟩ := hM.m
  have hl := hM.l
  have nb := h.ne.1
  have ng := h.ne.2.1
  have hi8 : i < 8 := by omega
  have ui : inU (i : Int) := by unfold inU; omega
  have keep : ∀ w', On3 A (i * 5) b g w w' → w'.heap[pi]? = some (.cells #[.int .i64 i] 3 (0, 0)) := fun w' ho => (ho.block pi (blk_lta hpi) hpn.1 hpn.2.1 hpn.2.2.1).trans hpi
  rcases deed (i := i) hn he hd with ⟨hz, d1, d2⟩ | ⟨hz, d0, d1, d2, d3, d4, d5⟩ | ⟨hz, d0, d1, d2, d3, d3', d4, d5⟩ | ⟨hz, d0, d1, d2, d3, d3', d4, d5⟩ | ⟨hz, d0, d1, d2, d3, d3', d4, d5⟩ | ⟨hz, d0, d1, d2, d2', d3, d4, d4', d5⟩
  · subst hz
    have hs0 : Sct w A (i * 5) 2 5 0 0 0 := by simpa [sgB, tkB, tmB] using hsc
    have hx1 : xs.getD (2 : Int).toNat 0 = (i : Int) := x1
    refine (step_take _ hs0 hm nb ng (by omega) (by omega) (by omega) (i : Int) hx1 ui).mono ?_
    rintro x w' ⟨rfl, hs, hm', ho⟩
    rw [show U ((i : Int) + 1) = ((i + 1 : Nat) : Int) from U_of (by unfold inU; omega)] at hm'
    refine ⟨⟨_, rfl⟩, v, ?_, keep _ ho⟩
    rw [show olI true e c d (i + 1) = olI true e c d i by unfold olI; simp]
    refine h.next ho (by rw [d1, d2]; exact hs) hm' (by simp [hl]) (by omega) ?_ ?_
    · show (xs.set 2 _).getD 2 0 = _
      rw [getD_set_eq (by omega)]; rfl
    · show (xs.set 2 _).getD 5 0 = _
      rw [getD_set_ne (by decide), x2]; rfl
  · subst hz
    rw [d0] at hsc
    refine (step_over _ hsc hm).mono ?_
    rintro x w' ⟨rfl, rfl⟩
    refine ⟨⟨_, rfl⟩, v, ?_, hpi⟩
    rw [d4]
    refine h.next (On3.refl _ _ _ _ _) (by rw [d1, d2]; exact hsc) hm hl (by omega) ?_ ?_
    · rw [x1]; rfl
    · rw [x2, d3]
  · subst hz
    rw [d0] at hsc
    refine (step_free _ hsc hm nb ng (by omega) (by omega) (by omega) (by rw [d3'] at x2; exact x2) ui).mono ?_
    rintro x w' ⟨rfl, hs, hm', ho⟩
    rw [show U (((tkB false i : Nat) : Int) + 1) = ((i + 1 : Nat) : Int) from (by show U ((i : Int) + 1) = _; exact U_of (by unfold inU; omega))] at hm'
    refine ⟨⟨_, rfl⟩, v, ?_, keep _ ho⟩
    rw [d4]
    refine h.next ho (by rw [d1, d2]; exact hs) hm' (by simp [hl]) (by omega) ?_ ?_
    · show (xs.set 5 _).getD 2 0 = _
      rw [getD_set_ne (by decide), x1]; rfl
    · show (xs.set 5 _).getD 5 0 = _
      rw [getD_set_eq (by omega), d3]
  · subst hz
    rw [d0] at hsc
    refine (step_wait_yes _ hsc hm nb ng (by omega) (by omega) (by omega) (i : Int) (by rw [d3'] at x2; exact x2) ui ui (by exact decide_eq_true rfl)).mono ?_
    rintro x w' ⟨rfl, hs, hm', ho⟩
    refine ⟨⟨_, rfl⟩, v, ?_, keep _ ho⟩
    rw [d4]
    refine h.next ho (by rw [d1, d2]; exact hs) hm' hl (by omega) ?_ ?_
    · rw [x1]; rfl
    · rw [x2, d3, d3']
  · subst hz
    rw [d0] at hsc
    have us : inU ((svI false c d i : Nat) : Int) := by
      have : svI false c d i ≤ c := by unfold svI; rw [ifF]; split <;> omega
      unfold inU; omega
    refine (step_wait_no _ hsc hm nb ng (by omega) (by omega) (by omega) _ x2 ui us (by
      refine decide_eq_false ?_
      show ¬ ((i : Nat) : Int) = _
      intro e
      have : i = svI false c d i := by omega
      exact d3' this.symm)).mono ?_
    rintro x w' ⟨rfl, hs, hm', ho⟩
    refine ⟨⟨_, rfl⟩, v, ?_, keep _ ho⟩
    rw [d4]
    refine h.next ho (by rw [d1, d2]; exact hs) hm' hl (by omega) ?_ ?_
    · rw [x1]; rfl
    · rw [x2, d3]
  · subst hz
    rw [d0] at hsc
    obtain ⟨u, hu⟩ : ∃ u, u = tmB false e c d i := ⟨_, rfl⟩
    rw [← hu] at hsc d2'
    obtain ⟨r, hr⟩ : ∃ r, decide ((u : Int) + 1 < (e : Int)) = r := ⟨_, rfl⟩
    have hll : (ordL e (olI false e c d i)).length ≤ 1000 := by
      rw [ordL_len]; unfold olI; rw [ifF]
      have : c * e ≤ 8 * 5 := Nat.mul_le_mul (by omega) he5
      split <;> omega
    have ne := h.ne
    have hgo := goes_all po pi pe w0.heap.size u i e v (ordL e (olI false e c d i)) w r hr ⟨h.o, hpi, h.oe⟩ h.own hM.B.size ⟨Ne.symm hpn.2.2.2.1, ne.2.2.2.2.2.2.2.2.1⟩ (fun q hq => ⟨(h.nv q hq).2.2.2.1, hpv q hq, (h.nv q hq).2.2.2.2⟩) hll (by omega) (by omega)
    have kA : ∀ w1, AvPost po w0.heap.size v (ordL e (olI false e c d i)) i w w1 → w1.heap[A]? = w.heap[A]? := fun w1 hp => hp.1.block A h.ltA (Ne.symm ne.2.2.1) (fun eq => (h.nv A eq).1 rfl)
    refine (step_do _ r (AvPost po w0.heap.size v (ordL e (olI false e c d i)) i w) hsc hgo (fun w1 hp => hsc.kept (kA w1 hp)) (by omega) (by omega)).mono ?_
    rintro x w' ⟨w1, hp, rfl, rfl⟩
    have hs1 := hsc.kept (kA w1 hp)
    have hpi1 : w1.heap[pi]? = some (.cells #[.int .i64 i] 3 (0, 0)) := (hp.1.block pi (blk_lta hpi) hpn.2.2.2.1 (fun eq => hpv pi eq rfl)).trans hpi
    obtain ⟨v', h'⟩ := h.mid d4' hp
    obtain ⟨ys, y1, y2, hM'⟩ := h'.m
    obtain ⟨cc', hcc', hm'⟩ := hM'.m
    refine ⟨⟨_, rfl⟩, v', ?_, ?_⟩
    · rw [d4]
      rcases r with _ | _
      · have hde : ¬ d < e := by have := of_decide_eq_false hr; omega
        simp only [Bool.false_eq_true, if_false]
        refine h'.next ((On3.set w1 _ _ (by omega)).trans (On3.set _ _ _ (by omega))) ?_ (mem_set (mem_set hm' nb ng) nb ng) hM'.l (by omega) ?_ ?_
        · rw [d1, if_neg hde, d2, ← d2']; exact (hs1.stage 3).times _
        · rw [y1]; rfl
        · rw [y2, d3]
      · have hde : d < e := by have := of_decide_eq_true hr; omega
        simp only [if_true]
        refine h'.next (On3.set w1 _ _ (by omega)) ?_ (mem_set hm' nb ng) hM'.l (by omega) ?_ ?_
        · rw [d1, if_pos hde, d2, ← d2']; exact hs1.times _
        · rw [y1]; rfl
        · rw [y2, d3]
    · rcases r with _ | _
      · simp only [Bool.false_eq_true, if_false]
        exact (Below.heap_setCell _ _ _ _ hpn.1).trans ((Below.heap_setCell _ _ _ _ hpn.1).trans hpi1)
      · simp only [if_true]
        exact (Below.heap_setCell _ _ _ _ hpn.1).trans hpi1
/-- A section is stored. -/
theorem sct_store {nx sv : Int} {A o : Nat} {w : World} (h : Sct w A o nx sv 0 0 0) :
    Sct (((((w.setCell ⟨A, o, none⟩ (.int .i64 2)).setCell ⟨A, o + 1, none⟩ (.int .i64 5)).setCell ⟨A, o + 2, none⟩ (.int .i64 0)).setCell ⟨A, o + 3, none⟩ (.int .u64 0)).setCell ⟨A, o + 4, none⟩ (.int .i64 0)) A o 2 5 0 0 0 := by
  refine ⟨?_, ?_, ?_, ?_, ?_, fun i => by simp only [World.frozen?_setCell]; exact h.fz i⟩
  · rw [cell_set_ne (by omega), cell_set_ne (by omega), cell_set_ne (by omega), cell_set_ne (by omega)]; exact World.cell?_setCell_same _ _ _ h.c0
  · rw [cell_set_ne (by omega), cell_set_ne (by omega), cell_set_ne (by omega)]; exact World.cell?_setCell_same _ _ _ ((cell_set_ne (by omega)).trans h.c1)
  · rw [cell_set_ne (by omega), cell_set_ne (by omega)]; exact World.cell?_setCell_same _ _ _ ((cell_set_ne (by omega)).trans ((cell_set_ne (by omega)).trans h.c2))
  · rw [cell_set_ne (by omega)]; exact World.cell?_setCell_same _ _ _ ((cell_set_ne (by omega)).trans ((cell_set_ne (by omega)).trans ((cell_set_ne (by omega)).trans h.c3)))
  · exact World.cell?_setCell_same _ _ _ ((cell_set_ne (by omega)).trans ((cell_set_ne (by omega)).trans ((cell_set_ne (by omega)).trans ((cell_set_ne (by omega)).trans h.c4))))
theorem sct_other {nx sv st tk tm : Int} {A o o' : Nat} {w : World} {v0 v1 v2 v3 v4 : Value} (h : Sct w A o nx sv st tk tm) (ho : o + 5 ≤ o' ∨ o' + 5 ≤ o) :
    Sct (((((w.setCell ⟨A, o', none⟩ v0).setCell ⟨A, o' + 1, none⟩ v1).setCell ⟨A, o' + 2, none⟩ v2).setCell ⟨A, o' + 3, none⟩ v3).setCell ⟨A, o' + 4, none⟩ v4) A o nx sv st tk tm := by
  have c : ∀ x, x < 5 → (((((w.setCell ⟨A, o', none⟩ v0).setCell ⟨A, o' + 1, none⟩ v1).setCell ⟨A, o' + 2, none⟩ v2).setCell ⟨A, o' + 3, none⟩ v3).setCell ⟨A, o' + 4, none⟩ v4).cell? ⟨A, o + x, none⟩ = w.cell? ⟨A, o + x, none⟩ := fun x hx => by
    rw [cell_set_ne (by omega), cell_set_ne (by omega), cell_set_ne (by omega), cell_set_ne (by omega), cell_set_ne (by omega)]
  exact ⟨(c 0 (by omega)).trans h.c0, (c 1 (by omega)).trans h.c1, (c 2 (by omega)).trans h.c2, (c 3 (by omega)).trans h.c3, (c 4 (by omega)).trans h.c4, fun i => by simp only [World.frozen?_setCell]; exact h.fz i⟩
/-- The five cells of a section: that the memory stays. -/
theorem me_store {w0 w : World} {A o b g q : Nat} {xs : List Int} {v0 v1 v2 v3 v4 : Value} (h : Me w0 w b g xs q) (n1 : A ≠ b) (n2 : A ≠ g) (hA : w0.heap.size ≤ A) :
    Me w0 (((((w.setCell ⟨A, o, none⟩ v0).setCell ⟨A, o + 1, none⟩ v1).setCell ⟨A, o + 2, none⟩ v2).setCell ⟨A, o + 3, none⟩ v3).setCell ⟨A, o + 4, none⟩ v4) b g xs q := by
  obtain ⟨cc, hcc, hm⟩ := h.m
  have ho : On3 A o b g w (((((w.setCell ⟨A, o, none⟩ v0).setCell ⟨A, o + 1, none⟩ v1).setCell ⟨A, o + 2, none⟩ v2).setCell ⟨A, o + 3, none⟩ v3).setCell ⟨A, o + 4, none⟩ v4) :=
    (On3.set _ _ _ (by omega)).trans ((On3.set _ _ _ (by omega)).trans ((On3.set _ _ _ (by omega)).trans ((On3.set _ _ _ (by omega)).trans (On3.set _ _ _ (by omega)))))
  exact ⟨⟨cc, hcc, mem_set (mem_set (mem_set (mem_set (mem_set hm n1 n2) n1 n2) n1 n2) n1 n2) n1 n2⟩, h.l, ho.below hA h.hb h.hg h.B h.B.size, h.hb, h.hg, h.T.eq (ho.block _ h.T.lt (by have := h.t; omega) (by have := h.t; have := h.hb; omega) (by have := h.t; have := h.hg; omega)), h.t⟩
theorem blk_store {w : World} {A o p : Nat} {v0 v1 v2 v3 v4 : Value} (h : p ≠ A) : (((((w.setCell ⟨A, o, none⟩ v0).setCell ⟨A, o + 1, none⟩ v1).setCell ⟨A, o + 2, none⟩ v2).setCell ⟨A, o + 3, none⟩ v3).setCell ⟨A, o + 4, none⟩ v4).heap[p]? = w.heap[p]? :=
  (Below.heap_setCell _ _ _ _ h).trans ((Below.heap_setCell _ _ _ _ h).trans ((Below.heap_setCell _ _ _ _ h).trans ((Below.heap_setCell _ _ _ _ h).trans (Below.heap_setCell _ _ _ _ h))))
/-- So many sections that are made. -/
theorem sct_made (w : World) (k j : Nat) (t : TypeId) (hj : j < k) : Sct (w.alloc (.cells (madeCells #[.int .i64 0, .int .i64 0, .int .i64 0, .int .u64 0, .int .i64 0] (k * 5)) t)) w.heap.size (j * 5) 0 0 0 0 0 := by
  have hb := Deep.blk_alloc_new w (.cells (madeCells #[.int .i64 0, .int .i64 0, .int .i64 0, .int .u64 0, .int .i64 0] (k * 5)) t)
  have c : ∀ x, (hx : x < 5) → (w.alloc (.cells (madeCells #[.int .i64 0, .int .i64 0, .int .i64 0, .int .u64 0, .int .i64 0] (k * 5)) t)).cell? ⟨w.heap.size, j * 5 + x, none⟩ = some ((#[.int .i64 0, .int .i64 0, .int .i64 0, .int .u64 0, .int .i64 0] : Array Value)[x]!) := fun x hx => by
    have h1 : j * 5 + x < k * 5 := by omega
    have h2 : (j * 5 + x) % 5 = x := by omega
    refine cell_of_blk (i := j * 5 + x) hb ?_
    simp [madeCells, h1, h2]
  exact ⟨c 0 (by omega), c 1 (by omega), c 2 (by omega), c 3 (by omega), c 4 (by omega), fun i => free_of_blk hb⟩
end
end Go.Proofs.YtkhkmjldncfbhaaDoor
