/- poll.Poll's Wait, Ready, Take: what they leave. -/
import Derived.Test.YtcfgkblonnmblaaPollR
namespace Go.Proofs.Ytcfgkblonnmblaa
set_option linter.unusedVariables false
set_option linter.unusedSimpArgs false
open Go.RowKit
section
variable {Z : Nat → Prop} {w w' : World} {p b1 b2 b3 : Nat} {W : List (Int × Int)} {R : List Int}
theorem Pq.map1 (h : Pq Z w p b1 b2 b3 W R) (o : Only b1 b1 w w') {V : List (Int × Int)} (hl : V.length = W.length → True) (m : ∃ g, MapI w' b1 .u16 g V.length ∧ ∀ a v, g a = some v ↔ ∃ y, (a, y) ∈ V ∧ v = .int .i64 y) :
    w'.heap[p]? = w.heap[p]? ∧ w'.heap[b2]? = w.heap[b2]? ∧ w'.heap[b3]? = w.heap[b3]? := by
  obtain ⟨l1, l2, l3, l4⟩ := h.lt
  obtain ⟨n1, n2, n3, n4, n5, n6⟩ := h.ne
  exact ⟨o.block _ l1 n1 n1, o.block _ l3 n4.symm n4.symm, o.block _ l4 n5.symm n5.symm⟩
theorem put_is {g : Int → Option Value} {fd y : Int} (hw : waitsF W fd = false) (h : ∀ a v, g a = some v ↔ ∃ y, (a, y) ∈ W ∧ v = .int .i64 y) : g fd = none := by
  rcases hg : g fd with _ | v
  · rfl
  · obtain ⟨y, hy, _⟩ := (h fd v).1 hg
    exact absurd (List.mem_map.2 ⟨_, hy, rfl⟩) (of_decide_eq_false hw)
theorem put_is2 {g : Int → Option Value} {a x : Int} (hw : waitsG W a = false) (h : ∀ a v, g a = some v ↔ ∃ x, (x, a) ∈ W ∧ v = .int .u16 x) : g a = none := by
  rcases hg : g a with _ | v
  · rfl
  · obtain ⟨y, hy, _⟩ := (h a v).1 hg
    exact absurd (List.mem_map.2 ⟨_, hy, rfl⟩) (of_decide_eq_false hw)
def WaPost (Z : Nat → Prop) (w : World) (p b1 b2 b3 : Nat) (W : List (Int × Int)) (R : List Int) (fd a : Int) (w' : World) : Prop := FrZ Z w w' ∧ Pq Z w' p b1 b2 b3 ((fd, a) :: W) R
set_option maxHeartbeats 8000000 in
theorem pwait (h : Pq Z w p b1 b2 b3 W R) (hl : W.length < 1000000 ∧ R.length < 1000000) (fd a : Int) (h0 : 0 ≤ a) (h1 : a < 4096) (hw : waitsF W fd = false) (hg : waitsG W a = false) (hf : (!waitsF W fd && !decide (fd ∈ R) && decide (1024 ≤ plen W R)) = false) :
    Calls Try.prog 12 #[.pointer (some ⟨p, 0, none⟩), .int .u16 fd, .int .i64 a] w fun e w' => e = .returned (.int .i64 0) ∧ WaPost Z w p b1 b2 b3 W R fd a w' := by
  have d0 : decide (a < 0) = false := decide_eq_false (by omega)
  have d1 : decide (4096 ≤ a) = false := decide_eq_false (by omega)
  have c0 : w.cell? ⟨p, 0, none⟩ = some (.map (some b1)) := cellx h.box rfl
  have lk := h.who_no hw true
  have HH := phas h a
  rw [hg] at HH
  have HAS := hid HH
  have FU := hid (pfull h hl fd false hf)
  have HQ := hid h
  have HW := hid hw
  have HG := hid hg
  clear h hl hw hg hf HH
  go_enter Try.func12, Try.ntmps12
  go_wp2_with fail
  refine (HAS.out).mono ?_
  rintro e w2 ⟨rfl, rfl⟩
  go_wp2_with fail
  refine (FU.out).mono ?_
  rintro e w3 ⟨rfl, b3'⟩
  have F3 := hid (FrZ.of_below (Z := Z) b3')
  have Q3 := HQ.out.below b3'
  have Q4 := hid (Q3.below (bl_drw w3 w3.heap.size))
  have F4 := hid (F3.out.trans (FrZ.of_below (bl_drw w3 w3.heap.size)))
  obtain ⟨g1, m1, s1⟩ := Q4.out.m1
  obtain ⟨g2, m2, s2⟩ := Q4.out.m2
  obtain ⟨wa, sa, wb, r1, o1, r2, n1, o2⟩ := m1.put2 und1 undF zero1 fd (.int .i64 a)
  have oo := o1.trans o2
  obtain ⟨l1, l2, l3, l4⟩ := Q4.out.lt
  obtain ⟨e1, e2, e3, e4, e5, e6⟩ := Q4.out.ne
  have m2b : MapI wb b2 .i64 g2 W.length := m2.kept (oo.block _ l3 e4.symm e4.symm)
  obtain ⟨wc, sc, wd, r3, o3, r4, n3, o4⟩ := m2b.put2 und2 undG zero2 a (.int .u16 fd)
  have op := o3.trans o4
  have cw : w3.drew.cell? ⟨p, 0, none⟩ = some (.map (some b1)) := cellx Q4.out.box rfl
  have cw' : w3.cell? ⟨p, 0, none⟩ = some (.map (some b1)) := cellx Q4.out.box rfl
  have cx : w3.drew.cell? ⟨p, 1, none⟩ = some (.map (some b2)) := cellx Q4.out.box rfl
  have cx' : w3.cell? ⟨p, 1, none⟩ = some (.map (some b2)) := cellx Q4.out.box rfl
  have FIN : Hid (WaPost Z w2 p b1 b2 b3 W R fd a wd) := by
    obtain ⟨z0, z1, z2, z3⟩ := Q4.out.zf
    have ga := put_is (y := 0) HW.out s1
    have gb := put_is2 (x := 0) HG.out s2
    rw [if_pos ga] at n1
    rw [if_pos gb] at n3
    refine hid ⟨(F4.out.trans (.of_only oo z1)).trans (.of_only op z2), ⟨?_, ⟨_, n1.kept ((op.block _ (Nat.lt_of_lt_of_le l2 oo.size) e4 e4)), ?_⟩, ⟨_, n3, ?_⟩, ?_, ?_, ?_, Q4.out.n3, Q4.out.ne, Q4.out.zf⟩⟩
    · rw [op.block _ (Nat.lt_of_lt_of_le l1 oo.size) e2 e2, oo.block _ l1 e1 e1]; exact Q4.out.box
    · intro c v
      simp only [updG]
      by_cases hc : c = fd
      · subst hc
        simp only [if_true, Option.some.injEq]
        constructor
        · intro e; exact ⟨a, List.mem_cons_self, e.symm⟩
        · rintro ⟨y, hy, rfl⟩
          rcases List.mem_cons.1 hy with e | hy
          · have e2 : y = a := congrArg Prod.snd e
            rw [e2]
          · exact absurd (List.mem_map.2 ⟨_, hy, rfl⟩) (of_decide_eq_false HW.out)
      · rw [if_neg hc, s1]
        constructor
        · rintro ⟨y, hy, rfl⟩; exact ⟨y, List.mem_cons_of_mem _ hy, rfl⟩
        · rintro ⟨y, hy, rfl⟩
          rcases List.mem_cons.1 hy with e | hy
          · exact absurd (congrArg Prod.fst e) hc
          · exact ⟨y, hy, rfl⟩
    · intro c v
      simp only [updG]
      by_cases hc : c = a
      · subst hc
        simp only [if_true, Option.some.injEq]
        constructor
        · intro e; exact ⟨fd, List.mem_cons_self, e.symm⟩
        · rintro ⟨y, hy, rfl⟩
          rcases List.mem_cons.1 hy with e | hy
          · have e2 : y = fd := congrArg Prod.fst e
            rw [e2]
          · exact absurd (List.mem_map.2 ⟨_, hy, rfl⟩) (of_decide_eq_false HG.out)
      · rw [if_neg hc, s2]
        constructor
        · rintro ⟨y, hy, rfl⟩; exact ⟨y, List.mem_cons_of_mem _ hy, rfl⟩
        · rintro ⟨y, hy, rfl⟩
          rcases List.mem_cons.1 hy with e | hy
          · exact absurd (congrArg Prod.snd e) hc
          · exact ⟨y, hy, rfl⟩
    · obtain ⟨g, q, s⟩ := Q4.out.m3
      exact ⟨g, q.kept (by rw [op.block _ (Nat.lt_of_lt_of_le l4 oo.size) e6.symm e6.symm, oo.block _ l4 e5.symm e5.symm]), s⟩
    · exact List.nodup_cons.2 ⟨of_decide_eq_false HW.out, Q4.out.n1⟩
    · exact List.nodup_cons.2 ⟨of_decide_eq_false HG.out, Q4.out.n2⟩
  have k1 : wa.cell? ⟨p, 0, none⟩ = some (.map (some b1)) := cellx (only_blk o1 Q4.out.box e1) rfl
  have k2 : wa.cell? ⟨p, 1, none⟩ = some (.map (some b2)) := cellx (only_blk o1 Q4.out.box e1) rfl
  have k3 : wb.cell? ⟨p, 1, none⟩ = some (.map (some b2)) := cellx (only_blk oo Q4.out.box e1) rfl
  clear Q3 b3' m1 m2 s1 s2 o1 o2 n1 oo m2b o3 o4 n3 op l1 l2 l3 l4 e1 e2 e3 e4 e5 e6 HAS FU lk c0
  go_wp2_with fail
  go_region
  all_goals
    clear r1 r2 r3 r4 cw cw' cx cx' k1 k2 k3
    go_wp2
    go_ret
    exact ⟨rfl, FIN.out⟩
end
end Go.Proofs.Ytcfgkblonnmblaa
