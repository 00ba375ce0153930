/- poll.Poll's Wait where it is refused, Ready, Take, New. -/
import Derived.Test.YtcfgkblonnmblaaPollW
namespace Go.Proofs.Ytcfgkblonnmblaa
set_option linter.unusedVariables false
set_option linter.unusedSimpArgs false
open Go.RowKit
section
variable {Z : Nat → Prop} {w w' : World} {p b1 b2 b3 : Nat} {W : List (Int × Int)} {R : List Int}
set_option maxHeartbeats 4000000 in
theorem pwait_arg (fd a : Int) (h0 : a < 0 ∨ 4096 ≤ a) (w : World) : Calls Try.prog 12 #[.pointer (some ⟨p, 0, none⟩), .int .u16 fd, .int .i64 a] w fun e w' => e = .returned (.int .i64 1) ∧ w' = w := by
  by_cases h1 : a < 0
  · have d0 : decide (a < 0) = true := decide_eq_true h1
    clear h0
    go_enter Try.func12, Try.ntmps12
    go_wp2
    go_ret
    exact ⟨rfl, rfl⟩
  · have d0 : decide (a < 0) = false := decide_eq_false h1
    have d1 : decide (4096 ≤ a) = true := decide_eq_true (by omega)
    clear h0
    go_enter Try.func12, Try.ntmps12
    go_wp2
    go_ret
    exact ⟨rfl, rfl⟩
set_option maxHeartbeats 4000000 in
theorem pwait_same (h : Pq Z w p b1 b2 b3 W R) (fd a : Int) (h0 : 0 ≤ a) (h1 : a < 4096) (hs : waitsF W fd = true ∨ waitsG W a = true) : Calls Try.prog 12 #[.pointer (some ⟨p, 0, none⟩), .int .u16 fd, .int .i64 a] w fun e w' => e = .returned (.int .i64 8) ∧ w' = w := by
  have d0 : decide (a < 0) = false := decide_eq_false (by omega)
  have d1 : decide (4096 ≤ a) = false := decide_eq_false (by omega)
  have c0 : w.cell? ⟨p, 0, none⟩ = some (.map (some b1)) := cellx h.box rfl
  rcases hw : waitsF W fd with _ | _
  · have hg : waitsG W a = true := by rcases hs with e | e; · rw [hw] at e; cases e
                                      · exact e
    have lk := h.who_no hw true
    have HH := phas h a
    rw [hg] at HH
    have HAS := hid HH
    clear h hs hw hg HH
    go_enter Try.func12, Try.ntmps12
    go_wp2_with fail
    refine (HAS.out).mono ?_
    rintro e w2 ⟨rfl, rfl⟩
    go_wp2
    go_ret
    exact ⟨rfl, rfl⟩
  · obtain ⟨y, hy⟩ := waitsF_mem hw
    have lk := h.who_yes hy true
    clear h hs hw hy
    go_enter Try.func12, Try.ntmps12
    go_wp2
    go_ret
    exact ⟨rfl, rfl⟩
set_option maxHeartbeats 4000000 in
theorem pwait_full (h : Pq Z w p b1 b2 b3 W R) (hl : W.length < 1000000 ∧ R.length < 1000000) (fd a : Int) (h0 : 0 ≤ a) (h1 : a < 4096) (hw : waitsF W fd = false) (hg : waitsG W a = false) (hf : (!waitsF W fd && !decide (fd ∈ R) && decide (1024 ≤ plen W R)) = true) :
    Calls Try.prog 12 #[.pointer (some ⟨p, 0, none⟩), .int .u16 fd, .int .i64 a] w fun e w' => e = .returned (.int .i64 2) ∧ Below w.heap.size w w' := by
  have d0 : decide (a < 0) = false := decide_eq_false (by omega)
  have d1 : decide (4096 ≤ a) = false := decide_eq_false (by omega)
  have c0 : w.cell? ⟨p, 0, none⟩ = some (.map (some b1)) := cellx h.box rfl
  have lk := h.who_no hw true
  have HH := phas h a
  rw [hg] at HH
  have HAS := hid HH
  have FU := hid (pfull h hl fd true hf)
  clear h hl hw hg hf HH
  go_enter Try.func12, Try.ntmps12
  go_wp2_with fail
  refine (HAS.out).mono ?_
  rintro e w2 ⟨rfl, rfl⟩
  go_wp2_with fail
  refine (FU.out).mono ?_
  rintro e w3 ⟨rfl, b3'⟩
  have B := hid b3'
  clear b3' HAS FU lk c0
  go_wp2
  go_ret
  exact ⟨rfl, B.out⟩
/-- With one more that is ready. -/
def addR (R : List Int) (fd : Int) : List Int := if fd ∈ R then R else fd :: R
def RePost (Z : Nat → Prop) (w : World) (p b1 b2 b3 : Nat) (W : List (Int × Int)) (R : List Int) (w' : World) : Prop := FrZ Z w w' ∧ Pq Z w' p b1 b2 b3 W R
set_option maxHeartbeats 8000000 in
theorem pready_full (h : Pq Z w p b1 b2 b3 W R) (hl : W.length < 1000000 ∧ R.length < 1000000) (fd : Int) (hf : (!waitsF W fd && !decide (fd ∈ R) && decide (1024 ≤ plen W R)) = true) :
    Calls Try.prog 7 #[.pointer (some ⟨p, 0, none⟩), .int .u16 fd] w fun e w' => e = .returned (.int .i64 2) ∧ Below w.heap.size w w' := by
  have FU := hid (pfull h hl fd true hf)
  clear h hl hf
  go_enter Try.func7, Try.ntmps7
  go_wp2_with fail
  refine (FU.out).mono ?_
  rintro e w3 ⟨rfl, b3'⟩
  have B := hid b3'
  clear b3' FU
  go_wp2
  go_ret
  exact ⟨rfl, B.out⟩
set_option maxHeartbeats 8000000 in
theorem pready (h : Pq Z w p b1 b2 b3 W R) (hl : W.length < 1000000 ∧ R.length < 1000000) (fd : Int) (hf : (!waitsF W fd && !decide (fd ∈ R) && decide (1024 ≤ plen W R)) = false) :
    Calls Try.prog 7 #[.pointer (some ⟨p, 0, none⟩), .int .u16 fd] w fun e w' => e = .returned (.int .i64 0) ∧ RePost Z w p b1 b2 b3 W (addR R fd) w' := by
  have FU := hid (pfull h hl fd false hf)
  have HQ := hid h
  clear h hl hf
  go_enter Try.func7, Try.ntmps7
  go_wp2_with fail
  refine (FU.out).mono ?_
  rintro e w3 ⟨rfl, b3'⟩
  have F3 := FrZ.of_below (Z := Z) b3'
  have Q3 := HQ.out.below b3'
  obtain ⟨g, m, s⟩ := Q3.m3
  obtain ⟨w4, r4, m4, o4⟩ := m.store und3 undF fd (.bool true)
  have c2 : w3.cell? ⟨p, 2, none⟩ = some (.map (some b3)) := cellx Q3.box rfl
  have FIN : Hid (RePost Z w p b1 b2 b3 W (addR R fd) w4) := by
    obtain ⟨z0, z1, z2, z3⟩ := Q3.zf
    obtain ⟨l1, l2, l3, l4⟩ := Q3.lt
    obtain ⟨e1, e2, e3, e4, e5, e6⟩ := Q3.ne
    obtain ⟨g1, q1, s1⟩ := Q3.m1
    obtain ⟨g2, q2, s2⟩ := Q3.m2
    refine hid ⟨F3.trans (.of_only o4 z3), ⟨(o4.block _ l1 e3 e3).trans Q3.box, ⟨g1, q1.kept (o4.block _ l2 e5 e5), s1⟩, ⟨g2, q2.kept (o4.block _ l3 e6 e6), s2⟩, ?_, Q3.n1, Q3.n2, ?_, Q3.ne, Q3.zf⟩⟩
    · by_cases hin : fd ∈ R
      · rw [if_neg (by rw [s, if_pos hin]; simp)] at m4
        refine ⟨_, by rw [addR, if_pos hin]; exact m4, fun a => ?_⟩
        rw [addR, if_pos hin]
        simp only [updG]
        by_cases ha : a = fd
        · subst ha; simp [hin]
        · rw [if_neg ha, s]
      · rw [if_pos (by rw [s, if_neg hin])] at m4
        refine ⟨_, by rw [addR, if_neg hin]; exact m4, fun a => ?_⟩
        rw [addR, if_neg hin]
        simp only [updG]
        by_cases ha : a = fd
        · subst ha; simp
        · rw [if_neg ha, s]; simp [ha]
    · unfold addR
      split
      · exact Q3.n3
      · rename_i hin; exact List.nodup_cons.2 ⟨hin, Q3.n3⟩
  clear Q3 F3 b3' m s m4 o4 FU
  go_wp2
  go_ret
  exact ⟨rfl, FIN.out⟩
/-- None is due: nothing is taken. -/
def PnoPost (w : World) (e : Ending) (w' : World) : Prop := e = .returned (.tuple #[.int .u16 0, .int .i64 0, .bool false]) ∧ Below w.heap.size w w'
set_option maxHeartbeats 4000000 in
theorem ptake_none (h : Pq Z w p b1 b2 b3 W R) (hd : anyDue W R = false) : Calls Try.prog 9 #[.pointer (some ⟨p, 0, none⟩)] w (PnoPost w) := by
  have LT := hid (pleast h)
  have HD := hid hd
  clear h hd
  go_enter Try.func9, Try.ntmps9
  go_wp2_with fail
  refine (LT.out).mono ?_
  rintro e w2 (⟨rfl, h2, h3⟩ | ⟨m, rfl, h2, _, h3⟩)
  · have B := hid h3
    clear h2 h3 LT
    go_wp2
    go_ret3
    exact ⟨rfl, B.out⟩
  · exfalso
    have := anyDue_yes h2
    rw [HD.out] at this; cases this
/-- The least one that is due is taken. -/
def PkPost (Z : Nat → Prop) (w : World) (p b1 b2 b3 : Nat) (W : List (Int × Int)) (R : List Int) (e : Ending) (w' : World) : Prop :=
  ∃ m y, e = .returned (.tuple #[.int .u16 m, .int .i64 y, .bool true]) ∧ (m, y) ∈ W ∧ m ∈ R ∧ (∀ a, dueP W R a = true → m ≤ a) ∧ FrZ Z w w' ∧ Pq Z w' p b1 b2 b3 (W.filter fun e => !(e.1 == m)) (R.filter fun a => !(a == m))
theorem len_drop {m y : Int} (hn : (W.map Prod.fst).Nodup) (h : (m, y) ∈ W) : (W.filter fun e => !(e.1 == m)).length = W.length - 1 := by
  have h1 := filt_step (R := W) (f := fun e => !(e.1 == m)) (f' := fun _ => true) (a := (m, y)) (List.Pairwise.of_map _ (fun a b hab e => hab (by rw [e])) hn) h (by simp) rfl (fun x hx hne => by
    have : ¬ x.1 = m := fun e => hne (by
      obtain ⟨x1, x2⟩ := x
      simp only at e; subst e
      rw [pair_snd hn hx h])
    simp [this])
  have : W.filter (fun _ => true) = W := List.filter_eq_self.2 (fun _ _ => rfl)
  rw [this] at h1; omega
theorem len_drop2 {m : Int} (hn : R.Nodup) (h : m ∈ R) : (R.filter fun a => !(a == m)).length = R.length - 1 := by
  have h1 := filt_step (R := R) (f := fun a => !(a == m)) (f' := fun _ => true) (a := m) hn h (by simp) rfl (fun x hx hne => by simp [hne])
  have : R.filter (fun _ => true) = R := List.filter_eq_self.2 (fun _ _ => rfl)
  rw [this] at h1; omega
theorem take_pq {m y : Int} {wa wb wc : World} {ga gb gc : Int → Option Value} (h : Pq Z w p b1 b2 b3 W R) (hm : (m, y) ∈ W) (hr : m ∈ R) 
    (s1 : ∀ a v, ga a = some v ↔ ∃ y, (a, y) ∈ W ∧ v = .int .i64 y) (n1 : MapI wa b1 .u16 (updG ga m none) (if ga m = none then W.length else W.length - 1)) (o1 : Only b1 b1 w wa)
    (s2 : ∀ a v, gb a = some v ↔ ∃ x, (x, a) ∈ W ∧ v = .int .u16 x) (n2 : MapI wb b2 .i64 (updG gb y none) (if gb y = none then W.length else W.length - 1)) (o2 : Only b2 b2 wa wb)
    (s3 : ∀ a, gc a = if a ∈ R then some (.bool true) else none) (n3 : MapI wc b3 .u16 (updG gc m none) (if gc m = none then R.length else R.length - 1)) (o3 : Only b3 b3 wb wc) :
    FrZ Z w wc ∧ Pq Z wc p b1 b2 b3 (W.filter fun e => !(e.1 == m)) (R.filter fun a => !(a == m)) := by
  obtain ⟨z0, z1, z2, z3⟩ := h.zf
  obtain ⟨l1, l2, l3, l4⟩ := h.lt
  obtain ⟨e1, e2, e3, e4, e5, e6⟩ := h.ne
  have t1 := o1.size
  have t2 := o2.size
  have k1 : ga m = some (.int .i64 y) := (s1 m _).2 ⟨y, hm, rfl⟩
  have k2 : gb y = some (.int .u16 m) := (s2 y _).2 ⟨m, hm, rfl⟩
  have k3 : gc m = some (.bool true) := by rw [s3, if_pos hr]
  rw [if_neg (by rw [k1]; simp), ← len_drop h.n1 hm] at n1
  rw [if_neg (by rw [k2]; simp), ← len_drop h.n1 hm] at n2
  rw [if_neg (by rw [k3]; simp), ← len_drop2 h.n3 hr] at n3
  have nd2 : ∀ a x x' : Int, (x, a) ∈ W → (x', a) ∈ W → x = x' := fun a x x' q q' => by
    have hsw : ((W.map Prod.swap).map Prod.fst).Nodup := by
      rw [List.map_map]; exact h.n2
    exact pair_snd (l := W.map Prod.swap) hsw (a := a) (List.mem_map.2 ⟨_, q, rfl⟩) (List.mem_map.2 ⟨_, q', rfl⟩)
  refine ⟨((FrZ.of_only o1 z1).trans (.of_only o2 z2)).trans (.of_only o3 z3), ⟨?_, ⟨_, n1.kept ?_, ?_⟩, ⟨_, n2.kept ?_, ?_⟩, ⟨_, n3, ?_⟩, ?_, ?_, ?_, h.ne, h.zf⟩⟩
  · rw [o3.block _ (by omega) e3 e3, o2.block _ (by omega) e2 e2, o1.block _ l1 e1 e1]; exact h.box
  · rw [o3.block _ (by omega) e5 e5, o2.block _ (by omega) e4 e4]
  · intro c v
    simp only [updG, List.mem_filter]
    by_cases hc : c = m
    · subst hc; simp
    · rw [if_neg hc, s1]; simp [hc]
  · rw [o3.block _ (by omega) e6 e6]
  · intro c v
    simp only [updG, List.mem_filter]
    by_cases hc : c = y
    · subst hc
      constructor
      · intro e; simp at e
      · rintro ⟨x, ⟨hx, hx2⟩, _⟩
        have := nd2 _ _ _ hx hm
        subst this; simp at hx2
    · rw [if_neg hc, s2]
      constructor
      · rintro ⟨x, hx, rfl⟩
        refine ⟨x, ⟨hx, ?_⟩, rfl⟩
        by_cases hxm : x = m
        · subst hxm; exact absurd (pair_snd h.n1 hx hm) hc
        · simp [hxm]
      · rintro ⟨x, ⟨hx, _⟩, rfl⟩; exact ⟨x, hx, rfl⟩
  · intro c
    simp only [updG, List.mem_filter]
    by_cases hc : c = m
    · subst hc; simp
    · rw [if_neg hc, s3]; simp [hc]
  · exact h.n1.sublist (List.filter_sublist.map _)
  · exact h.n2.sublist (List.filter_sublist.map _)
  · exact h.n3.sublist List.filter_sublist
set_option maxHeartbeats 8000000 in
theorem ptake (h : Pq Z w p b1 b2 b3 W R) (hd : anyDue W R = true) : Calls Try.prog 9 #[.pointer (some ⟨p, 0, none⟩)] w (PkPost Z w p b1 b2 b3 W R) := by
  have LT := hid (pleast h)
  have HD := hid hd
  have HQ := hid h
  clear h hd
  go_enter Try.func9, Try.ntmps9
  go_wp2_with fail
  refine (LT.out).mono ?_
  rintro e w2 (⟨rfl, h2, h3⟩ | ⟨m, rfl, h2, hle, h3⟩)
  · exfalso
    obtain ⟨e, he, hr⟩ := List.any_eq_true.1 HD.out
    have := h2 e.1
    rw [dueP, show waitsF W e.1 = true from decide_eq_true (List.mem_map.2 ⟨e, he, rfl⟩), hr] at this
    cases this
  · have hdu := h2
    simp only [dueP, Bool.and_eq_true, decide_eq_true_eq] at hdu
    obtain ⟨y, hy⟩ := waitsF_mem hdu.1
    have F2 := FrZ.of_below (Z := Z) h3
    have Q2 := HQ.out.below h3
    obtain ⟨ga, m1, s1⟩ := Q2.m1
    obtain ⟨gb, m2, s2⟩ := Q2.m2
    obtain ⟨gc, m3, s3⟩ := Q2.m3
    obtain ⟨l1, l2, l3, l4⟩ := Q2.lt
    obtain ⟨e1, e2, e3, e4, e5, e6⟩ := Q2.ne
    have lk := Q2.who_yes hy false
    obtain ⟨wa, ra, na, oa⟩ := m1.del und1 undF 0 m
    have m2a := m2.kept (oa.block _ l3 e4.symm e4.symm)
    obtain ⟨wb, rb, nb, ob⟩ := m2a.del und2 undG 0 y
    have m3a := m3.kept ((ob.block _ (Nat.lt_of_lt_of_le l4 oa.size) e6.symm e6.symm).trans (oa.block _ l4 e5.symm e5.symm))
    obtain ⟨wc, rc, nc, oc⟩ := m3a.del und3 undF 0 m
    have c0 : w2.cell? ⟨p, 0, none⟩ = some (.map (some b1)) := cellx Q2.box rfl
    have boxa := only_blk oa Q2.box e1
    have c1 : wa.cell? ⟨p, 1, none⟩ = some (.map (some b2)) := cellx boxa rfl
    have boxb := only_blk ob boxa e2
    have c2 : wb.cell? ⟨p, 2, none⟩ = some (.map (some b3)) := cellx boxb rfl
    obtain ⟨f, q⟩ := take_pq Q2 hy hdu.2 s1 na oa s2 nb ob s3 nc oc
    have FIN : Hid (PkPost Z w p b1 b2 b3 W R (.returned (.tuple #[.int .u16 m, .int .i64 y, .bool true])) wc) := hid ⟨m, y, rfl, hy, hdu.2, hle, F2.trans f, q⟩
    clear f q boxa boxb m3a nc oc m2a nb ob na oa e1 e2 e3 e4 e5 e6 l1 l2 l3 l4 m1 m2 m3 s1 s2 s3 Q2 F2 hy hdu h2 hle h3 LT
    go_wp2
    go_ret3
    exact FIN.out
end
set_option maxHeartbeats 4000000 in
theorem pnew (w : World) : Calls Try.prog 5 #[] w fun e w' => e = .returned (.pointer (some ⟨w.heap.size + 3, 0, none⟩)) ∧ Pq (fun q => q < w.heap.size) w' (w.heap.size + 3) w.heap.size (w.heap.size + 1) (w.heap.size + 2) [] [] ∧ Below w.heap.size w w' := by
  have mk : ∀ T (w : World), (Instr.makeMap T none).run Try.prog w = .ok (.map (some w.heap.size)) (w.alloc (.map #[] 0)) := fun T w => rfl
  have FIN : Hid (Pq (fun q => q < w.heap.size) ((((w.alloc (.map #[] 0)).alloc (.map #[] 0)).alloc (.map #[] 0)).alloc (.cells #[.map (some w.heap.size), .map (some (w.heap.size + 1)), .map (some (w.heap.size + 2))] 57)) (w.heap.size + 3) w.heap.size (w.heap.size + 1) (w.heap.size + 2) [] []) := by
    have a1 := MapI.new w .u16
    have a2 := MapI.new (w.alloc (.map #[] 0)) .i64
    have a3 := MapI.new ((w.alloc (.map #[] 0)).alloc (.map #[] 0)) .u16
    have a4 := fun o => (Go.MapKept.heap_alloc (((w.alloc (.map #[] 0)).alloc (.map #[] 0)).alloc (.map #[] 0)) o).1
    have a4 := a4 (.cells #[.map (some w.heap.size), .map (some (w.heap.size + 1)), .map (some (w.heap.size + 2))] 57)
    simp only [World.size_alloc] at a2 a3 a4
    have b1 := (((a1.kept (Below.heap_alloc _ (.map #[] 0) _ (by simp only [World.size_alloc]; omega))).kept (Below.heap_alloc _ (.map #[] 0) _ (by simp only [World.size_alloc]; omega))).kept (Below.heap_alloc _ (.cells #[.map (some w.heap.size), .map (some (w.heap.size + 1)), .map (some (w.heap.size + 2))] 57) _ (by simp only [World.size_alloc]; omega)))
    have b2 := ((a2.kept (Below.heap_alloc _ (.map #[] 0) _ (by simp only [World.size_alloc]; omega))).kept (Below.heap_alloc _ (.cells #[.map (some w.heap.size), .map (some (w.heap.size + 1)), .map (some (w.heap.size + 2))] 57) _ (by simp only [World.size_alloc]; omega)))
    have b3 := a3.kept (Below.heap_alloc _ (.cells #[.map (some w.heap.size), .map (some (w.heap.size + 1)), .map (some (w.heap.size + 2))] 57) _ (by simp only [World.size_alloc]; omega))
    exact hid ⟨a4, ⟨_, b1, by simp⟩, ⟨_, b2, by simp⟩, ⟨_, b3, by simp⟩, by simp, by simp, by simp, by omega, by omega⟩
  go_enter Try.func5, Try.ntmps5
  go_wp2
  go_ret
  exact ⟨rfl, FIN.out, ((((bl_al w _).trans ((bl_al _ _).mono (by simp only [World.size_alloc]; omega))).trans ((bl_al _ _).mono (by simp only [World.size_alloc]; omega))).trans ((bl_al _ _).mono (by simp only [World.size_alloc]; omega)))⟩
/-- A new poll, its foreign blocks: what was there. -/
def PnPost (w : World) (e : Ending) (w' : World) : Prop :=
  ∃ Z p b1 b2 b3, e = .returned (.pointer (some ⟨p, 0, none⟩)) ∧ Pq Z w' p b1 b2 b3 [] [] ∧ Below w.heap.size w w' ∧ (∀ q, q < w.heap.size → Z q) ∧ ∀ q, Z q → q < w.heap.size
theorem pnewZ (w : World) : Calls Try.prog 5 #[] w (PnPost w) := (pnew w).mono fun e w' ⟨h1, h2, h3⟩ => ⟨_, _, _, _, _, h1, h2, h3, fun q h => h, fun q h => h⟩
theorem Pq.reZ {Z : Nat → Prop} {w : World} {p b1 b2 b3 : Nat} {W : List (Int × Int)} {R : List Int} (h : Pq Z w p b1 b2 b3 W R) {b : Nat} (hb : w.heap.size ≤ b) : Pq (fun q => Z q ∨ q = b) w p b1 b2 b3 W R := by
  obtain ⟨l1, l2, l3, l4⟩ := h.lt
  obtain ⟨z1, z2, z3, z4⟩ := h.zf
  exact ⟨h.box, h.m1, h.m2, h.m3, h.n1, h.n2, h.n3, h.ne, fun h => h.elim z1 (by omega), fun h => h.elim z2 (by omega), fun h => h.elim z3 (by omega), fun h => h.elim z4 (by omega)⟩
theorem Pq.only {Z : Nat → Prop} {w w' : World} {p b1 b2 b3 : Nat} {W : List (Int × Int)} {R : List Int} (h : Pq Z w p b1 b2 b3 W R) {b : Nat} (o : Only b b w w') (hz : Z b) : Pq Z w' p b1 b2 b3 W R := by
  obtain ⟨l1, l2, l3, l4⟩ := h.lt
  obtain ⟨z1, z2, z3, z4⟩ := h.zf
  have k : ∀ x, ¬ Z x → x < w.heap.size → w'.heap[x]? = w.heap[x]? := fun x hx hl => o.block x hl (fun e => hx (e ▸ hz)) (fun e => hx (e ▸ hz))
  exact h.kept (k _ z1 l1) (k _ z2 l2) (k _ z3 l3) (k _ z4 l4)
end Go.Proofs.Ytcfgkblonnmblaa
