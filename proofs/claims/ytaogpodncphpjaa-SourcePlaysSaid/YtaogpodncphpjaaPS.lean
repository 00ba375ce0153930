/- The source beside the document's: what stands, what is read, each deed in the document's words. -/
import Derived.Test.YtaogpodncphpjaaSrcT
import Derived.Test.YtaogpodncphpjaaSrcP
import Derived.Test.YtaogpodncphpjaaRef12H
namespace Go.Proofs.Ytaogpodncphpjaa
set_option linter.unusedVariables false
set_option linter.unusedSimpArgs false
open Go.RowKit
theorem fe_perm (D : List Tr) : (firstE D).Perm (D.map Prod.snd) := sortE_perm _
theorem fe_has (D : List Tr) (g : Int) : hasG (firstE D) g = thasb D g := by
  have e := ((fe_perm D).map fun e => e.2.2).mem_iff (a := g)
  rw [List.map_map] at e
  simp only [hasG, thasb]
  exact decide_eq_decide.2 e
theorem fe_len (D : List Tr) : (firstE D).length = D.length := by rw [(fe_perm D).length_eq]; simp
theorem fe_add (D : List Tr) (p x o g : Int) : insF (x, o, g) (firstE D) = firstE (D ++ [(p, x, o, g)]) := by
  unfold firstE
  rw [List.map_append, List.map_cons, List.map_nil, sort_snoc]
theorem fe_take {D : List Tr} {y : En} {l : List En} (h : firstE D = y :: l) (hn : ((y :: l).map fun e => e.2.2).Nodup) : firstE (butE y D) = l := by
  have hnd := nodup_of_map hn
  have hyl : y ∉ l := (List.nodup_cons.1 hnd).1
  have hs : (y :: l).Pairwise leE := by rw [← h]; exact sortE_ord _
  have p1 : ((butE y D).map Prod.snd).Perm l := by
    rw [butE_snd]
    refine ((h ▸ fe_perm D : (y :: l).Perm (D.map Prod.snd)).symm.filter _).trans ?_
    rw [List.filter_cons, if_neg (by simp), filter_ne_self hyl]
  exact ord_unique _ _ ((sortE_perm _).trans p1) (sortE_ord _) (List.pairwise_cons.1 hs).2
/-- The program's source holds what the document's has. -/
structure PS (Z : Nat → Prop) (w : World) (s t p b1 b2 b3 n : Nat) (now : Int) (o : Nat) (D : List Tr) (V : List (Int × Int)) (S : List Int) : Prop where
  sq : ∃ es, Sq Z w s t p b1 b2 b3 n now es (firstE D) o V.reverse S.reverse
  gd : ∀ x ∈ D, 0 ≤ x.2.2.2 ∧ x.2.2.2 < 4096
  gv : ∀ e ∈ V, (0 ≤ e.1 ∧ e.1 ≤ 65535) ∧ 0 ≤ e.2 ∧ e.2 < 4096
section
variable {Z : Nat → Prop} {w w' : World} {s t p b1 b2 b3 n : Nat} {now : Int} {o : Nat} {D : List Tr} {V : List (Int × Int)} {S : List Int}
theorem PS.below (h : PS Z w s t p b1 b2 b3 n now o D V S) (hb : Below w.heap.size w w') : PS Z w' s t p b1 b2 b3 n now o D V S := by
  obtain ⟨es, q⟩ := h.sq
  exact ⟨⟨es, q.below hb⟩, h.gd, h.gv⟩
theorem PS.due (now : Int) (D : List Tr) (V : List (Int × Int)) (S : List Int) : dueS now (firstE D) V.reverse S.reverse = due12 now D V S := by
  unfold dueS due12 dueT dueB
  rw [due_rev]
theorem PS.nd (h : PS Z w s t p b1 b2 b3 n now o D V S) : (V.map Prod.fst).Nodup := by
  obtain ⟨es, q⟩ := h.sq
  have h1 := q.pq.n1
  rw [List.map_reverse] at h1
  exact nodup_rev h1
theorem PS.who (h : PS Z w s t p b1 b2 b3 n now o D V S) (fd : Int) : waitsF V.reverse fd = decide (0 ≤ rwho V fd) := by
  by_cases hm : fd ∈ V.map Prod.fst
  · obtain ⟨⟨x, y⟩, he, rfl⟩ := List.mem_map.1 hm
    rw [rwho_mem h.nd he, decide_eq_true (h.gv _ he).2.1]
    simp only [waitsF, List.map_reverse, List.mem_reverse]
    exact decide_eq_true hm
  · rw [rwho_no hm, decide_eq_false (by omega)]
    simp only [waitsF, List.map_reverse, List.mem_reverse]
    exact decide_eq_false hm
theorem PS.thas (h : PS Z w s t p b1 b2 b3 n now o D V S) {g : Int} (hg : thasb D g = true) : 0 ≤ g ∧ g < 4096 := by
  obtain ⟨x, hx, rfl⟩ := List.mem_map.1 (of_decide_eq_true hg)
  exact h.gd x hx
theorem PS.rhas (h : PS Z w s t p b1 b2 b3 n now o D V S) {g : Int} (hg : rhasb V g = true) : 0 ≤ g ∧ g < 4096 := by
  obtain ⟨x, hx, rfl⟩ := List.mem_map.1 (of_decide_eq_true hg)
  exact (h.gv x hx).2
/-- What reads. -/
theorem ps_now (h : PS Z w s t p b1 b2 b3 n now o D V S) : Calls Try.prog 8 #[.pointer (some ⟨s, 0, none⟩)] w fun e w' => e = .returned (.int .i64 now) ∧ Below w.heap.size w w' := by
  obtain ⟨es, q⟩ := h.sq
  exact (snow q).mono fun e w' ⟨h1, h2⟩ => ⟨h1, h2 ▸ Below.refl _ _⟩
theorem ps_due (h : PS Z w s t p b1 b2 b3 n now o D V S) (r : Bool) (hr : due12 now D V S = r) : Calls Try.prog 9 #[.pointer (some ⟨s, 0, none⟩)] w fun e w' => e = .returned (.bool r) ∧ Below w.heap.size w w' := by
  obtain ⟨es, q⟩ := h.sq
  exact sdue q r (by rw [PS.due]; exact hr)
theorem ps_len (h : PS Z w s t p b1 b2 b3 n now o D V S) (hl : D.length < 1000 ∧ V.length < 1000) (m : Nat) (hm : D.length + V.length = m) : Calls Try.prog 11 #[.pointer (some ⟨s, 0, none⟩)] w fun e w' => e = .returned (.int .i64 m) ∧ Below w.heap.size w w' := by
  obtain ⟨es, q⟩ := h.sq
  exact slen q (by rw [fe_len]; simp; omega) m (by rw [fe_len]; simp; omega)
theorem ps_out (h : PS Z w s t p b1 b2 b3 n now o D V S) (g : Int) (r : Bool) (hr : (thasb D g || rhasb V g) = r) : Calls Try.prog 13 #[.pointer (some ⟨s, 0, none⟩), .int .i64 g] w fun e w' => e = .returned (.bool r) ∧ Below w.heap.size w w' := by
  obtain ⟨es, q⟩ := h.sq
  exact (sout q g r (by rw [fe_has, has_rev]; exact hr)).mono fun e w' ⟨h1, h2⟩ => ⟨h1, h2 ▸ Below.refl _ _⟩
theorem ps_next (h : PS Z w s t p b1 b2 b3 n now o D V S) : Calls Try.prog 15 #[.pointer (some ⟨s, 0, none⟩)] w fun e w' => e = .returned (.tuple #[.int .i64 (nextT D), .bool (decide (0 < D.length))]) ∧ Below w.heap.size w w' := by
  obtain ⟨es, q⟩ := h.sq
  have hl := fe_len D
  unfold nextT
  rcases hf : firstE D with _ | ⟨⟨x1, x2, x3⟩, l⟩
  · rw [hf] at q hl
    have : decide (0 < D.length) = false := decide_eq_false (by simp at hl; omega)
    rw [this]
    exact snext0 q
  · rw [hf] at q hl
    have : decide (0 < D.length) = true := decide_eq_true (by simp at hl; omega)
    rw [this]
    exact snext q
/-- A deed's outcome: what is foreign stands, the source holds what is said. -/
def PO (Z : Nat → Prop) (w0 : World) (s t p b1 b2 b3 n : Nat) (now : Int) (o : Nat) (D : List Tr) (V : List (Int × Int)) (S : List Int) (v : Value) (e : Ending) (w' : World) : Prop := e = .returned v ∧ FrZ Z w0 w' ∧ PS Z w' s t p b1 b2 b3 n now o D V S
theorem PO.same (h : PS Z w s t p b1 b2 b3 n now o D V S) {v : Value} {e : Ending} (he : e = .returned v) (hb : Below w.heap.size w w') : PO Z w s t p b1 b2 b3 n now o D V S v e w' := ⟨he, FrZ.of_below hb, h.below hb⟩
theorem PO.re {o' : Nat} {D' : List Tr} {V' : List (Int × Int)} {S' : List Int} {v v' : Value} {e : Ending} (h : PO Z w s t p b1 b2 b3 n now o D V S v e w') (h1 : o' = o) (h2 : D' = D) (h3 : V' = V) (h4 : S' = S) (h5 : v' = v) : PO Z w s t p b1 b2 b3 n now o' D' V' S' v' e w' := by subst h1; subst h2; subst h3; subst h4; subst h5; exact h
theorem ps_tick (h : PS Z w s t p b1 b2 b3 n now o D V S) (d : Int) (hd : inI d) : Calls Try.prog 17 #[.pointer (some ⟨s, 0, none⟩), .int .i64 d] w (PO Z w s t p b1 b2 b3 n (sat now (max d 0)) o D V S (.bool (due12 (sat now (max d 0)) D V S))) := by
  obtain ⟨es, q⟩ := h.sq
  refine (stick q d hd _ (PS.due _ D V S)).mono ?_
  rintro e w' ⟨rfl, f, q'⟩
  exact ⟨rfl, f, ⟨es, q'⟩, h.gd, h.gv⟩
theorem ps_ready (h : PS Z w s t p b1 b2 b3 n now o D V S) (hl : V.length + S.length < 1000) (fd : Int) : Calls Try.prog 26 #[.pointer (some ⟨s, 0, none⟩), .int .u16 fd] w (PO Z w s t p b1 b2 b3 n now o D V (markS S fd) (.tuple #[.bool (due12 now D V (markS S fd)), .int .i64 0])) := by
  obtain ⟨es, q⟩ := h.sq
  refine (readyP q (by simp; omega) fd).mono ?_
  rw [addR_rev, PS.due]
  rintro e w' ⟨rfl, f, q'⟩
  exact ⟨rfl, f, ⟨es, q'⟩, h.gd, h.gv⟩
theorem ps_sleep (h : PS Z w s t p b1 b2 b3 n now o D V S) (hl : D.length < 1000) (ho : o < 1000000) (q g d : Int) (hd : inI d) :
    Calls Try.prog 16 #[.pointer (some ⟨s, 0, none⟩), .int .i64 q, .int .i64 g, .int .i64 d] w (PO Z w s t p b1 b2 b3 n now (slO n D V q g o) (slD n D V q g (sat now (max d 0)) o) V S (.tuple #[.bool (slB n now D V S q g (sat now (max d 0)) o), .int .i64 (slE n D V q g)])) := by
  obtain ⟨es, hq⟩ := h.sq
  have err : ∀ c : Int, c ≠ 0 → slE n D V q g = c → (Calls Try.prog 16 #[.pointer (some ⟨s, 0, none⟩), .int .i64 q, .int .i64 g, .int .i64 d] w fun e w' => e = .returned (.tuple #[.bool false, .int .i64 c]) ∧ Below w.heap.size w w') → Calls Try.prog 16 #[.pointer (some ⟨s, 0, none⟩), .int .i64 q, .int .i64 g, .int .i64 d] w (PO Z w s t p b1 b2 b3 n now (slO n D V q g o) (slD n D V q g (sat now (max d 0)) o) V S (.tuple #[.bool (slB n now D V S q g (sat now (max d 0)) o), .int .i64 (slE n D V q g)])) := by
    intro c hc he hcall
    refine hcall.mono fun e w' hh => (PO.same h hh.1 hh.2).re ?_ ?_ rfl rfl ?_
    · unfold slO; rw [if_neg (by omega)]
    · unfold slD; rw [if_neg (by omega)]
    · unfold slB; rw [if_neg (by omega), he]
  by_cases hr : q < 0 ∨ (n : Int) ≤ q
  · refine err 1 (by decide) (if_pos (by omega)) (ssleep_err hq q g d hd (fun _ => hr) 1 (by decide) (fun y hy x => te_arg (hq.te.below hy) q g x (by omega)))
  · rcases hw : rhasb V g with _ | _
    · have hw' : waitsG V.reverse g = false := by rw [has_rev]; exact hw
      by_cases hg : 0 ≤ g ∧ g < 4096
      · rcases hh : thasb D g with _ | _
        · have hh' : hasG (firstE D) g = false := by rw [fe_has]; exact hh
          have e1 : slE n D V q g = 0 := by unfold slE; rw [if_neg (by omega), if_neg (by rw [hh, hw]; simp)]
          have e2 : slD n D V q g (sat now (max d 0)) o = D ++ [(q, sat now (max d 0), (o : Int), g)] := by unfold slD; rw [if_pos e1]
          refine (ssleep hq q g d (by omega) (by omega) hg.1 hg.2 hd hh' hw' (by rw [fe_len]; omega) ho (due12 now (D ++ [(q, sat now (max d 0), (o : Int), g)]) V S) (by rw [fe_add D q, PS.due])).mono ?_
          rintro e w' ⟨rfl, es', f, q'⟩
          rw [fe_add D q] at q'
          have e3 : slO n D V q g o = o + 1 := by unfold slO; rw [if_pos e1]
          have e4 : slB n now D V S q g (sat now (max d 0)) o = due12 now (D ++ [(q, sat now (max d 0), (o : Int), g)]) V S := by unfold slB; rw [if_pos e1, e2]
          rw [e1, e2, e3, e4]
          refine ⟨rfl, f, ⟨es', q'⟩, fun x hx => ?_, h.gv⟩
          rcases List.mem_append.1 hx with hx | hx
          · exact h.gd x hx
          · simp at hx; subst hx; exact hg
        · exact err 8 (by decide) (by unfold slE; rw [if_neg (by omega), if_pos (by rw [hh]; rfl)]) (ssleep_err hq q g d hd (fun e => by rw [hw'] at e; cases e) 8 (by decide) (fun y hy x => te_sameI (hq.te.below hy) q g (by omega) (by omega) hg.1 hg.2 x (by rw [fe_has]; exact hh)))
      · exact err 1 (by decide) (if_pos (by omega)) (ssleep_err hq q g d hd (fun e => by rw [hw'] at e; cases e) 1 (by decide) (fun y hy x => te_arg (hq.te.below hy) q g x (by omega)))
    · have hg := h.rhas hw
      exact err 8 (by decide) (by unfold slE; rw [if_neg (by omega), if_pos (by rw [hw]; simp)]) (ssleep_waits hq q g d (by omega) (by omega) (by rw [has_rev]; exact hw))
theorem ps_wait (h : PS Z w s t p b1 b2 b3 n now o D V S) (hl : V.length + S.length < 1000) (fd g : Int) (hf : 0 ≤ fd ∧ fd ≤ 65535) :
    Calls Try.prog 23 #[.pointer (some ⟨s, 0, none⟩), .int .u16 fd, .int .i64 g] w (PO Z w s t p b1 b2 b3 n now o D (weV D V fd g) S (.tuple #[.bool (weB now D V S fd g), .int .i64 (weE D V fd g)])) := by
  obtain ⟨es, hq⟩ := h.sq
  have err : ∀ c : Int, c ≠ 0 → weE D V fd g = c → (Calls Try.prog 23 #[.pointer (some ⟨s, 0, none⟩), .int .u16 fd, .int .i64 g] w fun e w' => e = .returned (.tuple #[.bool false, .int .i64 c]) ∧ Below w.heap.size w w') → Calls Try.prog 23 #[.pointer (some ⟨s, 0, none⟩), .int .u16 fd, .int .i64 g] w (PO Z w s t p b1 b2 b3 n now o D (weV D V fd g) S (.tuple #[.bool (weB now D V S fd g), .int .i64 (weE D V fd g)])) := by
    intro c hc he hcall
    refine hcall.mono fun e w' hh => (PO.same h hh.1 hh.2).re rfl rfl ?_ rfl ?_
    · unfold weV; rw [if_neg (by omega)]
    · unfold weB; rw [if_neg (by omega), he]
  rcases hh : thasb D g with _ | _
  · have hh' : hasG (firstE D) g = false := by rw [fe_has]; exact hh
    by_cases hg : g < 0 ∨ 4095 < g
    · refine err 1 (by decide) (if_pos hg) (swait_err hq fd g hh' 1 (by decide) ((pwait_arg fd g (by omega) w).mono ?_))
      rintro e w' ⟨rfl, rfl⟩; exact ⟨rfl, Below.refl _ _⟩
    · by_cases hb : waitsF V.reverse fd = true ∨ waitsG V.reverse g = true
      · have hE : weE D V fd g = 8 := by
          unfold weE
          rw [if_neg hg, hh, Bool.false_or]
          split
          · rfl
          · unfold putE
            rw [if_neg hg, if_pos]
            rcases hb with hb | hb
            · rw [h.who] at hb; exact .inl (of_decide_eq_true hb)
            · rw [has_rev] at hb; exact .inr hb
        refine err 8 (by decide) hE (swait_err hq fd g hh' 8 (by decide) ((pwait_same hq.pq fd g (by omega) (by omega) hb).mono ?_))
        rintro e w' ⟨rfl, rfl⟩; exact ⟨rfl, Below.refl _ _⟩
      · have hwf : waitsF V.reverse fd = false := Bool.eq_false_iff.2 fun h => hb (.inl h)
        have hwg : waitsG V.reverse g = false := Bool.eq_false_iff.2 fun h => hb (.inr h)
        have hw2 : rhasb V g = false := by rw [← has_rev]; exact hwg
        have hn : ¬ badP V fd g := fun q => q.elim (fun q => by rw [h.who, decide_eq_true q] at hwf; cases hwf) (fun q => by rw [hw2] at q; cases q)
        have hP : putE V fd g = 0 := by unfold putE; rw [if_neg hg, if_neg hn]
        have hV : putV V fd g = V ++ [(fd, g)] := by unfold putV; rw [if_neg (fun q => q.elim hg hn)]
        have hE : weE D V fd g = 0 := by unfold weE; rw [if_neg hg, if_neg (by rw [hh, hw2]; simp), hP]
        have hW : weV D V fd g = V ++ [(fd, g)] := by unfold weV; rw [if_pos hE, hV]
        have hB : weB now D V S fd g = due12 now D (V ++ [(fd, g)]) S := by unfold weB; rw [if_pos hE, hW]
        have hR : (V ++ [(fd, g)]).reverse = (fd, g) :: V.reverse := by simp
        rw [hE, hW, hB]
        refine (swait hq (by simp; omega) fd g (by omega) (by omega) hwf hwg hh' (by rw [not_full (by simp; omega)]) (due12 now D (V ++ [(fd, g)]) S) (by rw [← hR, PS.due])).mono ?_
        rintro e w' ⟨rfl, f, q'⟩
        rw [← hR] at q'
        refine ⟨rfl, f, ⟨es, q'⟩, h.gd, fun x hx => ?_⟩
        rcases List.mem_append.1 hx with hx | hx
        · exact h.gv x hx
        · simp at hx; subst hx; exact ⟨hf, by simp only; omega, by simp only; omega⟩
  · have hg := h.thas hh
    exact err 8 (by decide) (by unfold weE; rw [if_neg (by omega), if_pos (by rw [hh]; rfl)]) (swait_has hq fd g (by rw [fe_has]; exact hh))
theorem ps_take_t (h : PS Z w s t p b1 b2 b3 n now o D V S) (hd : dueT D now = true) :
    Calls Try.prog 18 #[.pointer (some ⟨s, 0, none⟩)] w (PO Z w s t p b1 b2 b3 n now o (tkD D now) V S (.tuple #[.int .i64 (tkE D now).2.2, .bool true])) := by
  obtain ⟨es, hq⟩ := h.sq
  have hd' := hd
  unfold dueT dueL at hd
  rcases hf : firstE D with _ | ⟨⟨x1, x2, x3⟩, l⟩
  · rw [hf] at hd; cases hd
  · rw [hf] at hd hq
    have hx : x1 ≤ now := of_decide_eq_true hd
    have e1 : tkE D now = (x1, x2, x3) := by unfold tkE; rw [hf]; simp [hx]
    have e2 : tkD D now = butE (x1, x2, x3) D := by unfold tkD; rw [hd', e1]; rfl
    rw [e1, e2]
    have e3 := fe_take hf hq.te.2.2
    refine (stake_t hq hx).mono ?_
    rintro e w' ⟨rfl, es', f, q'⟩
    rw [← e3] at q'
    exact ⟨rfl, f, ⟨es', q'⟩, fun x hx => h.gd x (List.mem_filter.1 hx).1, h.gv⟩
theorem ps_take_p (h : PS Z w s t p b1 b2 b3 n now o D V S) (hl : V.length < 1000) (hd : dueT D now = false) :
    Calls Try.prog 18 #[.pointer (some ⟨s, 0, none⟩)] w (PO Z w s t p b1 b2 b3 n now o D (tkV V S) (tkS V S) (.tuple #[.int .i64 (tkP V S).2, .bool (dueB V S)])) := by
  obtain ⟨es, hq⟩ := h.sq
  rcases hb : dueB V S with _ | _
  · have e1 : tkV V S = V := by unfold tkV; rw [hb]; rfl
    have e2 : tkS V S = S := by unfold tkS; rw [hb]; rfl
    have e3 : tkP V S = (0, 0) := by unfold tkP; rw [hb]; rfl
    rw [e1, e2, e3]
    exact (stake_n hq hd (by rw [due_rev]; exact hb)).mono fun e w' hh => PO.same h hh.1 hh.2
  · refine (stake_p hq hd (by rw [due_rev]; exact hb) (by simp; omega)).mono ?_
    rintro e w' ⟨m, y, rfl, h1, h2, h3, f, q'⟩
    have h1' : (m, y) ∈ V := List.mem_reverse.1 h1
    have h2' : m ∈ S := List.mem_reverse.1 h2
    have hbs := bst_some h2' h.nd h1' (h.gv _ h1').1.2 (fun e he hs => h3 e.1 (by
      unfold dueP waitsF
      rw [decide_eq_true (show e.1 ∈ V.reverse.map Prod.fst from List.mem_map.2 ⟨e, List.mem_reverse.2 he, rfl⟩), decide_eq_true (List.mem_reverse.2 hs)]; rfl))
    have e1 : tkV V S = V.filter (fun e => !(e.1 == m)) := by unfold tkV; rw [hb, if_pos rfl, hbs]
    have e2 : tkS V S = S.filter (fun a => !(a == m)) := by unfold tkS; rw [hb, if_pos rfl, hbs]
    have e3 : tkP V S = (m, y) := by unfold tkP; rw [hb, if_pos rfl, hbs]
    rw [List.filter_reverse, List.filter_reverse, ← e1, ← e2] at q'
    rw [e3]
    exact ⟨rfl, f, ⟨es, q'⟩, h.gd, tkV_gv h.gv⟩
end
end Go.Proofs.Ytaogpodncphpjaa
