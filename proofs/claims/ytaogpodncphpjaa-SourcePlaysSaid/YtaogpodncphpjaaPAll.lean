/- The deeds of the poll and the document's, each in one contract. -/
import Derived.Test.YtaogpodncphpjaaPW
namespace Go.Proofs.Ytaogpodncphpjaa
set_option linter.unusedVariables false
set_option linter.unusedSimpArgs false
open Go.RowKit
def badP (V : List (Int × Int)) (fd g : Int) : Prop := 0 ≤ rwho V fd ∨ rhasb V g = true
instance (V : List (Int × Int)) (fd g : Int) : Decidable (badP V fd g) := inferInstanceAs (Decidable (_ ∨ _))
def putV (V : List (Int × Int)) (fd g : Int) : List (Int × Int) := if (g < 0 ∨ 4095 < g) ∨ badP V fd g then V else V ++ [(fd, g)]
def putE (V : List (Int × Int)) (fd g : Int) : Int := if g < 0 ∨ 4095 < g then 1 else if badP V fd g then 8 else 0
def markS (S : List Int) (fd : Int) : List Int := if fd ∈ S then S else S ++ [fd]
def dueB (V : List (Int × Int)) (S : List Int) : Bool := V.any fun e => decide (e.1 ∈ S)
def tkP (V : List (Int × Int)) (S : List Int) : Int × Int := if dueB V S then bst S V else (0, 0)
def tkV (V : List (Int × Int)) (S : List Int) : List (Int × Int) := if dueB V S then V.filter (fun e => !(e.1 == (bst S V).1)) else V
def tkS (V : List (Int × Int)) (S : List Int) : List Int := if dueB V S then S.filter (fun a => !(a == (bst S V).1)) else S
theorem rfull_no {V : List (Int × Int)} {S : List Int} (h : V.length + S.length < 1024) (fd : Int) : rfull V S fd = false := by
  have : rlen V S ≤ S.length + V.length := by
    unfold rlen
    have := List.length_filter_le (fun e : Int × Int => !decide (e.1 ∈ S)) V
    omega
  unfold rfull
  rw [decide_eq_false (show ¬ (1024 : Int) ≤ rlen V S by omega), Bool.and_false]
theorem DpPost.re {w : World} {vW vS : Value} {V V' : List (Int × Int)} {S S' : List Int} {er er' : Int} {e : Ending} {w' : World} (h : DpPost w vW vS V S er e w') (h1 : V' = V) (h2 : S' = S) (h3 : er' = er) : DpPost w vW vS V' S' er' e w' := by subst h1; subst h2; subst h3; exact h
theorem rput_all (w : World) (vW vS : Value) (V : List (Int × Int)) (S : List Int) (h : Dp w vW vS V S) (hl : V.length + S.length < 1000) (fd g : Int) :
    Calls Try.prog 46 #[.agg #[vW, vS], .int .i64 fd, .int .i64 g] w (DpPost w vW vS (putV V fd g) S (putE V fd g)) := by
  have hf := rfull_no (V := V) (S := S) (by omega) fd
  by_cases h1 : g < 0
  · exact (put_arg1 w vW vS V S h fd g h1).mono fun e w' hp => hp.re (by unfold putV; rw [if_pos (.inl (.inl h1))]) rfl (by unfold putE; rw [if_pos (.inl h1)])
  · by_cases h2 : 4095 < g
    · exact (put_arg2 w vW vS V S h fd g (by omega) h2).mono fun e w' hp => hp.re (by unfold putV; rw [if_pos (.inl (.inr h2))]) rfl (by unfold putE; rw [if_pos (.inr h2)])
    · by_cases h3 : 0 ≤ rwho V fd
      · exact (put_same1 w vW vS V S h fd g (by omega) (by omega) _ rfl h3).mono fun e w' hp => hp.re (by unfold putV; rw [if_pos (.inr (.inl h3))]) rfl (by unfold putE; rw [if_neg (by omega), if_pos (.inl h3)])
      · rcases h4 : rhasb V g with _ | _
        · have hn : ¬ badP V fd g := fun q => q.elim h3 (fun q => by rw [h4] at q; cases q)
          exact (put_new w vW vS V S h fd g (by omega) (by omega) _ rfl (by omega) h4 hf (by omega)).mono fun e w' hp => hp.re (by unfold putV; rw [if_neg (fun q => q.elim (by omega) hn)]) rfl (by unfold putE; rw [if_neg (by omega), if_neg hn])
        · exact (put_same2 w vW vS V S h fd g (by omega) (by omega) _ rfl (by omega) h4).mono fun e w' hp => hp.re (by unfold putV; rw [if_pos (.inr (.inr h4))]) rfl (by unfold putE; rw [if_neg (by omega), if_pos (.inr h4)])
theorem rmark_all (w : World) (vW vS : Value) (V : List (Int × Int)) (S : List Int) (h : Dp w vW vS V S) (hl : V.length + S.length < 1000) (fd : Int) :
    Calls Try.prog 49 #[.agg #[vW, vS], .int .i64 fd] w (DpPost w vW vS V (markS S fd) 0) := by
  have hf := rfull_no (V := V) (S := S) (by omega) fd
  by_cases h1 : fd ∈ S
  · exact (mark_in w vW vS V S h fd hf (decide_eq_true h1)).mono fun e w' hp => hp.re rfl (by unfold markS; rw [if_pos h1]) rfl
  · exact (mark_new w vW vS V S h fd hf (decide_eq_false h1) (by omega)).mono fun e w' hp => hp.re rfl (by unfold markS; rw [if_neg h1]) rfl
theorem dueB_yes {V : List (Int × Int)} {S : List Int} (h : dueB V S = true) : ∃ e ∈ V, e.1 ∈ S := by
  obtain ⟨e, he, hs⟩ := List.any_eq_true.1 h
  exact ⟨e, he, by simpa using hs⟩
theorem dueB_no {V : List (Int × Int)} {S : List Int} (h : dueB V S = false) : ∀ e ∈ V, e.1 ∉ S := fun e he hs => by
  have := List.any_eq_false.1 h e he
  simp [hs] at this
theorem rtake_all (w : World) (vW vS : Value) (V : List (Int × Int)) (S : List Int) (h : Dp w vW vS V S) (hv : ∀ e ∈ V, 0 ≤ e.1 ∧ e.1 ≤ 65535) (hn : (V.map Prod.fst).Nodup) :
    Calls Try.prog 34 #[.agg #[vW, vS]] w (TpPost w vW vS (tkV V S) (tkS V S) (tkP V S).1 (tkP V S).2 (dueB V S)) := by
  rcases hd : dueB V S with _ | _
  · have := rtake_none w vW vS V S h hv (dueB_no hd)
    unfold tkV tkS tkP
    rw [hd]
    exact this
  · obtain ⟨m, y, h1, h2, h3⟩ := least_due (dueB_yes hd)
    have := rtake_some w vW vS V S h hv hn m y h1 h2 h3
    unfold tkV tkS tkP
    rw [hd, bst_some h2 hn h1 (hv _ h1).2 h3]
    exact this
section
variable {Z : Nat → Prop} {w : World} {p b1 b2 b3 : Nat} {V : List (Int × Int)} {S : List Int}
theorem plen_no (h : V.length + S.length < 1000) (b : Bool) : (b && decide (1024 ≤ plen V.reverse S.reverse)) = false := by
  have : plen V.reverse S.reverse ≤ V.length + S.length := by
    unfold plen
    have := List.length_filter_le (fun a => !waitsF V.reverse a) S.reverse
    simp only [List.length_reverse] at this ⊢
    omega
  rw [decide_eq_false (by omega), Bool.and_false]
theorem pwait_all (h : Pq Z w p b1 b2 b3 V.reverse S.reverse) (hl : V.length + S.length < 1000) (hw : ∀ fd, waitsF V.reverse fd = decide (0 ≤ rwho V fd)) (fd g : Int) :
    Calls Try.prog 47 #[.pointer (some ⟨p, 0, none⟩), .int .u16 fd, .int .i64 g] w fun e w' => e = .returned (.int .i64 (putE V fd g)) ∧ FrZ Z w w' ∧ Pq Z w' p b1 b2 b3 (putV V fd g).reverse S.reverse := by
  have hll : V.reverse.length < 1000000 ∧ S.reverse.length < 1000000 := by simp; omega
  by_cases h1 : g < 0 ∨ 4095 < g
  · refine (pwait_arg (p := p) fd g (by omega) w).mono fun e w' hp => ?_
    obtain ⟨rfl, rfl⟩ := hp
    unfold putE putV
    rw [if_pos h1, if_pos (.inl h1)]
    exact ⟨rfl, FrZ.refl _, h⟩
  · by_cases h2 : badP V fd g
    · refine (pwait_same h fd g (by omega) (by omega) ?_).mono fun e w' hp => ?_
      · rcases h2 with h2 | h2
        · exact .inl (by rw [hw, decide_eq_true h2])
        · exact .inr (by rw [has_rev]; exact h2)
      · obtain ⟨rfl, rfl⟩ := hp
        unfold putE putV
        rw [if_neg h1, if_pos h2, if_pos (.inr h2)]
        exact ⟨rfl, FrZ.refl _, h⟩
    · refine (pwait h hll fd g (by omega) (by omega) (by rw [hw]; exact decide_eq_false (fun q => h2 (.inl q))) (by rw [has_rev]; exact Bool.eq_false_iff.2 fun q => h2 (.inr q)) (plen_no hl _)).mono fun e w' hp => ?_
      obtain ⟨rfl, hf, hq⟩ := hp
      unfold putE putV
      rw [if_neg h1, if_neg h2, if_neg (fun q => q.elim h1 h2), List.reverse_append]
      exact ⟨rfl, hf, hq⟩
theorem addR_rev (S : List Int) (fd : Int) : addR S.reverse fd = (markS S fd).reverse := by
  unfold addR markS
  simp only [List.mem_reverse]
  split <;> simp
theorem pready_all (h : Pq Z w p b1 b2 b3 V.reverse S.reverse) (hl : V.length + S.length < 1000) (fd : Int) :
    Calls Try.prog 50 #[.pointer (some ⟨p, 0, none⟩), .int .u16 fd] w fun e w' => e = .returned (.int .i64 0) ∧ FrZ Z w w' ∧ Pq Z w' p b1 b2 b3 V.reverse (markS S fd).reverse := by
  refine (pready h (by simp; omega) fd (plen_no hl _)).mono fun e w' hp => ?_
  rw [← addR_rev]
  exact hp
theorem ptake_all (h : Pq Z w p b1 b2 b3 V.reverse S.reverse) (hv : ∀ e ∈ V, 0 ≤ e.1 ∧ e.1 ≤ 65535) (hn : (V.map Prod.fst).Nodup) :
    Calls Try.prog 45 #[.pointer (some ⟨p, 0, none⟩)] w fun e w' => e = .returned (.tuple #[.int .u16 (tkP V S).1, .int .i64 (tkP V S).2, .bool (dueB V S)]) ∧ FrZ Z w w' ∧ Pq Z w' p b1 b2 b3 (tkV V S).reverse (tkS V S).reverse := by
  rcases hd : dueB V S with _ | _
  · refine (ptake_none h (by rw [due_rev]; exact hd)).mono fun e w' hp => ?_
    obtain ⟨rfl, hb⟩ := hp
    unfold tkV tkS tkP
    rw [hd]
    exact ⟨rfl, FrZ.of_below hb, h.below hb⟩
  · refine (ptake h (by rw [due_rev]; exact hd)).mono fun e w' hp => ?_
    obtain ⟨m, y, rfl, h1, h2, h3, hf, hq⟩ := hp
    have h1' : (m, y) ∈ V := List.mem_reverse.1 h1
    have h2' : m ∈ S := List.mem_reverse.1 h2
    have hb := bst_some h2' hn h1' (hv _ h1').2 (fun e he hs => h3 e.1 (by
      unfold dueP waitsF
      rw [decide_eq_true (show e.1 ∈ V.reverse.map Prod.fst from List.mem_map.2 ⟨e, List.mem_reverse.2 he, rfl⟩), decide_eq_true (List.mem_reverse.2 hs)]; rfl))
    unfold tkV tkS tkP
    rw [hd, if_pos rfl, if_pos rfl, if_pos rfl, hb]
    rw [List.filter_reverse, List.filter_reverse] at hq
    exact ⟨rfl, hf, hq⟩
end
theorem putV_len (V : List (Int × Int)) (fd g : Int) : (putV V fd g).length ≤ V.length + 1 := by unfold putV; split <;> simp
theorem markS_len (S : List Int) (fd : Int) : (markS S fd).length ≤ S.length + 1 := by unfold markS; split <;> simp
theorem tkV_len (V : List (Int × Int)) (S : List Int) : (tkV V S).length ≤ V.length := by unfold tkV; split <;> simp [List.length_filter_le]
theorem tkS_len (V : List (Int × Int)) (S : List Int) : (tkS V S).length ≤ S.length := by unfold tkS; split <;> simp [List.length_filter_le]
theorem putV_gv {V : List (Int × Int)} {fd g : Int} (h : ∀ e ∈ V, (0 ≤ e.1 ∧ e.1 ≤ 65535) ∧ 0 ≤ e.2 ∧ e.2 < 4096) (h0 : 0 ≤ fd) (h1 : fd ≤ 65535) : ∀ e ∈ putV V fd g, (0 ≤ e.1 ∧ e.1 ≤ 65535) ∧ 0 ≤ e.2 ∧ e.2 < 4096 := by
  unfold putV
  split
  · exact h
  · rename_i hn
    intro e he
    rcases List.mem_append.1 he with he | he
    · exact h e he
    · simp at he
      subst he
      have : ¬ (g < 0 ∨ 4095 < g) := fun q => hn (.inl q)
      exact ⟨⟨h0, h1⟩, by simp only; omega, by simp only; omega⟩
theorem tkV_gv {V : List (Int × Int)} {S : List Int} (h : ∀ e ∈ V, (0 ≤ e.1 ∧ e.1 ≤ 65535) ∧ 0 ≤ e.2 ∧ e.2 < 4096) : ∀ e ∈ tkV V S, (0 ≤ e.1 ∧ e.1 ≤ 65535) ∧ 0 ≤ e.2 ∧ e.2 < 4096 := by
  unfold tkV
  split
  · exact fun e he => h e (List.mem_filter.1 he).1
  · exact h
theorem tkP_range {V : List (Int × Int)} (h : ∀ e ∈ V, (0 ≤ e.1 ∧ e.1 ≤ 65535) ∧ 0 ≤ e.2 ∧ e.2 < 4096) (S : List Int) (hn : (V.map Prod.fst).Nodup) : 0 ≤ (tkP V S).1 ∧ (tkP V S).1 ≤ 65535 := by
  unfold tkP
  rcases hd : dueB V S with _ | _
  · exact ⟨Int.le_refl _, by simp⟩
  · obtain ⟨m, y, h1, h2, h3⟩ := least_due (dueB_yes hd)
    rw [if_pos rfl, bst_some h2 hn h1 (h _ h1).1.2 h3]
    exact (h _ h1).1
end Go.Proofs.Ytaogpodncphpjaa
