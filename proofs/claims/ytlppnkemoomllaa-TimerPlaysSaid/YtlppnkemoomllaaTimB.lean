/- timer.Timers' Next, Due, Take. -/
import Derived.Test.YtlppnkemoomllaaTimA
namespace Go.Proofs.Ytlppnkemoomllaa
set_option linter.unusedVariables false
set_option linter.unusedSimpArgs false
open Go.RowKit Tk
variable {Z : Nat → Prop} {w w' : World} {t hb mb n c : Nat} {hp : Nat → Nat} {v : Nat → Value} {es : Nat → List En} {inn : Int → Bool} {k ad : Nat}

def allE (n : Nat) (es : Nat → List En) : List En := (List.range n).flatMap es
theorem mem_allE {e : En} : e ∈ allE n es ↔ ∃ j, j < n ∧ e ∈ es j := by simp [allE, List.mem_flatMap]
theorem allE_nil (h : ∀ j, j < n → es j = []) : allE n es = [] := by
  rw [List.eq_nil_iff_forall_not_mem]
  intro e he
  obtain ⟨j, hj, h2⟩ := mem_allE.1 he
  rw [h j hj] at h2; cases h2
theorem allE_succ (n : Nat) (es : Nat → List En) : allE (n + 1) es = allE n es ++ es n := by simp [allE, List.range_succ, List.flatMap_append]
theorem allE_congr {es' : Nat → List En} : ∀ n, (∀ j, j < n → es j = es' j) → allE n es = allE n es'
  | 0, _ => rfl
  | n + 1, h => by rw [allE_succ, allE_succ, allE_congr n (fun j hj => h j (by omega)), h n (by omega)]
theorem allE_add {p : Nat} {x : En} {T : List En} (hT : T.Perm (x :: es p)) : ∀ n, p < n → (allE n (updN es p T)).Perm (x :: allE n es)
  | 0, h => by omega
  | n + 1, h => by
    rw [allE_succ, allE_succ]
    rcases Nat.lt_or_ge p n with h1 | h1
    · rw [updN_ne _ _ (by omega)]
      exact ((allE_add hT n h1).append_right _)
    · obtain rfl : p = n := by omega
      rw [updN_same, allE_congr (es := updN es p T) (es' := es) p (fun j hj => updN_ne _ _ (by omega))]
      exact (hT.append_left _).trans List.perm_middle
theorem allE_take {m : Nat} {x : En} {T : List En} (hT : (es m).Perm (x :: T)) (hm : m < n) : (allE n es).Perm (x :: allE n (updN es m T)) := by
  have := allE_add (es := updN es m T) (p := m) (x := x) (T := es m) (by rw [updN_same]; exact hT) n hm
  rwa [show updN (updN es m T) m (es m) = es from funext fun j => by by_cases hj : j = m <;> simp [updN, hj]] at this
theorem insF_sort (x : En) (l : List En) : sortE (x :: l) = insF x (sortE l) := by
  refine ord_unique _ _ ((sortE_perm _).trans (((sortE_perm l).symm.cons x).trans (insF_perm x _).symm)) (sortE_ord _) (insF_ord x _ (sortE_ord l))
theorem sort_min {x : En} {l : List En} (h : ∀ e ∈ l, leE x e) : sortE (x :: l) = x :: sortE l :=
  ord_unique _ _ ((sortE_perm _).trans ((sortE_perm l).symm.cons x)) (sortE_ord _) (List.pairwise_cons.2 ⟨fun y hy => h y ((sortE_perm l).mem_iff.1 hy), sortE_ord l⟩)
theorem ord_le {l : List En} (h : Ord l) {e : En} (he : e ∈ l) : leE (enAt l 0) e := by
  obtain ⟨i, hi, rfl⟩ := List.getElem_of_mem he
  rw [← enAt_get hi]
  exact root_le h i i (Nat.le_refl _) hi
/-- The first one of all is at the head. -/
theorem fsp_head {m : Nat} {x1 x2 x3 : Int} (h : Fsp n es m x1 x2 x3) (ho : ∀ i, i < n → Ord (es i)) : ∃ l, sortE (allE n es) = (x1, x2, x3) :: l := by
  obtain ⟨h1, h2, h3, h4⟩ := h
  have hmem : ((x1, x2, x3) : En) ∈ allE n es := mem_allE.2 ⟨m, h1, by rw [← h3, enAt_get h2]; exact List.getElem_mem h2⟩
  obtain ⟨a, b, hab⟩ := List.append_of_mem hmem
  refine ⟨sortE (a ++ b), ?_⟩
  rw [← sort_min (x := (x1, x2, x3)) (l := a ++ b) ?_]
  · exact sort_perm (by rw [hab]; exact List.perm_middle)
  · intro e he
    have he2 : e ∈ allE n es := by rw [hab]; simp only [List.mem_append, List.mem_cons] at he ⊢; rcases he with he | he <;> simp [he]
    obtain ⟨j, hj, hej⟩ := mem_allE.1 he2
    have hpos : 0 < (es j).length := List.length_pos_of_mem hej
    exact leE_trans (h4 j hj hpos) (ord_le (ho j hj) hej)
theorem fsp_of {x : En} {l : List En} (hs : sortE (allE n es) = x :: l) {m : Nat} {x1 x2 x3 : Int} (h : Fsp n es m x1 x2 x3) (ho : ∀ i, i < n → Ord (es i)) : (x1, x2, x3) = x := by
  obtain ⟨l2, h2⟩ := fsp_head h ho
  rw [hs] at h2
  exact (List.cons.inj h2).1.symm
theorem none_of {x : En} {l : List En} (hs : sortE (allE n es) = x :: l) (h : ∀ j, j < n → es j = []) : False := by
  rw [allE_nil h] at hs
  have := congrArg List.length hs
  rw [sort_len] at this
  simp at this
theorem nil_of (hs : sortE (allE n es) = []) {m : Nat} {x1 x2 x3 : Int} (h : Fsp n es m x1 x2 x3) (ho : ∀ i, i < n → Ord (es i)) : False := by
  obtain ⟨l2, h2⟩ := fsp_head h ho
  rw [hs] at h2; cases h2
set_option maxHeartbeats 4000000 in
theorem tnext_none (h : Tq Z w t hb mb n c hp v es inn k ad) (hs : sortE (allE n es) = []) : Calls Try.prog 13 #[.pointer (some ⟨t, 0, none⟩)] w fun e w' => e = .returned (.tuple #[.int .i64 0, .bool false]) ∧ Below w.heap.size w w' := by
  have F := hid (tfirst h)
  have HO := hid (fun m x1 x2 x3 (q : Fsp n es m x1 x2 x3) => nil_of hs q h.ord)
  clear h hs
  go_enter Try.func13, Try.ntmps13
  go_wp2_with fail
  refine (F.out).mono ?_
  rintro e w2 (⟨rfl, h2, h3⟩ | ⟨m, x1, x2, x3, h2, rfl, h3⟩)
  · have B := hid (h3.trans ((bl_al w2 (.cells #[.int .i64 0, .int .u64 0, .int .i64 0] 37)).mono h3.size))
    clear h2 h3 F HO
    go_wp2
    go_ret2
    exact ⟨rfl, B.out⟩
  · exact (HO.out _ _ _ _ h2).elim
set_option maxHeartbeats 4000000 in
theorem tnext_some (h : Tq Z w t hb mb n c hp v es inn k ad) {x1 x2 x3 : Int} {l : List En} (hs : sortE (allE n es) = (x1, x2, x3) :: l) : Calls Try.prog 13 #[.pointer (some ⟨t, 0, none⟩)] w fun e w' => e = .returned (.tuple #[.int .i64 x1, .bool true]) ∧ Below w.heap.size w w' := by
  have F := hid (tfirst h)
  have HO := hid (fun m y1 y2 y3 (q : Fsp n es m y1 y2 y3) => fsp_of hs q h.ord)
  have HN := hid (fun q => none_of hs q)
  clear h hs
  go_enter Try.func13, Try.ntmps13
  go_wp2_with fail
  refine (F.out).mono ?_
  rintro e w2 (⟨rfl, h2, h3⟩ | ⟨m, y1, y2, y3, h2, rfl, h3⟩)
  · exact (HN.out h2).elim
  · have e := HO.out _ _ _ _ h2
    injection e with e1 e2
    injection e2 with e2 e3
    subst e1 e2 e3
    have B := hid (h3.trans ((bl_al w2 (.cells #[.int .i64 y1, .int .u64 y2, .int .i64 y3] 37)).mono h3.size))
    clear h2 h3 F HO HN
    go_wp2
    go_ret2
    exact ⟨rfl, B.out⟩
set_option maxHeartbeats 4000000 in
theorem tdue_none (h : Tq Z w t hb mb n c hp v es inn k ad) (hs : sortE (allE n es) = []) (x : Int) : Calls Try.prog 17 #[.pointer (some ⟨t, 0, none⟩), .int .i64 x] w fun e w' => e = .returned (.bool false) ∧ Below w.heap.size w w' := by
  have F := hid (tnext_none h hs)
  clear h hs
  go_enter Try.func17, Try.ntmps17
  go_wp2_with fail
  refine (F.out).mono ?_
  rintro e w2 ⟨rfl, h3⟩
  have B := hid h3
  clear h3 F
  go_wp2
  go_ret
  exact ⟨rfl, B.out⟩
set_option maxHeartbeats 4000000 in
theorem tdue_some (h : Tq Z w t hb mb n c hp v es inn k ad) {x1 x2 x3 : Int} {l : List En} (hs : sortE (allE n es) = (x1, x2, x3) :: l) (x : Int) (r : Bool) (hr : decide (x1 ≤ x) = r) : Calls Try.prog 17 #[.pointer (some ⟨t, 0, none⟩), .int .i64 x] w fun e w' => e = .returned (.bool r) ∧ Below w.heap.size w w' := by
  have F := hid (tnext_some h hs)
  clear h hs
  go_enter Try.func17, Try.ntmps17
  go_wp2_with fail
  refine (F.out).mono ?_
  rintro e w2 ⟨rfl, h3⟩
  have B := hid h3
  clear h3 F
  go_wp2
  go_ret
  exact ⟨rfl, B.out⟩
end Go.Proofs.Ytlppnkemoomllaa
