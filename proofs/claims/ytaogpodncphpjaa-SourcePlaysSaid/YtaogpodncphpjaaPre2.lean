/- What other texts are built of: TimA, TimB, TimC, TimN, TimE, TimZ, RngI, MapK, MapKI, Poll, PollR, PollW, PollX, Src, RdT, Ref10A, Ref10B, Big, Ref10C, HandT, Ref10E. -/
import Derived.Test.YtaogpodncphpjaaPre1
import Derived.Deep.AppendLies
import Derived.Maps.RangeRun
import Derived.MapKept
import Derived.Deep.RegionWith
import Derived.OwnWalk
import Derived.Laws.AppendOwnNone
import Derived.Deep.WholeRow
import Derived.Laws.Rows
import Derived.BigFrame
import Derived.Maps.AppendAt
/-! timer.Timers' methods that write: what Add leaves; Next, Due. -/
namespace Go.Proofs.Ytaogpodncphpjaa
set_option linter.unusedVariables false
set_option linter.unusedSimpArgs false
open Go.RowKit Tk
variable {Z : Nat → Prop} {w w' : World} {t hb mb n c : Nat} {hp : Nat → Nat} {v : Nat → Value} {es : Nat → List En} {inn : Int → Bool} {k ad : Nat}

theorem put_perm {es : List En} (x : En) : (riseF es.length (es ++ [x]) es.length).Perm (x :: es) := by
  rw [List.perm_iff_count]
  intro a
  rw [put_count, List.count_cons]
  by_cases h : a = x
  · subst h; simp
  · have : ¬ x = a := fun e => h e.symm
    simp [h, this]
set_option maxHeartbeats 4000000 in
/-- What isn't there has no timer. -/
theorem tadd_arg (h : Tq Z w t hb mb n c hp v es inn k ad) (p g x : Int) (hbad : p < 0 ∨ (n : Int) ≤ p ∨ g < 0 ∨ 4096 ≤ g) : Calls Try.prog 41 #[.pointer (some ⟨t, 0, none⟩), .int .i64 p, .int .i64 g, .int .i64 x] w fun e w' => e = .returned (.int .i64 1) ∧ w' = w := by
  have c0 : w.cell? ⟨t, 0, none⟩ = some (.slice (some ⟨hb, 0, none⟩) n c) := cell_ent h.box rfl
  have hcc := h.hc
  unfold maxLen at hcc
  clear h
  by_cases h1 : p < 0
  · have d1 : decide (p < 0) = true := decide_eq_true h1
    go_enter Try.func41, Try.ntmps41
    go_wp2
    go_ret
    exact ⟨rfl, rfl⟩
  have d1 : decide (p < 0) = false := decide_eq_false h1
  by_cases h2 : (n : Int) ≤ p
  · have d2 : decide ((n : Int) ≤ p) = true := decide_eq_true h2
    go_enter Try.func41, Try.ntmps41
    go_wp2
    go_ret
    exact ⟨rfl, rfl⟩
  have d2 : decide ((n : Int) ≤ p) = false := decide_eq_false h2
  by_cases h3 : g < 0
  · have d3 : decide (g < 0) = true := decide_eq_true h3
    go_enter Try.func41, Try.ntmps41
    go_wp2
    go_ret
    exact ⟨rfl, rfl⟩
  have d3 : decide (g < 0) = false := decide_eq_false h3
  have h4 : 4096 ≤ g := by omega
  have d4 : decide (4096 ≤ g) = true := decide_eq_true h4
  go_enter Try.func41, Try.ntmps41
  go_wp2
  go_ret
  exact ⟨rfl, rfl⟩
set_option maxHeartbeats 4000000 in
theorem tadd_same (h : Tq Z w t hb mb n c hp v es inn k ad) (p g : Nat) (hpn : p < n) (hg : g < 4096) (x : Int) (hi : inn g = true) : Calls Try.prog 41 #[.pointer (some ⟨t, 0, none⟩), .int .i64 p, .int .i64 g, .int .i64 x] w fun e w' => e = .returned (.int .i64 8) ∧ w' = w := by
  have c0 : w.cell? ⟨t, 0, none⟩ = some (.slice (some ⟨hb, 0, none⟩) n c) := cell_ent h.box rfl
  have HAS := thas h g
  rw [hi] at HAS
  have HS := hid HAS
  have hcc := h.hc
  unfold maxLen at hcc
  have d1 : decide ((p : Int) < 0) = false := decide_eq_false (by omega)
  have d2 : decide ((n : Int) ≤ p) = false := decide_eq_false (by omega)
  have d3 : decide ((g : Int) < 0) = false := decide_eq_false (by omega)
  have d4 : decide (4096 ≤ (g : Int)) = false := decide_eq_false (by omega)
  clear h HAS hi
  go_enter Try.func41, Try.ntmps41
  go_wp2_with fail
  refine (HS.out).mono ?_
  rintro e w2 ⟨rfl, rfl⟩
  go_wp2
  go_ret
  exact ⟨rfl, rfl⟩
/-- A timer more. -/
def AdPost (Z : Nat → Prop) (w : World) (t hb mb n c : Nat) (hp : Nat → Nat) (v : Nat → Value) (es : Nat → List En) (inn : Int → Bool) (k ad p g : Nat) (x : Int) (w' : World) : Prop :=
  FrZ Z w w' ∧ ∃ v' T, T.Perm ((x, (ad : Int), (g : Int)) :: es p) ∧ Tq Z w' t hb mb n c hp (updN v p v') (updN es p T) (updI inn g true) (k + 1) (ad + 1)
set_option maxHeartbeats 8000000 in
theorem tadd (h : Tq Z w t hb mb n c hp v es inn k ad) (hz : ∀ q, Z q → q < w.heap.size) (p g : Nat) (hpn : p < n) (hg : g < 4096) (x : Int) (hi : inn g = false) (hl : (es p).length < 100000) (had : ad < 1000000) :
    Calls Try.prog 41 #[.pointer (some ⟨t, 0, none⟩), .int .i64 p, .int .i64 g, .int .i64 x] w fun e w' => e = .returned (.int .i64 0) ∧ AdPost Z w t hb mb n c hp v es inn k ad p g x w' := by
  have TQ := hid h
  have c0 : w.cell? ⟨t, 0, none⟩ = some (.slice (some ⟨hb, 0, none⟩) n c) := cell_ent h.box rfl
  have c0' : w.drew.cell? ⟨t, 0, none⟩ = some (.slice (some ⟨hb, 0, none⟩) n c) := cell_ent h.box rfl
  have c2 : w.cell? ⟨t, 2, none⟩ = some (.int .u64 ad) := cell_ent h.box rfl
  have c2' : w.drew.cell? ⟨t, 2, none⟩ = some (.int .u64 ad) := cell_ent h.box rfl
  have HAS := thas h g
  rw [hi] at HAS
  have HS := hid HAS
  have hcc := h.hc
  unfold maxLen at hcc
  have d1 : decide ((p : Int) < 0) = false := decide_eq_false (by omega)
  have d2 : decide ((n : Int) ≤ p) = false := decide_eq_false (by omega)
  have d3 : decide ((g : Int) < 0) = false := decide_eq_false (by omega)
  have d4 : decide (4096 ≤ (g : Int)) = false := decide_eq_false (by omega)
  have hdr := h.below (bl_drw w w.heap.size)
  have r0 := h.row.2 p hpn
  have r0' := hdr.row.2 p hpn
  obtain ⟨a, ha⟩ : ∃ a, a = hp p := ⟨_, rfl⟩
  have HA := hid ha
  rw [← ha] at r0 r0'
  have PU := hid (put_sep w.drew 0 a (v p) (es p) x ad g (by rw [ha]; exact hdr.he p hpn) (Nat.zero_le _) hl)
  have NX := hid (fun (w2 : World) (v' : Value) (hH : Hp w2 0 a v' (riseF (es p).length (es p ++ [(x, (ad : Int), (g : Int))]) (es p).length)) (ho : OnlyV a 0 w.drew w2) (hq : OnlyQ a (v p) w.drew w2) (hn : ∀ q, v'.ownBlock = some q → (v p).ownBlock = some q ∨ w.drew.heap.size ≤ q) =>
    (show Tq Z w2 t hb mb n c hp (updN v p v') (updN es p (riseF (es p).length (es p ++ [(x, (ad : Int), (g : Int))]) (es p).length)) inn k ad ∧ FrZ Z w w2 from
      ⟨hdr.up hpn (by rw [← ha]; exact hH) (put_ord (h.ord p hpn) _) (by rw [← ha]; exact hq) hn (fun q hq' => hz q hq'), (FrZ.of_below (bl_drw w w.heap.size)).trans (.of_q hdr hpn (by rw [← ha]; exact hq) ⟨ho.os, ho.tape, ho.output⟩)⟩))
  have HI := hid hi
  have W1 : IntKind.u64.wrap ((ad : Int) + 1) = (ad : Int) + 1 := by
    have hb : IntKind.u64.bits = 64 := rfl
    simp [IntKind.wrap, hb]; omega
  clear h HAS hi hz ha hdr hl
  go_enter Try.func41, Try.ntmps41
  go_wp2_with fail
  refine (HS.out).mono ?_
  rintro e w2 ⟨rfl, rfl⟩
  go_wp2_with fail
  go_region_with (go_at_call 58; refine (PU.out).mono ?_; rintro e w3 ⟨rfl, v', q1, q2, q3, q4⟩; have N3 := hid (NX.out w3 v' q1 q2 q3 q4); clear q1 q2 q3 q4)
  all_goals
    obtain ⟨t3, f3⟩ := N3.out
    obtain ⟨w4, s4, t4, f4⟩ := t3.store (g : Int) HI.out
    have c1 : w3.cell? ⟨t, 1, none⟩ = some (.map (some mb)) := cell_ent t3.box rfl
    have c24 : w4.cell? ⟨t, 2, none⟩ = some (.int .u64 ad) := cell_ent t4.box rfl
    have FIN := hid (show AdPost Z w2 t hb mb n c hp v es inn k ad p g x (w4.setCell ⟨t, 2, none⟩ (.int .u64 ((ad : Int) + 1))) from ⟨(f3.trans f4).trans (t4.count (ad + 1)).2, v', _, put_perm _, (t4.count (ad + 1)).1⟩)
    have z4 : w4.frozen? ⟨t, 2, none⟩ = false := by have hx : w4.heap[t]? = _ := t4.box; simp only [World.frozen?, hx]; rfl
    clear t3 f3 t4 f4 N3 NX PU c0 c0' c2 c2' r0 r0' HS TQ
    go_wp2
    go_ret
    exact ⟨rfl, FIN.out⟩
end Go.Proofs.Ytaogpodncphpjaa
/-! timer.Timers' Next, Due, Take. -/
namespace Go.Proofs.Ytaogpodncphpjaa
set_option linter.unusedVariables false
set_option linter.unusedSimpArgs false
open Go.RowKit Tk
variable {Z : Nat → Prop} {w w' : World} {t hb mb n c : Nat} {hp : Nat → Nat} {v : Nat → Value} {es : Nat → List En} {inn : Int → Bool} {k ad : Nat}

def allE (n : Nat) (es : Nat → List En) : List En := (List.range n).flatMap es
theorem mem_allE {e : En} : e ∈ allE n es ↔ ∃ j, j < n ∧ e ∈ es j := by simp [allE, List.mem_flatMap]
theorem allE_nil (h : ∀ j, j < n → es j = []) : allE n es = [] := by
  rw [List.eq_nil_iff_forall_not_mem]
  intro e he
  obtain ⟨j, hj, h2⟩ := mem_allE.1 he
  rw [h j hj] at h2; cases h2
theorem allE_succ (n : Nat) (es : Nat → List En) : allE (n + 1) es = allE n es ++ es n := by simp [allE, List.range_succ, List.flatMap_append]
theorem allE_congr {es' : Nat → List En} : ∀ n, (∀ j, j < n → es j = es' j) → allE n es = allE n es'
  | 0, _ => rfl
  | n + 1, h => by rw [allE_succ, allE_succ, allE_congr n (fun j hj => h j (by omega)), h n (by omega)]
theorem allE_add {p : Nat} {x : En} {T : List En} (hT : T.Perm (x :: es p)) : ∀ n, p < n → (allE n (updN es p T)).Perm (x :: allE n es)
  | 0, h => by omega
  | n + 1, h => by
    rw [allE_succ, allE_succ]
    rcases Nat.lt_or_ge p n with h1 | h1
    · rw [updN_ne _ _ (by omega)]
      exact ((allE_add hT n h1).append_right _)
    · obtain rfl : p = n := by omega
      rw [updN_same, allE_congr (es := updN es p T) (es' := es) p (fun j hj => updN_ne _ _ (by omega))]
      exact (hT.append_left _).trans List.perm_middle
theorem allE_take {m : Nat} {x : En} {T : List En} (hT : (es m).Perm (x :: T)) (hm : m < n) : (allE n es).Perm (x :: allE n (updN es m T)) := by
  have := allE_add (es := updN es m T) (p := m) (x := x) (T := es m) (by rw [updN_same]; exact hT) n hm
  rwa [show updN (updN es m T) m (es m) = es from funext fun j => by by_cases hj : j = m <;> simp [updN, hj]] at this
theorem insF_sort (x : En) (l : List En) : sortE (x :: l) = insF x (sortE l) := by
  refine ord_unique _ _ ((sortE_perm _).trans (((sortE_perm l).symm.cons x).trans (insF_perm x _).symm)) (sortE_ord _) (insF_ord x _ (sortE_ord l))
theorem sort_min {x : En} {l : List En} (h : ∀ e ∈ l, leE x e) : sortE (x :: l) = x :: sortE l :=
  ord_unique _ _ ((sortE_perm _).trans ((sortE_perm l).symm.cons x)) (sortE_ord _) (List.pairwise_cons.2 ⟨fun y hy => h y ((sortE_perm l).mem_iff.1 hy), sortE_ord l⟩)
theorem ord_le {l : List En} (h : Ord l) {e : En} (he : e ∈ l) : leE (enAt l 0) e := by
  obtain ⟨i, hi, rfl⟩ := List.getElem_of_mem he
  rw [← enAt_get hi]
  exact root_le h i i (Nat.le_refl _) hi
/-- The first one of all is at the head. -/
theorem fsp_head {m : Nat} {x1 x2 x3 : Int} (h : Fsp n es m x1 x2 x3) (ho : ∀ i, i < n → Ord (es i)) : ∃ l, sortE (allE n es) = (x1, x2, x3) :: l := by
  obtain ⟨h1, h2, h3, h4⟩ := h
  have hmem : ((x1, x2, x3) : En) ∈ allE n es := mem_allE.2 ⟨m, h1, by rw [← h3, enAt_get h2]; exact List.getElem_mem h2⟩
  obtain ⟨a, b, hab⟩ := List.append_of_mem hmem
  refine ⟨sortE (a ++ b), ?_⟩
  rw [← sort_min (x := (x1, x2, x3)) (l := a ++ b) ?_]
  · exact sort_perm (by rw [hab]; exact List.perm_middle)
  · intro e he
    have he2 : e ∈ allE n es := by rw [hab]; simp only [List.mem_append, List.mem_cons] at he ⊢; rcases he with he | he <;> simp [he]
    obtain ⟨j, hj, hej⟩ := mem_allE.1 he2
    have hpos : 0 < (es j).length := List.length_pos_of_mem hej
    exact leE_trans (h4 j hj hpos) (ord_le (ho j hj) hej)
theorem fsp_of {x : En} {l : List En} (hs : sortE (allE n es) = x :: l) {m : Nat} {x1 x2 x3 : Int} (h : Fsp n es m x1 x2 x3) (ho : ∀ i, i < n → Ord (es i)) : (x1, x2, x3) = x := by
  obtain ⟨l2, h2⟩ := fsp_head h ho
  rw [hs] at h2
  exact (List.cons.inj h2).1.symm
theorem none_of {x : En} {l : List En} (hs : sortE (allE n es) = x :: l) (h : ∀ j, j < n → es j = []) : False := by
  rw [allE_nil h] at hs
  have := congrArg List.length hs
  rw [sort_len] at this
  simp at this
theorem nil_of (hs : sortE (allE n es) = []) {m : Nat} {x1 x2 x3 : Int} (h : Fsp n es m x1 x2 x3) (ho : ∀ i, i < n → Ord (es i)) : False := by
  obtain ⟨l2, h2⟩ := fsp_head h ho
  rw [hs] at h2; cases h2
set_option maxHeartbeats 4000000 in
theorem tnext_none (h : Tq Z w t hb mb n c hp v es inn k ad) (hs : sortE (allE n es) = []) : Calls Try.prog 40 #[.pointer (some ⟨t, 0, none⟩)] w fun e w' => e = .returned (.tuple #[.int .i64 0, .bool false]) ∧ Below w.heap.size w w' := by
  have F := hid (tfirst h)
  have HO := hid (fun m x1 x2 x3 (q : Fsp n es m x1 x2 x3) => nil_of hs q h.ord)
  clear h hs
  go_enter Try.func40, Try.ntmps40
  go_wp2_with fail
  refine (F.out).mono ?_
  rintro e w2 (⟨rfl, h2, h3⟩ | ⟨m, x1, x2, x3, h2, rfl, h3⟩)
  · have B := hid (h3.trans ((bl_al w2 (.cells #[.int .i64 0, .int .u64 0, .int .i64 0] 88)).mono h3.size))
    clear h2 h3 F HO
    go_wp2
    go_ret2
    exact ⟨rfl, B.out⟩
  · exact (HO.out _ _ _ _ h2).elim
set_option maxHeartbeats 4000000 in
theorem tnext_some (h : Tq Z w t hb mb n c hp v es inn k ad) {x1 x2 x3 : Int} {l : List En} (hs : sortE (allE n es) = (x1, x2, x3) :: l) : Calls Try.prog 40 #[.pointer (some ⟨t, 0, none⟩)] w fun e w' => e = .returned (.tuple #[.int .i64 x1, .bool true]) ∧ Below w.heap.size w w' := by
  have F := hid (tfirst h)
  have HO := hid (fun m y1 y2 y3 (q : Fsp n es m y1 y2 y3) => fsp_of hs q h.ord)
  have HN := hid (fun q => none_of hs q)
  clear h hs
  go_enter Try.func40, Try.ntmps40
  go_wp2_with fail
  refine (F.out).mono ?_
  rintro e w2 (⟨rfl, h2, h3⟩ | ⟨m, y1, y2, y3, h2, rfl, h3⟩)
  · exact (HN.out h2).elim
  · have e := HO.out _ _ _ _ h2
    injection e with e1 e2
    injection e2 with e2 e3
    subst e1 e2 e3
    have B := hid (h3.trans ((bl_al w2 (.cells #[.int .i64 y1, .int .u64 y2, .int .i64 y3] 88)).mono h3.size))
    clear h2 h3 F HO HN
    go_wp2
    go_ret2
    exact ⟨rfl, B.out⟩
set_option maxHeartbeats 4000000 in
theorem tdue_none (h : Tq Z w t hb mb n c hp v es inn k ad) (hs : sortE (allE n es) = []) (x : Int) : Calls Try.prog 31 #[.pointer (some ⟨t, 0, none⟩), .int .i64 x] w fun e w' => e = .returned (.bool false) ∧ Below w.heap.size w w' := by
  have F := hid (tnext_none h hs)
  clear h hs
  go_enter Try.func31, Try.ntmps31
  go_wp2_with fail
  refine (F.out).mono ?_
  rintro e w2 ⟨rfl, h3⟩
  have B := hid h3
  clear h3 F
  go_wp2
  go_ret
  exact ⟨rfl, B.out⟩
set_option maxHeartbeats 4000000 in
theorem tdue_some (h : Tq Z w t hb mb n c hp v es inn k ad) {x1 x2 x3 : Int} {l : List En} (hs : sortE (allE n es) = (x1, x2, x3) :: l) (x : Int) (r : Bool) (hr : decide (x1 ≤ x) = r) : Calls Try.prog 31 #[.pointer (some ⟨t, 0, none⟩), .int .i64 x] w fun e w' => e = .returned (.bool r) ∧ Below w.heap.size w w' := by
  have F := hid (tnext_some h hs)
  clear h hs
  go_enter Try.func31, Try.ntmps31
  go_wp2_with fail
  refine (F.out).mono ?_
  rintro e w2 ⟨rfl, h3⟩
  have B := hid h3
  clear h3 F
  go_wp2
  go_ret
  exact ⟨rfl, B.out⟩
end Go.Proofs.Ytaogpodncphpjaa
/-! timer.Timers.Take. -/
namespace Go.Proofs.Ytaogpodncphpjaa
set_option linter.unusedVariables false
set_option linter.unusedSimpArgs false
open Go.RowKit Tk
variable {Z : Nat → Prop} {w w' : World} {t hb mb n c : Nat} {hp : Nat → Nat} {v : Nat → Value} {es : Nat → List En} {inn : Int → Bool} {k ad : Nat}

theorem Tq.other (h : Tq Z w t hb mb n c hp v es inn k ad) {b : Nat} (o : Only b b w w') (h1 : b ≠ t ∧ b ≠ hb ∧ b ≠ mb) (h2 : ∀ i, i < n → b ≠ hp i) (h3 : ∀ i, i < n → (v i).ownBlock ≠ some b) : Tq Z w' t hb mb n c hp v es inn k ad := by
  obtain ⟨lt, lh, lm⟩ := h.lt
  exact h.kept (o.block _ lt h1.1.symm h1.1.symm) (o.block _ lh h1.2.1.symm h1.2.1.symm) (o.block _ lm h1.2.2.symm h1.2.2.symm) o.size
    (fun i hi => o.block _ (h.he i hi).lt (h2 i hi).symm (h2 i hi).symm)
    (fun i hi q hq => by
      have hqb : q ≠ b := fun e => h3 i hi (e ▸ hq)
      exact o.block _ (own_lt0 (h.he i hi) hq) hqb hqb)
theorem Tq.delO (h : Tq Z w t hb mb n c hp v es inn k ad) (a : Int) (ha : inn a = true) (ty : TypeId) :
    ∃ w', (Builtin.delete_ #[93, 3] ty #[.map (some mb), .int .i64 a]).run Try.prog w = .ok (.tuple #[]) w' ∧ Tq Z w' t hb mb n c hp v es (updI inn a false) (k - 1) ad ∧ FrZ Z w w' ∧ Only mb mb w w' := by
  obtain ⟨g, h1, h2⟩ := h.mp
  obtain ⟨w', r, m, o⟩ := h1.del undT undTI ty a
  have hg : g a ≠ none := by rcases h2 a with ⟨e, _⟩ | ⟨_, e⟩; · rw [e]; simp
                             · rw [ha] at e; cases e
  rw [if_neg hg] at m
  obtain ⟨h3, h4⟩ := h.onlyM o (inn' := updI inn a false) ⟨_, m, fun x => by
    simp only [updG, updI]
    by_cases hx : x = a
    · simp [hx]
    · simp only [if_neg hx]; exact h2 x⟩
  exact ⟨w', r, h3, h4, o⟩
set_option maxHeartbeats 8000000 in
theorem ttake_none (h : Tq Z w t hb mb n c hp v es inn k ad) (now : Int) (hs : ∀ x l, sortE (allE n es) = x :: l → now < x.1) : Calls Try.prog 44 #[.pointer (some ⟨t, 0, none⟩), .int .i64 now] w (NonePost w) := by
  have B1 := bl_al w (.cells #[.int .i64 0, .int .u64 0, .int .i64 0] 88)
  have DU : Hid (Calls Try.prog 31 #[.pointer (some ⟨t, 0, none⟩), .int .i64 now] (w.alloc (.cells #[.int .i64 0, .int .u64 0, .int .i64 0] 88)) fun e w' => e = .returned (.bool false) ∧ Below (w.alloc (.cells #[.int .i64 0, .int .u64 0, .int .i64 0] 88)).heap.size (w.alloc (.cells #[.int .i64 0, .int .u64 0, .int .i64 0] 88)) w') := by
    rcases hl : sortE (allE n es) with _ | ⟨⟨x1, x2, x3⟩, l⟩
    · exact hid (tdue_none (h.below B1) hl now)
    · exact hid (tdue_some (h.below B1) hl now false (decide_eq_false (by have := hs _ _ hl; simp only at this; omega)))
  have N1 := hid (Deep.blk_alloc_new w (.cells #[.int .i64 0, .int .u64 0, .int .i64 0] 88))
  have HB := hid B1
  clear h B1 hs
  go_enter Try.func44, Try.ntmps44
  go_wp2_with fail
  refine (DU.out).mono ?_
  rintro e w2 ⟨rfl, hb2⟩
  have n2 := (hb2.block w.heap.size (by simp)).trans N1.out
  have b0 : w2.cell? ⟨w.heap.size, 0, none⟩ = some (.int .i64 0) := cell_ent n2 rfl
  have b1 : w2.cell? ⟨w.heap.size, 1, none⟩ = some (.int .u64 0) := cell_ent n2 rfl
  have b2 : w2.cell? ⟨w.heap.size, 2, none⟩ = some (.int .i64 0) := cell_ent n2 rfl
  have g0 : w2.frozen? ⟨w.heap.size, 0, none⟩ = false := by simp [World.frozen?, n2]
  have g1 : w2.frozen? ⟨w.heap.size, 1, none⟩ = false := by simp [World.frozen?, n2]
  have g2 : w2.frozen? ⟨w.heap.size, 2, none⟩ = false := by simp [World.frozen?, n2]
  have HB3 := hid (HB.out.trans (hb2.mono (by simp)))
  obtain ⟨r0, r1, r2⟩ := res3 _ w.heap.size n2 0 0 0
  have R0 := hid r0
  have R1 := hid r1
  have R2 := hid r2
  clear r0 r1 r2 hb2 n2 DU N1 HB
  go_wp2
  have r0 := R0.out
  have r1 := R1.out
  have r2 := R2.out
  refine bodyPost_ret (v := .tuple #[.agg #[.int .i64 0, .int .u64 0, .int .i64 0], .bool false]) (by simp [results, Try.results44, go_sem, r0, r1, r2]) rfl ⟨rfl, ?_⟩
  exact ((HB3.out.setCell (by simp) _).setCell (by simp) _).setCell (by simp) _
/-- One is taken. -/
def TkPost (Z : Nat → Prop) (w : World) (t hb mb n c : Nat) (hp : Nat → Nat) (v : Nat → Value) (es : Nat → List En) (inn : Int → Bool) (k ad : Nat) (x1 x2 x3 : Int) (w' : World) : Prop :=
  FrZ Z w w' ∧ ∃ m v' T, m < n ∧ (es m).Perm ((x1, x2, x3) :: T) ∧ Tq Z w' t hb mb n c hp (updN v m v') (updN es m T) (updI inn x3 false) (k - 1) ad
set_option maxRecDepth 100000 in
set_option maxHeartbeats 8000000 in
theorem ttake_some (h : Tq Z w t hb mb n c hp v es inn k ad) (hz : ∀ q, Z q → q < w.heap.size) {x1 x2 x3 : Int} {l : List En} (hs : sortE (allE n es) = (x1, x2, x3) :: l) (now : Int) (hnow : x1 ≤ now) (hin : inn x3 = true) :
    Calls Try.prog 44 #[.pointer (some ⟨t, 0, none⟩), .int .i64 now] w fun e w' => e = .returned (.tuple #[.agg #[.int .i64 x1, .int .u64 x2, .int .i64 x3], .bool true]) ∧ TkPost Z w t hb mb n c hp v es inn k ad x1 x2 x3 w' := by
  have B1 := bl_al w (.cells #[.int .i64 0, .int .u64 0, .int .i64 0] 88)
  have DU := hid (tdue_some (h.below B1) hs now true (decide_eq_true hnow))
  have N1 := hid (Deep.blk_alloc_new w (.cells #[.int .i64 0, .int .u64 0, .int .i64 0] 88))
  have HB := hid B1
  have TQ := hid h
  have HS := hid hs
  have HZ := hid hz
  have HI := hid hin
  clear h B1 hs hz hin hnow
  go_enter Try.func44, Try.ntmps44
  go_wp2_with fail
  refine (DU.out).mono ?_
  rintro e w2 ⟨rfl, hb2⟩
  have N2 := hid ((hb2.block w.heap.size (by simp)).trans N1.out)
  have HB2 := hid (HB.out.trans (hb2.mono (by simp)))
  have F := hid (tfirst (TQ.out.below HB2.out))
  clear hb2 DU N1 HB
  go_wp2_with fail
  refine (F.out).mono ?_
  rintro e w3 (⟨rfl, h2, h3⟩ | ⟨m, y1, y2, y3, h2, rfl, h3⟩)
  · exact (none_of HS.out h2).elim
  have ey := fsp_of HS.out h2 TQ.out.ord
  injection ey with e1 e2
  injection e2 with e2 e3
  subst e1 e2 e3
  obtain ⟨hm1, hm2, hm3, _⟩ := h2
  have hlt2 : w.heap.size < w2.heap.size := by obtain ⟨hl, _⟩ := Array.getElem?_eq_some_iff.1 N2.out; exact hl
  have N3 := hid ((h3.block w.heap.size hlt2).trans N2.out)
  have HB3 := hid (HB2.out.trans (h3.mono HB2.out.size))
  have s3 := Nat.lt_of_lt_of_le hlt2 h3.size
  have N4 := hid ((Below.heap_alloc w3 (.cells #[.int .i64 y1, .int .u64 y2, .int .i64 y3] 88) w.heap.size s3).trans N3.out)
  have M4 := hid (Deep.blk_alloc_new w3 (.cells #[.int .i64 y1, .int .u64 y2, .int .i64 y3] 88))
  have HB4 := hid (HB3.out.trans ((bl_al w3 (.cells #[.int .i64 y1, .int .u64 y2, .int .i64 y3] 88)).mono (by omega)))
  have TQ4 := hid (TQ.out.below HB4.out)
  obtain ⟨mm, hmm⟩ : ∃ mm, (es m).length = mm + 1 := ⟨(es m).length - 1, by omega⟩
  have HE := hid (TQ.out.he m hm1)
  obtain ⟨g, c2, hv, hs4⟩ := (TQ4.out.he m hm1).hs hm2
  rw [hmm] at hs4 hv
  have lg : g < w.heap.size := own_lt0 HE.out (by rw [hv]; rfl)
  have la := HE.out.lt
  have TK := hid (take_some _ 0 (hp m) g mm c2 (es m) hs4 y1 y2 y3 hm3)
  have HV := hid hv
  have HM := hid hmm
  have HX := hid hm3
  have HM1 := hid hm1
  obtain ⟨a, ha⟩ : ∃ a, a = hp m := ⟨_, rfl⟩
  have HA := hid ha
  rw [← ha] at la TK
  rw [← ha]
  clear h3 F N2 N3 HB2 HB3 hm1 hm2 hm3 hv hs4 hmm ha HE hlt2
  go_wp2_with fail
  refine (TK.out).mono ?_
  rintro e w5 ⟨rfl, h5⟩
  have H5 := hid h5
  have n5 := h5.ho.blk N4.out (by omega) (by omega)
  have m5 := h5.ho.blk M4.out (by omega) (by omega)
  have TQ5 := hid (TQ4.out.up HM1.out (v' := .slice (some ⟨g, 0, none⟩) mm c2) (T := sinkF (mm + 1) ((sw (es m) 0 mm).take mm) mm 0) (by rw [← HA.out]; exact h5.hp) (take_ord (TQ.out.ord m HM1.out) HM.out)
    (by rw [← HA.out]; exact OnlyQ.of_h h5.ho (by rw [HV.out]; rfl)) (fun q hq => .inl (by rw [HV.out]; exact hq)) (fun q hq => Nat.lt_of_lt_of_le (HZ.out q hq) HB4.out.size))
  have FR5 := hid ((FrZ.of_below HB4.out).trans (.of_q TQ4.out HM1.out (by rw [← HA.out]; exact OnlyQ.of_h h5.ho (by rw [HV.out]; rfl)) ⟨h5.ho.os, h5.ho.tape, h5.ho.output⟩))
  have TQ6 := hid (TQ5.out.below (bl_drw _ _))
  have FR6 := hid (FR5.out.trans (FrZ.of_below (bl_drw _ _)))
  have NN := hid n5
  have MM := hid m5
  have PE := hid (show (es m).Perm ((y1, y2, y3) :: sinkF (mm + 1) ((sw (es m) 0 mm).take mm) mm 0) by rw [← HX.out]; exact take_perm HM.out)
  obtain ⟨w6, s6, t6, f6, o6⟩ := TQ6.out.delO y3 HI.out 0
  have c1 : w5.drew.cell? ⟨t, 1, none⟩ = some (.map (some mb)) := cell_ent TQ6.out.box rfl
  have c1' : w5.cell? ⟨t, 1, none⟩ = some (.map (some mb)) := cell_ent TQ6.out.box rfl
  have k2 : w5.drew.cell? ⟨w3.heap.size, 2, none⟩ = some (.int .i64 y3) := cell_ent m5 rfl
  have k2' : w5.cell? ⟨w3.heap.size, 2, none⟩ = some (.int .i64 y3) := cell_ent m5 rfl
  have ltm := TQ.out.lt.2.2
  have n6 := hid (only_blk o6 (show w5.drew.heap[w.heap.size]? = _ from n5) (by omega))
  have m6 := hid (only_blk o6 (show w5.drew.heap[w3.heap.size]? = _ from m5) (by omega))
  have XT6 := hid t6
  have XF6 := hid (FR6.out.trans f6)
  clear h5 TQ4 TQ5 FR5 HB4 N4 M4 TK H5 n5 m5 t6 f6 TQ6 FR6 o6 ltm
  go_wp2_with fail
  go_region
  all_goals
    have N6 := n6.out
    have M6 := m6.out
    have a0 : w6.cell? ⟨w3.heap.size, 0, none⟩ = some (.int .i64 y1) := cell_ent M6 rfl
    have a1 : w6.cell? ⟨w3.heap.size, 1, none⟩ = some (.int .u64 y2) := cell_ent M6 rfl
    have a2 : w6.cell? ⟨w3.heap.size, 2, none⟩ = some (.int .i64 y3) := cell_ent M6 rfl
    have b0 : w6.cell? ⟨w.heap.size, 0, none⟩ = some (.int .i64 0) := cell_ent N6 rfl
    have b1 : w6.cell? ⟨w.heap.size, 1, none⟩ = some (.int .u64 0) := cell_ent N6 rfl
    have b2 : w6.cell? ⟨w.heap.size, 2, none⟩ = some (.int .i64 0) := cell_ent N6 rfl
    have g0 : w6.frozen? ⟨w.heap.size, 0, none⟩ = false := by simp [World.frozen?, N6]
    have g1 : w6.frozen? ⟨w.heap.size, 1, none⟩ = false := by simp [World.frozen?, N6]
    have g2 : w6.frozen? ⟨w.heap.size, 2, none⟩ = false := by simp [World.frozen?, N6]
    obtain ⟨r0, r1, r2⟩ := res3 w6 w.heap.size N6 y1 y2 y3
    have R0 := hid r0
    have R1 := hid r1
    have R2 := hid r2
    have O7 := (set3 N6 (.int .i64 y1) (.int .u64 y2) (.int .i64 y3)).out.1
    have FIN := hid (show TkPost Z w t hb mb n c hp v es inn k ad y1 y2 y3 (((w6.setCell ⟨w.heap.size, 0, none⟩ (.int .i64 y1)).setCell ⟨w.heap.size, 1, none⟩ (.int .u64 y2)).setCell ⟨w.heap.size, 2, none⟩ (.int .i64 y3)) from
      ⟨⟨O7.os.trans XF6.out.os, O7.tape.trans XF6.out.tape, O7.output.trans XF6.out.output, Nat.le_trans XF6.out.size O7.size, fun x hx hzx => (O7.block x (Nat.lt_of_lt_of_le hx XF6.out.size) (by omega) (by omega)).trans (XF6.out.block x hx hzx)⟩, m, _, _, HM1.out, PE.out,
       XT6.out.other O7 (by obtain ⟨q1, q2, q3⟩ := TQ.out.lt; omega) (fun i hi => by have := (TQ.out.he i hi).lt; omega)
        (fun i hi e => by
          by_cases him : i = m
          · subst him; rw [updN_same] at e; simp only [Value.ownBlock, Option.some.injEq] at e; omega
          · rw [updN_ne _ _ him] at e; have := own_lt0 (TQ.out.he i hi) e; omega)⟩)
    clear r0 r1 r2 N6 M6 O7 n6 m6 XT6 XF6 s6 c1 c1' k2 k2'
    go_wp2
    have r0 := R0.out
    have r1 := R1.out
    have r2 := R2.out
    exact bodyPost_ret (v := .tuple #[.agg #[.int .i64 y1, .int .u64 y2, .int .i64 y3], .bool true]) (by simp [results, Try.results44, go_sem, r0, r1, r2]) rfl ⟨rfl, FIN.out⟩
end Go.Proofs.Ytaogpodncphpjaa
/-! timer.New. -/
namespace Go.Proofs.Ytaogpodncphpjaa
set_option linter.unusedVariables false
set_option linter.unusedSimpArgs false
open Go.RowKit Tk

theorem infoHp2 : (Try.prog.info? 97).map (fun i => (i.zero, i.size, i.bytes)) = some (some (.pointer none), 1, 8) := by kernel_rfl
/-- So many heaps were made. -/
structure Nw (w : World) (hp : Nat → Nat) (vr : Value) (i : Nat) (wr : World) : Prop where
  bl : Below w.heap.size w wr
  box : wr.heap[w.heap.size + 1]? = some (.cells #[vr, .map (some w.heap.size), .int .u64 0] 96 (0, 0))
  mp : MapI wr w.heap.size .i64 (fun _ => none) 0
  own : wr.ownsRow (w.heap.size + 2) 97 1 vr i ((List.range i).map fun j => .pointer (some ⟨hp j, 0, none⟩))
  hs : ∀ j, j < i → wr.heap[hp j]? = some (.cells #[.slice none 0 0] 100 (0, 0)) ∧ w.heap.size + 2 ≤ hp j ∧ vr.ownBlock ≠ some (hp j)
  ne : ∀ j l, j < i → l < i → hp j = hp l → j = l
theorem Nw.start (w : World) (hp : Nat → Nat) : Nw w hp (.slice none 0 0) 0 ((w.alloc (.map #[] 0)).alloc (.cells #[.slice none 0 0, .map (some w.heap.size), .int .u64 0] 96)) := by
  have h1 := Deep.blk_alloc_new (w.alloc (.map #[] 0)) (.cells #[.slice none 0 0, .map (some w.heap.size), .int .u64 0] 96)
  rw [World.size_alloc] at h1
  exact ⟨(bl_al w _).trans ((bl_al _ _).mono (by simp)), h1, (MapI.new w .i64).kept (Below.heap_alloc _ _ _ (by simp)), ⟨by simp, .inl ⟨rfl, rfl⟩⟩, fun j hj => by omega, fun j l hj => by omega⟩
section
variable {w : World} {hp : Nat → Nat} {vr : Value} {i : Nat} {wr w4 : World}
theorem own_ge {b n : Nat} {e : TypeId} {xs : List Value} (h : wr.ownsRow b e 1 vr n xs) : ∀ q, vr.ownBlock = some q → b ≤ q ∧ q < wr.heap.size := by
  intro q hq
  rcases h.2 with ⟨rfl, _⟩ | ⟨g, cap, cur, rfl, hb, hgg, _⟩
  · cases hq
  · simp only [Value.ownBlock, Option.some.injEq] at hq
    subst hq
    exact ⟨hb, (Array.getElem?_eq_some_iff.1 hgg).1⟩
theorem Nw.blk (h : Nw w hp vr i wr)
    (hgrow : ((wr.alloc (.cells #[.slice none 0 0] 100)).alloc (.cells #[.pointer (some ⟨wr.heap.size, 0, none⟩)] 97)).grownBy w4 vr.ownBlock) (k : Nat) (hk : k < wr.heap.size) (hne : vr.ownBlock ≠ some k) : w4.heap[k]? = wr.heap[k]? := by
  rw [hgrow.block k (by simp; omega) (fun e => hne e.symm), Below.heap_alloc _ _ _ (by simp; omega), Below.heap_alloc _ _ _ hk]
theorem Nw.tlt (h : Nw w hp vr i wr) : w.heap.size + 1 < wr.heap.size := (Array.getElem?_eq_some_iff.1 h.box).1
theorem Nw.notT (h : Nw w hp vr i wr) {k : Nat} (hk : k < w.heap.size + 2) : vr.ownBlock ≠ some k := fun e => by have := own_ge h.own _ e; omega
theorem Nw.keep (h : Nw w hp vr i wr)
    (hgrow : ((wr.alloc (.cells #[.slice none 0 0] 100)).alloc (.cells #[.pointer (some ⟨wr.heap.size, 0, none⟩)] 97)).grownBy w4 vr.ownBlock) :
    w4.cell? ⟨w.heap.size + 1, 0, none⟩ = some vr ∧ w4.frozen? ⟨w.heap.size + 1, 0, none⟩ = false := by
  have hb := (h.blk hgrow (w.heap.size + 1) h.tlt (h.notT (by omega))).trans h.box
  exact ⟨cell_ent hb rfl, by simp [World.frozen?, hb]⟩
theorem Nw.step {gg cap : Nat} (h : Nw w hp vr i wr)
    (hown : w4.ownsRow (w.heap.size + 2) 97 1 (.slice (some ⟨gg, 0, none⟩) (i + 1) cap) (i + 1) (((List.range i).map fun j => Value.pointer (some ⟨hp j, 0, none⟩)) ++ [.pointer (some ⟨wr.heap.size, 0, none⟩)]))
    (hgrow : ((wr.alloc (.cells #[.slice none 0 0] 100)).alloc (.cells #[.pointer (some ⟨wr.heap.size, 0, none⟩)] 97)).grownBy w4 vr.ownBlock)
    (hat : vr.ownBlock = some gg ∨ gg = wr.heap.size + 2) (hlt : gg < w4.heap.size) :
    Nw w (updN hp i wr.heap.size) (.slice (some ⟨gg, 0, none⟩) (i + 1) cap) (i + 1) (w4.setCell ⟨w.heap.size + 1, 0, none⟩ (.slice (some ⟨gg, 0, none⟩) (i + 1) cap)) := by
  have lt := h.tlt
  have st : ∀ x, x ≠ w.heap.size + 1 → (w4.setCell ⟨w.heap.size + 1, 0, none⟩ (.slice (some ⟨gg, 0, none⟩) (i + 1) cap)).heap[x]? = w4.heap[x]? := fun x hx => Below.heap_setCell _ _ _ _ hx
  have ss : (w4.setCell ⟨w.heap.size + 1, 0, none⟩ (.slice (some ⟨gg, 0, none⟩) (i + 1) cap)).heap.size = w4.heap.size := by simp [World.setCell]
  have s4 := hgrow.size
  simp only [World.size_alloc] at s4
  have hgl : vr.ownBlock = some gg → gg < wr.heap.size := fun e => (own_ge h.own _ e).2
  have hpl : ∀ j, j < i → hp j < wr.heap.size := fun j hj => (Array.getElem?_eq_some_iff.1 (h.hs j hj).1).1
  refine ⟨⟨hgrow.os.trans h.bl.os, hgrow.tape.trans h.bl.tape, hgrow.output.trans h.bl.output, by rw [ss]; have := h.bl.size; omega, fun k hk => ?_⟩, ?_, ?_, ?_, fun j hj => ?_, fun j l hj hl e => ?_⟩
  · rw [st k (by omega), h.blk hgrow k (by omega) (h.notT (by omega))]
    exact h.bl.block k hk
  · have hb := (h.blk hgrow (w.heap.size + 1) lt (h.notT (by omega))).trans h.box
    simp [World.setCell, Array.getElem?_modify, hb]
  · exact h.mp.kept ((st _ (by omega)).trans (h.blk hgrow _ (by omega) (h.notT (by omega))))
  · refine ⟨by simp, ?_⟩
    rcases hown.2 with ⟨e, _⟩ | ⟨g, c2, cur, e, hb, hgg, r1, r2, r3, r4⟩
    · cases e
    · have hg2 : gg = g := by injection e with e1 e2 e3; injection e1 with e1; injection e1
      subst hg2
      refine .inr ⟨gg, c2, cur, e, hb, (st gg (by omega)).trans hgg, r1, r2, r3, r4.trans ?_⟩
      rw [List.range_succ, List.map_append]
      congr 1
      · refine List.map_congr_left fun j hj => ?_
        rw [updN_ne _ _ (by have := List.mem_range.1 hj; omega)]
      · simp [updN_same]
  · by_cases hji : j = i
    · subst hji
      rw [updN_same]
      refine ⟨?_, by omega, fun e => ?_⟩
      · rw [st _ (by omega), hgrow.block _ (by simp; omega) (fun e => by have := own_ge h.own _ e.symm; omega), Below.heap_alloc _ _ _ (by simp)]
        exact Deep.blk_alloc_new _ _
      · simp only [Value.ownBlock, Option.some.injEq] at e
        rcases hat with h1 | h1
        · have := hgl h1; omega
        · omega
    · have hj2 : j < i := by omega
      rw [updN_ne _ _ hji]
      obtain ⟨a1, a2, a3⟩ := h.hs j hj2
      have a4 := hpl j hj2
      refine ⟨?_, a2, fun e => ?_⟩
      · rw [st _ (by omega), h.blk hgrow _ a4 a3]; exact a1
      · simp only [Value.ownBlock, Option.some.injEq] at e
        rcases hat with h1 | h1
        · exact a3 (by rw [h1, e])
        · omega
  · by_cases hji : j = i <;> by_cases hli : l = i
    · omega
    · subst hji; rw [updN_same, updN_ne _ _ hli] at e; have := hpl l (by omega); omega
    · subst hli; rw [updN_same, updN_ne _ _ hji] at e; have := hpl j (by omega); omega
    · rw [updN_ne _ _ hji, updN_ne _ _ hli] at e; exact h.ne j l (by omega) (by omega) e
theorem Nw.fin {n : Nat} (h : Nw w hp vr n wr) (hn : 0 < n) :
    ∃ hb c hp, Tq (fun q => q < w.heap.size) wr (w.heap.size + 1) hb w.heap.size n c hp (fun _ => .slice none 0 0) (fun _ => []) (fun _ => false) 0 0 ∧ Below w.heap.size w wr := by
  rcases h.own.2 with ⟨_, e⟩ | ⟨g, c, cur, rfl, hb, hgg, r1, r2, r3, r4⟩
  · omega
  have lt := h.tlt
  have hpg : ∀ j, j < n → hp j ≠ g := fun j hj e => (h.hs j hj).2.2 (by rw [e]; rfl)
  refine ⟨g, c, hp, ⟨h.box, ⟨(Array.getElem?_eq_some_iff.1 hgg).1, fun j hj => ?_⟩, ⟨r1, r2⟩, ⟨_, h.mp, fun a => .inr ⟨rfl, rfl⟩⟩, fun j hj => ⟨(h.hs j hj).1, ⟨by simp [fl], .inl ⟨rfl, rfl⟩⟩, by simp [Value.ownBlock], by simp⟩, fun j hj k hk hk2 => by simp at hk2, by omega, fun j hj => ?_, h.ne, fun j hj q hq => (by cases hq), ⟨by omega, fun j hj => ?_, fun j hj q hq => (by cases hq)⟩⟩, h.bl⟩
  · have := h.own.cells (g := g) rfl j (.pointer (some ⟨hp j, 0, none⟩)) (by simp [hj])
    by_cases h0 : j = 0
    · subst h0; simpa [Addr.add] using this
    · simpa [Addr.add, h0] using this
  · have := (h.hs j hj).2.1
    exact ⟨by omega, hpg j hj, by omega⟩
  · have := (h.hs j hj).2.1; omega
end
set_option maxHeartbeats 8000000 in
theorem tnew (n : Nat) (hn : 1 ≤ (n : Int)) (hn2 : (n : Int) ≤ 64) (w : World) : Calls Try.prog 19 #[.int .i64 n] w fun e w' => e = .returned (.pointer (some ⟨w.heap.size + 1, 0, none⟩)) ∧
    ∃ hb c hp, Tq (fun q => q < w.heap.size) w' (w.heap.size + 1) hb w.heap.size n c hp (fun _ => .slice none 0 0) (fun _ => []) (fun _ => false) 0 0 ∧ Below w.heap.size w w' := by
  have mk : ∀ T (w : World), (Instr.makeMap T none).run Try.prog w = .ok (.map (some w.heap.size)) (w.alloc (.map #[] 0)) := fun T w => rfl
  have S0 := hid (Nw.start w (fun _ => 0))
  go_enter Try.func19, Try.ntmps19
  go_wp2_with fail
  clear mk
  obtain ⟨t, ht⟩ : ∃ x, x = w.heap.size + 1 := ⟨_, rfl⟩
  have HT := hid ht
  rw [← ht]
  clear ht
  go_loopw [10] (fun x wr => ∃ (i : Nat) (hp : Nat → Nat) (vr : Value), i ≤ n ∧ x = .int .i64 i ∧ Hid (Nw w hp vr i wr)) (fun x _ => n - (intOf x).toNat)
  case atStart => exact ⟨0, _, _, Nat.zero_le _, rfl, S0⟩
  case round =>
    clear S0
    obtain ⟨i, hp, vr, hi, rfl, F⟩ := hrel
    by_cases hlt : i < n
    · obtain ⟨i0, h0, hz0, hz1, hz2⟩ := info_parts infoHp2
      have c0 : wr.cell? ⟨t, 0, none⟩ = some vr := by rw [HT.out]; exact cell_ent F.out.box rfl
      have OWN := hid ((F.out.own.alloc (.cells #[.slice none 0 0] 100)).alloc (.cells #[.pointer (some ⟨wr.heap.size, 0, none⟩)] 97))
      have NB := hid (show ((wr.alloc (.cells #[.slice none 0 0] 100)).alloc (.cells #[.pointer (some ⟨wr.heap.size, 0, none⟩)] 97)).heap[wr.heap.size + 1]? = some (.cells #[.pointer (some ⟨wr.heap.size, 0, none⟩)] 97 (0, 0)) by
        have := Deep.blk_alloc_new (wr.alloc (.cells #[.slice none 0 0] 100)) (.cells #[.pointer (some ⟨wr.heap.size, 0, none⟩)] 97)
        rw [World.size_alloc] at this
        exact this)
      have B1 := hid (show i + 1 ≤ maxLen by unfold maxLen; omega)
      have B2 := hid (show (i + 1) * 8 ≤ 140737488355328 by omega)
      have B3 := hid (show w.heap.size + 2 ≤ ((wr.alloc (.cells #[.slice none 0 0] 100)).alloc (.cells #[.pointer (some ⟨wr.heap.size, 0, none⟩)] 97)).heap.size by
        have h1 := F.out.box
        obtain ⟨hl, _⟩ := Array.getElem?_eq_some_iff.1 h1
        simp; omega)
      go_wp2_with (at_builtin; refine wpList_append_lies _ rfl _ _ 94 rfl (w.heap.size + 2) 97 i0 (.pointer none) 1 8 Try.underlying94 h0 hz0 hz1 hz2 rfl (by decide) vr i _ rfl OWN.out ⟨wr.heap.size + 1, 0, none⟩ 1 1 [.pointer (some ⟨wr.heap.size, 0, none⟩)] rfl rfl (World.news_of_block (cs := #[.pointer (some ⟨wr.heap.size, 0, none⟩)]) (t := 97) (fr := (0, 0)) NB.out) (by simp [Value.oneCell']) (by omega) B1.out B2.out B3.out (wr.heap.size + 2) (by simp) ?_; intro gg cap w4 hown hgrow hat hl4; have F4 := hid (F.out.step hown hgrow hat hl4); obtain ⟨y0, f0⟩ := F.out.keep hgrow; rw [← HT.out] at y0 f0 F4; clear hown hgrow hat hl4 c0)
      go_roundw
      case rel => exact ⟨i + 1, _, _, by omega, by go_num, F4⟩
      case measure => simp [intOf]; omega
    · obtain rfl : i = n := by omega
      go_wp2
      go_ret
      exact ⟨(show Ending.returned (.pointer (some ⟨t, 0, none⟩)) = _ by rw [HT.out]), F.out.fin (by omega)⟩
end Go.Proofs.Ytaogpodncphpjaa
/-! timer.Timers as one row in order: what each method answers and leaves. -/
namespace Go.Proofs.Ytaogpodncphpjaa
set_option linter.unusedVariables false
set_option linter.unusedSimpArgs false
open Go.RowKit Tk

/-- Has a goroutine one? -/
def hasG (L : List En) (g : Int) : Bool := decide (g ∈ L.map fun e => e.2.2)
/-- The timers at block t: all of them in order are L; ad were added. -/
def Te (Z : Nat → Prop) (w : World) (t n : Nat) (es : Nat → List En) (L : List En) (ad : Nat) : Prop :=
  (∃ hb mb c hp v, Tq Z w t hb mb n c hp v es (hasG L) L.length ad) ∧ sortE (allE n es) = L ∧ (L.map fun e => e.2.2).Nodup
section
variable {Z : Nat → Prop} {w w' : World} {t n ad : Nat} {es : Nat → List En} {L l : List En}
theorem len_allE {p : Nat} : ∀ n, p < n → (es p).length ≤ (allE n es).length
  | 0, h => by omega
  | n + 1, h => by
    rw [allE_succ, List.length_append]
    rcases Nat.lt_or_ge p n with h1 | h1
    · have := len_allE n h1; omega
    · obtain rfl : p = n := by omega
      omega
theorem hasG_ins (x : En) (L : List En) (g : Int) : hasG (insF x L) g = (decide (g = x.2.2) || hasG L g) := by
  have h := ((insF_perm x L).map fun e => e.2.2).mem_iff (a := g)
  simp only [hasG]
  rw [← Bool.decide_or]
  exact decide_eq_decide.2 (h.trans (by simp))
theorem len_ins (x : En) (L : List En) : (insF x L).length = L.length + 1 := (insF_perm x L).length_eq
theorem Te.below (h : Te Z w t n es L ad) (hb : Below w.heap.size w w') : Te Z w' t n es L ad := by
  obtain ⟨⟨hb', mb, c, hp, v, h1⟩, h2⟩ := h
  exact ⟨⟨hb', mb, c, hp, v, h1.below hb⟩, h2⟩
theorem Te.lt (h : Te Z w t n es L ad) : t < w.heap.size := by
  obtain ⟨⟨hb', mb, c, hp, v, h1⟩, h2⟩ := h
  exact h1.lt.1
theorem te_len (h : Te Z w t n es L ad) : Calls Try.prog 35 #[.pointer (some ⟨t, 0, none⟩)] w fun e w' => e = .returned (.int .i64 L.length) ∧ w' = w := by
  obtain ⟨⟨hb', mb, c, hp, v, h1⟩, h2⟩ := h
  exact tlen h1
theorem te_has (h : Te Z w t n es L ad) (a : Int) (r : Bool) (hr : hasG L a = r) : Calls Try.prog 36 #[.pointer (some ⟨t, 0, none⟩), .int .i64 a] w fun e w' => e = .returned (.bool r) ∧ w' = w := by
  obtain ⟨⟨hb', mb, c, hp, v, h1⟩, h2⟩ := h
  rw [← hr]
  exact thas h1 a
theorem te_arg (h : Te Z w t n es L ad) (p g x : Int) (hbad : p < 0 ∨ (n : Int) ≤ p ∨ g < 0 ∨ 4096 ≤ g) : Calls Try.prog 41 #[.pointer (some ⟨t, 0, none⟩), .int .i64 p, .int .i64 g, .int .i64 x] w fun e w' => e = .returned (.int .i64 1) ∧ w' = w := by
  obtain ⟨⟨hb', mb, c, hp, v, h1⟩, h2⟩ := h
  exact tadd_arg h1 p g x hbad
theorem te_same (h : Te Z w t n es L ad) (p g : Nat) (hpn : p < n) (hg : g < 4096) (x : Int) (hi : hasG L g = true) : Calls Try.prog 41 #[.pointer (some ⟨t, 0, none⟩), .int .i64 p, .int .i64 g, .int .i64 x] w fun e w' => e = .returned (.int .i64 8) ∧ w' = w := by
  obtain ⟨⟨hb', mb, c, hp, v, h1⟩, h2⟩ := h
  exact tadd_same h1 p g hpn hg x hi
/-- One more. -/
def TeAdd (Z : Nat → Prop) (w : World) (t n : Nat) (es : Nat → List En) (L : List En) (ad p : Nat) (y : En) (w' : World) : Prop :=
  FrZ Z w w' ∧ ∃ T, T.Perm (y :: es p) ∧ Te Z w' t n (updN es p T) (insF y L) (ad + 1)
theorem te_add (h : Te Z w t n es L ad) (hz : ∀ q, Z q → q < w.heap.size) (p g : Nat) (hpn : p < n) (hg : g < 4096) (x : Int) (hi : hasG L g = false) (hl : L.length < 100000) (had : ad < 1000000) :
    Calls Try.prog 41 #[.pointer (some ⟨t, 0, none⟩), .int .i64 p, .int .i64 g, .int .i64 x] w fun e w' => e = .returned (.int .i64 0) ∧ TeAdd Z w t n es L ad p (x, (ad : Int), (g : Int)) w' := by
  obtain ⟨⟨hb', mb, c, hp, v, h1⟩, h2, h3⟩ := h
  have hlen : (es p).length < 100000 := by
    have a := len_allE (es := es) n hpn
    have b := sort_len (allE n es)
    rw [h2] at b; omega
  refine (tadd h1 hz p g hpn hg x hi hlen had).mono ?_
  rintro e w2 ⟨rfl, hf, v', T, hT, hq⟩
  refine ⟨rfl, hf, T, hT, ⟨hb', mb, c, hp, updN v p v', ?_⟩, ?_, ?_⟩
  · rw [len_ins]
    rw [show hasG (insF (x, (ad : Int), (g : Int)) L) = updI (hasG L) g true from funext fun a => by rw [hasG_ins]; by_cases ha : a = g <;> simp [updI, ha]]
    exact hq
  · rw [sort_perm (allE_add hT n hpn), insF_sort, h2]
  · rw [((insF_perm _ L).map fun e => e.2.2).nodup_iff]
    simp only [List.map_cons, List.nodup_cons]
    exact ⟨by simpa [hasG] using hi, h3⟩
theorem te_addI (h : Te Z w t n es L ad) (hz : ∀ q, Z q → q < w.heap.size) (p g : Int) (hp0 : 0 ≤ p) (hpn : p < n) (hg0 : 0 ≤ g) (hg : g < 4096) (x : Int) (hi : hasG L g = false) (hl : L.length < 100000) (had : ad < 1000000) :
    Calls Try.prog 41 #[.pointer (some ⟨t, 0, none⟩), .int .i64 p, .int .i64 g, .int .i64 x] w fun e w' => e = .returned (.int .i64 0) ∧ TeAdd Z w t n es L ad p.toNat (x, (ad : Int), g) w' := by
  obtain ⟨p, rfl⟩ := Int.eq_ofNat_of_zero_le hp0
  obtain ⟨g, rfl⟩ := Int.eq_ofNat_of_zero_le hg0
  exact te_add h hz p g (by omega) (by omega) x hi hl had
theorem te_sameI (h : Te Z w t n es L ad) (p g : Int) (hp0 : 0 ≤ p) (hpn : p < n) (hg0 : 0 ≤ g) (hg : g < 4096) (x : Int) (hi : hasG L g = true) : Calls Try.prog 41 #[.pointer (some ⟨t, 0, none⟩), .int .i64 p, .int .i64 g, .int .i64 x] w fun e w' => e = .returned (.int .i64 8) ∧ w' = w := by
  obtain ⟨p, rfl⟩ := Int.eq_ofNat_of_zero_le hp0
  obtain ⟨g, rfl⟩ := Int.eq_ofNat_of_zero_le hg0
  exact te_same h p g (by omega) (by omega) x hi
/-- What is below a bound, and foreign, is as it was. -/
theorem TeAdd.bl {p : Nat} {y : En} (h : TeAdd Z w t n es L ad p y w') {B : Nat} (hB : ∀ q, q < B → Z q) (hs : B ≤ w.heap.size) : Below B w w' := h.1.below hB hs
theorem te_none (h : Te Z w t n es L ad) (now : Int) (hs : ∀ x l, L = x :: l → now < x.1) : Calls Try.prog 44 #[.pointer (some ⟨t, 0, none⟩), .int .i64 now] w (NonePost w) := by
  obtain ⟨⟨hb', mb, c, hp, v, h1⟩, h2, h3⟩ := h
  exact ttake_none h1 now (fun x l e => hs x l (h2.symm.trans e))
/-- One is taken. -/
def TeTake (Z : Nat → Prop) (w : World) (t n : Nat) (es : Nat → List En) (l : List En) (ad : Nat) (y : En) (w' : World) : Prop :=
  FrZ Z w w' ∧ ∃ m T, m < n ∧ (es m).Perm (y :: T) ∧ Te Z w' t n (updN es m T) l ad
theorem TeTake.bl {y : En} (h : TeTake Z w t n es l ad y w') {B : Nat} (hB : ∀ q, q < B → Z q) (hs : B ≤ w.heap.size) : Below B w w' := h.1.below hB hs
theorem te_take {x1 x2 x3 : Int} (h : Te Z w t n es ((x1, x2, x3) :: l) ad) (hz : ∀ q, Z q → q < w.heap.size) (now : Int) (hnow : x1 ≤ now) :
    Calls Try.prog 44 #[.pointer (some ⟨t, 0, none⟩), .int .i64 now] w fun e w' => e = .returned (.tuple #[.agg #[.int .i64 x1, .int .u64 x2, .int .i64 x3], .bool true]) ∧ TeTake Z w t n es l ad (x1, x2, x3) w' := by
  obtain ⟨⟨hb', mb, c, hp, v, h1⟩, h2, h3⟩ := h
  simp only [List.map_cons, List.nodup_cons] at h3
  refine (ttake_some h1 hz h2 now hnow (by simp [hasG])).mono ?_
  rintro e w2 ⟨rfl, hf, m, v', T, hm, hT, hq⟩
  refine ⟨rfl, hf, m, T, hm, hT, ⟨hb', mb, c, hp, updN v m v', ?_⟩, ?_, h3.2⟩
  · rw [show hasG l = updI (hasG ((x1, x2, x3) :: l)) x3 false from funext fun a => by
      by_cases ha : a = x3
      · subst ha; simp only [updI, if_true, hasG]; exact decide_eq_false h3.1
      · simp [updI, ha, hasG]]
    exact hq
  · have p1 : (x1, x2, x3) :: l = sortE (allE n es) := h2.symm
    have p2 : ((x1, x2, x3) :: l).Perm ((x1, x2, x3) :: allE n (updN es m T)) := by rw [p1]; exact (sortE_perm _).trans (allE_take hT hm)
    have p3 := (List.perm_cons _).1 p2
    have hs : ((x1, x2, x3) :: l).Pairwise leE := by rw [p1]; exact sortE_ord _
    exact ord_unique _ _ ((sortE_perm _).trans p3.symm) (sortE_ord _) (List.pairwise_cons.1 hs).2
theorem te_next0 (h : Te Z w t n es [] ad) : Calls Try.prog 40 #[.pointer (some ⟨t, 0, none⟩)] w fun e w' => e = .returned (.tuple #[.int .i64 0, .bool false]) ∧ Below w.heap.size w w' := by
  obtain ⟨⟨hb', mb, c, hp, v, h1⟩, h2, h3⟩ := h
  exact tnext_none h1 h2
theorem te_next {x1 x2 x3 : Int} (h : Te Z w t n es ((x1, x2, x3) :: l) ad) : Calls Try.prog 40 #[.pointer (some ⟨t, 0, none⟩)] w fun e w' => e = .returned (.tuple #[.int .i64 x1, .bool true]) ∧ Below w.heap.size w w' := by
  obtain ⟨⟨hb', mb, c, hp, v, h1⟩, h2, h3⟩ := h
  exact tnext_some h1 h2
/-- Is the first one due? -/
def dueL (L : List En) (x : Int) : Bool := match L with | [] => false | y :: _ => decide (y.1 ≤ x)
theorem te_due (h : Te Z w t n es L ad) (x : Int) (r : Bool) (hr : dueL L x = r) : Calls Try.prog 31 #[.pointer (some ⟨t, 0, none⟩), .int .i64 x] w fun e w' => e = .returned (.bool r) ∧ Below w.heap.size w w' := by
  obtain ⟨⟨hb', mb, c, hp, v, h1⟩, h2, h3⟩ := h
  rcases L with _ | ⟨⟨x1, x2, x3⟩, l⟩
  · obtain rfl : r = false := hr.symm
    exact tdue_none h1 h2 x
  · exact tdue_some h1 h2 x r hr
theorem te_new (n : Nat) (hn : 1 ≤ (n : Int)) (hn2 : (n : Int) ≤ 64) (w : World) : Calls Try.prog 19 #[.int .i64 n] w fun e w' => e = .returned (.pointer (some ⟨w.heap.size + 1, 0, none⟩)) ∧
    Te (fun q => q < w.heap.size) w' (w.heap.size + 1) n (fun _ => []) [] 0 ∧ Below w.heap.size w w' := by
  refine (tnew n hn hn2 w).mono ?_
  rintro e w2 ⟨rfl, hb', c, hp, h1, h2⟩
  have e0 : allE n (fun _ => ([] : List En)) = [] := allE_nil (fun _ _ => rfl)
  exact ⟨rfl, ⟨⟨hb', _, c, hp, _, by rw [show hasG [] = fun _ => false from funext fun a => by simp [hasG]]; exact h1⟩, by rw [e0]; simp [sortE], by simp⟩, h2⟩
end
end Go.Proofs.Ytaogpodncphpjaa
/-! timer.Timers: its foreign blocks, more or fewer; its order. -/
namespace Go.Proofs.Ytaogpodncphpjaa
set_option linter.unusedVariables false
set_option linter.unusedSimpArgs false
open Go.RowKit Tk

theorem leE_when {a b : En} (h : leE a b) : a.1 ≤ b.1 := by
  obtain ⟨a1, a2, a3⟩ := a
  obtain ⟨b1, b2, b3⟩ := b
  have h1 : aheadE (b1, b2, b3) (a1, a2, a3) = false := h
  rw [heapAhead.ahead_eq] at h1
  by_cases he : b1 = a1
  · simp only; omega
  · rw [if_pos he] at h1
    have := of_decide_eq_false h1
    simp only; omega
theorem Te.sorted {Z : Nat → Prop} {w : World} {t n ad : Nat} {es : Nat → List En} {L : List En} (h : Te Z w t n es L ad) : L.Pairwise leE := by rw [← h.2.1]; exact sortE_ord _
theorem Te.reZ {Z : Nat → Prop} {w : World} {t n ad : Nat} {es : Nat → List En} {L : List En} (h : Te Z w t n es L ad) {b : Nat} (hb : w.heap.size ≤ b) : Te (fun q => Z q ∨ q = b) w t n es L ad := by
  obtain ⟨⟨hb', mb, c, hp, v, h1⟩, h2⟩ := h
  obtain ⟨l1, l2, l3⟩ := h1.lt
  obtain ⟨z1, z2, z3⟩ := h1.zf
  refine ⟨⟨hb', mb, c, hp, v, ⟨h1.box, h1.row, h1.hc, h1.mp, h1.he, h1.ord, h1.fix, h1.hpx, h1.hpi, h1.own, ⟨?_, ?_, ?_⟩, ?_, ?_⟩⟩, h2⟩
  · rintro (h | h); · exact z1.1 h
    · omega
  · rintro (h | h); · exact z1.2.1 h
    · omega
  · rintro (h | h); · exact z1.2.2 h
    · omega
  · rintro i hi (h | h); · exact z2 i hi h
    · have := (h1.he i hi).lt; omega
  · rintro i hi q hq (h | h); · exact z3 i hi q hq h
    · have := own_lt0 (h1.he i hi) hq; omega
theorem Te.weak {Z Z' : Nat → Prop} {w : World} {t n ad : Nat} {es : Nat → List En} {L : List En} (h : Te Z' w t n es L ad) (hz : ∀ q, Z q → Z' q) : Te Z w t n es L ad := by
  obtain ⟨⟨hb', mb, c, hp, v, h1⟩, h2⟩ := h
  obtain ⟨z1, z2, z3⟩ := h1.zf
  exact ⟨⟨hb', mb, c, hp, v, ⟨h1.box, h1.row, h1.hc, h1.mp, h1.he, h1.ord, h1.fix, h1.hpx, h1.hpi, h1.own, ⟨fun h => z1.1 (hz _ h), fun h => z1.2.1 (hz _ h), fun h => z1.2.2 (hz _ h)⟩, fun i hi h => z2 i hi (hz _ h), fun i hi q hq h => z3 i hi q hq (hz _ h)⟩⟩, h2⟩
theorem mem_ins {e x : En} {L : List En} : e ∈ insF x L ↔ e = x ∨ e ∈ L := (insF_perm x L).mem_iff.trans (by simp)
theorem Te.only {Z : Nat → Prop} {w w' : World} {t n ad : Nat} {es : Nat → List En} {L : List En} (h : Te Z w t n es L ad) {b : Nat} (o : Only b b w w') (hz : Z b) : Te Z w' t n es L ad := by
  obtain ⟨⟨hb', m2, c, hp, v, q1⟩, q2⟩ := h
  have n1 := q1.zf.1
  exact ⟨⟨hb', m2, c, hp, v, q1.other o ⟨fun e => n1.1 (e ▸ hz), fun e => n1.2.1 (e ▸ hz), fun e => n1.2.2 (e ▸ hz)⟩ (fun i hi e => q1.zf.2.1 i hi (e ▸ hz)) (fun i hi e => q1.zf.2.2 i hi b e hz)⟩, q2⟩
end Go.Proofs.Ytaogpodncphpjaa
/-! A range over a map with integer keys, told by a function: which keys are still to come. Of no program of its own. -/
namespace Go.Proofs.Ytaogpodncphpjaa
set_option linter.unusedVariables false
set_option linter.unusedSimpArgs false
open Go.RowKit Go.MapKept
open Go.ChangeMaps (setBlock)

/-- Block b is a map; block r an iterator over it; left: which keys are still to come; cnt: how many. -/
structure RgI (w : World) (b r : Nat) (q : IntKind) (g : Int → Option Value) (n : Nat) (left : Int → Bool) (cnt : Nat) : Prop where
  h : ∃ es clock since seen c0, w.heap[b]? = some (.map es clock) ∧ Stamped es clock ∧ (∀ x ∈ es.toList, IsKey (.int q) x.key) ∧ es.size = n ∧ (∀ a v, g a = some v ↔ ∃ x ∈ es.toList, x.key = .int q a ∧ x.val = v) ∧
    w.heap[r]? = some (.mapIter (some b) since seen c0) ∧ (∀ x ∈ es.toList, x.born < since) ∧ (leftOf es seen).size = cnt ∧ (∀ a, left a = true ↔ ∃ x ∈ es.toList, x.key = .int q a ∧ seen.contains x.born = false) ∧ since ≤ c0 ∧ since ≤ clock
/-- How many are still to come: for the measure. -/
def leftI (w : World) (b r : Nat) : Nat :=
  match w.heap[b]?, w.heap[r]? with
  | some (.map es _), some (.mapIter _ _ seen _) => (leftOf es seen).size
  | _, _ => 0
theorem entry_eq : ∀ {l : List MapEntry}, l.Pairwise (fun x y => x.key ≠ y.key) → ∀ {x y : MapEntry}, x ∈ l → y ∈ l → x.key = y.key → x = y
  | [], _, _, _, hx, _, _ => by simp at hx
  | a :: r, hp, x, y, hx, hy, h => by
    obtain ⟨h1, h2⟩ := List.pairwise_cons.1 hp
    rcases List.mem_cons.1 hx with ex | hx'
    · rcases List.mem_cons.1 hy with ey | hy'
      · rw [ex, ey]
      · exact absurd (ex ▸ h) (h1 y hy')
    · rcases List.mem_cons.1 hy with ey | hy'
      · exact absurd (ey ▸ h).symm (h1 x hx')
      · exact entry_eq h2 hx' hy' h
def strike (left : Int → Bool) (a : Int) : Int → Bool := fun x => left x && !(x == a)
namespace RgI
variable {w w' : World} {b r n cnt : Nat} {q : IntKind} {g : Int → Option Value} {left : Int → Bool} {P : Program}
theorem map (h : RgI w b r q g n left cnt) : MapI w b q g n := by
  obtain ⟨es, clock, since, seen, c0, h1, h2, h3, h4, h5, _⟩ := h.h
  exact ⟨es, clock, h1, h2, h3, h4, h5⟩
theorem left_eq (h : RgI w b r q g n left cnt) : leftI w b r = cnt := by
  obtain ⟨es, clock, since, seen, c0, h1, h2, h3, h4, h5, h6, h7, h8, _⟩ := h.h
  simp only [leftI, h1, h6]; exact h8
theorem lt (h : RgI w b r q g n left cnt) : b < w.heap.size ∧ r < w.heap.size ∧ r ≠ b := by
  obtain ⟨es, clock, since, seen, c0, h1, h2, h3, h4, h5, h6, _⟩ := h.h
  refine ⟨(Array.getElem?_eq_some_iff.1 h1).1, (Array.getElem?_eq_some_iff.1 h6).1, fun e => ?_⟩
  rw [e, h1] at h6; cases h6
theorem kept (h : RgI w b r q g n left cnt) (h1 : w'.heap[b]? = w.heap[b]?) (h2 : w'.heap[r]? = w.heap[r]?) : RgI w' b r q g n left cnt := by
  obtain ⟨es, clock, since, seen, c0, e1, e2, e3, e4, e5, e6, rest⟩ := h.h
  exact ⟨es, clock, since, seen, c0, h1.trans e1, e2, e3, e4, e5, h2.trans e6, rest⟩
/-- 'range m'. -/
theorem start {t kt et : TypeId} (h : MapI w b q g n) (hm : P.underlying t = some (.map kt et)) :
    ∃ o, (Instr.range t (.map (some b))).run P w = .ok (.pointer (some ⟨w.heap.size, 0, none⟩)) (w.alloc o) ∧ RgI (w.alloc o) b w.heap.size q g n (fun a => (g a).isSome) n := by
  have hlt := h.lt
  obtain ⟨es, clock, h1, h2, h3, h4, h5⟩ := h.h
  refine ⟨_, run_range_map w t kt et b es clock hm h1, es, clock, clock, #[], clock, ((MapKept.heap_alloc w _).2 b hlt).trans h1, h2, h3, h4, h5, (MapKept.heap_alloc w _).1, h2.1, by unfold leftOf; rw [Array.filter_eq_self.2 (fun x _ => by simp)]; exact h4, fun a => ?_, Nat.le_refl _, Nat.le_refl _⟩
  constructor
  · intro hs
    obtain ⟨v, hv⟩ := Option.isSome_iff_exists.1 hs
    obtain ⟨x, hx, hk, _⟩ := (h5 a v).1 hv
    exact ⟨x, hx, hk, by simp⟩
  · rintro ⟨x, hx, hk, _⟩
    exact Option.isSome_iff_exists.2 ⟨x.val, (h5 a x.val).2 ⟨x, hx, hk, rfl⟩⟩
/-- The step. -/
theorem next (h : RgI w b r q g n left cnt) :
    (cnt = 0 ∧ (∀ a, left a = false) ∧ ∀ ty, (Instr.next (.pointer (some ⟨r, 0, none⟩)) false ty).run P w = .ok (.tuple #[.bool false]) w) ∨
    ∃ a v w' cnt', left a = true ∧ g a = some v ∧ (∀ ty, (Instr.next (.pointer (some ⟨r, 0, none⟩)) false ty).run P w = .ok (.tuple #[.bool true, .int q a, v]) w') ∧
      RgI w' b r q g n (strike left a) cnt' ∧ cnt' < cnt ∧ Only r r w w' ∧ (Instr.entry (.pointer (some ⟨r, 0, none⟩))).run P w' = .ok (.tuple #[.int q a, v]) w' := by
  have hne := h.lt.2.2
  obtain ⟨es, clock, since, seen, c0, h1, h2, h3, h4, h5, h6, h7, rfl, h9, h10, h11⟩ := h.h
  have hst := (stamped_iff es clock).1 h2
  rcases run_next_at (P := P) w 0 r b since c0 seen es clock h6 h1 h7 h10 with ⟨e0, hrun⟩ | ⟨e, he, w1, hal, hrun⟩
  · refine .inl ⟨e0, fun a => ?_, fun ty => hrun⟩
    cases hk : left a
    · rfl
    · obtain ⟨x, hx, _, hc⟩ := (h9 a).1 hk
      rw [all_seen es seen e0 x hx] at hc
      cases hc
  · obtain ⟨hem, hes⟩ := mem_left he
    obtain ⟨a, hka⟩ : ∃ a, e.key = .int q a := by
      have := h3 e hem
      cases hk : e.key <;> simp [hk, IsKey] at this ⊢
      exact this
    have hr1 : w1.heap[r]? = some (.mapIter (some b) since seen c0) := by rcases hal with rfl | rfl <;> exact h6
    have hb1 : w1.heap[b]? = some (.map es clock) := by rcases hal with rfl | rfl <;> exact h1
    have hset := Go.MapKept.heap_set (o' := .mapIter (some b) since (seen.push e.born) clock) hr1
    have hb' : (setBlock w1 r (.mapIter (some b) since (seen.push e.born) clock)).heap[b]? = some (.map es clock) := (hset.2 b (fun e1 => hne e1.symm)).trans hb1
    have hkeys : ∀ x ∈ es.toList, x.key = .int q a → x = e := fun x hx hxk => entry_eq hst.2.2 hx hem (hxk.trans hka.symm)
    refine .inr ⟨a, e.val, _, _, (h9 a).2 ⟨e, hem, hka, hes⟩, (h5 a e.val).2 ⟨e, hem, hka, rfl⟩, fun ty => by rw [← hka]; exact hrun,
      ⟨es, clock, since, seen.push e.born, clock, hb', h2, h3, h4, h5, hset.1, h7, rfl, fun c => ?_, h11, h11⟩, left_shrinks es seen e he, ?_, by
        rw [← hka]; exact run_entry_at _ r b since seen es clock e hset.1 hb' hem hst.2.1⟩
    · simp only [strike, Bool.and_eq_true, Bool.not_eq_true', beq_eq_false_iff_ne]
      rw [h9 c]
      constructor
      · rintro ⟨⟨x, hx, hxk, hxc⟩, hca⟩
        refine ⟨x, hx, hxk, ?_⟩
        rw [contains_push, hxc, Bool.false_or, beq_eq_false_iff_ne]
        intro hb2
        have := born_inj hst.2.1 hx hem hb2
        subst this
        rw [hxk] at hka
        simp only [Value.int.injEq] at hka
        exact hca hka.2
      · rintro ⟨x, hx, hxk, hxc⟩
        rw [contains_push, Bool.or_eq_false_iff] at hxc
        refine ⟨⟨x, hx, hxk, hxc.1⟩, fun hca => ?_⟩
        subst hca
        have := hkeys x hx hxk
        subst this
        simp at hxc
    · rcases hal with rfl | rfl <;> exact ⟨rfl, rfl, rfl, by simp [setBlock], fun i _ hi _ => hset.2 i hi⟩
end RgI
end Go.Proofs.Ytaogpodncphpjaa
/-! Maps as functions, whatever the key's type (KeyT: what a key's type must do): what a look-up, a store, an entry and its store run to. Of no program of its own. -/
namespace Go.Proofs.Ytaogpodncphpjaa
set_option linter.unusedVariables false
set_option linter.unusedSimpArgs false
open Go.RowKit Go.MapKept

/-- What a key's type does: its values are the enc's, its test and its search run. -/
structure KeyT (P : Program) (kt : TypeId) (κ : Type) (enc : κ → Value) : Prop where
  inj : ∀ a b, enc a = enc b → a = b
  chk : ∀ e w a, (Instr.checkKey e 10000 kt (enc a)).run P w = .ok () w
  fnd : ∀ w a (l : List MapEntry), (∀ x ∈ l, ∃ b, x.key = enc b) →
    ((Instr.findKey kt (enc a) l).run P w = .ok none w ∧ ∀ x ∈ l, x.key ≠ enc a) ∨ ∃ j e, (Instr.findKey kt (enc a) l).run P w = .ok (some (j, e.val)) w ∧ l[j]? = some e ∧ e.key = enc a
  stay : ∀ a w, (Instr.keyThatStays (enc a) (enc a)).run P w = .ok (enc a) w

variable {κ : Type}

/-- Block b is a map of n entries: key a has g a. -/
structure MapK (w : World) (b : Nat) (enc : κ → Value) (g : κ → Option Value) (n : Nat) : Prop where
  h : ∃ es clock, w.heap[b]? = some (.map es clock) ∧ Stamped es clock ∧ (∀ x ∈ es.toList, ∃ c, x.key = enc c) ∧ es.size = n ∧ ∀ a v, g a = some v ↔ ∃ x ∈ es.toList, x.key = enc a ∧ x.val = v
/-- .. and key a was born at s. -/
structure MapS (w : World) (b : Nat) (enc : κ → Value) (g : κ → Option Value) (n : Nat) (a : κ) (s : Nat) : Prop where
  h : ∃ es clock, w.heap[b]? = some (.map es clock) ∧ Stamped es clock ∧ (∀ x ∈ es.toList, ∃ c, x.key = enc c) ∧ es.size = n ∧ (∀ a v, g a = some v ↔ ∃ x ∈ es.toList, x.key = enc a ∧ x.val = v) ∧ ∃ x ∈ es.toList, x.key = enc a ∧ x.born = s
/-- With another answer for one key. -/
def updK [DecidableEq κ] (g : κ → Option Value) (a : κ) (v : Option Value) : κ → Option Value := fun x => if x = a then v else g x
theorem updK_same [DecidableEq κ] (g : κ → Option Value) (a : κ) (v : Option Value) : updK g a v a = v := by simp [updK]
theorem updK_ne [DecidableEq κ] (g : κ → Option Value) {a x : κ} (v : Option Value) (h : x ≠ a) : updK g a v x = g x := by simp [updK, h]
theorem updK_updK [DecidableEq κ] (g : κ → Option Value) (a : κ) (u v : Option Value) : updK (updK g a u) a v = updK g a v := by
  funext x; unfold updK; split <;> simp_all

theorem MapS.weak {w : World} {b : Nat} {enc : κ → Value} {g : κ → Option Value} {n : Nat} {a : κ} {s : Nat} (h : MapS w b enc g n a s) : MapK w b enc g n := by
  obtain ⟨es, clock, h1, h2, h3, h4, h5, _⟩ := h.h
  exact ⟨es, clock, h1, h2, h3, h4, h5⟩
theorem MapS.kept {w : World} {b : Nat} {enc : κ → Value} {g : κ → Option Value} {n : Nat} {a : κ} {s : Nat} (h : MapS w b enc g n a s) {w' : World} (e : w'.heap[b]? = w.heap[b]?) : MapS w' b enc g n a s := by
  obtain ⟨es, clock, h1, h2⟩ := h.h
  exact ⟨es, clock, e.trans h1, h2⟩

theorem modify_mem {es : Array MapEntry} {clock : Nat} (hs : Stamped es clock) {j : Nat} {e : MapEntry} (hj : es[j]? = some e) (f : MapEntry → MapEntry) (x : MapEntry) :
    x ∈ (es.modify j f).toList ↔ (x ∈ es.toList ∧ x.key ≠ e.key) ∨ x = f e := by
  have hp := ((stamped_iff es clock).1 hs).2.2
  have e2 : es.toList[j]? = some e := by rw [Array.getElem?_toList]; exact hj
  constructor
  · intro hx
    obtain ⟨i, hi⟩ := List.mem_iff_getElem?.1 hx
    rw [Array.getElem?_toList, Array.getElem?_modify] at hi
    split at hi
    · rename_i e'; subst e'
      rw [hj] at hi; simp only [Option.map_some, Option.some.injEq] at hi
      exact .inr hi.symm
    · rename_i hne
      refine .inl ⟨by rw [← Array.getElem?_toList] at hi; exact List.mem_of_getElem? hi, fun hxk => ?_⟩
      have hi' : es.toList[i]? = some x := by rw [Array.getElem?_toList]; exact hi
      obtain ⟨hi1, hi2⟩ := List.getElem?_eq_some_iff.1 hi'
      obtain ⟨hj1, hj2⟩ := List.getElem?_eq_some_iff.1 e2
      rcases Nat.lt_or_gt_of_ne hne with h | h
      · exact List.pairwise_iff_getElem.1 hp j i hj1 hi1 h (by rw [hi2, hj2, hxk])
      · exact List.pairwise_iff_getElem.1 hp i j hi1 hj1 h (by rw [hi2, hj2, hxk])
  · rintro (⟨hx, hxk⟩ | rfl)
    · obtain ⟨i, hi⟩ := List.mem_iff_getElem?.1 hx
      have hne : j ≠ i := fun q => by
        subst q
        rw [e2] at hi; simp only [Option.some.injEq] at hi; subst hi; exact hxk rfl
      refine List.mem_iff_getElem?.2 ⟨i, ?_⟩
      rw [Array.getElem?_toList, Array.getElem?_modify, if_neg hne, ← Array.getElem?_toList]; exact hi
    · refine List.mem_iff_getElem?.2 ⟨j, ?_⟩
      rw [Array.getElem?_toList, Array.getElem?_modify, if_pos rfl, hj]; rfl

namespace MapK
variable {w : World} {b : Nat} {enc : κ → Value} {g : κ → Option Value} {n : Nat}
theorem lt (h : MapK w b enc g n) : b < w.heap.size := by
  obtain ⟨es, clock, h1, _⟩ := h.h
  rw [Array.getElem?_eq_some_iff] at h1; exact h1.1
theorem kept (h : MapK w b enc g n) {w' : World} (e : w'.heap[b]? = w.heap[b]?) : MapK w' b enc g n := by
  obtain ⟨es, clock, h1, h2⟩ := h.h
  exact ⟨es, clock, e.trans h1, h2⟩
theorem new (w : World) (enc : κ → Value) : MapK (w.alloc (.map #[] 0)) w.heap.size enc (fun _ => none) 0 :=
  ⟨#[], 0, (heap_alloc w _).1, stamped_empty 0, by simp, rfl, by simp⟩
variable {P : Program} {t kt et : TypeId}
theorem set_only {o : Obj} {w : World} {b : Nat} {es : Array MapEntry} {clock : Nat} (h1 : w.heap[b]? = some (.map es clock)) : Only b b w { w with heap := w.heap.setIfInBounds b o } :=
  ⟨rfl, rfl, rfl, by simp, fun k _ hk _ => (heap_set h1).2 k hk⟩

theorem look_hit (h : MapK w b enc g n) (K : KeyT P kt κ enc) (hm : P.underlying t = some (.map kt et)) {a : κ} {v : Value} (ha : g a = some v) (ok : Bool) :
    (Instr.lookup t (.map (some b)) (enc a) ok).run P w = .ok (if ok then .tuple #[v, .bool true] else v) w := by
  obtain ⟨es, clock, h1, hs, hk, hn, hg⟩ := h.h
  rcases K.fnd w a es.toList hk with ⟨e1, e2⟩ | ⟨j, e, e1, e2, e3⟩
  · obtain ⟨x, hx, hxk, _⟩ := (hg a v).1 ha
    exact absurd hxk (e2 x hx)
  · have hv : e.val = v := by
      have := (hg a e.val).2 ⟨e, List.mem_of_getElem? e2, e3, rfl⟩
      rw [ha] at this; exact (Option.some.inj this).symm
    subst hv
    simp only [Instr.lookup, Sem.run_bind, run_underlying hm, MapKept.run_getObj_map h1, Sem.run_pure, Result.andThen]
    simp [K.chk, e1, Result.andThen]
theorem look_miss (h : MapK w b enc g n) (K : KeyT P kt κ enc) (hm : P.underlying t = some (.map kt et)) {z : Value} (hz : ∀ w, (zeroValue et).run P w = .ok z w) {a : κ} (ha : g a = none) (ok : Bool) :
    (Instr.lookup t (.map (some b)) (enc a) ok).run P w = .ok (if ok then .tuple #[z, .bool false] else z) w := by
  obtain ⟨es, clock, h1, hs, hk, hn, hg⟩ := h.h
  rcases K.fnd w a es.toList hk with ⟨e1, e2⟩ | ⟨j, e, e1, e2, e3⟩
  · simp only [Instr.lookup, Sem.run_bind, run_underlying hm, MapKept.run_getObj_map h1, Sem.run_pure, Result.andThen]
    simp [K.chk, e1, hz, Result.andThen]
  · have := (hg a e.val).2 ⟨e, List.mem_of_getElem? e2, e3, rfl⟩
    rw [ha] at this; cases this
theorem len (h : MapK w b enc g n) (hm : P.underlying t = some (.map kt et)) (ty : TypeId) : (Builtin.len_ #[t] ty #[.map (some b)]).run P w = .ok (.int .i64 n) w := by
  obtain ⟨es, clock, h1, _, _, h2, _⟩ := h.h
  subst h2
  simp [Builtin.len_, run_underlying hm, MapKept.run_getObj_map h1, Result.andThen, goInt]

/-- The list behind a push, behind a change of one. -/
theorem push_spec [DecidableEq κ] {es : Array MapEntry} (hg : ∀ a v, g a = some v ↔ ∃ x ∈ es.toList, x.key = enc a ∧ x.val = v) (hinj : ∀ a b, enc a = enc b → a = b) (a : κ) (v : Value) (s : Nat) (e2 : ∀ x ∈ es.toList, x.key ≠ enc a) :
    ∀ c u, updK g a (some v) c = some u ↔ ∃ x ∈ (es.push { key := enc a, val := v, born := s }).toList, x.key = enc c ∧ x.val = u := by
  intro c u
  simp only [Array.toList_push, List.mem_append, List.mem_singleton, updK]
  split
  · rename_i e; subst e
    constructor
    · intro hu; simp only [Option.some.injEq] at hu; exact ⟨_, .inr rfl, rfl, hu⟩
    · rintro ⟨x, hx | rfl, hxk, hxv⟩
      · exact absurd hxk (e2 x hx)
      · rw [← hxv]
  · rename_i hne
    rw [hg]
    constructor
    · rintro ⟨x, hx, r⟩; exact ⟨x, .inl hx, r⟩
    · rintro ⟨x, hx | rfl, hxk, hxv⟩
      · exact ⟨x, hx, hxk, hxv⟩
      · exact absurd (hinj _ _ hxk).symm hne
theorem modify_spec [DecidableEq κ] {es : Array MapEntry} {clock : Nat} (hs : Stamped es clock) (hg : ∀ a v, g a = some v ↔ ∃ x ∈ es.toList, x.key = enc a ∧ x.val = v) (hinj : ∀ a b, enc a = enc b → a = b) (a : κ) (v : Value) {j : Nat} {e : MapEntry}
    (hj : es[j]? = some e) (e3 : e.key = enc a) (f : MapEntry → MapEntry) (fk : (f e).key = enc a) (fv : (f e).val = v) :
    ∀ c u, updK g a (some v) c = some u ↔ ∃ x ∈ (es.modify j f).toList, x.key = enc c ∧ x.val = u := by
  intro c u
  have hmem := modify_mem hs hj f
  simp only [updK]
  split
  · rename_i ec; subst ec
    constructor
    · intro hu; simp only [Option.some.injEq] at hu; exact ⟨_, (hmem _).2 (.inr rfl), fk, fv.trans hu⟩
    · rintro ⟨x, hx, hxk, hxv⟩
      rcases (hmem x).1 hx with ⟨_, h⟩ | rfl
      · exact absurd hxk (by rw [← e3]; exact h)
      · rw [← hxv, fv]
  · rename_i hne
    rw [hg]
    constructor
    · rintro ⟨x, hx, hxk, hxv⟩
      exact ⟨x, (hmem x).2 (.inl ⟨hx, fun h => hne (hinj _ _ (by rw [← hxk, h, e3]))⟩), hxk, hxv⟩
    · rintro ⟨x, hx, hxk, hxv⟩
      rcases (hmem x).1 hx with ⟨h, _⟩ | rfl
      · exact ⟨x, h, hxk, hxv⟩
      · exact absurd (hinj _ _ (hxk.symm.trans fk)) hne
theorem key_modify {es : Array MapEntry} {clock : Nat} (hs : Stamped es clock) (hk : ∀ x ∈ es.toList, ∃ c, x.key = enc c) {j : Nat} {e : MapEntry} (hj : es[j]? = some e) (f : MapEntry → MapEntry) (a : κ) (fk : (f e).key = enc a) :
    ∀ x ∈ (es.modify j f).toList, ∃ c, x.key = enc c := fun x hx => by
  rcases (modify_mem hs hj f x).1 hx with ⟨h, _⟩ | rfl
  · exact hk x h
  · exact ⟨a, fk⟩
theorem none_of {es : Array MapEntry} (hg : ∀ a v, g a = some v ↔ ∃ x ∈ es.toList, x.key = enc a ∧ x.val = v) {a : κ} (e2 : ∀ x ∈ es.toList, x.key ≠ enc a) : g a = none := by
  rcases hga : g a with _ | v
  · rfl
  · obtain ⟨x, hx, hk, _⟩ := (hg a v).1 hga
    exact absurd hk (e2 x hx)

theorem store [DecidableEq κ] (h : MapK w b enc g n) (K : KeyT P kt κ enc) (hm : P.underlying t = some (.map kt et)) (a : κ) (v : Value) :
    ∃ w', (Instr.mapUpdate t (.map (some b)) (enc a) v).run P w = .ok () w' ∧ MapK w' b enc (updK g a (some v)) (if g a = none then n + 1 else n) ∧ Only b b w w' := by
  obtain ⟨es, clock, h1, hs, hk, hn, hg⟩ := h.h
  rcases K.fnd w a es.toList hk with ⟨e1, e2⟩ | ⟨j, e, e1, e2, e3⟩
  · rw [if_pos (none_of hg e2)]
    refine ⟨{ w with heap := w.heap.setIfInBounds b (.map (es.push { key := enc a, val := v, born := clock }) (clock + 1)) }, by simp [Instr.mapUpdate, run_underlying hm, MapKept.run_getObj_map h1, K.chk, e1, run_setObj_map _ h1, Result.andThen], ⟨_, _, (heap_set h1).1, stamped_push hs e2, ?_, by simp [hn], push_spec hg K.inj a v clock e2⟩, set_only h1⟩
    intro x hx
    simp only [Array.toList_push, List.mem_append, List.mem_singleton] at hx
    rcases hx with hx | rfl
    · exact hk x hx
    · exact ⟨a, rfl⟩
  · have hj : es[j]? = some e := by simpa using e2
    have hga : g a ≠ none := fun hc => by
      have := (hg a e.val).2 ⟨e, List.mem_of_getElem? e2, e3, rfl⟩
      rw [hc] at this; cases this
    rw [if_neg hga]
    have hkey : ∀ e', es[j]? = some e' → ({ e' with key := enc a, val := v } : MapEntry).key = e'.key := fun e' he' => by rw [hj] at he'; cases he'; exact e3.symm
    exact ⟨{ w with heap := w.heap.setIfInBounds b (.map (es.modify j fun e => { e with key := enc a, val := v }) clock) }, by simp [Instr.mapUpdate, run_underlying hm, MapKept.run_getObj_map h1, K.chk, e1, hj, e3, K.stay, run_setObj_map _ h1, Result.andThen], ⟨_, _, (heap_set h1).1, stamped_modify hs _ _ (fun _ _ => rfl) (fun e' _ he' => hkey e' he'), key_modify hs hk hj _ a rfl, by simpa using hn, modify_spec hs hg K.inj a v hj e3 _ rfl rfl⟩, set_only h1⟩

/-- What an entry is asked for: its value (or the zero), and its stamp. -/
theorem entry [DecidableEq κ] (h : MapK w b enc g n) (K : KeyT P kt κ enc) (hm : P.underlying t = some (.map kt et)) {z : Value} (hz : ∀ w, (zeroValue et).run P w = .ok z w) (a : κ) :
    ∃ w' s, (Instr.mapEntry t (.map (some b)) (enc a)).run P w = .ok (.tuple #[(g a).getD z, .int .i64 (s : Nat)]) w' ∧ MapS w' b enc (updK g a (some ((g a).getD z))) (if g a = none then n + 1 else n) a s ∧ Only b b w w' := by
  obtain ⟨es, clock, h1, hs, hk, hn, hg⟩ := h.h
  rcases K.fnd w a es.toList hk with ⟨e1, e2⟩ | ⟨j, e, e1, e2, e3⟩
  · have hga := none_of hg e2
    rw [if_pos hga]
    refine ⟨{ w with heap := w.heap.setIfInBounds b (.map (es.push { key := enc a, val := z, born := clock }) (clock + 1)) }, clock, by simp [Instr.mapEntry, run_underlying hm, MapKept.run_getObj_map h1, K.chk, e1, hz, run_setObj_map _ h1, Result.andThen, hga, goInt], ⟨_, _, (heap_set h1).1, stamped_push hs e2, ?_, by simp [hn], by rw [hga]; exact push_spec hg K.inj a z clock e2, ?_⟩, set_only h1⟩
    · intro x hx
      simp only [Array.toList_push, List.mem_append, List.mem_singleton] at hx
      rcases hx with hx | rfl
      · exact hk x hx
      · exact ⟨a, rfl⟩
    · exact ⟨{ key := enc a, val := z, born := clock }, by simp, rfl, rfl⟩
  · have hj : es[j]? = some e := by simpa using e2
    have hga : g a = some e.val := (hg a e.val).2 ⟨e, List.mem_of_getElem? e2, e3, rfl⟩
    have hkey : ∀ e', es[j]? = some e' → ({ e' with key := enc a } : MapEntry).key = e'.key := fun e' he' => by rw [hj] at he'; cases he'; exact e3.symm
    rw [if_neg (by rw [hga]; simp)]
    refine ⟨{ w with heap := w.heap.setIfInBounds b (.map (es.modify j fun e => { e with key := enc a }) clock) }, e.born, by simp [Instr.mapEntry, run_underlying hm, MapKept.run_getObj_map h1, K.chk, e1, hj, e3, K.stay, run_setObj_map _ h1, Result.andThen, hga, goInt], ⟨_, _, (heap_set h1).1, stamped_modify hs _ _ (fun _ _ => rfl) (fun e' _ he' => hkey e' he'), key_modify hs hk hj _ a rfl, by simpa using hn, by rw [hga]; exact modify_spec hs hg K.inj a _ hj e3 _ rfl rfl, ?_⟩, set_only h1⟩
    exact ⟨{ e with key := enc a }, (modify_mem hs hj _ _).2 (.inr rfl), rfl, rfl⟩
end MapK
/-- The store into an entry that was asked for. -/
theorem MapS.put [DecidableEq κ] {w : World} {b : Nat} {enc : κ → Value} {g : κ → Option Value} {n : Nat} {a : κ} {s : Nat} (h : MapS w b enc g n a s) {P : Program} {t kt : TypeId} (K : KeyT P kt κ enc) (v : Value) :
    ∃ w', (Instr.entryStore t (.map (some b)) (.int .i64 (s : Nat)) v).run P w = .ok () w' ∧ MapK w' b enc (updK g a (some v)) n ∧ Only b b w w' := by
  obtain ⟨es, clock, h1, hs, hk, hn, hg, x, hx, hxk, hxs⟩ := h.h
  have hst := (stamped_iff es clock).1 hs
  obtain ⟨j, hj⟩ := List.mem_iff_getElem?.1 hx
  obtain ⟨hjl, hjx⟩ := List.getElem?_eq_some_iff.1 hj
  have hfi : es.findIdx? (fun e => (e.born : Int) == ((s : Nat) : Int)) = some j := by
    rw [Array.findIdx?_eq_some_iff_getElem]
    refine ⟨by simpa using hjl, by simp only [Array.getElem_toList] at hjx; rw [hjx, hxs]; simp, fun i hi => ?_⟩
    have hil : i < es.toList.length := by omega
    have hnd := hst.2.1
    have : (es.toList.map (·.born))[i]'(by simpa using hil) ≠ (es.toList.map (·.born))[j]'(by simpa using hjl) := List.pairwise_iff_getElem.1 hnd i j _ _ hi
    simp only [List.getElem_map, hjx, hxs, Array.getElem_toList] at this
    intro hc
    exact this (by simp at hc; simpa using (by omega : es[i].born = s))
  have hj' : es[j]? = some x := by rw [← Array.getElem?_toList]; exact hj
  refine ⟨{ w with heap := w.heap.setIfInBounds b (.map (es.modify j fun e => { e with val := v }) clock) }, by simp [Instr.entryStore, MapKept.run_getObj_map h1, hfi, run_setObj_map _ h1, Result.andThen, asInt, asIntOf], ⟨_, _, (heap_set h1).1, stamped_modify hs _ _ (fun _ _ => rfl) (fun e' _ he' => rfl), MapK.key_modify hs hk hj' _ a hxk, by simpa using hn, MapK.modify_spec hs hg K.inj a v hj' hxk _ hxk rfl⟩, MapK.set_only h1⟩
end Go.Proofs.Ytaogpodncphpjaa
/-! Maps with integer keys: an entry that is asked for, and its store. Of no program of its own. -/
namespace Go.Proofs.Ytaogpodncphpjaa
set_option linter.unusedVariables false
set_option linter.unusedSimpArgs false
open Go.RowKit Go.MapKept

abbrev encI (q : IntKind) : Int → Value := fun a => .int q a
theorem keyI {P : Program} {kt : TypeId} {q : IntKind} (hd : P.underlying kt = some (.int q)) : KeyT P kt Int (encI q) where
  inj := fun a b h => by simp only [encI, Value.int.injEq] at h; exact h.2
  chk := fun e w a => run_checkKey (P := P) (w := w) hd (MapI.isKey q a) e 9999
  fnd := fun w a l hl => by
    have h3 : ∀ x ∈ l, IsKey (.int q) x.key := fun x hx => by obtain ⟨c, hc⟩ := hl x hx; rw [hc]; exact MapI.isKey q c
    rcases findNow_spec (MapI.isKey q a) l 0 h3 with ⟨e1, e2⟩ | ⟨j, e, e1, e2, e3⟩
    · exact .inl ⟨run_findKey hd e1, e2⟩
    · exact .inr ⟨j, e, by have := run_findKey (P := P) (w := w) hd e1; simpa using this, by simpa using e2, e3⟩
  stay := fun a w => run_keyThatStays (MapI.isKey q a)
theorem isKey_int {q : IntKind} {k : Value} (h : IsKey (.int q) k) : ∃ a, k = .int q a := by
  cases k <;> simp [IsKey] at h ⊢
  exact h
namespace MapI
variable {w : World} {b : Nat} {q : IntKind} {g : Int → Option Value} {n : Nat} {P : Program} {t kt et : TypeId}
theorem toK (h : MapI w b q g n) : MapK w b (encI q) g n := by
  obtain ⟨es, clock, h1, h2, h3, h4, h5⟩ := h.h
  exact ⟨es, clock, h1, h2, fun x hx => isKey_int (h3 x hx), h4, h5⟩
theorem ofK (h : MapK w b (encI q) g n) : MapI w b q g n := by
  obtain ⟨es, clock, h1, h2, h3, h4, h5⟩ := h.h
  exact ⟨es, clock, h1, h2, fun x hx => by obtain ⟨c, hc⟩ := h3 x hx; rw [hc]; exact MapI.isKey q c, h4, h5⟩
theorem updK_is (g : Int → Option Value) (a : Int) (v : Option Value) : updK g a v = updG g a v := rfl
/-- An entry that is asked for, and then stored into: the map has it. -/
theorem put2 (h : MapI w b q g n) (hm : P.underlying t = some (.map kt et)) (hd : P.underlying kt = some (.int q)) {z : Value} (hz : ∀ w, (zeroValue et).run P w = .ok z w) (a : Int) (v : Value) :
    ∃ w1 s w2, (Instr.mapEntry t (.map (some b)) (.int q a)).run P w = .ok (.tuple #[(g a).getD z, .int .i64 (s : Nat)]) w1 ∧ Only b b w w1 ∧
      (Instr.entryStore t (.map (some b)) (.int .i64 (s : Nat)) v).run P w1 = .ok () w2 ∧ MapI w2 b q (updG g a (some v)) (if g a = none then n + 1 else n) ∧ Only b b w1 w2 := by
  obtain ⟨w1, s, r1, m1, o1⟩ := h.toK.entry (keyI hd) hm hz a
  obtain ⟨w2, r2, m2, o2⟩ := m1.put (P := P) (t := t) (kt := kt) (keyI hd) v
  rw [updK_updK, updK_is] at m2
  exact ⟨w1, s, w2, r1, o1, r2, ofK m2, o2⟩
end MapI
end Go.Proofs.Ytaogpodncphpjaa
/-! poll.Poll: who waits, what is ready; what its look-ups answer. -/
namespace Go.Proofs.Ytaogpodncphpjaa
set_option linter.unusedVariables false
set_option linter.unusedSimpArgs false
open Go.RowKit

/-- The poll at block p: W: who waits for what (descriptor, goroutine); R: what is ready; Z: foreign blocks. -/
structure Pq (Z : Nat → Prop) (w : World) (p b1 b2 b3 : Nat) (W : List (Int × Int)) (R : List Int) : Prop where
  box : w.heap[p]? = some (.cells #[.map (some b1), .map (some b2), .map (some b3)] 105 (0, 0))
  m1 : ∃ g, MapI w b1 .u16 g W.length ∧ ∀ a v, g a = some v ↔ ∃ y, (a, y) ∈ W ∧ v = .int .i64 y
  m2 : ∃ g, MapI w b2 .i64 g W.length ∧ ∀ a v, g a = some v ↔ ∃ x, (x, a) ∈ W ∧ v = .int .u16 x
  m3 : ∃ g, MapI w b3 .u16 g R.length ∧ ∀ a, g a = if a ∈ R then some (.bool true) else none
  n1 : (W.map Prod.fst).Nodup
  n2 : (W.map Prod.snd).Nodup
  n3 : R.Nodup
  ne : p ≠ b1 ∧ p ≠ b2 ∧ p ≠ b3 ∧ b1 ≠ b2 ∧ b1 ≠ b3 ∧ b2 ≠ b3
  zf : ¬ Z p ∧ ¬ Z b1 ∧ ¬ Z b2 ∧ ¬ Z b3
def waitsF (W : List (Int × Int)) (fd : Int) : Bool := decide (fd ∈ W.map Prod.fst)
def waitsG (W : List (Int × Int)) (g : Int) : Bool := decide (g ∈ W.map Prod.snd)
/-- How many are known. -/
def plen (W : List (Int × Int)) (R : List Int) : Nat := W.length + (R.filter fun a => !waitsF W a).length
section
variable {Z : Nat → Prop} {w w' : World} {p b1 b2 b3 : Nat} {W : List (Int × Int)} {R : List Int}
theorem und1 : Try.prog.underlying 101 = some (.map 37 3) := by kernel_rfl
theorem und2 : Try.prog.underlying 102 = some (.map 3 37) := by kernel_rfl
theorem und3 : Try.prog.underlying 103 = some (.map 37 4) := by kernel_rfl
theorem undF : Try.prog.underlying 37 = some (.int .u16) := by kernel_rfl
theorem undG : Try.prog.underlying 3 = some (.int .i64) := by kernel_rfl
theorem zero1 (w : World) : (zeroValue 3).run Try.prog w = .ok (.int .i64 0) w := by kernel_rfl
theorem zero2 (w : World) : (zeroValue 37).run Try.prog w = .ok (.int .u16 0) w := by kernel_rfl
theorem zero3 (w : World) : (zeroValue 4).run Try.prog w = .ok (.bool false) w := by kernel_rfl
theorem Pq.lt (h : Pq Z w p b1 b2 b3 W R) : p < w.heap.size ∧ b1 < w.heap.size ∧ b2 < w.heap.size ∧ b3 < w.heap.size := by
  obtain ⟨g1, q1, _⟩ := h.m1
  obtain ⟨g2, q2, _⟩ := h.m2
  obtain ⟨g3, q3, _⟩ := h.m3
  exact ⟨(Array.getElem?_eq_some_iff.1 h.box).1, q1.lt, q2.lt, q3.lt⟩
theorem Pq.kept (h : Pq Z w p b1 b2 b3 W R) (e0 : w'.heap[p]? = w.heap[p]?) (e1 : w'.heap[b1]? = w.heap[b1]?) (e2 : w'.heap[b2]? = w.heap[b2]?) (e3 : w'.heap[b3]? = w.heap[b3]?) : Pq Z w' p b1 b2 b3 W R := by
  obtain ⟨g1, q1, r1⟩ := h.m1
  obtain ⟨g2, q2, r2⟩ := h.m2
  obtain ⟨g3, q3, r3⟩ := h.m3
  exact ⟨e0.trans h.box, ⟨g1, q1.kept e1, r1⟩, ⟨g2, q2.kept e2, r2⟩, ⟨g3, q3.kept e3, r3⟩, h.n1, h.n2, h.n3, h.ne, h.zf⟩
theorem Pq.below (h : Pq Z w p b1 b2 b3 W R) (hb : Below w.heap.size w w') : Pq Z w' p b1 b2 b3 W R :=
  h.kept (hb.block _ h.lt.1) (hb.block _ h.lt.2.1) (hb.block _ h.lt.2.2.1) (hb.block _ h.lt.2.2.2)
theorem pair_snd {l : List (Int × Int)} (hn : (l.map Prod.fst).Nodup) {a y z : Int} (h1 : (a, y) ∈ l) (h2 : (a, z) ∈ l) : y = z := by
  induction l with
  | nil => cases h1
  | cons c l ih =>
    simp only [List.map_cons, List.nodup_cons] at hn
    rcases List.mem_cons.1 h1 with e1 | h1
    · rcases List.mem_cons.1 h2 with e2 | h2
      · rw [← e1] at e2; injection e2 with _ e2; exact e2.symm
      · exact absurd (List.mem_map.2 ⟨_, h2, by rw [← e1]⟩) hn.1
    · rcases List.mem_cons.1 h2 with e2 | h2
      · exact absurd (List.mem_map.2 ⟨_, h1, by rw [← e2]⟩) hn.1
      · exact ih hn.2 h1 h2
theorem waitsF_mem {a : Int} (h : waitsF W a = true) : ∃ y, (a, y) ∈ W := by
  obtain ⟨e, he, rfl⟩ := List.mem_map.1 (of_decide_eq_true h)
  exact ⟨e.2, he⟩
/-- 'g, waits := p.who[fd]' of somebody. -/
theorem Pq.who_yes (h : Pq Z w p b1 b2 b3 W R) {a y : Int} (hw : (a, y) ∈ W) (ok : Bool) : (Instr.lookup 101 (.map (some b1)) (.int .u16 a) ok).run Try.prog w = .ok (if ok then .tuple #[.int .i64 y, .bool true] else .int .i64 y) w := by
  obtain ⟨g, q, r⟩ := h.m1
  exact q.look_hit und1 undF ((r a _).2 ⟨y, hw, rfl⟩) ok
theorem Pq.who_no (h : Pq Z w p b1 b2 b3 W R) {a : Int} (hw : waitsF W a = false) (ok : Bool) : (Instr.lookup 101 (.map (some b1)) (.int .u16 a) ok).run Try.prog w = .ok (if ok then .tuple #[.int .i64 0, .bool false] else .int .i64 0) w := by
  obtain ⟨g, q, r⟩ := h.m1
  refine q.look_miss und1 undF zero1 ?_ ok
  rcases hg : g a with _ | v
  · rfl
  · obtain ⟨y, hy, _⟩ := (r a v).1 hg
    exact absurd (List.mem_map.2 ⟨_, hy, rfl⟩) (of_decide_eq_false hw)
theorem Pq.which_yes (h : Pq Z w p b1 b2 b3 W R) {a x : Int} (hw : (x, a) ∈ W) (ok : Bool) : (Instr.lookup 102 (.map (some b2)) (.int .i64 a) ok).run Try.prog w = .ok (if ok then .tuple #[.int .u16 x, .bool true] else .int .u16 x) w := by
  obtain ⟨g, q, r⟩ := h.m2
  exact q.look_hit und2 undG ((r a _).2 ⟨x, hw, rfl⟩) ok
theorem Pq.which_no (h : Pq Z w p b1 b2 b3 W R) {a : Int} (hw : waitsG W a = false) (ok : Bool) : (Instr.lookup 102 (.map (some b2)) (.int .i64 a) ok).run Try.prog w = .ok (if ok then .tuple #[.int .u16 0, .bool false] else .int .u16 0) w := by
  obtain ⟨g, q, r⟩ := h.m2
  refine q.look_miss und2 undG zero2 ?_ ok
  rcases hg : g a with _ | v
  · rfl
  · obtain ⟨y, hy, _⟩ := (r a v).1 hg
    exact absurd (List.mem_map.2 ⟨_, hy, rfl⟩) (of_decide_eq_false hw)
theorem Pq.rdy (h : Pq Z w p b1 b2 b3 W R) (a : Int) (r : Bool) (hr : decide (a ∈ R) = r) : (Instr.lookup 103 (.map (some b3)) (.int .u16 a) false).run Try.prog w = .ok (.bool r) w := by
  obtain ⟨g, q, s⟩ := h.m3
  by_cases ha : a ∈ R
  · obtain rfl : r = true := by rw [← hr]; exact decide_eq_true ha
    exact q.look_hit und3 undF (by rw [s, if_pos ha]) false
  · obtain rfl : r = false := by rw [← hr]; exact decide_eq_false ha
    exact q.look_miss und3 undF zero3 (by rw [s, if_neg ha]) false
set_option maxHeartbeats 4000000 in
theorem phas (h : Pq Z w p b1 b2 b3 W R) (a : Int) : Calls Try.prog 37 #[.pointer (some ⟨p, 0, none⟩), .int .i64 a] w fun e w' => e = .returned (.bool (waitsG W a)) ∧ w' = w := by
  have c1 : w.cell? ⟨p, 1, none⟩ = some (.map (some b2)) := cellx h.box rfl
  rcases hg : waitsG W a with _ | _
  · have L := h.which_no hg true
    clear h
    go_enter Try.func37, Try.ntmps37
    go_wp2
    go_ret
    exact ⟨rfl, rfl⟩
  · obtain ⟨e, he, h2⟩ := List.mem_map.1 (of_decide_eq_true hg)
    obtain ⟨x, y⟩ := e
    simp only at h2
    subst h2
    have L := h.which_yes he true
    clear h he
    go_enter Try.func37, Try.ntmps37
    go_wp2
    go_ret
    exact ⟨rfl, rfl⟩
/-- How many of the ready ones that were looked at nobody waits for. -/
def cntR (W : List (Int × Int)) (R : List Int) (left : Int → Bool) : Nat := (R.filter fun a => !left a && !waitsF W a).length
theorem filt_step {α : Type} {f f' : α → Bool} {a : α} : ∀ {R : List α}, R.Nodup → a ∈ R → f a = false → f' a = true → (∀ x, x ∈ R → x ≠ a → f' x = f x) → (R.filter f').length = (R.filter f).length + 1
  | [], _, h, _, _, _ => by cases h
  | c :: R, hn, h, h1, h2, h3 => by
    obtain ⟨n1, n2⟩ := List.nodup_cons.1 hn
    rcases List.mem_cons.1 h with e | h
    · subst e
      rw [List.filter_cons, List.filter_cons, h1, h2]
      have : R.filter f' = R.filter f := List.filter_congr fun x hx => h3 x (List.mem_cons_of_mem _ hx) (fun e => n1 (e ▸ hx))
      simp [this]
    · have hca : c ≠ a := fun e => n1 (e ▸ h)
      have ih := filt_step n2 h h1 h2 (fun x hx => h3 x (List.mem_cons_of_mem _ hx))
      rw [List.filter_cons, List.filter_cons, h3 c List.mem_cons_self hca]
      split <;> simp [ih]
theorem filt_same {f f' : Int → Bool} {R : List Int} (h : ∀ x ∈ R, f' x = f x) : (R.filter f').length = (R.filter f).length := by rw [List.filter_congr h]
end
end Go.Proofs.Ytaogpodncphpjaa
/-! poll.Poll's Len, full, least, Due: ranges over maps. -/
namespace Go.Proofs.Ytaogpodncphpjaa
set_option linter.unusedVariables false
set_option linter.unusedSimpArgs false
open Go.RowKit
section
variable {Z : Nat → Prop} {w w' : World} {p b1 b2 b3 : Nat} {W : List (Int × Int)} {R : List Int}
theorem only_below {r : Nat} (o : Only r r w w') {B : Nat} (h : B ≤ r) (hs : B ≤ w.heap.size) : Below B w w' := o.below h h hs
/-- What stands within a range over one of the poll's maps: the poll as it was, an iterator. -/
structure Pr (Z : Nat → Prop) (w0 : World) (p b1 b2 b3 : Nat) (W : List (Int × Int)) (R : List Int) (b r : Nat) (q : IntKind) (g : Int → Option Value) (n : Nat) (left : Int → Bool) (cnt : Nat) (wr : World) : Prop where
  pq : Pq Z wr p b1 b2 b3 W R
  rg : RgI wr b r q g n left cnt
  bl : Below w0.heap.size w0 wr
  rw0 : r = w0.heap.size
  far : p < r ∧ b1 < r ∧ b2 < r ∧ b3 < r
theorem Pr.next {w0 : World} {b r : Nat} {q : IntKind} {g : Int → Option Value} {n : Nat} {left : Int → Bool} {cnt : Nat} {wr : World} (h : Pr Z w0 p b1 b2 b3 W R b r q g n left cnt wr) {P : Program} :
    (cnt = 0 ∧ (∀ a, left a = false) ∧ ∀ ty, (Instr.next (.pointer (some ⟨r, 0, none⟩)) false ty).run P wr = .ok (.tuple #[.bool false]) wr) ∨
    ∃ a v w' cnt', left a = true ∧ g a = some v ∧ (∀ ty, (Instr.next (.pointer (some ⟨r, 0, none⟩)) false ty).run P wr = .ok (.tuple #[.bool true, .int q a, v]) w') ∧
      Pr Z w0 p b1 b2 b3 W R b r q g n (strike left a) cnt' w' ∧ cnt' < cnt ∧ (Instr.entry (.pointer (some ⟨r, 0, none⟩))).run P w' = .ok (.tuple #[.int q a, v]) w' := by
  rcases h.rg.next (P := P) with h1 | ⟨a, v, w', cnt', e1, e2, e3, e4, e5, e6, e7⟩
  · exact .inl h1
  · obtain ⟨f1, f2, f3, f4⟩ := h.far
    obtain ⟨l1, l2, l3, l4⟩ := h.pq.lt
    have k : ∀ x, x < r → x < wr.heap.size → w'.heap[x]? = wr.heap[x]? := fun x hx hl => e6.block x hl (by omega) (by omega)
    exact .inr ⟨a, v, w', cnt', e1, e2, e3, ⟨h.pq.kept (k _ f1 l1) (k _ f2 l2) (k _ f3 l3) (k _ f4 l4), e4, h.bl.trans (e6.below (by rw [h.rw0]; exact Nat.le_refl _) (by rw [h.rw0]; exact Nat.le_refl _) h.bl.size), h.rw0, h.far⟩, e5, e7⟩
theorem Pr.start (h : Pq Z w p b1 b2 b3 W R) {b : Nat} {q : IntKind} {g : Int → Option Value} {n : Nat} (hm : MapI w b q g n) {P : Program} {t kt et : TypeId} (hu : P.underlying t = some (.map kt et)) :
    ∃ o, (Instr.range t (.map (some b))).run P w = .ok (.pointer (some ⟨w.heap.size, 0, none⟩)) (w.alloc o) ∧ Pr Z w p b1 b2 b3 W R b w.heap.size q g n (fun a => (g a).isSome) n (w.alloc o) := by
  obtain ⟨o, h1, h2⟩ := RgI.start (P := P) (t := t) hm hu
  obtain ⟨l1, l2, l3, l4⟩ := h.lt
  exact ⟨o, h1, h.below (bl_al w o), h2, bl_al w o, rfl, by omega⟩
theorem cntR_zero (left : Int → Bool) (hl : ∀ a, a ∈ R → left a = true) : cntR W R left = 0 := by
  unfold cntR
  rw [List.filter_eq_nil_iff.2 fun a ha => by simp [hl a ha]]; rfl
theorem cntR_all (left : Int → Bool) (hl : ∀ a, left a = false) : cntR W R left = (R.filter fun a => !waitsF W a).length := by
  unfold cntR
  exact filt_same fun x hx => by simp [hl x]
theorem cntR_on {left : Int → Bool} {a : Int} (hn : R.Nodup) (ha : a ∈ R) (hl : left a = true) (hw : waitsF W a = false) : cntR W R (strike left a) = cntR W R left + 1 :=
  filt_step hn ha (by simp [hl]) (by simp [strike, hw]) (fun x _ hx => by
    have : (x == a) = false := by simpa using hx
    simp [strike, this])
theorem cntR_off {left : Int → Bool} {a : Int} (hw : waitsF W a = true) : cntR W R (strike left a) = cntR W R left :=
  filt_same fun x hx => by
    by_cases hxa : x = a
    · subst hxa; simp [hw]
    · have : (x == a) = false := by simpa using hxa
      simp [strike, this]
set_option maxHeartbeats 8000000 in
theorem plen_r (h : Pq Z w p b1 b2 b3 W R) (hl : W.length < 1000000 ∧ R.length < 1000000) : Calls Try.prog 76 #[.pointer (some ⟨p, 0, none⟩)] w fun e w' => e = .returned (.int .i64 (plen W R)) ∧ Below w.heap.size w w' := by
  obtain ⟨g3, q3, s3⟩ := h.m3
  obtain ⟨g1, q1, s1⟩ := h.m1
  have L1 := q1.len und1
  have c0 : w.cell? ⟨p, 0, none⟩ = some (.map (some b1)) := cellx h.box rfl
  have c2 : w.cell? ⟨p, 2, none⟩ = some (.map (some b3)) := cellx h.box rfl
  obtain ⟨o, hrg, S0⟩ := Pr.start h q3 und3
  have HS := hid S0
  have H3 := hid s3
  have HN := hid h.n3
  obtain ⟨m0, hm0⟩ : ∃ m0, m0 = W.length := ⟨_, rfl⟩
  have HM := hid hm0
  have hm0' : m0 < 1000000 := by omega
  have hrl := hl.2
  rw [← hm0] at L1
  clear h q3 q1 s1 S0 s3 hm0 hl
  go_enter Try.func76, Try.ntmps76
  go_wp2_with fail
  obtain ⟨r, hr⟩ : ∃ r, r = w.heap.size := ⟨_, rfl⟩
  rw [← hr] at HS
  rw [← hr]
  clear hr hrg
  go_loopw [3] (fun v wr => ∃ (left : Int → Bool) (cnt m : Nat), v = .int .i64 m ∧ m ≤ m0 + R.length ∧ Hid (m = m0 + cntR W R left) ∧ Hid (Pr Z w p b1 b2 b3 W R b3 r .u16 g3 R.length left cnt wr)) (fun _ wr => leftI wr b3 r)
  case atStart => 
    refine ⟨_, _, m0, rfl, by omega, hid ?_, HS⟩
    rw [cntR_zero _ (fun a ha => by rw [H3.out, if_pos ha]; rfl)]; rfl
  case round =>
    clear HS
    obtain ⟨left, cnt, m, rfl, hmm, HC, F⟩ := hrel
    rcases F.out.next (P := Try.prog) with ⟨h0, hl, hnx⟩ | ⟨a, v, w', cnt', e1, e2, hnx, F', hlt, hen⟩
    · have FIN := hid (show (m : Int) = (plen W R : Int) by
        have := HC.out
        rw [cntR_all left hl, HM.out] at this
        unfold plen; omega)
      have BL := hid F.out.bl
      clear F h0 hl HC
      go_wp2
      go_ret
      exact ⟨by rw [← FIN.out]; rfl, BL.out⟩
    · have e2' := e2
      rw [H3.out] at e2'
      by_cases haR : a ∈ R
      · rw [if_pos haR] at e2'
        obtain rfl : v = .bool true := by injection e2' with e; exact e.symm
        have c0' : w'.cell? ⟨p, 0, none⟩ = some (.map (some b1)) := cellx F'.pq.box rfl
        have LE := hid (And.intro F.out.rg.left_eq F'.rg.left_eq)
        have HLT := hid hlt
        rcases hw : waitsF W a with _ | _
        · have lk := F'.pq.who_no hw true
          have HC2 := hid (show m + 1 = m0 + cntR W R (strike left a) by rw [cntR_on HN.out haR e1 hw, HC.out]; rfl)
          have hm2 : m + 1 ≤ m0 + R.length := by rw [HC2.out]; unfold cntR; have := List.length_filter_le (fun x => !(strike left a) x && !waitsF W x) R; omega
          have F2 := hid F'
          clear F HC F' e2 e2' e1 hw haR hlt
          go_wp2
          go_roundw
          case rel => exact ⟨_, cnt', m + 1, by go_num, hm2, HC2, F2⟩
          case measure => have := LE.out.1; have := LE.out.2; have := HLT.out; omega
        · obtain ⟨y, hy⟩ := waitsF_mem hw
          have lk := F'.pq.who_yes hy true
          have HC2 := hid (show m = m0 + cntR W R (strike left a) by rw [cntR_off hw, HC.out])
          have F2 := hid F'
          clear F HC F' e2 e2' e1 hw haR hlt hy
          go_wp2
          go_roundw
          case rel => exact ⟨_, cnt', m, rfl, hmm, HC2, F2⟩
          case measure => have := LE.out.1; have := LE.out.2; have := HLT.out; omega
      · rw [if_neg haR] at e2'; cases e2'
set_option maxHeartbeats 8000000 in
theorem pfull (h : Pq Z w p b1 b2 b3 W R) (hl : W.length < 1000000 ∧ R.length < 1000000) (a : Int) (r : Bool) (hr : (!waitsF W a && !decide (a ∈ R) && decide (1024 ≤ plen W R)) = r) :
    Calls Try.prog 63 #[.pointer (some ⟨p, 0, none⟩), .int .u16 a] w fun e w' => e = .returned (.bool r) ∧ Below w.heap.size w w' := by
  have c0 : w.cell? ⟨p, 0, none⟩ = some (.map (some b1)) := cellx h.box rfl
  have c2 : w.cell? ⟨p, 2, none⟩ = some (.map (some b3)) := cellx h.box rfl
  have LN := hid (plen_r h hl)
  rcases hw : waitsF W a with _ | _
  · have lk := h.who_no hw true
    rcases ha : decide (a ∈ R) with _ | _
    · have rl := h.rdy a false ha
      rw [hw, ha] at hr
      simp only [Bool.not_false, Bool.true_and] at hr
      obtain ⟨m, hm⟩ : ∃ m, m = plen W R := ⟨_, rfl⟩
      rw [← hm] at LN hr
      have hr2 : decide (1024 ≤ m) = r := hr
      clear h hw ha hm hr
      go_enter Try.func63, Try.ntmps63
      go_wp2_with fail
      refine (LN.out).mono ?_
      rintro e w2 ⟨rfl, b2'⟩
      have B := hid b2'
      have E := hid (show decide ((1024 : Int) ≤ (m : Int)) = r by rw [← hr2]; exact decide_eq_decide.2 (by omega))
      clear b2' LN lk rl c0 c2 hr2
      go_wp2
      go_ret
      exact ⟨(show Ending.returned (.bool (decide ((1024 : Int) ≤ (m : Int)))) = _ by rw [E.out]), B.out⟩
    · have rl := h.rdy a true ha
      obtain rfl : r = false := by rw [← hr, hw, ha]; rfl
      clear h hw ha hr LN
      go_enter Try.func63, Try.ntmps63
      go_wp2
      go_ret
      exact ⟨rfl, Below.refl _ _⟩
  · obtain ⟨y, hy⟩ := waitsF_mem hw
    have lk := h.who_yes hy true
    obtain rfl : r = false := by rw [← hr, hw]; rfl
    clear h hw hr LN hy
    go_enter Try.func63, Try.ntmps63
    go_wp2
    go_ret
    exact ⟨rfl, Below.refl _ _⟩
/-- Does somebody wait for it, and is it ready? -/
def dueP (W : List (Int × Int)) (R : List Int) (a : Int) : Bool := waitsF W a && decide (a ∈ R)
def LePost (W : List (Int × Int)) (R : List Int) (w : World) (e : Ending) (w' : World) : Prop :=
  (e = .returned (.tuple #[.int .u16 0, .bool false]) ∧ (∀ a, dueP W R a = false) ∧ Below w.heap.size w w') ∨
  ∃ m, e = .returned (.tuple #[.int .u16 m, .bool true]) ∧ dueP W R m = true ∧ (∀ a, dueP W R a = true → m ≤ a) ∧ Below w.heap.size w w'
theorem le_none {left : Int → Bool} (h : ∀ a, waitsF W a = true → left a = false → a ∉ R) {a : Int} (ha : a ∉ R) : ∀ x, waitsF W x = true → strike left a x = false → x ∉ R := fun x hw hl => by
  simp only [strike, Bool.and_eq_false_iff, Bool.not_eq_false', beq_iff_eq] at hl
  rcases hl with hl | rfl
  · exact h x hw hl
  · exact ha
theorem le_first {left : Int → Bool} (h : ∀ a, waitsF W a = true → left a = false → a ∉ R) (a : Int) : ∀ x, waitsF W x = true → strike left a x = false → x ∈ R → a ≤ x := fun x hw hl hx => by
  simp only [strike, Bool.and_eq_false_iff, Bool.not_eq_false', beq_iff_eq] at hl
  rcases hl with hl | rfl
  · exact absurd hx (h x hw hl)
  · exact Int.le_refl _
theorem le_more {left : Int → Bool} {m n a : Int} (h : ∀ a, waitsF W a = true → left a = false → a ∈ R → m ≤ a) (hn : n ≤ m) (ha : a ∈ R → n ≤ a) : ∀ x, waitsF W x = true → strike left a x = false → x ∈ R → n ≤ x := fun x hw hl hx => by
  simp only [strike, Bool.and_eq_false_iff, Bool.not_eq_false', beq_iff_eq] at hl
  rcases hl with hl | rfl
  · have := h x hw hl hx; omega
  · exact ha hx
set_option maxHeartbeats 8000000 in
theorem pleast (h : Pq Z w p b1 b2 b3 W R) : Calls Try.prog 54 #[.pointer (some ⟨p, 0, none⟩)] w (LePost W R w) := by
  obtain ⟨g1, q1, s1⟩ := h.m1
  have c0 : w.cell? ⟨p, 0, none⟩ = some (.map (some b1)) := cellx h.box rfl
  obtain ⟨o, hrg, S0⟩ := Pr.start h q1 und1
  have HS := hid S0
  have H1 := hid s1
  clear h q1 S0 s1
  go_enter Try.func54, Try.ntmps54
  go_wp2_with fail
  obtain ⟨r, hr⟩ : ∃ r, r = w.heap.size := ⟨_, rfl⟩
  rw [← hr] at HS
  rw [← hr]
  clear hr hrg
  go_loopw [2, 3] (fun v s wr => ∃ (left : Int → Bool) (cnt : Nat), ((v = .int .u16 0 ∧ s = .bool false ∧ Hid (∀ a, waitsF W a = true → left a = false → a ∉ R)) ∨ ∃ m : Int, v = .int .u16 m ∧ s = .bool true ∧ Hid (dueP W R m = true ∧ ∀ a, waitsF W a = true → left a = false → a ∈ R → m ≤ a)) ∧ Hid (Pr Z w p b1 b2 b3 W R b1 r .u16 g1 W.length left cnt wr)) (fun _ _ wr => leftI wr b1 r)
  case atStart => 
    refine ⟨_, _, .inl ⟨rfl, rfl, hid (fun a hw hl => ?_)⟩, HS⟩
    obtain ⟨y, hy⟩ := waitsF_mem hw
    rw [(H1.out a _).2 ⟨y, hy, rfl⟩] at hl; cases hl
  case round =>
    clear HS
    obtain ⟨left, cnt, hst, F⟩ := hrel
    rcases F.out.next (P := Try.prog) with ⟨h0, hl, hnx⟩ | ⟨a, v, w', cnt', e1, e2, hnx, F', hlt, hen⟩
    · have HL := hid hl
      have BL := hid F.out.bl
      clear F h0 hl
      rcases hst with ⟨rfl, rfl, HC⟩ | ⟨m, rfl, rfl, HC⟩
      · go_wp2
        go_ret2
        refine .inl ⟨rfl, fun a => ?_, BL.out⟩
        rcases hw : waitsF W a with _ | _
        · simp [dueP, hw]
        · have := HC.out a hw (HL.out a)
          simp [dueP, this]
      · go_wp2
        go_ret2
        refine .inr ⟨m, rfl, HC.out.1, fun a ha => ?_, BL.out⟩
        simp only [dueP, Bool.and_eq_true, decide_eq_true_eq] at ha
        exact HC.out.2 a ha.1 (HL.out a) ha.2
    · obtain ⟨y, hy, rfl⟩ := (H1.out a v).1 e2
      have hwa : waitsF W a = true := decide_eq_true (List.mem_map.2 ⟨_, hy, rfl⟩)
      have c2' : w'.cell? ⟨p, 2, none⟩ = some (.map (some b3)) := cellx F'.pq.box rfl
      have LE := hid (And.intro F.out.rg.left_eq F'.rg.left_eq)
      have HLT := hid hlt
      have HWA := hid hwa
      have F2 := hid F'
      by_cases haR : a ∈ R
      · have rl := F'.pq.rdy a true (decide_eq_true haR)
        have HAR := hid haR
        clear F F' e1 e2 hy hwa haR hlt
        rcases hst with ⟨rfl, rfl, HC⟩ | ⟨m, rfl, rfl, HC⟩
        · have HC2 := hid (And.intro (show dueP W R a = true by simp [dueP, HWA.out, HAR.out]) (le_first HC.out a))
          go_wp2
          go_roundw
          case rel => exact ⟨_, cnt', .inr ⟨a, rfl, rfl, HC2⟩, F2⟩
          case measure => have := LE.out.1; have := LE.out.2; have := HLT.out; omega
        · by_cases ham : a < m
          · have HC2 := hid (And.intro (show dueP W R a = true by simp [dueP, HWA.out, HAR.out]) (le_more (n := a) (a := a) HC.out.2 (by omega) (fun _ => Int.le_refl _)))
            go_wp2
            go_roundw
            case rel => exact ⟨_, cnt', .inr ⟨a, rfl, rfl, HC2⟩, F2⟩
            case measure => have := LE.out.1; have := LE.out.2; have := HLT.out; omega
          · have HC2 := hid (And.intro HC.out.1 (le_more (n := m) (a := a) HC.out.2 (by omega) (fun _ => by omega)))
            have d1 : decide (a < m) = false := decide_eq_false ham
            go_wp2
            go_roundw
            case rel => exact ⟨_, cnt', .inr ⟨m, rfl, rfl, HC2⟩, F2⟩
            case measure => have := LE.out.1; have := LE.out.2; have := HLT.out; omega
      · have rl := F'.pq.rdy a false (decide_eq_false haR)
        have HAR := hid haR
        clear F F' e1 e2 hy hwa haR hlt
        rcases hst with ⟨rfl, rfl, HC⟩ | ⟨m, rfl, rfl, HC⟩
        · have HC2 := hid (le_none HC.out HAR.out)
          go_wp2
          go_roundw
          case rel => exact ⟨_, cnt', .inl ⟨rfl, rfl, HC2⟩, F2⟩
          case measure => have := LE.out.1; have := LE.out.2; have := HLT.out; omega
        · have HC2 := hid (And.intro HC.out.1 (le_more (n := m) (a := a) HC.out.2 (Int.le_refl _) (fun h => absurd h HAR.out)))
          go_wp2
          go_roundw
          case rel => exact ⟨_, cnt', .inr ⟨m, rfl, rfl, HC2⟩, F2⟩
          case measure => have := LE.out.1; have := LE.out.2; have := HLT.out; omega
/-- Is somebody due? -/
def anyDue (W : List (Int × Int)) (R : List Int) : Bool := W.any fun e => decide (e.1 ∈ R)
theorem anyDue_no (h : ∀ a, dueP W R a = false) : anyDue W R = false := by
  rw [anyDue, List.any_eq_false]
  intro e he
  have := h e.1
  have hw : waitsF W e.1 = true := decide_eq_true (List.mem_map.2 ⟨e, he, rfl⟩)
  simpa [dueP, hw] using this
theorem anyDue_yes {m : Int} (h : dueP W R m = true) : anyDue W R = true := by
  simp only [dueP, Bool.and_eq_true, decide_eq_true_eq] at h
  obtain ⟨y, hy⟩ := waitsF_mem h.1
  exact List.any_eq_true.2 ⟨_, hy, decide_eq_true h.2⟩
set_option maxHeartbeats 4000000 in
theorem pdue (h : Pq Z w p b1 b2 b3 W R) : Calls Try.prog 32 #[.pointer (some ⟨p, 0, none⟩)] w fun e w' => e = .returned (.bool (anyDue W R)) ∧ Below w.heap.size w w' := by
  have LT := hid (pleast h)
  clear h
  go_enter Try.func32, Try.ntmps32
  go_wp2_with fail
  refine (LT.out).mono ?_
  rintro e w2 (⟨rfl, h2, h3⟩ | ⟨m, rfl, h2, _, h3⟩)
  · have B := hid h3
    have H := hid (anyDue_no h2)
    clear h2 h3 LT
    go_wp2
    go_ret
    exact ⟨by rw [H.out]; rfl, B.out⟩
  · have B := hid h3
    have H := hid (anyDue_yes h2)
    clear h2 h3 LT
    go_wp2
    go_ret
    exact ⟨by rw [H.out]; rfl, B.out⟩
end
end Go.Proofs.Ytaogpodncphpjaa
/-! poll.Poll's Wait, Ready, Take: what they leave. -/
namespace Go.Proofs.Ytaogpodncphpjaa
set_option linter.unusedVariables false
set_option linter.unusedSimpArgs false
open Go.RowKit
section
variable {Z : Nat → Prop} {w w' : World} {p b1 b2 b3 : Nat} {W : List (Int × Int)} {R : List Int}
theorem Pq.map1 (h : Pq Z w p b1 b2 b3 W R) (o : Only b1 b1 w w') {V : List (Int × Int)} (hl : V.length = W.length → True) (m : ∃ g, MapI w' b1 .u16 g V.length ∧ ∀ a v, g a = some v ↔ ∃ y, (a, y) ∈ V ∧ v = .int .i64 y) :
    w'.heap[p]? = w.heap[p]? ∧ w'.heap[b2]? = w.heap[b2]? ∧ w'.heap[b3]? = w.heap[b3]? := by
  obtain ⟨l1, l2, l3, l4⟩ := h.lt
  obtain ⟨n1, n2, n3, n4, n5, n6⟩ := h.ne
  exact ⟨o.block _ l1 n1 n1, o.block _ l3 n4.symm n4.symm, o.block _ l4 n5.symm n5.symm⟩
theorem put_is {g : Int → Option Value} {fd y : Int} (hw : waitsF W fd = false) (h : ∀ a v, g a = some v ↔ ∃ y, (a, y) ∈ W ∧ v = .int .i64 y) : g fd = none := by
  rcases hg : g fd with _ | v
  · rfl
  · obtain ⟨y, hy, _⟩ := (h fd v).1 hg
    exact absurd (List.mem_map.2 ⟨_, hy, rfl⟩) (of_decide_eq_false hw)
theorem put_is2 {g : Int → Option Value} {a x : Int} (hw : waitsG W a = false) (h : ∀ a v, g a = some v ↔ ∃ x, (x, a) ∈ W ∧ v = .int .u16 x) : g a = none := by
  rcases hg : g a with _ | v
  · rfl
  · obtain ⟨y, hy, _⟩ := (h a v).1 hg
    exact absurd (List.mem_map.2 ⟨_, hy, rfl⟩) (of_decide_eq_false hw)
def WaPost (Z : Nat → Prop) (w : World) (p b1 b2 b3 : Nat) (W : List (Int × Int)) (R : List Int) (fd a : Int) (w' : World) : Prop := FrZ Z w w' ∧ Pq Z w' p b1 b2 b3 ((fd, a) :: W) R
set_option maxHeartbeats 8000000 in
theorem pwait (h : Pq Z w p b1 b2 b3 W R) (hl : W.length < 1000000 ∧ R.length < 1000000) (fd a : Int) (h0 : 0 ≤ a) (h1 : a < 4096) (hw : waitsF W fd = false) (hg : waitsG W a = false) (hf : (!waitsF W fd && !decide (fd ∈ R) && decide (1024 ≤ plen W R)) = false) :
    Calls Try.prog 47 #[.pointer (some ⟨p, 0, none⟩), .int .u16 fd, .int .i64 a] w fun e w' => e = .returned (.int .i64 0) ∧ WaPost Z w p b1 b2 b3 W R fd a w' := by
  have d0 : decide (a < 0) = false := decide_eq_false (by omega)
  have d1 : decide (4096 ≤ a) = false := decide_eq_false (by omega)
  have c0 : w.cell? ⟨p, 0, none⟩ = some (.map (some b1)) := cellx h.box rfl
  have lk := h.who_no hw true
  have HH := phas h a
  rw [hg] at HH
  have HAS := hid HH
  have FU := hid (pfull h hl fd false hf)
  have HQ := hid h
  have HW := hid hw
  have HG := hid hg
  clear h hl hw hg hf HH
  go_enter Try.func47, Try.ntmps47
  go_wp2_with fail
  refine (HAS.out).mono ?_
  rintro e w2 ⟨rfl, rfl⟩
  go_wp2_with fail
  refine (FU.out).mono ?_
  rintro e w3 ⟨rfl, b3'⟩
  have F3 := hid (FrZ.of_below (Z := Z) b3')
  have Q3 := HQ.out.below b3'
  have Q4 := hid (Q3.below (bl_drw w3 w3.heap.size))
  have F4 := hid (F3.out.trans (FrZ.of_below (bl_drw w3 w3.heap.size)))
  obtain ⟨g1, m1, s1⟩ := Q4.out.m1
  obtain ⟨g2, m2, s2⟩ := Q4.out.m2
  obtain ⟨wa, sa, wb, r1, o1, r2, n1, o2⟩ := m1.put2 und1 undF zero1 fd (.int .i64 a)
  have oo := o1.trans o2
  obtain ⟨l1, l2, l3, l4⟩ := Q4.out.lt
  obtain ⟨e1, e2, e3, e4, e5, e6⟩ := Q4.out.ne
  have m2b : MapI wb b2 .i64 g2 W.length := m2.kept (oo.block _ l3 e4.symm e4.symm)
  obtain ⟨wc, sc, wd, r3, o3, r4, n3, o4⟩ := m2b.put2 und2 undG zero2 a (.int .u16 fd)
  have op := o3.trans o4
  have cw : w3.drew.cell? ⟨p, 0, none⟩ = some (.map (some b1)) := cellx Q4.out.box rfl
  have cw' : w3.cell? ⟨p, 0, none⟩ = some (.map (some b1)) := cellx Q4.out.box rfl
  have cx : w3.drew.cell? ⟨p, 1, none⟩ = some (.map (some b2)) := cellx Q4.out.box rfl
  have cx' : w3.cell? ⟨p, 1, none⟩ = some (.map (some b2)) := cellx Q4.out.box rfl
  have FIN : Hid (WaPost Z w2 p b1 b2 b3 W R fd a wd) := by
    obtain ⟨z0, z1, z2, z3⟩ := Q4.out.zf
    have ga := put_is (y := 0) HW.out s1
    have gb := put_is2 (x := 0) HG.out s2
    rw [if_pos ga] at n1
    rw [if_pos gb] at n3
    refine hid ⟨(F4.out.trans (.of_only oo z1)).trans (.of_only op z2), ⟨?_, ⟨_, n1.kept ((op.block _ (Nat.lt_of_lt_of_le l2 oo.size) e4 e4)), ?_⟩, ⟨_, n3, ?_⟩, ?_, ?_, ?_, Q4.out.n3, Q4.out.ne, Q4.out.zf⟩⟩
    · rw [op.block _ (Nat.lt_of_lt_of_le l1 oo.size) e2 e2, oo.block _ l1 e1 e1]; exact Q4.out.box
    · intro c v
      simp only [updG]
      by_cases hc : c = fd
      · subst hc
        simp only [if_true, Option.some.injEq]
        constructor
        · intro e; exact ⟨a, List.mem_cons_self, e.symm⟩
        · rintro ⟨y, hy, rfl⟩
          rcases List.mem_cons.1 hy with e | hy
          · have e2 : y = a := congrArg Prod.snd e
            rw [e2]
          · exact absurd (List.mem_map.2 ⟨_, hy, rfl⟩) (of_decide_eq_false HW.out)
      · rw [if_neg hc, s1]
        constructor
        · rintro ⟨y, hy, rfl⟩; exact ⟨y, List.mem_cons_of_mem _ hy, rfl⟩
        · rintro ⟨y, hy, rfl⟩
          rcases List.mem_cons.1 hy with e | hy
          · exact absurd (congrArg Prod.fst e) hc
          · exact ⟨y, hy, rfl⟩
    · intro c v
      simp only [updG]
      by_cases hc : c = a
      · subst hc
        simp only [if_true, Option.some.injEq]
        constructor
        · intro e; exact ⟨fd, List.mem_cons_self, e.symm⟩
        · rintro ⟨y, hy, rfl⟩
          rcases List.mem_cons.1 hy with e | hy
          · have e2 : y = fd := congrArg Prod.fst e
            rw [e2]
          · exact absurd (List.mem_map.2 ⟨_, hy, rfl⟩) (of_decide_eq_false HG.out)
      · rw [if_neg hc, s2]
        constructor
        · rintro ⟨y, hy, rfl⟩; exact ⟨y, List.mem_cons_of_mem _ hy, rfl⟩
        · rintro ⟨y, hy, rfl⟩
          rcases List.mem_cons.1 hy with e | hy
          · exact absurd (congrArg Prod.snd e) hc
          · exact ⟨y, hy, rfl⟩
    · obtain ⟨g, q, s⟩ := Q4.out.m3
      exact ⟨g, q.kept (by rw [op.block _ (Nat.lt_of_lt_of_le l4 oo.size) e6.symm e6.symm, oo.block _ l4 e5.symm e5.symm]), s⟩
    · exact List.nodup_cons.2 ⟨of_decide_eq_false HW.out, Q4.out.n1⟩
    · exact List.nodup_cons.2 ⟨of_decide_eq_false HG.out, Q4.out.n2⟩
  have k1 : wa.cell? ⟨p, 0, none⟩ = some (.map (some b1)) := cellx (only_blk o1 Q4.out.box e1) rfl
  have k2 : wa.cell? ⟨p, 1, none⟩ = some (.map (some b2)) := cellx (only_blk o1 Q4.out.box e1) rfl
  have k3 : wb.cell? ⟨p, 1, none⟩ = some (.map (some b2)) := cellx (only_blk oo Q4.out.box e1) rfl
  clear Q3 b3' m1 m2 s1 s2 o1 o2 n1 oo m2b o3 o4 n3 op l1 l2 l3 l4 e1 e2 e3 e4 e5 e6 HAS FU lk c0
  go_wp2_with fail
  go_region
  all_goals
    clear r1 r2 r3 r4 cw cw' cx cx' k1 k2 k3
    go_wp2
    go_ret
    exact ⟨rfl, FIN.out⟩
end
end Go.Proofs.Ytaogpodncphpjaa
/-! poll.Poll's Wait where it is refused, Ready, Take, New. -/
namespace Go.Proofs.Ytaogpodncphpjaa
set_option linter.unusedVariables false
set_option linter.unusedSimpArgs false
open Go.RowKit
section
variable {Z : Nat → Prop} {w w' : World} {p b1 b2 b3 : Nat} {W : List (Int × Int)} {R : List Int}
set_option maxHeartbeats 4000000 in
theorem pwait_arg (fd a : Int) (h0 : a < 0 ∨ 4096 ≤ a) (w : World) : Calls Try.prog 47 #[.pointer (some ⟨p, 0, none⟩), .int .u16 fd, .int .i64 a] w fun e w' => e = .returned (.int .i64 1) ∧ w' = w := by
  by_cases h1 : a < 0
  · have d0 : decide (a < 0) = true := decide_eq_true h1
    clear h0
    go_enter Try.func47, Try.ntmps47
    go_wp2
    go_ret
    exact ⟨rfl, rfl⟩
  · have d0 : decide (a < 0) = false := decide_eq_false h1
    have d1 : decide (4096 ≤ a) = true := decide_eq_true (by omega)
    clear h0
    go_enter Try.func47, Try.ntmps47
    go_wp2
    go_ret
    exact ⟨rfl, rfl⟩
set_option maxHeartbeats 4000000 in
theorem pwait_same (h : Pq Z w p b1 b2 b3 W R) (fd a : Int) (h0 : 0 ≤ a) (h1 : a < 4096) (hs : waitsF W fd = true ∨ waitsG W a = true) : Calls Try.prog 47 #[.pointer (some ⟨p, 0, none⟩), .int .u16 fd, .int .i64 a] w fun e w' => e = .returned (.int .i64 8) ∧ w' = w := by
  have d0 : decide (a < 0) = false := decide_eq_false (by omega)
  have d1 : decide (4096 ≤ a) = false := decide_eq_false (by omega)
  have c0 : w.cell? ⟨p, 0, none⟩ = some (.map (some b1)) := cellx h.box rfl
  rcases hw : waitsF W fd with _ | _
  · have hg : waitsG W a = true := by rcases hs with e | e; · rw [hw] at e; cases e
                                      · exact e
    have lk := h.who_no hw true
    have HH := phas h a
    rw [hg] at HH
    have HAS := hid HH
    clear h hs hw hg HH
    go_enter Try.func47, Try.ntmps47
    go_wp2_with fail
    refine (HAS.out).mono ?_
    rintro e w2 ⟨rfl, rfl⟩
    go_wp2
    go_ret
    exact ⟨rfl, rfl⟩
  · obtain ⟨y, hy⟩ := waitsF_mem hw
    have lk := h.who_yes hy true
    clear h hs hw hy
    go_enter Try.func47, Try.ntmps47
    go_wp2
    go_ret
    exact ⟨rfl, rfl⟩
set_option maxHeartbeats 4000000 in
theorem pwait_full (h : Pq Z w p b1 b2 b3 W R) (hl : W.length < 1000000 ∧ R.length < 1000000) (fd a : Int) (h0 : 0 ≤ a) (h1 : a < 4096) (hw : waitsF W fd = false) (hg : waitsG W a = false) (hf : (!waitsF W fd && !decide (fd ∈ R) && decide (1024 ≤ plen W R)) = true) :
    Calls Try.prog 47 #[.pointer (some ⟨p, 0, none⟩), .int .u16 fd, .int .i64 a] w fun e w' => e = .returned (.int .i64 2) ∧ Below w.heap.size w w' := by
  have d0 : decide (a < 0) = false := decide_eq_false (by omega)
  have d1 : decide (4096 ≤ a) = false := decide_eq_false (by omega)
  have c0 : w.cell? ⟨p, 0, none⟩ = some (.map (some b1)) := cellx h.box rfl
  have lk := h.who_no hw true
  have HH := phas h a
  rw [hg] at HH
  have HAS := hid HH
  have FU := hid (pfull h hl fd true hf)
  clear h hl hw hg hf HH
  go_enter Try.func47, Try.ntmps47
  go_wp2_with fail
  refine (HAS.out).mono ?_
  rintro e w2 ⟨rfl, rfl⟩
  go_wp2_with fail
  refine (FU.out).mono ?_
  rintro e w3 ⟨rfl, b3'⟩
  have B := hid b3'
  clear b3' HAS FU lk c0
  go_wp2
  go_ret
  exact ⟨rfl, B.out⟩
/-- With one more that is ready. -/
def addR (R : List Int) (fd : Int) : List Int := if fd ∈ R then R else fd :: R
def RePost (Z : Nat → Prop) (w : World) (p b1 b2 b3 : Nat) (W : List (Int × Int)) (R : List Int) (w' : World) : Prop := FrZ Z w w' ∧ Pq Z w' p b1 b2 b3 W R
set_option maxHeartbeats 8000000 in
theorem pready_full (h : Pq Z w p b1 b2 b3 W R) (hl : W.length < 1000000 ∧ R.length < 1000000) (fd : Int) (hf : (!waitsF W fd && !decide (fd ∈ R) && decide (1024 ≤ plen W R)) = true) :
    Calls Try.prog 50 #[.pointer (some ⟨p, 0, none⟩), .int .u16 fd] w fun e w' => e = .returned (.int .i64 2) ∧ Below w.heap.size w w' := by
  have FU := hid (pfull h hl fd true hf)
  clear h hl hf
  go_enter Try.func50, Try.ntmps50
  go_wp2_with fail
  refine (FU.out).mono ?_
  rintro e w3 ⟨rfl, b3'⟩
  have B := hid b3'
  clear b3' FU
  go_wp2
  go_ret
  exact ⟨rfl, B.out⟩
set_option maxHeartbeats 8000000 in
theorem pready (h : Pq Z w p b1 b2 b3 W R) (hl : W.length < 1000000 ∧ R.length < 1000000) (fd : Int) (hf : (!waitsF W fd && !decide (fd ∈ R) && decide (1024 ≤ plen W R)) = false) :
    Calls Try.prog 50 #[.pointer (some ⟨p, 0, none⟩), .int .u16 fd] w fun e w' => e = .returned (.int .i64 0) ∧ RePost Z w p b1 b2 b3 W (addR R fd) w' := by
  have FU := hid (pfull h hl fd false hf)
  have HQ := hid h
  clear h hl hf
  go_enter Try.func50, Try.ntmps50
  go_wp2_with fail
  refine (FU.out).mono ?_
  rintro e w3 ⟨rfl, b3'⟩
  have F3 := FrZ.of_below (Z := Z) b3'
  have Q3 := HQ.out.below b3'
  obtain ⟨g, m, s⟩ := Q3.m3
  obtain ⟨w4, r4, m4, o4⟩ := m.store und3 undF fd (.bool true)
  have c2 : w3.cell? ⟨p, 2, none⟩ = some (.map (some b3)) := cellx Q3.box rfl
  have FIN : Hid (RePost Z w p b1 b2 b3 W (addR R fd) w4) := by
    obtain ⟨z0, z1, z2, z3⟩ := Q3.zf
    obtain ⟨l1, l2, l3, l4⟩ := Q3.lt
    obtain ⟨e1, e2, e3, e4, e5, e6⟩ := Q3.ne
    obtain ⟨g1, q1, s1⟩ := Q3.m1
    obtain ⟨g2, q2, s2⟩ := Q3.m2
    refine hid ⟨F3.trans (.of_only o4 z3), ⟨(o4.block _ l1 e3 e3).trans Q3.box, ⟨g1, q1.kept (o4.block _ l2 e5 e5), s1⟩, ⟨g2, q2.kept (o4.block _ l3 e6 e6), s2⟩, ?_, Q3.n1, Q3.n2, ?_, Q3.ne, Q3.zf⟩⟩
    · by_cases hin : fd ∈ R
      · rw [if_neg (by rw [s, if_pos hin]; simp)] at m4
        refine ⟨_, by rw [addR, if_pos hin]; exact m4, fun a => ?_⟩
        rw [addR, if_pos hin]
        simp only [updG]
        by_cases ha : a = fd
        · subst ha; simp [hin]
        · rw [if_neg ha, s]
      · rw [if_pos (by rw [s, if_neg hin])] at m4
        refine ⟨_, by rw [addR, if_neg hin]; exact m4, fun a => ?_⟩
        rw [addR, if_neg hin]
        simp only [updG]
        by_cases ha : a = fd
        · subst ha; simp
        · rw [if_neg ha, s]; simp [ha]
    · unfold addR
      split
      · exact Q3.n3
      · rename_i hin; exact List.nodup_cons.2 ⟨hin, Q3.n3⟩
  clear Q3 F3 b3' m s m4 o4 FU
  go_wp2
  go_ret
  exact ⟨rfl, FIN.out⟩
/-- None is due: nothing is taken. -/
def PnoPost (w : World) (e : Ending) (w' : World) : Prop := e = .returned (.tuple #[.int .u16 0, .int .i64 0, .bool false]) ∧ Below w.heap.size w w'
set_option maxHeartbeats 4000000 in
theorem ptake_none (h : Pq Z w p b1 b2 b3 W R) (hd : anyDue W R = false) : Calls Try.prog 45 #[.pointer (some ⟨p, 0, none⟩)] w (PnoPost w) := by
  have LT := hid (pleast h)
  have HD := hid hd
  clear h hd
  go_enter Try.func45, Try.ntmps45
  go_wp2_with fail
  refine (LT.out).mono ?_
  rintro e w2 (⟨rfl, h2, h3⟩ | ⟨m, rfl, h2, _, h3⟩)
  · have B := hid h3
    clear h2 h3 LT
    go_wp2
    go_ret3
    exact ⟨rfl, B.out⟩
  · exfalso
    have := anyDue_yes h2
    rw [HD.out] at this; cases this
/-- The least one that is due is taken. -/
def PkPost (Z : Nat → Prop) (w : World) (p b1 b2 b3 : Nat) (W : List (Int × Int)) (R : List Int) (e : Ending) (w' : World) : Prop :=
  ∃ m y, e = .returned (.tuple #[.int .u16 m, .int .i64 y, .bool true]) ∧ (m, y) ∈ W ∧ m ∈ R ∧ (∀ a, dueP W R a = true → m ≤ a) ∧ FrZ Z w w' ∧ Pq Z w' p b1 b2 b3 (W.filter fun e => !(e.1 == m)) (R.filter fun a => !(a == m))
theorem len_drop {m y : Int} (hn : (W.map Prod.fst).Nodup) (h : (m, y) ∈ W) : (W.filter fun e => !(e.1 == m)).length = W.length - 1 := by
  have h1 := filt_step (R := W) (f := fun e => !(e.1 == m)) (f' := fun _ => true) (a := (m, y)) (List.Pairwise.of_map _ (fun a b hab e => hab (by rw [e])) hn) h (by simp) rfl (fun x hx hne => by
    have : ¬ x.1 = m := fun e => hne (by
      obtain ⟨x1, x2⟩ := x
      simp only at e; subst e
      rw [pair_snd hn hx h])
    simp [this])
  have : W.filter (fun _ => true) = W := List.filter_eq_self.2 (fun _ _ => rfl)
  rw [this] at h1; omega
theorem len_drop2 {m : Int} (hn : R.Nodup) (h : m ∈ R) : (R.filter fun a => !(a == m)).length = R.length - 1 := by
  have h1 := filt_step (R := R) (f := fun a => !(a == m)) (f' := fun _ => true) (a := m) hn h (by simp) rfl (fun x hx hne => by simp [hne])
  have : R.filter (fun _ => true) = R := List.filter_eq_self.2 (fun _ _ => rfl)
  rw [this] at h1; omega
theorem take_pq {m y : Int} {wa wb wc : World} {ga gb gc : Int → Option Value} (h : Pq Z w p b1 b2 b3 W R) (hm : (m, y) ∈ W) (hr : m ∈ R) 
    (s1 : ∀ a v, ga a = some v ↔ ∃ y, (a, y) ∈ W ∧ v = .int .i64 y) (n1 : MapI wa b1 .u16 (updG ga m none) (if ga m = none then W.length else W.length - 1)) (o1 : Only b1 b1 w wa)
    (s2 : ∀ a v, gb a = some v ↔ ∃ x, (x, a) ∈ W ∧ v = .int .u16 x) (n2 : MapI wb b2 .i64 (updG gb y none) (if gb y = none then W.length else W.length - 1)) (o2 : Only b2 b2 wa wb)
    (s3 : ∀ a, gc a = if a ∈ R then some (.bool true) else none) (n3 : MapI wc b3 .u16 (updG gc m none) (if gc m = none then R.length else R.length - 1)) (o3 : Only b3 b3 wb wc) :
    FrZ Z w wc ∧ Pq Z wc p b1 b2 b3 (W.filter fun e => !(e.1 == m)) (R.filter fun a => !(a == m)) := by
  obtain ⟨z0, z1, z2, z3⟩ := h.zf
  obtain ⟨l1, l2, l3, l4⟩ := h.lt
  obtain ⟨e1, e2, e3, e4, e5, e6⟩ := h.ne
  have t1 := o1.size
  have t2 := o2.size
  have k1 : ga m = some (.int .i64 y) := (s1 m _).2 ⟨y, hm, rfl⟩
  have k2 : gb y = some (.int .u16 m) := (s2 y _).2 ⟨m, hm, rfl⟩
  have k3 : gc m = some (.bool true) := by rw [s3, if_pos hr]
  rw [if_neg (by rw [k1]; simp), ← len_drop h.n1 hm] at n1
  rw [if_neg (by rw [k2]; simp), ← len_drop h.n1 hm] at n2
  rw [if_neg (by rw [k3]; simp), ← len_drop2 h.n3 hr] at n3
  have nd2 : ∀ a x x' : Int, (x, a) ∈ W → (x', a) ∈ W → x = x' := fun a x x' q q' => by
    have hsw : ((W.map Prod.swap).map Prod.fst).Nodup := by
      rw [List.map_map]; exact h.n2
    exact pair_snd (l := W.map Prod.swap) hsw (a := a) (List.mem_map.2 ⟨_, q, rfl⟩) (List.mem_map.2 ⟨_, q', rfl⟩)
  refine ⟨((FrZ.of_only o1 z1).trans (.of_only o2 z2)).trans (.of_only o3 z3), ⟨?_, ⟨_, n1.kept ?_, ?_⟩, ⟨_, n2.kept ?_, ?_⟩, ⟨_, n3, ?_⟩, ?_, ?_, ?_, h.ne, h.zf⟩⟩
  · rw [o3.block _ (by omega) e3 e3, o2.block _ (by omega) e2 e2, o1.block _ l1 e1 e1]; exact h.box
  · rw [o3.block _ (by omega) e5 e5, o2.block _ (by omega) e4 e4]
  · intro c v
    simp only [updG, List.mem_filter]
    by_cases hc : c = m
    · subst hc; simp
    · rw [if_neg hc, s1]; simp [hc]
  · rw [o3.block _ (by omega) e6 e6]
  · intro c v
    simp only [updG, List.mem_filter]
    by_cases hc : c = y
    · subst hc
      constructor
      · intro e; simp at e
      · rintro ⟨x, ⟨hx, hx2⟩, _⟩
        have := nd2 _ _ _ hx hm
        subst this; simp at hx2
    · rw [if_neg hc, s2]
      constructor
      · rintro ⟨x, hx, rfl⟩
        refine ⟨x, ⟨hx, ?_⟩, rfl⟩
        by_cases hxm : x = m
        · subst hxm; exact absurd (pair_snd h.n1 hx hm) hc
        · simp [hxm]
      · rintro ⟨x, ⟨hx, _⟩, rfl⟩; exact ⟨x, hx, rfl⟩
  · intro c
    simp only [updG, List.mem_filter]
    by_cases hc : c = m
    · subst hc; simp
    · rw [if_neg hc, s3]; simp [hc]
  · exact h.n1.sublist (List.filter_sublist.map _)
  · exact h.n2.sublist (List.filter_sublist.map _)
  · exact h.n3.sublist List.filter_sublist
set_option maxHeartbeats 8000000 in
theorem ptake (h : Pq Z w p b1 b2 b3 W R) (hd : anyDue W R = true) : Calls Try.prog 45 #[.pointer (some ⟨p, 0, none⟩)] w (PkPost Z w p b1 b2 b3 W R) := by
  have LT := hid (pleast h)
  have HD := hid hd
  have HQ := hid h
  clear h hd
  go_enter Try.func45, Try.ntmps45
  go_wp2_with fail
  refine (LT.out).mono ?_
  rintro e w2 (⟨rfl, h2, h3⟩ | ⟨m, rfl, h2, hle, h3⟩)
  · exfalso
    obtain ⟨e, he, hr⟩ := List.any_eq_true.1 HD.out
    have := h2 e.1
    rw [dueP, show waitsF W e.1 = true from decide_eq_true (List.mem_map.2 ⟨e, he, rfl⟩), hr] at this
    cases this
  · have hdu := h2
    simp only [dueP, Bool.and_eq_true, decide_eq_true_eq] at hdu
    obtain ⟨y, hy⟩ := waitsF_mem hdu.1
    have F2 := FrZ.of_below (Z := Z) h3
    have Q2 := HQ.out.below h3
    obtain ⟨ga, m1, s1⟩ := Q2.m1
    obtain ⟨gb, m2, s2⟩ := Q2.m2
    obtain ⟨gc, m3, s3⟩ := Q2.m3
    obtain ⟨l1, l2, l3, l4⟩ := Q2.lt
    obtain ⟨e1, e2, e3, e4, e5, e6⟩ := Q2.ne
    have lk := Q2.who_yes hy false
    obtain ⟨wa, ra, na, oa⟩ := m1.del und1 undF 0 m
    have m2a := m2.kept (oa.block _ l3 e4.symm e4.symm)
    obtain ⟨wb, rb, nb, ob⟩ := m2a.del und2 undG 0 y
    have m3a := m3.kept ((ob.block _ (Nat.lt_of_lt_of_le l4 oa.size) e6.symm e6.symm).trans (oa.block _ l4 e5.symm e5.symm))
    obtain ⟨wc, rc, nc, oc⟩ := m3a.del und3 undF 0 m
    have c0 : w2.cell? ⟨p, 0, none⟩ = some (.map (some b1)) := cellx Q2.box rfl
    have boxa := only_blk oa Q2.box e1
    have c1 : wa.cell? ⟨p, 1, none⟩ = some (.map (some b2)) := cellx boxa rfl
    have boxb := only_blk ob boxa e2
    have c2 : wb.cell? ⟨p, 2, none⟩ = some (.map (some b3)) := cellx boxb rfl
    obtain ⟨f, q⟩ := take_pq Q2 hy hdu.2 s1 na oa s2 nb ob s3 nc oc
    have FIN : Hid (PkPost Z w p b1 b2 b3 W R (.returned (.tuple #[.int .u16 m, .int .i64 y, .bool true])) wc) := hid ⟨m, y, rfl, hy, hdu.2, hle, F2.trans f, q⟩
    clear f q boxa boxb m3a nc oc m2a nb ob na oa e1 e2 e3 e4 e5 e6 l1 l2 l3 l4 m1 m2 m3 s1 s2 s3 Q2 F2 hy hdu h2 hle h3 LT
    go_wp2
    go_ret3
    exact FIN.out
end
set_option maxHeartbeats 4000000 in
theorem pnew (w : World) : Calls Try.prog 20 #[] w fun e w' => e = .returned (.pointer (some ⟨w.heap.size + 3, 0, none⟩)) ∧ Pq (fun q => q < w.heap.size) w' (w.heap.size + 3) w.heap.size (w.heap.size + 1) (w.heap.size + 2) [] [] ∧ Below w.heap.size w w' := by
  have mk : ∀ T (w : World), (Instr.makeMap T none).run Try.prog w = .ok (.map (some w.heap.size)) (w.alloc (.map #[] 0)) := fun T w => rfl
  have FIN : Hid (Pq (fun q => q < w.heap.size) ((((w.alloc (.map #[] 0)).alloc (.map #[] 0)).alloc (.map #[] 0)).alloc (.cells #[.map (some w.heap.size), .map (some (w.heap.size + 1)), .map (some (w.heap.size + 2))] 105)) (w.heap.size + 3) w.heap.size (w.heap.size + 1) (w.heap.size + 2) [] []) := by
    have a1 := MapI.new w .u16
    have a2 := MapI.new (w.alloc (.map #[] 0)) .i64
    have a3 := MapI.new ((w.alloc (.map #[] 0)).alloc (.map #[] 0)) .u16
    have a4 := fun o => (Go.MapKept.heap_alloc (((w.alloc (.map #[] 0)).alloc (.map #[] 0)).alloc (.map #[] 0)) o).1
    have a4 := a4 (.cells #[.map (some w.heap.size), .map (some (w.heap.size + 1)), .map (some (w.heap.size + 2))] 105)
    simp only [World.size_alloc] at a2 a3 a4
    have b1 := (((a1.kept (Below.heap_alloc _ (.map #[] 0) _ (by simp only [World.size_alloc]; omega))).kept (Below.heap_alloc _ (.map #[] 0) _ (by simp only [World.size_alloc]; omega))).kept (Below.heap_alloc _ (.cells #[.map (some w.heap.size), .map (some (w.heap.size + 1)), .map (some (w.heap.size + 2))] 105) _ (by simp only [World.size_alloc]; omega)))
    have b2 := ((a2.kept (Below.heap_alloc _ (.map #[] 0) _ (by simp only [World.size_alloc]; omega))).kept (Below.heap_alloc _ (.cells #[.map (some w.heap.size), .map (some (w.heap.size + 1)), .map (some (w.heap.size + 2))] 105) _ (by simp only [World.size_alloc]; omega)))
    have b3 := a3.kept (Below.heap_alloc _ (.cells #[.map (some w.heap.size), .map (some (w.heap.size + 1)), .map (some (w.heap.size + 2))] 105) _ (by simp only [World.size_alloc]; omega))
    exact hid ⟨a4, ⟨_, b1, by simp⟩, ⟨_, b2, by simp⟩, ⟨_, b3, by simp⟩, by simp, by simp, by simp, by omega, by omega⟩
  go_enter Try.func20, Try.ntmps20
  go_wp2
  go_ret
  exact ⟨rfl, FIN.out, ((((bl_al w _).trans ((bl_al _ _).mono (by simp only [World.size_alloc]; omega))).trans ((bl_al _ _).mono (by simp only [World.size_alloc]; omega))).trans ((bl_al _ _).mono (by simp only [World.size_alloc]; omega)))⟩
/-- A new poll, its foreign blocks: what was there. -/
def PnPost (w : World) (e : Ending) (w' : World) : Prop :=
  ∃ Z p b1 b2 b3, e = .returned (.pointer (some ⟨p, 0, none⟩)) ∧ Pq Z w' p b1 b2 b3 [] [] ∧ Below w.heap.size w w' ∧ (∀ q, q < w.heap.size → Z q) ∧ ∀ q, Z q → q < w.heap.size
theorem pnewZ (w : World) : Calls Try.prog 20 #[] w (PnPost w) := (pnew w).mono fun e w' ⟨h1, h2, h3⟩ => ⟨_, _, _, _, _, h1, h2, h3, fun q h => h, fun q h => h⟩
theorem Pq.reZ {Z : Nat → Prop} {w : World} {p b1 b2 b3 : Nat} {W : List (Int × Int)} {R : List Int} (h : Pq Z w p b1 b2 b3 W R) {b : Nat} (hb : w.heap.size ≤ b) : Pq (fun q => Z q ∨ q = b) w p b1 b2 b3 W R := by
  obtain ⟨l1, l2, l3, l4⟩ := h.lt
  obtain ⟨z1, z2, z3, z4⟩ := h.zf
  exact ⟨h.box, h.m1, h.m2, h.m3, h.n1, h.n2, h.n3, h.ne, fun h => h.elim z1 (by omega), fun h => h.elim z2 (by omega), fun h => h.elim z3 (by omega), fun h => h.elim z4 (by omega)⟩
theorem Pq.only {Z : Nat → Prop} {w w' : World} {p b1 b2 b3 : Nat} {W : List (Int × Int)} {R : List Int} (h : Pq Z w p b1 b2 b3 W R) {b : Nat} (o : Only b b w w') (hz : Z b) : Pq Z w' p b1 b2 b3 W R := by
  obtain ⟨l1, l2, l3, l4⟩ := h.lt
  obtain ⟨z1, z2, z3, z4⟩ := h.zf
  have k : ∀ x, ¬ Z x → x < w.heap.size → w'.heap[x]? = w.heap[x]? := fun x hx hl => o.block x hl (fun e => hx (e ▸ hz)) (fun e => hx (e ▸ hz))
  exact h.kept (k _ z1 l1) (k _ z2 l2) (k _ z3 l3) (k _ z4 l4)
end Go.Proofs.Ytaogpodncphpjaa
/-! source.Source: a clock, timers, a poll; what it is, and what its methods that only read answer. -/
namespace Go.Proofs.Ytaogpodncphpjaa
set_option linter.unusedVariables false
set_option linter.unusedSimpArgs false
open Go.RowKit

/-- What the poll never writes: all but its own four blocks. -/
def Zp (p b1 b2 b3 : Nat) : Nat → Prop := fun q => q ≠ p ∧ q ≠ b1 ∧ q ≠ b2 ∧ q ≠ b3
/-- What the timers never write: what is foreign, the source's block, the poll's. -/
def Zt (Z : Nat → Prop) (s p b1 b2 b3 : Nat) : Nat → Prop := fun q => Z q ∨ q = s ∨ q = p ∨ q = b1 ∨ q = b2 ∨ q = b3
/-- The source at block s: the time, the timers in order (L), who waits (W), what is ready (R). -/
structure Sq (Z : Nat → Prop) (w : World) (s t p b1 b2 b3 n : Nat) (now : Int) (es : Nat → List En) (L : List En) (ad : Nat) (W : List (Int × Int)) (R : List Int) : Prop where
  box : w.heap[s]? = some (.cells #[.int .i64 now, .pointer (some ⟨t, 0, none⟩), .pointer (some ⟨p, 0, none⟩), .int .i64 n, .int .i64 W.length] 68 (0, 0))
  te : Te (Zt Z s p b1 b2 b3) w t n es L ad
  pq : Pq (Zp p b1 b2 b3) w p b1 b2 b3 W R
  now : inI now
  whn : ∀ e ∈ L, inI e.1
  dis : ∀ g, hasG L g = true → waitsG W g = false
  zf : ¬ Z s ∧ ¬ Z p ∧ ¬ Z b1 ∧ ¬ Z b2 ∧ ¬ Z b3
  ne : s ≠ p ∧ s ≠ b1 ∧ s ≠ b2 ∧ s ≠ b3
  hz : ∀ q, Z q → q < w.heap.size
section
variable {Z : Nat → Prop} {w w' : World} {s t p b1 b2 b3 n : Nat} {now : Int} {es : Nat → List En} {L : List En} {ad : Nat} {W : List (Int × Int)} {R : List Int}
theorem Sq.below (h : Sq Z w s t p b1 b2 b3 n now es L ad W R) (hb : Below w.heap.size w w') : Sq Z w' s t p b1 b2 b3 n now es L ad W R :=
  ⟨(hb.block _ (Array.getElem?_eq_some_iff.1 h.box).1).trans h.box, h.te.below hb, h.pq.below hb, h.now, h.whn, h.dis, h.zf, h.ne, fun q hq => Nat.lt_of_lt_of_le (h.hz q hq) hb.size⟩
theorem Sq.lt (h : Sq Z w s t p b1 b2 b3 n now es L ad W R) : s < w.heap.size := (Array.getElem?_eq_some_iff.1 h.box).1
theorem Sq.hzt (h : Sq Z w s t p b1 b2 b3 n now es L ad W R) : ∀ q, Zt Z s p b1 b2 b3 q → q < w.heap.size := fun q hq => by
  obtain ⟨l1, l2, l3, l4⟩ := h.pq.lt
  have l0 := h.lt
  rcases hq with hq | hq | hq | hq | hq | hq
  · exact h.hz q hq
  all_goals omega
/-- Is something due? -/
def dueS (now : Int) (L : List En) (W : List (Int × Int)) (R : List Int) : Bool := dueL L now || anyDue W R
set_option maxHeartbeats 4000000 in
theorem snow (h : Sq Z w s t p b1 b2 b3 n now es L ad W R) : Calls Try.prog 8 #[.pointer (some ⟨s, 0, none⟩)] w fun e w' => e = .returned (.int .i64 now) ∧ w' = w := by
  have A := hid (cnow s now w (cellx h.box rfl))
  clear h
  go_enter Try.func8, Try.ntmps8
  go_wp2_with fail
  refine (A.out).mono ?_
  rintro e w' ⟨rfl, rfl⟩
  go_wp2
  go_ret
  exact ⟨rfl, rfl⟩
set_option maxHeartbeats 4000000 in
theorem sout (h : Sq Z w s t p b1 b2 b3 n now es L ad W R) (g : Int) (r : Bool) (hr : (hasG L g || waitsG W g) = r) : Calls Try.prog 13 #[.pointer (some ⟨s, 0, none⟩), .int .i64 g] w fun e w' => e = .returned (.bool r) ∧ w' = w := by
  have c1 : w.cell? ⟨s, 1, none⟩ = some (.pointer (some ⟨t, 0, none⟩)) := cellx h.box rfl
  have c2 : w.cell? ⟨s, 2, none⟩ = some (.pointer (some ⟨p, 0, none⟩)) := cellx h.box rfl
  rcases hg : hasG L g with _ | _
  · have A := hid (te_has h.te g false hg)
    have B := phas h.pq g
    rw [hg, Bool.false_or] at hr
    rw [hr] at B
    have HB := hid B
    clear h hr B hg
    go_enter Try.func13, Try.ntmps13
    go_wp2_with fail
    refine (A.out).mono ?_
    rintro e w' ⟨rfl, rfl⟩
    go_wp2_with fail
    refine (HB.out).mono ?_
    rintro e w' ⟨rfl, rfl⟩
    go_wp2
    go_ret
    exact ⟨rfl, rfl⟩
  · have A := hid (te_has h.te g true hg)
    obtain rfl : r = true := by rw [← hr, hg]; rfl
    clear h hr hg
    go_enter Try.func13, Try.ntmps13
    go_wp2_with fail
    refine (A.out).mono ?_
    rintro e w' ⟨rfl, rfl⟩
    go_wp2
    go_ret
    exact ⟨rfl, rfl⟩
set_option maxHeartbeats 4000000 in
theorem slen (h : Sq Z w s t p b1 b2 b3 n now es L ad W R) (hl : L.length < 1000000 ∧ W.length < 1000000) (m : Nat) (hm : L.length + W.length = m) : Calls Try.prog 11 #[.pointer (some ⟨s, 0, none⟩)] w fun e w' => e = .returned (.int .i64 m) ∧ Below w.heap.size w w' := by
  have c1 : w.cell? ⟨s, 1, none⟩ = some (.pointer (some ⟨t, 0, none⟩)) := cellx h.box rfl
  have c4 : w.cell? ⟨s, 4, none⟩ = some (.int .i64 W.length) := cellx h.box rfl
  obtain ⟨a, ha⟩ : ∃ a, a = L.length := ⟨_, rfl⟩
  obtain ⟨b, hb⟩ : ∃ b, b = W.length := ⟨_, rfl⟩
  have A : Hid (∀ n, Calls Try.prog 35 #[.pointer (some ⟨t, 0, none⟩)] (w.drewN n) fun e w' => e = .returned (.int .i64 a) ∧ w.drewN n = w') := hid fun n => by
    rw [ha]
    exact (te_len (h.te.below (bl_dN w n))).mono fun e w' ⟨h1, h2⟩ => ⟨h1, h2.symm⟩
  rw [← hb] at c4 hl hm
  rw [← ha] at hl hm
  have W1 : IntKind.i64.wrap ((a : Int) + b) = (m : Int) := by
    have hb : IntKind.i64.bits = 64 := rfl
    have hs : IntKind.i64.signed = true := rfl
    simp [IntKind.wrap, hb, hs]
    split <;> omega
  clear h ha hb
  go_enter Try.func11, Try.ntmps11
  go_wp2_with fail
  go_quiet ((go_at_call 35; exact quiet_call0 (A.out _)))
  go_wp2
  go_ret
  exact ⟨rfl, bl_dN _ _⟩
end
end Go.Proofs.Ytaogpodncphpjaa
/-! Slices of the document's timers (four cells each): what one reads as. -/
namespace Go.Proofs.Ytaogpodncphpjaa
set_option linter.unusedVariables false
set_option linter.unusedSimpArgs false
open Go.RowKit

abbrev Tr := Int × Int × Int × Int
/-- The cells of one timer. -/
def tr (e : Tr) : List Value := [.int .i64 e.1, .int .i64 e.2.1, .int .u64 e.2.2.1, .int .i64 e.2.2.2]
/-- The cells of a row of timers. -/
def ft (es : List Tr) : List Value := es.flatMap tr
theorem ft_cons (e : Tr) (es : List Tr) : ft (e :: es) = .int .i64 e.1 :: .int .i64 e.2.1 :: .int .u64 e.2.2.1 :: .int .i64 e.2.2.2 :: ft es := by simp [ft, tr]
theorem ft_len : ∀ es : List Tr, (ft es).length = es.length * 4
  | [] => rfl
  | e :: es => by rw [ft_cons]; simp [ft_len es]; omega
theorem ft_app (xs ys : List Tr) : ft (xs ++ ys) = ft xs ++ ft ys := by simp [ft]
def tAt (es : List Tr) (i : Nat) : Tr := es.getD i (0, 0, 0, 0)
theorem ft_get : ∀ (es : List Tr) (i : Nat), i < es.length → (ft es)[i * 4]? = some (.int .i64 (tAt es i).1) ∧ (ft es)[i * 4 + 1]? = some (.int .i64 (tAt es i).2.1) ∧ (ft es)[i * 4 + 2]? = some (.int .u64 (tAt es i).2.2.1) ∧ (ft es)[i * 4 + 3]? = some (.int .i64 (tAt es i).2.2.2)
  | [], i, h => by simp at h
  | e :: es, 0, _ => by rw [ft_cons]; simp [tAt]
  | e :: es, i + 1, h => by
    have := ft_get es i (by simpa using h)
    rw [ft_cons]
    simp only [show (i + 1) * 4 = i * 4 + 1 + 1 + 1 + 1 by omega, List.getElem?_cons_succ]
    simpa [tAt] using this
theorem ft_at {es : List Tr} {j : Nat} {u : Value} (h : (ft es)[j]? = some u) : ∃ i r, i < es.length ∧ r < 4 ∧ j = i * 4 + r ∧ (tr (tAt es i))[r]? = some u := by
  have hj : j < es.length * 4 := by rw [← ft_len]; exact (List.getElem?_eq_some_iff.1 h).1
  obtain ⟨h0, h1, h2, h3⟩ := ft_get es (j / 4) (by omega)
  have hr : j % 4 = 0 ∨ j % 4 = 1 ∨ j % 4 = 2 ∨ j % 4 = 3 := by omega
  rcases hr with e | e | e | e
  · rw [show j = j / 4 * 4 by omega, h0] at h
    exact ⟨j / 4, 0, by omega, by omega, by omega, h⟩
  · rw [show j = j / 4 * 4 + 1 by omega, h1] at h
    exact ⟨j / 4, 1, by omega, by omega, by omega, h⟩
  · rw [show j = j / 4 * 4 + 2 by omega, h2] at h
    exact ⟨j / 4, 2, by omega, by omega, by omega, h⟩
  · rw [show j = j / 4 * 4 + 3 by omega, h3] at h
    exact ⟨j / 4, 3, by omega, by omega, by omega, h⟩
theorem ft_ones (es : List Tr) : ∀ u ∈ ft es, u.oneCell' = true := by
  intro u hu
  obtain ⟨e, _, he⟩ := List.mem_flatMap.1 hu
  simp [tr] at he
  rcases he with rfl | rfl | rfl | rfl <;> rfl
theorem t_take {es : List Tr} {k : Nat} (h : k < es.length) : es.take (k + 1) = es.take k ++ [tAt es k] := by
  rw [List.take_add_one, List.getElem?_eq_getElem h]
  simp [tAt, List.getElem?_eq_getElem h]
theorem t_drop {es : List Tr} {k : Nat} (h : k < es.length) : es.drop k = tAt es k :: es.drop (k + 1) := by
  rw [List.drop_eq_getElem_cons h]
  simp [tAt, List.getElem?_eq_getElem h]
/-- A slice that reads as timers (four cells each), in memory that is there. -/
def RdT (w : World) (v : Value) (es : List Tr) : Prop :=
  ∃ a c, v = .slice a es.length c ∧ (es.length ≤ c ∧ c ≤ maxLen ∧ ((a = none ∧ c = 0) ∨ ∃ ad, a = some ad)) ∧ (0 < es.length → ∃ g off, a = some ⟨g, off, none⟩ ∧ g < w.heap.size ∧ ∀ i, i < es.length →
    w.cell? ⟨g, off + i * 4, none⟩ = some (.int .i64 (tAt es i).1) ∧ w.cell? ⟨g, off + i * 4 + 1, none⟩ = some (.int .i64 (tAt es i).2.1) ∧ w.cell? ⟨g, off + i * 4 + 2, none⟩ = some (.int .u64 (tAt es i).2.2.1) ∧ w.cell? ⟨g, off + i * 4 + 3, none⟩ = some (.int .i64 (tAt es i).2.2.2))
theorem RdT.below {w w' : World} {v : Value} {es : List Tr} (h : RdT w v es) (hb : Below w.heap.size w w') : RdT w' v es := by
  obtain ⟨a, c, h1, h2, h4⟩ := h
  refine ⟨a, c, h1, h2, fun h0 => ?_⟩
  obtain ⟨g, off, e, hg, hc⟩ := h4 h0
  have hs := hb.size
  refine ⟨g, off, e, by omega, fun i hi => ?_⟩
  obtain ⟨q0, q1, q2, q3⟩ := hc i hi
  exact ⟨(hb.cell (p := ⟨g, _, none⟩) hg).trans q0, (hb.cell (p := ⟨g, _, none⟩) hg).trans q1, (hb.cell (p := ⟨g, _, none⟩) hg).trans q2, (hb.cell (p := ⟨g, _, none⟩) hg).trans q3⟩
theorem own_rdT {w : World} {base : Nat} {t : TypeId} {v : Value} {es : List Tr} (h : w.ownsRow base t 4 v es.length (ft es)) : RdT w v es := by
  obtain ⟨h0, ⟨h1, h2⟩ | ⟨q, cap, cur, h1, h2, h3, h4, h5, h6, h7⟩⟩ := id h
  · exact ⟨none, 0, by rw [h1, h2], ⟨by omega, by simp, .inl ⟨rfl, rfl⟩⟩, fun h => by omega⟩
  · refine ⟨_, cap, h1, ⟨h4, h5, .inr ⟨_, rfl⟩⟩, fun hn => ⟨q, 0, rfl, by obtain ⟨hl, _⟩ := Array.getElem?_eq_some_iff.1 h3; exact hl, fun i hi => ?_⟩⟩
    subst h1
    obtain ⟨k0, k1, k2, k3⟩ := ft_get es i hi
    have k := fun j => h.cellAt (g := q) (cap := cap) j
    have hl := ft_len es
    simp only [Nat.zero_add]
    exact ⟨(k _ (by omega)).trans k0, (k _ (by omega)).trans k1, (k _ (by omega)).trans k2, (k _ (by omega)).trans k3⟩
theorem RdT.news {w : World} {ad : Addr} {n c : Nat} {es : List Tr} (h : RdT w (.slice (some ad) n c) es) {w' : World} (hb : Below w.heap.size w w') : ∀ j u, (ft es)[j]? = some u → w'.cell? (ad.add j) = some u := by
  intro j u hj
  obtain ⟨i, r, h1, h2, rfl, h4⟩ := ft_at hj
  obtain ⟨a, c', e, _, hh⟩ := h.below hb
  simp only [Value.slice.injEq] at e
  obtain ⟨rfl, rfl, rfl⟩ := e
  obtain ⟨g, off, e, hg, hc⟩ := hh (by omega)
  simp only [Option.some.injEq] at e
  subst e
  have he : (⟨g, off, none⟩ : Addr).add (i * 4 + r) = ⟨g, off + i * 4 + r, none⟩ := by
    rw [Addr.add_lit, Nat.add_assoc]
  rw [he]
  obtain ⟨c0, c1, c2, c3⟩ := hc i h1
  match r, h2, h4 with
  | 0, _, h4 => simp [tr] at h4; subst h4; exact c0
  | 1, _, h4 => simp [tr] at h4; subst h4; exact c1
  | 2, _, h4 => simp [tr] at h4; subst h4; exact c2
  | 3, _, h4 => simp [tr] at h4; subst h4; exact c3
theorem RdT.nil (w : World) : RdT w (.slice none 0 0) [] := ⟨none, 0, rfl, ⟨by simp, by unfold maxLen; omega, .inl ⟨rfl, rfl⟩⟩, fun h => absurd h (by simp)⟩
end Go.Proofs.Ytaogpodncphpjaa
/-! The document's timers by value: Has as a contract. -/
namespace Go.Proofs.Ytaogpodncphpjaa
set_option linter.unusedVariables false
set_option linter.unusedSimpArgs false
open Go.RowKit
/-- The document's row of timers, as a value. -/
structure Dt (w : World) (v : Value) (D : List Tr) : Prop where
  hd : RdT w v D
  ld : D.length ≤ 1000
theorem Dt.below {w w' : World} {v : Value} {D : List Tr} (h : Dt w v D) (hb : Below w.heap.size w w') : Dt w' v D := ⟨h.hd.below hb, h.ld⟩
theorem Dt.sl {w : World} {v : Value} {D : List Tr} (h : Dt w v D) : ∃ a n c, v = .slice a n c ∧ Hid (D.length = n) ∧ n ≤ 1000 := by
  obtain ⟨a, c, e, _⟩ := h.hd
  exact ⟨_, _, _, e, hid rfl, h.ld⟩
/-- Has a goroutine one? -/
def thasb (D : List Tr) (g : Int) : Bool := decide (g ∈ D.map fun x => x.2.2.2)
set_option maxHeartbeats 4000000 in
theorem rthas_any (w : World) (N o : Int) (v : Value) (D : List Tr) (h : Dt w v D) (g : Int) (r : Bool) (hr : thasb D g = r) :
    Calls Try.prog 38 #[.agg #[.int .i64 N, v, .int .u64 o], .int .i64 g] w fun e w' => e = .returned (.bool r) ∧ Below w.heap.size w w' := by
  subst hr
  obtain ⟨a, n, c, rfl, HN, lw⟩ := h.sl
  have H := hid (h.below ((Below.refl _ _).alloc (Nat.le_refl _) (.cells #[.int .i64 N, .slice a n c, .int .u64 o] 29)))
  have B := hid (show Below w.heap.size w (w.alloc (.cells #[.int .i64 N, .slice a n c, .int .u64 o] 29)) from (Below.refl _ _).alloc (Nat.le_refl _) _)
  clear h
  go_enter Try.func38, Try.ntmps38
  go_wp2_with fail
  obtain ⟨w0, hw0⟩ : ∃ w0, w0 = w.alloc (.cells #[.int .i64 N, .slice a n c, .int .u64 o] 29) := ⟨_, rfl⟩
  rw [← hw0] at H B ⊢
  have hs0 : w.heap.size ≤ w0.heap.size := B.out.size
  clear hw0
  go_loopw [10] (fun i wr => ∃ k : Nat, k ≤ n ∧ i = .int .i64 k ∧ Hid (thasb D g = thasb (D.drop k) g) ∧ Hid (Below w0.heap.size w0 wr)) (fun i _ => n - (intOf i).toNat)
  case atStart => exact ⟨0, by omega, rfl, hid (by simp), hid (Below.refl _ _)⟩
  case round =>
    obtain ⟨k, hk, rfl, F, BR⟩ := hrel
    by_cases hlt : k < n
    · obtain ⟨a', c', e, _, hh⟩ := (H.out.below BR.out).hd
      simp only [Value.slice.injEq] at e
      obtain ⟨rfl, e2, rfl⟩ := e
      clear e2
      obtain ⟨q, off, rfl, _, hc⟩ := hh (by have := HN.out; omega)
      obtain ⟨h0, h1, h2, h3⟩ := hc k (by have := HN.out; omega)
      have T := hid (t_drop (es := D) (k := k) (by have := HN.out; omega))
      generalize tAt D k = ev at *
      obtain ⟨x, y1, y2, y3⟩ := ev
      simp only at h0 h1 h2 h3
      have B2 := hid (BR.out.alloc BR.out.size (.cells #[.int .i64 x, .int .i64 y1, .int .u64 y2, .int .i64 y3] 53))
      have BF := hid (B.out.trans (B2.out.mono hs0))
      clear hh hc BR
      by_cases hxf : y3 = g
      · subst hxf
        have E := hid (show thasb D y3 = true by rw [F.out, T.out]; simp [thasb])
        clear F T
        go_wp2
        go_ret
        exact ⟨(show Ending.returned (.bool true) = _ by rw [E.out]), BF.out⟩
      · have hne : (y3 == g) = false := by simpa using hxf
        have F2 := hid (show thasb D g = thasb (D.drop (k + 1)) g by
          rw [F.out, T.out]
          have : ¬ g = y3 := fun e => hxf e.symm
          simp [thasb, this])
        clear F T hxf
        go_wp2_with fail
        go_roundw
        case rel => exact ⟨k + 1, by omega, by go_num, F2, B2⟩
        case measure => simp [intOf]; omega
    · obtain rfl : k = n := by omega
      have E := hid (show thasb D g = false by
        have := F.out
        rw [List.drop_eq_nil_of_le (by have := HN.out; omega)] at this
        exact this)
      have BF := hid (B.out.trans (BR.out.mono hs0))
      clear F
      go_wp2
      go_ret
      exact ⟨(show Ending.returned (.bool false) = _ by rw [E.out]), BF.out⟩
end Go.Proofs.Ytaogpodncphpjaa
/-! The document's timers by value: Of as a contract; New. -/
namespace Go.Proofs.Ytaogpodncphpjaa
set_option linter.unusedVariables false
set_option linter.unusedSimpArgs false
open Go.RowKit Tk
/-- A processor's entries, as they stand; below 0: all. -/
def ofL (p : Int) (D : List Tr) : List En := (D.filter fun x => x.1 == p || decide (p < 0)).map Prod.snd
theorem ofL_len (p : Int) (D : List Tr) : (ofL p D).length ≤ D.length := by simp only [ofL, List.length_map]; exact List.length_filter_le ..
theorem ofL_app (p : Int) (D : List Tr) (x : Tr) : ofL p (D ++ [x]) = ofL p D ++ (if (x.1 == p || decide (p < 0)) then [x.2] else []) := by
  simp only [ofL, List.filter_append, List.map_append]
  congr 1
  by_cases h : (x.1 == p || decide (p < 0)) = true <;> simp [List.filter, h]
theorem sort_snoc (l : List En) (e : En) : sortE (l ++ [e]) = insF e (sortE l) := by
  rw [sort_perm (List.perm_append_singleton e l), insF_sort]
theorem of_hit {p : Int} {D : List Tr} {x : Tr} (h : (x.1 == p || decide (p < 0)) = true) : sortE (ofL p (D ++ [x])) = insF x.2 (sortE (ofL p D)) := by
  rw [ofL_app, if_pos h, sort_snoc]
theorem of_miss {p : Int} {D : List Tr} {x : Tr} (h : (x.1 == p || decide (p < 0)) = false) : sortE (ofL p (D ++ [x])) = sortE (ofL p D) := by
  rw [ofL_app, if_neg (by simp [h]), List.append_nil]
def OfPost (p : Int) (D : List Tr) (w : World) (e : Ending) (w' : World) : Prop := ∃ v, e = .returned v ∧ Rd3 w' v (sortE (ofL p D)) ∧ Below w.heap.size w w'
theorem Rd3.nil (w : World) : Rd3 w (.slice none 0 0) [] := ⟨none, 0, rfl, by simp, by simp, fun h => by simp at h⟩
set_option maxHeartbeats 4000000 in
theorem rtof_any (w : World) (N o : Int) (v : Value) (D : List Tr) (h : Dt w v D) (p : Int) :
    Calls Try.prog 55 #[.agg #[.int .i64 N, v, .int .u64 o], .int .i64 p] w (OfPost p D w) := by
  obtain ⟨a, n, c, rfl, HN, lw⟩ := h.sl
  have H := hid (h.below ((Below.refl _ _).alloc (Nat.le_refl _) (.cells #[.int .i64 N, .slice a n c, .int .u64 o] 29)))
  have B := hid (show Below w.heap.size w (w.alloc (.cells #[.int .i64 N, .slice a n c, .int .u64 o] 29)) from (Below.refl _ _).alloc (Nat.le_refl _) _)
  clear h
  go_enter Try.func55, Try.ntmps55
  go_wp2_with fail
  obtain ⟨w0, hw0⟩ : ∃ w0, w0 = w.alloc (.cells #[.int .i64 N, .slice a n c, .int .u64 o] 29) := ⟨_, rfl⟩
  rw [← hw0] at H B ⊢
  have hs0 : w.heap.size ≤ w0.heap.size := B.out.size
  clear hw0
  go_loopw [5, 11] (fun v5 i wr => ∃ (k : Nat) (vo : Value), k ≤ n ∧ vo = v5 ∧ i = .int .i64 k ∧ Hid (Rd3 wr vo (sortE (ofL p (D.take k)))) ∧ Hid (Below w0.heap.size w0 wr)) (fun _ i _ => n - (intOf i).toNat)
  case atStart => exact ⟨0, _, by omega, rfl, rfl, hid (by simpa [ofL, sortE] using Rd3.nil w0), hid (Below.refl _ _)⟩
  case round =>
    obtain ⟨k, vo, hk, rfl, rfl, F, BR⟩ := hrel
    by_cases hlt : k < n
    · obtain ⟨a', c', e, _, hh⟩ := (H.out.below BR.out).hd
      simp only [Value.slice.injEq] at e
      obtain ⟨rfl, e2, rfl⟩ := e
      clear e2
      obtain ⟨q, off, rfl, _, hc⟩ := hh (by have := HN.out; omega)
      obtain ⟨h0, h1, h2, h3⟩ := hc k (by have := HN.out; omega)
      have T := hid (t_take (es := D) (k := k) (by have := HN.out; omega))
      have LN := hid (show (sortE (ofL p (D.take k))).length ≤ 1000 by
        rw [sort_len]
        have := ofL_len p (D.take k)
        rw [List.length_take] at this
        omega)
      generalize tAt D k = ev at *
      obtain ⟨x, y1, y2, y3⟩ := ev
      simp only at h0 h1 h2 h3
      have BA := (Below.refl wr.heap.size wr).alloc (Nat.le_refl _) (.cells #[.int .i64 x, .int .i64 y1, .int .u64 y2, .int .i64 y3] 53)
      have B2 := hid (BR.out.trans (BA.mono BR.out.size))
      have F1 := hid (F.out.below BA)
      have RP := hid (refput vo (sortE (ofL p (D.take k))) y1 y2 y3 (wr.alloc (.cells #[.int .i64 x, .int .i64 y1, .int .u64 y2, .int .i64 y3] 53)) F1.out LN.out)
      clear hh hc BR BA F
      rcases hc : (x == p || decide (p < 0)) with _ | _
      · have F2 := hid (show Rd3 (wr.alloc (.cells #[.int .i64 x, .int .i64 y1, .int .u64 y2, .int .i64 y3] 53)) vo (sortE (ofL p (D.take (k + 1)))) by rw [T.out, of_miss (x := (x, y1, y2, y3)) hc]; exact F1.out)
        obtain ⟨g1, g2⟩ : (x == p) = false ∧ decide (p < 0) = false := by simpa [Bool.or_eq_false_iff] using hc
        clear hc T RP F1
        go_wp2_with fail
        go_roundw
        case rel => exact ⟨k + 1, _, by omega, rfl, by go_num, F2, B2⟩
        case measure => simp [intOf]; omega
      · have EQ := hid (of_hit (p := p) (D := D.take k) (x := (x, y1, y2, y3)) hc)
        rw [← T.out] at EQ
        have hz1 : (wr.alloc (.cells #[.int .i64 x, .int .i64 y1, .int .u64 y2, .int .i64 y3] 53)).heap.size = wr.heap.size + 1 := by simp
        rcases hxp : (x == p) with _ | _
        · have hp0 : decide (p < 0) = true := by simpa [hxp] using hc
          clear hc T F1
          go_wp2_with fail
          refine (RP.out).mono ?_
          rintro e w5 ⟨v5, rfl, ho, hb⟩
          have F2 := hid (show Rd3 w5 v5 (sortE (ofL p (D.take (k + 1)))) by rw [EQ.out]; exact own_rd3 ho)
          have B5 := hid (B2.out.trans (hb.mono B2.out.size))
          clear ho hb RP
          go_wp2_with fail
          go_roundw
          case rel => exact ⟨k + 1, _, by omega, rfl, by go_num, F2, B5⟩
          case measure => simp [intOf]; omega
        · clear hc T F1
          go_wp2_with fail
          refine (RP.out).mono ?_
          rintro e w5 ⟨v5, rfl, ho, hb⟩
          have F2 := hid (show Rd3 w5 v5 (sortE (ofL p (D.take (k + 1)))) by rw [EQ.out]; exact own_rd3 ho)
          have B5 := hid (B2.out.trans (hb.mono B2.out.size))
          clear ho hb RP
          go_wp2_with fail
          go_roundw
          case rel => exact ⟨k + 1, _, by omega, rfl, by go_num, F2, B5⟩
          case measure => simp [intOf]; omega
    · obtain rfl : k = n := by omega
      have E := hid (show Rd3 wr vo (sortE (ofL p D)) by
        have := F.out
        rwa [List.take_of_length_le (by have := HN.out; omega)] at this)
      have BF := hid (B.out.trans (BR.out.mono hs0))
      clear F
      go_wp2
      go_ret
      exact ⟨_, rfl, E.out, BF.out⟩
end Go.Proofs.Ytaogpodncphpjaa
/-! Structs of many cells: a whole one stored into the block that was made last, or loaded out of a block that is known, as one step. -/
namespace Go.Proofs.Ytaogpodncphpjaa
open Go.RowKit
set_option linter.unusedVariables false
theorem wp_store_new {P : Program} {w : World} {o : Oper} {a : Act} {K : Act → World → Prop} {Q : Exit → Act → World → Prop} (ty : TypeId) (x y : Operand) (ho : o.op = .store ty x y)
    (c cells : Array Value) (t : TypeId) (hx : a.eval x = .pointer (some ⟨w.heap.size, 0, none⟩)) (hy : a.eval y = .agg cells)
    (hi : (P.info? ty).map (·.size) = some cells.size) (hs : c.size = cells.size) (h1 : cells.all (·.oneCell') = true)
    (h : K (a.put o.dst undef) (w.alloc (.cells cells t))) : o.wp P a (w.alloc (.cells c t)) K Q := by
  unfold Oper.wp execOp
  have e : (storeVar ty ⟨w.heap.size, 0, none⟩ (.agg cells)).run P (w.alloc (.cells c t)) = .ok () (w.alloc (.cells cells t)) := by
    rw [run_storeVar_row _ _ t ty c cells (heap_alloc_last w _) hi hs h1, World.setRow_alloc_new]
  simp only [ho, hx, hy, Instr.storeAt, Instr.sureAddr, Sem.run_bind, Sem.run_pure, Result.andThen_ok, e]
  exact h
theorem wpList_store_new {P : Program} {w : World} {ops : Array Oper} {rest : List Oper} {o : Oper} {a : Act} {Q : Exit → Act → World → Prop} (hgd : o.guard = none) (ty : TypeId) (x y : Operand) (ho : o.op = .store ty x y)
    (c cells : Array Value) (t : TypeId) (hx : a.eval x = .pointer (some ⟨w.heap.size, 0, none⟩)) (hy : a.eval y = .agg cells)
    (hi : (P.info? ty).map (·.size) = some cells.size) (hs : c.size = cells.size) (h1 : cells.all (·.oneCell') = true)
    (h : wpList P ops Q rest (a.put o.dst undef) (w.alloc (.cells cells t))) : wpList P ops Q (o :: rest) a (w.alloc (.cells c t)) :=
  wpList_plain hgd fun _ hK => wp_store_new ty x y ho c cells t hx hy hi hs h1 (hK _ _ h)
/-- A block that is known whole, in a later world. -/
theorem blk_kept {B k : Nat} {w w' : World} {cs : Array Value} {t : TypeId} {fr : Nat × Nat} (h : w.heap[k]? = some (.cells cs t fr)) (hb : Below B w w') (hk : k < B) : w'.heap[k]? = some (.cells cs t fr) := by
  rw [hb.block k hk]; exact h
theorem blk_lt {k : Nat} {w : World} {o : Obj} (h : w.heap[k]? = some o) : k < w.heap.size := by
  rw [Array.getElem?_eq_some_iff] at h; exact h.1
theorem blk_set {w : World} {g i : Nat} {cs cs' : Array Value} {t : TypeId} (v : Value) (hg : w.heap[g]? = some (.cells cs t (0, 0))) (he : cs.setIfInBounds i v = cs') : (w.setCell ⟨g, i, none⟩ v).heap[g]? = some (.cells cs' t (0, 0)) := by
  have := heap_setCell_same w g i cs t v hg
  rw [this, he]
theorem blk_cell {w : World} {p i : Nat} {cs : Array Value} {t : TypeId} {fr : Nat × Nat} {v : Value} (h : w.heap[p]? = some (.cells cs t fr)) (hi : cs[i]? = some v) : w.cell? ⟨p, i, none⟩ = some v := by simp [World.cell?, h, hi]
theorem blk_free {w : World} {p i : Nat} {cs : Array Value} {t : TypeId} (h : w.heap[p]? = some (.cells cs t (0, 0))) : w.frozen? ⟨p, i, none⟩ = false := by simp [World.frozen?, h]
/-- A load of a whole struct out of a block that is known, guarded or not. -/
theorem wpList_load_known {P : Program} {w : World} {ops : Array Oper} {rest : List Oper} {o : Oper} {a : Act} {Q : Exit → Act → World → Prop} (hw : Region.wanted o (yielded ops a.tmps) = true) (ty : TypeId) (x : Operand) (ho : o.op = .load ty x)
    (g : Nat) (hx : a.eval x = .pointer (some ⟨g, 0, none⟩)) (t : TypeId) (cs : Array Value) (fr : Nat × Nat) (d : TypeDesc) (hg : w.heap[g]? = some (.cells cs t fr))
    (hu : P.underlying ty = some d) (hd : (match d with | .struct _ | .array _ _ => true | _ => false) = true) (hi : (P.info? ty).map (·.size) = some cs.size)
    (h : wpList P ops Q rest (a.put o.dst (.agg cs)) w) : wpList P ops Q (o :: rest) a w :=
  BigFrame.wpList_want hw fun _ hK => wp_load_row ty x ho g hx t cs fr d hg hu hd hi (hK _ _ h)
theorem row_other (w : World) (g : Nat) (cs : Array Value) (k : Nat) (h : k ≠ g) : (w.setRow g cs).heap[k]? = w.heap[k]? := by
  simp only [World.setRow, Array.getElem?_modify]
  rw [if_neg (fun e => h e.symm)]
theorem row_size (w : World) (g : Nat) (cs : Array Value) : (w.setRow g cs).heap.size = w.heap.size := by simp [World.setRow]
theorem row_below {B : Nat} {w w' : World} {g : Nat} (h : Below B w w') (hg : B ≤ g) (cs : Array Value) : Below B w (w'.setRow g cs) :=
  ⟨h.os, h.tape, h.output, by rw [row_size]; exact h.size, fun k hk => by rw [row_other _ _ _ _ (by omega)]; exact h.block k hk⟩
end Go.Proofs.Ytaogpodncphpjaa
/-! The document's timers by value: Add that adds nothing. -/
namespace Go.Proofs.Ytaogpodncphpjaa
set_option linter.unusedVariables false
set_option linter.unusedSimpArgs false
open Go.RowKit
theorem results_row_tmp10 {P : Program} {fn : Func} {p u : Tmp} {ty : TypeId} (h : fn.results = #[.cell p ty, .tmp u]) (tmps : Array Value) (w : World) (g : Nat) (t : TypeId) (cs : Array Value) (fr : Nat × Nat) (d : TypeDesc)
    (hp : tmps.getD p undef = .pointer (some ⟨g, 0, none⟩)) (hg : w.heap[g]? = some (.cells cs t fr))
    (hu : P.underlying ty = some d) (hd : (match d with | .struct _ | .array _ _ => true | _ => false) = true) (hi : (P.info? ty).map (·.size) = some cs.size) (b : Value) (hb : tmps.getD u undef = b) :
    (results fn tmps).run P w = .ok (.tuple #[.agg cs, b]) w := by
  rw [results_cell_tmp h, hp, hb]
  simp [asAddr, run_loadVar_row w g t ty cs fr d hg hu hd hi, Result.andThen]
/-- What a deed of the document's hands back. -/
def DtPost (w : World) (v0 : Value) (D : List Tr) (N o er : Int) (e : Ending) (w' : World) : Prop :=
  ∃ v', e = .returned (.tuple #[.agg #[.int .i64 N, v', .int .u64 o], .int .i64 er]) ∧ Dt w' v' D ∧ Below w.heap.size w w' ∧ ∀ q, v'.ownBlock = some q → v0.ownBlock = some q ∨ (w.heap.size ≤ q ∧ q < w'.heap.size)
set_option maxHeartbeats 4000000 in
theorem rtadd_arg (w : World) (N o : Int) (v : Value) (D : List Tr) (h : Dt w v D) (p g x : Int) (hbad : p < 0 ∨ N ≤ p ∨ g < 0 ∨ 4095 < g) :
    Calls Try.prog 53 #[.agg #[.int .i64 N, v, .int .u64 o], .int .i64 p, .int .i64 g, .int .i64 x] w (DtPost w v D N o 1) := by
  obtain ⟨a, n, c, rfl, HN, lw⟩ := h.sl
  have hb0 := ((Below.refl w.heap.size w).alloc (Nat.le_refl _) (.cells #[.int .i64 N, .slice a n c, .int .u64 o] 29)).alloc (by simp) (.cells #[.int .i64 0, .slice none 0 0, .int .u64 0] 29)
  have B := hid hb0
  have K := hid (heap_alloc2_old w (.cells #[.int .i64 N, .slice a n c, .int .u64 o] 29) (.cells #[.int .i64 0, .slice none 0 0, .int .u64 0] 29))
  have R := hid (heap_alloc2_new w (.cells #[.int .i64 N, .slice a n c, .int .u64 o] 29) (.cells #[.int .i64 0, .slice none 0 0, .int .u64 0] 29))
  have HD := hid h
  clear h hb0
  obtain ⟨w1, hw1⟩ : ∃ w1, w1 = (w.alloc (.cells #[.int .i64 N, .slice a n c, .int .u64 o] 29)).alloc (.cells #[.int .i64 0, .slice none 0 0, .int .u64 0] 29) := ⟨_, rfl⟩
  rw [← hw1] at K R B
  have FIN := hid (show DtPost w (.slice a n c) D N o 1 (.returned (.tuple #[.agg #[.int .i64 N, .slice a n c, .int .u64 o], .int .i64 1])) (w1.setRow (w.heap.size + 1) #[.int .i64 N, .slice a n c, .int .u64 o]) from
    have BF := row_below B.out (show w.heap.size ≤ w.heap.size + 1 by omega) #[.int .i64 N, .slice a n c, .int .u64 o]
    ⟨_, rfl, HD.out.below BF, BF, fun q hq => .inl hq⟩)
  rw [hw1] at FIN K R
  have y0 := blk_cell K.out (i := 0) rfl
  clear HD B hw1
  by_cases h1 : p < 0
  · have d1 : decide (p < 0) = true := decide_eq_true h1
    go_enter Try.func53, Try.ntmps53
    go_wp2_with (first
      | (refine wpList_load_known (by rfl) 29 (.tmp 4) rfl w.heap.size rfl 29 #[.int .i64 N, .slice a n c, .int .u64 o] (0, 0) _ K.out Try.underlying29 rfl (by kernel_rfl) ?_)
      | (refine wpList_store_row rfl 29 (.tmp 8) (.tmp 26) rfl (w.heap.size + 1) #[.int .i64 N, .slice a n c, .int .u64 o] rfl rfl 29 _ R.out (by kernel_rfl) (by rfl) (by simp [Value.oneCell']) ?_))
    refine bodyPost_ret (v := .tuple #[.agg #[.int .i64 N, .slice a n c, .int .u64 o], .int .i64 1]) (results_row_tmp10 rfl _ _ (w.heap.size + 1) 29 #[.int .i64 N, .slice a n c, .int .u64 o] (0, 0) _ (by rfl) (setRow_heap _ _ _ _ _ _ R.out) Try.underlying29 rfl (by kernel_rfl) _ (by rfl)) rfl FIN.out
  have d1 : decide (p < 0) = false := decide_eq_false h1
  by_cases h2 : N ≤ p
  · have d2 : decide (N ≤ p) = true := decide_eq_true h2
    go_enter Try.func53, Try.ntmps53
    go_wp2_with (first
      | (refine wpList_load_known (by rfl) 29 (.tmp 4) rfl w.heap.size rfl 29 #[.int .i64 N, .slice a n c, .int .u64 o] (0, 0) _ K.out Try.underlying29 rfl (by kernel_rfl) ?_)
      | (refine wpList_store_row rfl 29 (.tmp 8) (.tmp 26) rfl (w.heap.size + 1) #[.int .i64 N, .slice a n c, .int .u64 o] rfl rfl 29 _ R.out (by kernel_rfl) (by rfl) (by simp [Value.oneCell']) ?_))
    refine bodyPost_ret (v := .tuple #[.agg #[.int .i64 N, .slice a n c, .int .u64 o], .int .i64 1]) (results_row_tmp10 rfl _ _ (w.heap.size + 1) 29 #[.int .i64 N, .slice a n c, .int .u64 o] (0, 0) _ (by rfl) (setRow_heap _ _ _ _ _ _ R.out) Try.underlying29 rfl (by kernel_rfl) _ (by rfl)) rfl FIN.out
  have d2 : decide (N ≤ p) = false := decide_eq_false h2
  by_cases h3 : g < 0
  · have d3 : decide (g < 0) = true := decide_eq_true h3
    go_enter Try.func53, Try.ntmps53
    go_wp2_with (first
      | (refine wpList_load_known (by rfl) 29 (.tmp 4) rfl w.heap.size rfl 29 #[.int .i64 N, .slice a n c, .int .u64 o] (0, 0) _ K.out Try.underlying29 rfl (by kernel_rfl) ?_)
      | (refine wpList_store_row rfl 29 (.tmp 8) (.tmp 26) rfl (w.heap.size + 1) #[.int .i64 N, .slice a n c, .int .u64 o] rfl rfl 29 _ R.out (by kernel_rfl) (by rfl) (by simp [Value.oneCell']) ?_))
    refine bodyPost_ret (v := .tuple #[.agg #[.int .i64 N, .slice a n c, .int .u64 o], .int .i64 1]) (results_row_tmp10 rfl _ _ (w.heap.size + 1) 29 #[.int .i64 N, .slice a n c, .int .u64 o] (0, 0) _ (by rfl) (setRow_heap _ _ _ _ _ _ R.out) Try.underlying29 rfl (by kernel_rfl) _ (by rfl)) rfl FIN.out
  have d3 : decide (g < 0) = false := decide_eq_false h3
  have d4 : decide ((4095 : Int) < g) = true := decide_eq_true (by omega)
  go_enter Try.func53, Try.ntmps53
  go_wp2_with (first
    | (refine wpList_load_known (by rfl) 29 (.tmp 4) rfl w.heap.size rfl 29 #[.int .i64 N, .slice a n c, .int .u64 o] (0, 0) _ K.out Try.underlying29 rfl (by kernel_rfl) ?_)
    | (refine wpList_store_row rfl 29 (.tmp 8) (.tmp 26) rfl (w.heap.size + 1) #[.int .i64 N, .slice a n c, .int .u64 o] rfl rfl 29 _ R.out (by kernel_rfl) (by rfl) (by simp [Value.oneCell']) ?_))
  refine bodyPost_ret (v := .tuple #[.agg #[.int .i64 N, .slice a n c, .int .u64 o], .int .i64 1]) (results_row_tmp10 rfl _ _ (w.heap.size + 1) 29 #[.int .i64 N, .slice a n c, .int .u64 o] (0, 0) _ (by rfl) (setRow_heap _ _ _ _ _ _ R.out) Try.underlying29 rfl (by kernel_rfl) _ (by rfl)) rfl FIN.out
set_option maxHeartbeats 4000000 in
theorem rtadd_same (w : World) (N o : Int) (v : Value) (D : List Tr) (h : Dt w v D) (p g x : Int) (h1 : 0 ≤ p) (h2 : p < N) (h3 : 0 ≤ g) (h4 : g ≤ 4095) (hs : thasb D g = true) :
    Calls Try.prog 53 #[.agg #[.int .i64 N, v, .int .u64 o], .int .i64 p, .int .i64 g, .int .i64 x] w (DtPost w v D N o 8) := by
  obtain ⟨a, n, c, rfl, HN, lw⟩ := h.sl
  have hb0 := ((Below.refl w.heap.size w).alloc (Nat.le_refl _) (.cells #[.int .i64 N, .slice a n c, .int .u64 o] 29)).alloc (by simp) (.cells #[.int .i64 0, .slice none 0 0, .int .u64 0] 29)
  have H := hid (h.below hb0)
  have B := hid hb0
  have K := hid (heap_alloc2_old w (.cells #[.int .i64 N, .slice a n c, .int .u64 o] 29) (.cells #[.int .i64 0, .slice none 0 0, .int .u64 0] 29))
  have R := hid (heap_alloc2_new w (.cells #[.int .i64 N, .slice a n c, .int .u64 o] 29) (.cells #[.int .i64 0, .slice none 0 0, .int .u64 0] 29))
  have HD := hid h
  have HS := hid hs
  clear h hb0 hs
  have hsz : ((w.alloc (.cells #[.int .i64 N, .slice a n c, .int .u64 o] 29)).alloc (.cells #[.int .i64 0, .slice none 0 0, .int .u64 0] 29)).heap.size = w.heap.size + 2 := by simp
  have y0 := blk_cell K.out (i := 0) rfl
  have d1 : decide (p < 0) = false := decide_eq_false (by omega)
  have d2 : decide (N ≤ p) = false := decide_eq_false (by omega)
  have d3 : decide (g < 0) = false := decide_eq_false (by omega)
  have d4 : decide ((4095 : Int) < g) = false := decide_eq_false (by omega)
  go_enter Try.func53, Try.ntmps53
  go_wp2_with (refine wpList_load_known (by rfl) 29 (.tmp 4) rfl w.heap.size rfl 29 #[.int .i64 N, .slice a n c, .int .u64 o] (0, 0) _ K.out Try.underlying29 rfl (by kernel_rfl) ?_)
  refine (rthas_any _ N o _ D H.out g true HS.out).mono ?_
  rintro e w2 ⟨rfl, hb2⟩
  have K2 := hid ((hb2.block _ (by rw [hsz]; omega)).trans K.out)
  have R2 := hid ((hb2.block _ (by rw [hsz]; omega)).trans R.out)
  have B2 := hid (B.out.trans (hb2.mono B.out.size))
  clear hb2 H K R B y0 hsz
  have FIN := hid (show DtPost w (.slice a n c) D N o 8 (.returned (.tuple #[.agg #[.int .i64 N, .slice a n c, .int .u64 o], .int .i64 8])) (w2.setRow (w.heap.size + 1) #[.int .i64 N, .slice a n c, .int .u64 o]) from
    have BF := row_below B2.out (show w.heap.size ≤ w.heap.size + 1 by omega) #[.int .i64 N, .slice a n c, .int .u64 o]
    ⟨_, rfl, HD.out.below BF, BF, fun q hq => .inl hq⟩)
  clear HD B2
  go_wp2_with (first
    | (refine wpList_load_known (by rfl) 29 (.tmp 4) rfl w.heap.size rfl 29 #[.int .i64 N, .slice a n c, .int .u64 o] (0, 0) _ K2.out Try.underlying29 rfl (by kernel_rfl) ?_)
    | (refine wpList_store_row rfl 29 (.tmp 8) (.tmp 30) rfl (w.heap.size + 1) #[.int .i64 N, .slice a n c, .int .u64 o] rfl rfl 29 _ R2.out (by kernel_rfl) (by rfl) (by simp [Value.oneCell']) ?_))
  refine bodyPost_ret (v := .tuple #[.agg #[.int .i64 N, .slice a n c, .int .u64 o], .int .i64 8]) (results_row_tmp10 rfl _ _ (w.heap.size + 1) 29 #[.int .i64 N, .slice a n c, .int .u64 o] (0, 0) _ (by rfl) (setRow_heap _ _ _ _ _ _ R2.out) Try.underlying29 rfl (by kernel_rfl) _ (by rfl)) rfl FIN.out
end Go.Proofs.Ytaogpodncphpjaa
/-! An append of what is handed (program-free but for its import); timers handed. -/
namespace Go.Proofs.Ytaogpodncphpjaa
set_option linter.unusedVariables false
set_option linter.unusedSimpArgs false
open Go.RowKit
/-- What an append is handed: so many cells, of m elements. -/
def HandT (w : World) (vy : Value) (m : Nat) (news : List Value) : Prop :=
  ∃ a c, vy = .slice a m c ∧ ((a = none ∧ m = 0 ∧ c = 0 ∧ news = []) ∨ ∃ ad, a = some ad ∧ ∀ j u, news[j]? = some u → w.cell? (ad.add j) = some u)
theorem wpList_appT {P : Program} {w : World} {ops : Array Oper} {rest : List Oper} {o : Oper} {a : Act} {Q : Exit → Act → World → Prop} (hgd : o.guard = none) (s x : Operand) (t : TypeId)
    (ho : o.op = .call { callee := .builtin .append, args := #[s, x], argTypes := #[t, t] })
    (base : Nat) (e : TypeId) (i : TypeInfo) (z : Value) (size bytes : Nat) (ht : P.underlying t = some (.slice e)) (hi : P.info? e = some i) (hz : i.zero = some z)
    (hsize : i.size = size) (hby : i.bytes = bytes) (hzs : z.cells.size = size) (hsz : 0 < size)
    (v : Value) (n : Nat) (xs : List Value) (hs : a.eval s = v) (hown : w.ownsRow base e size v n xs)
    (m : Nat) (news : List Value) (vy : Value) (hx : a.eval x = vy) (hr : HandT w vy m news) (hl : news.length = m * size) (h1 : ∀ u ∈ news, u.oneCell' = true)
    (h63 : n + m ≤ maxLen) (hbytes : (n + m) * bytes ≤ 140737488355328) (hbase : base ≤ w.heap.size)
    (h : ∀ v' w', w'.ownsRow base e size v' (n + m) (xs ++ news) → w.grownBy w' v.ownBlock → wpList P ops Q rest (a.put o.dst v') w') :
    wpList P ops Q (o :: rest) a w := by
  obtain ⟨ad, c, rfl, ⟨rfl, rfl, rfl, rfl⟩ | ⟨ad', rfl, hc⟩⟩ := hr
  · exact wpList_append_own_none hgd s x t ho base e i size ht hi v n xs hs hown hx (h v w (by simpa using hown) (.refl _ _))
  · exact wpList_append_own w hgd s x t ho base e i z size bytes ht hi hz hsize hby hzs hsz v n xs hs hown ad' m c news hx hl hc h1 h63 hbytes hbase (fun v' w' h1 h2 _ => h v' w' h1 h2)
theorem RdT.handed {w : World} {v : Value} {V : List Tr} (h : RdT w v V) {w' : World} (hb : Below w.heap.size w w') : HandT w' v V.length (ft V) := by
  have h0 := h
  obtain ⟨a, c, rfl, hc, hr⟩ := h
  refine ⟨a, c, rfl, ?_⟩
  rcases hc.2.2 with ⟨rfl, rfl⟩ | ⟨ad, rfl⟩
  · have : V = [] := List.length_eq_zero_iff.1 (by omega)
    subst this
    exact .inl ⟨rfl, rfl, rfl, rfl⟩
  · exact .inr ⟨ad, rfl, h0.news hb⟩
theorem ownT_kept {w w' : World} {base sz n : Nat} {t : TypeId} {v : Value} {xs : List Value} (h : w.ownsRow base t sz v n xs) (hb : ∀ k, v.ownBlock = some k → w'.heap[k]? = w.heap[k]?) : w'.ownsRow base t sz v n xs := by
  obtain ⟨h0, h1 | ⟨g, cap, cur, h1, h2, h3, h4⟩⟩ := h
  · exact ⟨h0, .inl h1⟩
  · exact ⟨h0, .inr ⟨g, cap, cur, h1, h2, by rw [hb g (by rw [h1]; rfl)]; exact h3, h4⟩⟩
theorem readsT {w : World} {base n : Nat} {t : TypeId} {v : Value} {V : List Tr} (h : w.ownsRow base t 4 v n (ft V)) (hn : V.length = n) : RdT w v V := by
  subst hn
  exact own_rdT h
theorem infoTr : (Try.prog.info? 53).map (fun i => (i.zero, i.size, i.bytes)) = some (some (.agg #[.int .i64 0, .int .i64 0, .int .u64 0, .int .i64 0]), 4, 32) := by kernel_rfl
end Go.Proofs.Ytaogpodncphpjaa
/-! The document's timers by value: New; Take. -/
namespace Go.Proofs.Ytaogpodncphpjaa
set_option linter.unusedVariables false
set_option linter.unusedSimpArgs false
open Go.RowKit Tk
/-- How many processors there are. -/
def clampT (n : Int) : Int := if n < 1 then 1 else if 64 < n then 64 else n
theorem clampT_range (n : Int) : 1 ≤ clampT n ∧ clampT n ≤ 64 := by unfold clampT; split <;> (try split) <;> omega
def RnPost (n : Int) (w : World) (e : Ending) (w' : World) : Prop := e = .returned (.agg #[.int .i64 (clampT n), .slice none 0 0, .int .u64 0]) ∧ Below w.heap.size w w'
theorem RnPost.fin {n : Int} {w : World} (m : Int) (hm : clampT n = m) : RnPost n w (.returned (.agg #[.int .i64 m, .slice none 0 0, .int .u64 0])) (w.alloc (.cells #[.int .i64 m, .slice none 0 0, .int .u64 0] 29)) :=
  ⟨by rw [hm], (Below.refl w.heap.size w).alloc (Nat.le_refl _) _⟩
set_option maxHeartbeats 4000000 in
theorem rtnew (n : Int) (w : World) : Calls Try.prog 21 #[.int .i64 n] w (RnPost n w) := by
  by_cases h1 : n < 1
  · have F := hid (RnPost.fin (n := n) (w := w) 1 (by unfold clampT; rw [if_pos h1]))
    go_enter Try.func21, Try.ntmps21
    go_wp2
    exact bodyPost_ret (results_cell_row rfl _ _ w.heap.size 29 #[.int .i64 1, .slice none 0 0, .int .u64 0] (0, 0) _ (by rfl) (heap_alloc_new _ _) Try.underlying29 rfl (by kernel_rfl)) rfl F.out
  · by_cases h2 : 64 < n
    · have F := hid (RnPost.fin (n := n) (w := w) 64 (by unfold clampT; rw [if_neg h1, if_pos h2]))
      go_enter Try.func21, Try.ntmps21
      go_wp2
      exact bodyPost_ret (results_cell_row rfl _ _ w.heap.size 29 #[.int .i64 64, .slice none 0 0, .int .u64 0] (0, 0) _ (by rfl) (heap_alloc_new _ _) Try.underlying29 rfl (by kernel_rfl)) rfl F.out
    · have F := hid (RnPost.fin (n := n) (w := w) n (by unfold clampT; rw [if_neg h1, if_neg h2]))
      go_enter Try.func21, Try.ntmps21
      go_wp2
      exact bodyPost_ret (results_cell_row rfl _ _ w.heap.size 29 #[.int .i64 n, .slice none 0 0, .int .u64 0] (0, 0) _ (by rfl) (heap_alloc_new _ _) Try.underlying29 rfl (by kernel_rfl)) rfl F.out
theorem results_row2 {P : Program} {fn : Func} {p q u : Tmp} {ty ty' : TypeId} (h : fn.results = #[.cell p ty, .cell q ty', .tmp u]) (tmps : Array Value) (w : World) (g : Nat) (t : TypeId) (cs : Array Value) (fr : Nat × Nat) (d : TypeDesc)
    (hp : tmps.getD p undef = .pointer (some ⟨g, 0, none⟩)) (hg : w.heap[g]? = some (.cells cs t fr))
    (hu : P.underlying ty = some d) (hd : (match d with | .struct _ | .array _ _ => true | _ => false) = true) (hi : (P.info? ty).map (·.size) = some cs.size)
    (g' : Nat) (t' : TypeId) (cs' : Array Value) (fr' : Nat × Nat) (d' : TypeDesc)
    (hp' : tmps.getD q undef = .pointer (some ⟨g', 0, none⟩)) (hg' : w.heap[g']? = some (.cells cs' t' fr'))
    (hu' : P.underlying ty' = some d') (hd' : (match d' with | .struct _ | .array _ _ => true | _ => false) = true) (hi' : (P.info? ty').map (·.size) = some cs'.size) (b : Value) (hb : tmps.getD u undef = b) :
    (results fn tmps).run P w = .ok (.tuple #[.agg cs, .agg cs', b]) w := by
  have e1 : tmps[p]?.getD undef = .pointer (some ⟨g, 0, none⟩) := by simpa using hp
  have e2 : tmps[q]?.getD undef = .pointer (some ⟨g', 0, none⟩) := by simpa using hp'
  have e3 : tmps[u]?.getD undef = b := by simpa using hb
  simp [results, h, e1, e2, e3, asAddr, run_loadVar_row w g t ty cs fr d hg hu hd hi, run_loadVar_row w g' t' ty' cs' fr' d' hg' hu' hd' hi', Result.andThen, Sem.run_bind]
/-- What Take hands back. -/
def TtPost (w : World) (v0 : Value) (D : List Tr) (N o : Int) (y : En) (is : Bool) (e : Ending) (w' : World) : Prop :=
  ∃ v', e = .returned (.tuple #[.agg #[.int .i64 N, v', .int .u64 o], .agg #[.int .i64 y.1, .int .u64 y.2.1, .int .i64 y.2.2], .bool is]) ∧ Dt w' v' D ∧ Below w.heap.size w w' ∧ ∀ q, v'.ownBlock = some q → v0.ownBlock = some q ∨ (w.heap.size ≤ q ∧ q < w'.heap.size)
set_option maxHeartbeats 4000000 in
theorem rttake_none (w : World) (N o : Int) (v : Value) (D : List Tr) (h : Dt w v D) (now : Int) (hs : ∀ y l, sortE (ofL (-1) D) = y :: l → now < y.1) :
    Calls Try.prog 33 #[.agg #[.int .i64 N, v, .int .u64 o], .int .i64 now] w (TtPost w v D N o (0, 0, 0) false) := by
  obtain ⟨a, n, c, rfl, HN, lw⟩ := h.sl
  obtain ⟨P, hP⟩ : ∃ P, P = w.heap.size := ⟨_, rfl⟩
  obtain ⟨w0, hw0⟩ : ∃ w0, w0 = ((w.alloc (.cells #[.int .i64 N, .slice a n c, .int .u64 o] 29)).alloc (.cells #[.int .i64 0, .slice none 0 0, .int .u64 0] 29)).alloc (.cells #[.int .i64 0, .int .u64 0, .int .i64 0] 51) := ⟨_, rfl⟩
  have hb0 : Below P w w0 := by rw [hw0, hP]; exact (((Below.refl w.heap.size w).alloc (Nat.le_refl _) _).alloc (by simp) _).alloc (by simp; omega) _
  have H := hid (h.below (by rw [← hP]; exact hb0))
  have hs0 : w0.heap.size = P + 3 := by rw [hw0, hP]; simp
  have K := hid (show w0.heap[P]? = some (.cells #[.int .i64 N, .slice a n c, .int .u64 o] 29 (0, 0)) by
    rw [hw0, hP]; exact (Below.heap_alloc _ _ _ (by simp; omega)).trans (heap_alloc2_old w _ _))
  have R := hid (show w0.heap[P + 1]? = some (.cells #[.int .i64 0, .slice none 0 0, .int .u64 0] 29 (0, 0)) by
    rw [hw0, hP]; exact (Below.heap_alloc _ _ _ (by simp)).trans (heap_alloc2_new w _ _))
  have E := hid (show w0.heap[P + 2]? = some (.cells #[.int .i64 0, .int .u64 0, .int .i64 0] 51 (0, 0)) by
    have := heap_alloc_new ((w.alloc (.cells #[.int .i64 N, .slice a n c, .int .u64 o] 29)).alloc (.cells #[.int .i64 0, .slice none 0 0, .int .u64 0] 29)) (.cells #[.int .i64 0, .int .u64 0, .int .i64 0] 51)
    rw [hw0, hP]; simpa using this)
  have B := hid hb0
  have HD := hid h
  have HP := hid hP
  clear h hb0
  go_enter Try.func33, Try.ntmps33
  go_wp2_with (refine wpList_load_known (by rfl) 29 (.tmp 2) rfl w.heap.size rfl 29 #[.int .i64 N, .slice a n c, .int .u64 o] (0, 0) _ (by rw [← hw0, ← hP]; exact K.out) Try.underlying29 rfl (by kernel_rfl) ?_)
  rw [← hw0, ← hP]
  clear hw0
  refine (rtof_any _ N o _ D H.out (-1)).mono ?_
  rintro e w2 ⟨va, rfl, hr, hb⟩
  have hs2 : P + 3 ≤ w2.heap.size := by have := hb.size; omega
  have K2 := hid ((hb.block _ (by omega)).trans K.out)
  have R2 := hid ((hb.block _ (by omega)).trans R.out)
  have E2 := hid ((hb.block _ (by omega)).trans E.out)
  have B2 := hid (B.out.trans (hb.mono (by omega)))
  clear hb K R E B H hP hs0
  have R3 := hid (show ((w2.setRow (P + 1) #[.int .i64 N, .slice a n c, .int .u64 o]).setRow (P + 2) #[.int .i64 0, .int .u64 0, .int .i64 0]).heap[P + 1]? = some (.cells #[.int .i64 N, .slice a n c, .int .u64 o] 29 (0, 0)) from (row_other _ _ _ _ (by omega)).trans (setRow_heap _ _ _ _ _ _ R2.out))
  have E3 := hid (show ((w2.setRow (P + 1) #[.int .i64 N, .slice a n c, .int .u64 o]).setRow (P + 2) #[.int .i64 0, .int .u64 0, .int .i64 0]).heap[P + 2]? = some (.cells #[.int .i64 0, .int .u64 0, .int .i64 0] 51 (0, 0)) from setRow_heap _ _ _ _ _ _ ((row_other _ _ _ _ (by omega)).trans E2.out))
  have E2 := hid (show (w2.setRow (P + 1) #[.int .i64 N, .slice a n c, .int .u64 o]).heap[P + 2]? = some (.cells #[.int .i64 0, .int .u64 0, .int .i64 0] 51 (0, 0)) from (row_other _ _ _ _ (by omega)).trans E2.out)
  have FIN := hid (show TtPost w (.slice a n c) D N o (0, 0, 0) false (.returned (.tuple #[.agg #[.int .i64 N, .slice a n c, .int .u64 o], .agg #[.int .i64 0, .int .u64 0, .int .i64 0], .bool false])) ((w2.setRow (P + 1) #[.int .i64 N, .slice a n c, .int .u64 o]).setRow (P + 2) #[.int .i64 0, .int .u64 0, .int .i64 0]) from by
    have BF := row_below (row_below (show Below w.heap.size w w2 by rw [← HP.out]; exact B2.out) (show w.heap.size ≤ P + 1 by have := HP.out; omega) #[.int .i64 N, .slice a n c, .int .u64 o]) (show w.heap.size ≤ P + 2 by have := HP.out; omega) #[.int .i64 0, .int .u64 0, .int .i64 0]
    exact ⟨_, rfl, HD.out.below BF, BF, fun q hq => .inl hq⟩)
  clear B2 HD
  obtain ⟨a1, c1, rfl, hc1, hm1, hr1⟩ := hr
  unfold maxLen at hm1
  rcases hL : sortE (ofL (-1) D) with _ | ⟨⟨y1, y2, y3⟩, l⟩
  · rw [hL] at hc1 hr1
    simp only [List.length_nil]
    clear hL hr1 hs
    go_wp2_with (first
      | (refine wpList_load_known (by rfl) 29 (.tmp 2) rfl P rfl 29 #[.int .i64 N, .slice a n c, .int .u64 o] (0, 0) _ K2.out Try.underlying29 rfl (by kernel_rfl) ?_)
      | (refine wpList_store_row rfl 29 (.tmp 4) (.tmp 24) rfl (P + 1) #[.int .i64 N, .slice a n c, .int .u64 o] rfl rfl 29 _ R2.out (by kernel_rfl) (by rfl) (by simp [Value.oneCell']) ?_)
      | (refine wpList_store_row rfl 51 (.tmp 5) (.tmp 25) rfl (P + 2) #[.int .i64 0, .int .u64 0, .int .i64 0] rfl rfl 51 _ E2.out (by kernel_rfl) (by rfl) (by simp [Value.oneCell']) ?_))
    exact bodyPost_ret (v := .tuple #[.agg #[.int .i64 N, .slice a n c, .int .u64 o], .agg #[.int .i64 0, .int .u64 0, .int .i64 0], .bool false]) (results_row2 (p := 4) (q := 5) (u := 6) rfl _ _ (P + 1) 29 #[.int .i64 N, .slice a n c, .int .u64 o] (0, 0) _ (by rfl) R3.out Try.underlying29 rfl (by kernel_rfl) (P + 2) 51 #[.int .i64 0, .int .u64 0, .int .i64 0] (0, 0) _ (by rfl) E3.out Try.underlying51 rfl (by kernel_rfl) _ (by rfl)) rfl FIN.out
  · have hy := hs _ _ hL
    rw [hL] at hc1 hr1
    obtain ⟨g, off, rfl, _, hcl⟩ := hr1 (by simp)
    obtain ⟨q0, q1, q2⟩ := hcl 0 (by simp)
    simp only [enAt, List.getD_cons_zero, Nat.zero_mul, Nat.add_zero] at q0 q1 q2
    obtain ⟨m, hm⟩ : ∃ m, m = l.length := ⟨_, rfl⟩
    simp only [List.length_cons, ← hm] at hc1 ⊢
    have d1 : decide (now < y1) = true := decide_eq_true hy
    clear hL hs hcl hy q1 q2 hm
    go_wp2_with (first
      | (refine wpList_load_known (by rfl) 29 (.tmp 2) rfl P rfl 29 #[.int .i64 N, .slice a n c, .int .u64 o] (0, 0) _ K2.out Try.underlying29 rfl (by kernel_rfl) ?_)
      | (refine wpList_store_row rfl 29 (.tmp 4) (.tmp 24) rfl (P + 1) #[.int .i64 N, .slice a n c, .int .u64 o] rfl rfl 29 _ R2.out (by kernel_rfl) (by rfl) (by simp [Value.oneCell']) ?_)
      | (refine wpList_store_row rfl 51 (.tmp 5) (.tmp 25) rfl (P + 2) #[.int .i64 0, .int .u64 0, .int .i64 0] rfl rfl 51 _ E2.out (by kernel_rfl) (by rfl) (by simp [Value.oneCell']) ?_))
    exact bodyPost_ret (v := .tuple #[.agg #[.int .i64 N, .slice a n c, .int .u64 o], .agg #[.int .i64 0, .int .u64 0, .int .i64 0], .bool false]) (results_row2 (p := 4) (q := 5) (u := 6) rfl _ _ (P + 1) 29 #[.int .i64 N, .slice a n c, .int .u64 o] (0, 0) _ (by rfl) R3.out Try.underlying29 rfl (by kernel_rfl) (P + 2) 51 #[.int .i64 0, .int .u64 0, .int .i64 0] (0, 0) _ (by rfl) E3.out Try.underlying51 rfl (by kernel_rfl) _ (by rfl)) rfl FIN.out
end Go.Proofs.Ytaogpodncphpjaa
