/- The walk of the statement PollOnce: the law answers true and turns nothing that was there. -/
import Derived.Test.YtkfbicmoefaoiaaLives11
import Derived.Test.YtkfbicmoefaoiaaStructs
namespace Go.Proofs.Ytkfbicmoefaoiaa.pollOnce
open Go.RowKit
set_option linter.unusedVariables false
set_option linter.unusedSimpArgs false

/-- The poll (W', R'), and the law's own two maps (W, R). -/
structure Pm (w : World) (Z : Nat → Prop) (p m1 m2 m3 wb rb : Nat) (k : Nat) (W' : List (Int × Int)) (R' : List Int) (W : List (Int × Int)) (R : List Int) (wr : World) : Prop where
  pq : Pq Z wr p m1 m2 m3 W' R'
  wt : ∃ g, MapI wr wb .u16 g W.length ∧ ∀ a v, g a = some v ↔ ∃ y, (a, y) ∈ W ∧ v = .int .i64 (y + 1)
  rt : ∃ g, MapI wr rb .u16 g R.length ∧ ∀ a, g a = if a ∈ R then some (.int .i64 1) else none
  gs : ∀ x y, (x, y) ∈ W → (0 ≤ y ∧ y < 4096) ∧ 0 ≤ x ∧ x ≤ 65535
  nd : (W.map Prod.fst).Nodup ∧ R.Nodup
  ln : W.length ≤ k ∧ R.length ≤ k ∧ W'.length ≤ k ∧ R'.length ≤ k
  bl : Below w.heap.size w wr
  hz : ∀ q, Z q → q < wr.heap.size
  zb : (∀ q, q < w.heap.size → Z q) ∧ Z wb ∧ Z rb
  ge : w.heap.size ≤ wb ∧ w.heap.size ≤ rb ∧ wb ≠ rb
section
variable {w : World} {Z : Nat → Prop} {p m1 m2 m3 wb rb k : Nat} {W' W : List (Int × Int)} {R' R : List Int} {wr w5 : World}
theorem Pm.lts (h : Pm w Z p m1 m2 m3 wb rb k W' R' W R wr) : wb < wr.heap.size ∧ rb < wr.heap.size := by
  obtain ⟨_, q1, _⟩ := h.wt
  obtain ⟨_, q2, _⟩ := h.rt
  exact ⟨q1.lt, q2.lt⟩
/-- All below a bound that has all of it is as it was. -/
theorem Pm.low {B : Nat} (h : Pm w Z p m1 m2 m3 wb rb k W' R' W R wr) (hB : p < B ∧ m1 < B ∧ m2 < B ∧ m3 < B ∧ wb < B ∧ rb < B ∧ w.heap.size ≤ B) (hb : Below B wr w5) : Pm w Z p m1 m2 m3 wb rb k W' R' W R w5 := by
  obtain ⟨h1, h2, h3, h4, h5, h6, h7⟩ := hB
  obtain ⟨g1, q1, s1⟩ := h.wt
  obtain ⟨g2, q2, s2⟩ := h.rt
  exact ⟨h.pq.kept (hb.block _ h1) (hb.block _ h2) (hb.block _ h3) (hb.block _ h4), ⟨g1, q1.kept (hb.block _ h5), s1⟩, ⟨g2, q2.kept (hb.block _ h6), s2⟩, h.gs, h.nd, h.ln, h.bl.trans (hb.mono h7), fun q hq => Nat.lt_of_lt_of_le (h.hz q hq) hb.size, h.zb, h.ge⟩
theorem Pm.far (h : Pm w Z p m1 m2 m3 wb rb k W' R' W R wr) : p < wr.heap.size ∧ m1 < wr.heap.size ∧ m2 < wr.heap.size ∧ m3 < wr.heap.size ∧ wb < wr.heap.size ∧ rb < wr.heap.size ∧ w.heap.size ≤ wr.heap.size := by
  obtain ⟨a, b, c, d⟩ := h.pq.lt
  exact ⟨a, b, c, d, h.lts.1, h.lts.2, h.bl.size⟩
theorem Pm.below (h : Pm w Z p m1 m2 m3 wb rb k W' R' W R wr) (hb : Below wr.heap.size wr w5) : Pm w Z p m1 m2 m3 wb rb k W' R' W R w5 := h.low h.far hb
theorem Pm.more (h : Pm w Z p m1 m2 m3 wb rb k W' R' W R wr) : Pm w Z p m1 m2 m3 wb rb (k + 1) W' R' W R wr :=
  ⟨h.pq, h.wt, h.rt, h.gs, h.nd, by have := h.ln; omega, h.bl, h.hz, h.zb, h.ge⟩
theorem Pq.weak {Z' : Nat → Prop} (h : Pq Z' wr p m1 m2 m3 W R) (hz : ∀ q, Z q → Z' q) : Pq Z wr p m1 m2 m3 W R := by
  obtain ⟨z1, z2, z3, z4⟩ := h.zf
  exact ⟨h.box, h.m1, h.m2, h.m3, h.n1, h.n2, h.n3, h.ne, fun h => z1 (hz _ h), fun h => z2 (hz _ h), fun h => z3 (hz _ h), fun h => z4 (hz _ h)⟩
theorem plen_le (W : List (Int × Int)) (R : List Int) : plen W R ≤ W.length + R.length := by
  unfold plen
  have := List.length_filter_le (fun a => !waitsF W a) R
  omega
theorem not_full (h : W.length + R.length < 1024) (b : Bool) : (b && decide (1024 ≤ plen W R)) = false := by
  have := plen_le W R
  rw [decide_eq_false (by omega), Bool.and_false]
/-- With the act's block besides. -/
theorem Pm.act (h : Pm w Z p m1 m2 m3 wb rb k W R W R wr) (o : Obj) :
    ∃ Z1 : Nat → Prop, Pq Z1 (wr.alloc o) p m1 m2 m3 W R ∧ (∀ q, Z q → Z1 q) ∧ Z1 wr.heap.size ∧ Pm w Z p m1 m2 m3 wb rb k W R W R (wr.alloc o) :=
  ⟨fun q => Z q ∨ q = wr.heap.size, (h.pq.reZ (Nat.le_refl _)).below (bl_al wr o), fun q hq => .inl hq, .inr rfl, h.below (bl_al wr o)⟩
theorem Pm.frz {Z1 : Nat → Prop} {w1 : World} {V : List (Int × Int)} {S : List Int} {e : Nat} {o : Obj} (h : Pm w Z p m1 m2 m3 wb rb k W R W R w1) (hz : ∀ q, Z q → Z1 q) (he : Z1 e) (hf : FrZ Z1 w1 w5) (hq : Pq Z1 w5 p m1 m2 m3 V S) (hb : w1.heap[e]? = some o) (hl : V.length ≤ k + 1 ∧ S.length ≤ k + 1) :
    w5.heap[e]? = some o ∧ Pm w Z p m1 m2 m3 wb rb (k + 1) V S W R w5 := by
  obtain ⟨l1, l2⟩ := h.lts
  obtain ⟨g1, q1, s1⟩ := h.wt
  obtain ⟨g2, q2, s2⟩ := h.rt
  exact ⟨(hf.block _ (Array.getElem?_eq_some_iff.1 hb).1 he).trans hb, Pq.weak hq hz, ⟨g1, q1.kept (hf.block _ l1 (hz _ h.zb.2.1)), s1⟩, ⟨g2, q2.kept (hf.block _ l2 (hz _ h.zb.2.2)), s2⟩, h.gs, h.nd, by have := h.ln; omega, h.bl.trans (hf.below (fun q hq => hz _ (h.zb.1 q hq)) h.bl.size), fun q hq => Nat.lt_of_lt_of_le (h.hz q hq) hf.size, h.zb, h.ge⟩
theorem Pm.frz0 {Z1 : Nat → Prop} {w1 : World} {V : List (Int × Int)} {S : List Int} (h : Pm w Z p m1 m2 m3 wb rb k W R W R w1) (hz : ∀ q, Z q → Z1 q) (hf : FrZ Z1 w1 w5) (hq : Pq Z1 w5 p m1 m2 m3 V S) (hl : V.length ≤ k) (hl2 : S.length ≤ k) :
    Pm w Z p m1 m2 m3 wb rb k V S W R w5 := by
  obtain ⟨l1, l2⟩ := h.lts
  obtain ⟨g1, q1, s1⟩ := h.wt
  obtain ⟨g2, q2, s2⟩ := h.rt
  exact ⟨Pq.weak hq hz, ⟨g1, q1.kept (hf.block _ l1 (hz _ h.zb.2.1)), s1⟩, ⟨g2, q2.kept (hf.block _ l2 (hz _ h.zb.2.2)), s2⟩, h.gs, h.nd, by have := h.ln; omega, h.bl.trans (hf.below (fun q hq => hz _ (h.zb.1 q hq)) h.bl.size), fun q hq => Nat.lt_of_lt_of_le (h.hz q hq) hf.size, h.zb, h.ge⟩
theorem Pm.only1 (h : Pm w Z p m1 m2 m3 wb rb k W' R' W R wr) (o : Only wb wb wr w5) {V : List (Int × Int)} (m : ∃ g, MapI w5 wb .u16 g V.length ∧ ∀ a v, g a = some v ↔ ∃ y, (a, y) ∈ V ∧ v = .int .i64 (y + 1)) (hg : ∀ x y, (x, y) ∈ V → (0 ≤ y ∧ y < 4096) ∧ 0 ≤ x ∧ x ≤ 65535) (hn : (V.map Prod.fst).Nodup) (hl : V.length ≤ k) : Pm w Z p m1 m2 m3 wb rb k W' R' V R w5 := by
  obtain ⟨l1, l2⟩ := h.lts
  obtain ⟨g2, q2, s2⟩ := h.rt
  exact ⟨h.pq.only o h.zb.2.1, m, ⟨g2, q2.kept (o.block _ l2 h.ge.2.2.symm h.ge.2.2.symm), s2⟩, hg, ⟨hn, h.nd.2⟩, by have := h.ln; omega, h.bl.trans (o.below h.ge.1 h.ge.1 h.bl.size), fun q hq => Nat.lt_of_lt_of_le (h.hz q hq) o.size, h.zb, h.ge⟩
theorem Pm.only2 (h : Pm w Z p m1 m2 m3 wb rb k W' R' W R wr) (o : Only rb rb wr w5) {S : List Int} (m : ∃ g, MapI w5 rb .u16 g S.length ∧ ∀ a, g a = if a ∈ S then some (.int .i64 1) else none) (hn : S.Nodup) (hl : S.length ≤ k) : Pm w Z p m1 m2 m3 wb rb k W' R' W S w5 := by
  obtain ⟨l1, l2⟩ := h.lts
  obtain ⟨g1, q1, s1⟩ := h.wt
  exact ⟨h.pq.only o h.zb.2.2, ⟨g1, q1.kept (o.block _ l1 h.ge.2.2 h.ge.2.2), s1⟩, m, h.gs, ⟨h.nd.1, hn⟩, by have := h.ln; omega, h.bl.trans (o.below h.ge.2.1 h.ge.2.1 h.bl.size), fun q hq => Nat.lt_of_lt_of_le (h.hz q hq) o.size, h.zb, h.ge⟩
/-- 'waits[a.FD] = a.G + 1' behind a Wait. -/
theorem Pm.put1 {fd a : Int} (h : Pm w Z p m1 m2 m3 wb rb k ((fd, a) :: W) R W R wr) (hw : waitsF W fd = false) (h0 : (0 ≤ a ∧ a < 4096) ∧ 0 ≤ fd ∧ fd ≤ 65535) :
    ∃ w6, (Instr.mapUpdate 56 (.map (some wb)) (.int .u16 fd) (.int .i64 (a + 1))).run Try.prog wr = .ok () w6 ∧ Pm w Z p m1 m2 m3 wb rb k ((fd, a) :: W) R ((fd, a) :: W) R w6 := by
  obtain ⟨g, q, s⟩ := h.wt
  have hg : g fd = none := by
    rcases hg : g fd with _ | v
    · rfl
    · obtain ⟨y, hy, _⟩ := (s fd v).1 hg
      exact absurd (List.mem_map.2 ⟨_, hy, rfl⟩) (of_decide_eq_false hw)
  obtain ⟨w6, r6, q6, o6⟩ := q.store und1 undF fd (.int .i64 (a + 1))
  rw [if_pos hg] at q6
  refine ⟨w6, r6, h.only1 o6 ⟨_, q6, fun c v => ?_⟩ (fun x y he => ?_) (List.nodup_cons.2 ⟨of_decide_eq_false hw, h.nd.1⟩) (by have := h.ln; simp at this ⊢; omega)⟩
  · simp only [updG]
    by_cases hc : c = fd
    · subst hc
      simp only [if_true, Option.some.injEq]
      constructor
      · intro e; exact ⟨a, List.mem_cons_self, e.symm⟩
      · rintro ⟨y, hy, rfl⟩
        rcases List.mem_cons.1 hy with e | hy
        · injection e with _ e; rw [e]
        · exact absurd (List.mem_map.2 ⟨_, hy, rfl⟩) (of_decide_eq_false hw)
    · rw [if_neg hc, s]
      constructor
      · rintro ⟨y, hy, rfl⟩; exact ⟨y, List.mem_cons_of_mem _ hy, rfl⟩
      · rintro ⟨y, hy, rfl⟩
        rcases List.mem_cons.1 hy with e | hy
        · injection e with e _; exact absurd e hc
        · exact ⟨y, hy, rfl⟩
  · rcases List.mem_cons.1 he with e | he
    · injection e with e1 e2; rw [e1, e2]; exact h0
    · exact h.gs x y he
theorem addR_nodup {fd : Int} (h : R.Nodup) : (addR R fd).Nodup := by
  unfold addR
  split
  · exact h
  · rename_i hn; exact List.nodup_cons.2 ⟨hn, h⟩
theorem addR_len (R : List Int) (fd : Int) : (addR R fd).length ≤ R.length + 1 := by unfold addR; split <;> simp
/-- 'ready[a.FD] = 1' behind a Ready. -/
theorem Pm.put2 {fd : Int} (h : Pm w Z p m1 m2 m3 wb rb k W (addR R fd) W R wr) :
    ∃ w6, (Instr.mapUpdate 56 (.map (some rb)) (.int .u16 fd) (.int .i64 1)).run Try.prog wr = .ok () w6 ∧ Pm w Z p m1 m2 m3 wb rb k W (addR R fd) W (addR R fd) w6 := by
  obtain ⟨g, q, s⟩ := h.rt
  obtain ⟨w6, r6, q6, o6⟩ := q.store und1 undF fd (.int .i64 1)
  have hl : (addR R fd).length ≤ k := h.ln.2.2.2
  refine ⟨w6, r6, h.only2 o6 ?_ (addR_nodup h.nd.2) hl⟩
  by_cases hin : fd ∈ R
  · rw [if_neg (by rw [s, if_pos hin]; simp)] at q6
    refine ⟨_, by rw [addR, if_pos hin]; exact q6, fun a => ?_⟩
    rw [addR, if_pos hin]
    simp only [updG]
    by_cases ha : a = fd
    · subst ha; simp [hin]
    · rw [if_neg ha, s]
  · rw [if_pos (by rw [s, if_neg hin])] at q6
    refine ⟨_, by rw [addR, if_neg hin]; exact q6, fun a => ?_⟩
    rw [addR, if_neg hin]
    simp only [updG]
    by_cases ha : a = fd
    · subst ha; simp
    · rw [if_neg ha, s]; simp [ha]
theorem Pm.lkW (h : Pm w Z p m1 m2 m3 wb rb k W' R' W R wr) {a y : Int} (hy : (a, y) ∈ W) : (Instr.lookup 56 (.map (some wb)) (.int .u16 a) false).run Try.prog wr = .ok (.int .i64 (y + 1)) wr := by
  obtain ⟨g, q, s⟩ := h.wt
  exact q.look_hit und1 undF ((s a _).2 ⟨y, hy, rfl⟩) false
theorem Pm.lkR (h : Pm w Z p m1 m2 m3 wb rb k W' R' W R wr) {a : Int} (ha : a ∈ R) : (Instr.lookup 56 (.map (some rb)) (.int .u16 a) false).run Try.prog wr = .ok (.int .i64 1) wr := by
  obtain ⟨g, q, s⟩ := h.rt
  exact q.look_hit und1 undF (by rw [s, if_pos ha]) false
theorem Pm.lkN (h : Pm w Z p m1 m2 m3 wb rb k W' R' W R wr) {a : Int} (ha : a ∉ R) : (Instr.lookup 56 (.map (some rb)) (.int .u16 a) false).run Try.prog wr = .ok (.int .i64 0) wr := by
  obtain ⟨g, q, s⟩ := h.rt
  exact q.look_miss und1 undF zero1 (by rw [s, if_neg ha]) false
/-- The two deletions behind a Take. -/
theorem Pm.del {m y : Int} (h : Pm w Z p m1 m2 m3 wb rb k (W.filter fun e => !(e.1 == m)) (R.filter fun a => !(a == m)) W R wr) (hm : (m, y) ∈ W) (hr : m ∈ R) :
    ∃ w6 w7, (Builtin.delete_ #[56, 27] 0 #[.map (some wb), .int .u16 m]).run Try.prog wr = .ok (.tuple #[]) w6 ∧ (Builtin.delete_ #[56, 27] 0 #[.map (some rb), .int .u16 m]).run Try.prog w6 = .ok (.tuple #[]) w7 ∧
      Pm w Z p m1 m2 m3 wb rb k (W.filter fun e => !(e.1 == m)) (R.filter fun a => !(a == m)) (W.filter fun e => !(e.1 == m)) (R.filter fun a => !(a == m)) w7 := by
  obtain ⟨g, q, s⟩ := h.wt
  obtain ⟨w6, r6, q6, o6⟩ := q.del und1 undF 0 m
  have k1 : g m = some (.int .i64 (y + 1)) := (s m _).2 ⟨y, hm, rfl⟩
  rw [if_neg (by rw [k1]; simp), ← len_drop h.nd.1 hm] at q6
  have h6 := h.only1 o6 ⟨_, q6, fun c v => by
    simp only [updG, List.mem_filter]
    by_cases hc : c = m
    · subst hc; simp
    · rw [if_neg hc, s]; simp [hc]⟩ (fun x y he => h.gs x y (List.mem_filter.1 he).1) (h.nd.1.sublist (List.filter_sublist.map _)) (Nat.le_trans (List.length_filter_le _ _) h.ln.1)
  obtain ⟨g2, q2, s2⟩ := h6.rt
  obtain ⟨w7, r7, q7, o7⟩ := q2.del und1 undF 0 m
  rw [if_neg (by rw [s2, if_pos hr]; simp), ← len_drop2 h.nd.2 hr] at q7
  exact ⟨w6, w7, r6, r7, h6.only2 o7 ⟨_, q7, fun c => by
    simp only [updG, List.mem_filter]
    by_cases hc : c = m
    · subst hc; simp
    · rw [if_neg hc, s2]; simp [hc]⟩ (h.nd.2.sublist List.filter_sublist) (Nat.le_trans (List.length_filter_le _ _) h.ln.2.1)⟩
end
set_option maxRecDepth 100000 in
set_option maxHeartbeats 16000000 in
theorem walk (a0 : Option Addr) (len0 cap0 : Nat) (z0 : Nat → Nat → Int) (w : World) (w0 : IsStructs [.u8, .u16, .i64] w a0 len0 cap0 z0) :
    Calls Try.prog 6 #[.slice a0 len0 cap0] w fun e w' => e = .returned (.bool true) ∧ Below w.heap.size w w' := by
  by_cases hlen : (60 : Int) < len0
  · go_enter Try.func6, Try.ntmps6
    go_wp2_with fail
    refine (lives11 _).mono ?_
    rintro e w2 ⟨rfl, hb1⟩
    go_wp2_with fail
    refine (lives11 _).mono ?_
    rintro e w3 ⟨rfl, hb2⟩
    go_wp2
    go_ret
    exact ⟨rfl, hb1.trans (hb2.mono hb1.size)⟩
  · have hlen' : len0 ≤ 60 := by omega
    have W0 := hid w0
    clear w0 hlen
    have mk : ∀ T (w : World), (Instr.makeMap T none).run Try.prog w = .ok (.map (some w.heap.size)) (w.alloc (.map #[] 0)) := fun T w => rfl
    go_enter Try.func6, Try.ntmps6
    go_wp2_with fail
    refine (lives11 _).mono ?_
    rintro e w2 ⟨rfl, hb1⟩
    have HB1 := hid hb1
    clear hb1
    go_wp2_with fail
    refine (pnewZ _).mono ?_
    rintro e w3 ⟨Y, p, m1, m2, m3, rfl, q3, bl3, hz, hz2⟩
    obtain ⟨wb, hwb⟩ : ∃ x, x = w3.heap.size := ⟨_, rfl⟩
    obtain ⟨rb, hrb⟩ : ∃ x, x = w3.heap.size + 1 := ⟨_, rfl⟩
    obtain ⟨Z, hZ⟩ : ∃ Z : Nat → Prop, Z = fun q => (Y q ∨ q = w3.heap.size) ∨ q = w3.heap.size + 1 := ⟨_, rfl⟩
    have S0 : Hid (Pm w Z p m1 m2 m3 wb rb 0 [] [] [] [] ((w3.alloc (.map #[] 0)).alloc (.map #[] 0))) := by
      have r1 := (q3.reZ (Nat.le_refl w3.heap.size)).below (bl_al w3 (.map #[] 0))
      have r2 := (r1.reZ (b := w3.heap.size + 1) (by simp)).below (bl_al _ (.map #[] 0))
      rw [← hZ] at r2
      have c1 := (MapI.new w3 .u16).kept (Below.heap_alloc (w3.alloc (.map #[] 0)) (.map #[] 0) w3.heap.size (by simp))
      have c2 := MapI.new (w3.alloc (.map #[] 0)) .u16
      simp only [World.size_alloc] at c2
      have s3 := bl3.size
      have sw := HB1.out.size
      refine hid ⟨r2, ⟨_, by rw [hwb]; exact c1, by simp⟩, ⟨_, by rw [hrb]; exact c2, by simp⟩, fun x y h => (by cases h), by simp, by simp, ((HB1.out.trans (bl3.mono sw)).trans ((bl_al w3 _).mono (by omega))).trans ((bl_al _ _).mono (by simp; omega)), fun q hq => ?_, ⟨fun q hq => ?_, by rw [hZ]; exact .inl (.inr hwb), by rw [hZ]; exact .inr hrb⟩, by omega⟩
      · rw [hZ] at hq
        simp only [World.size_alloc]
        rcases hq with (hq | hq) | hq
        · have := hz2 q hq; omega
        · omega
        · omega
      · rw [hZ]; exact .inl (.inl (hz q (by omega)))
    clear q3 bl3 hz hz2 hZ HB1
    go_wp2_with fail
    rw [← hrb, ← hwb]
    clear mk hrb hwb
    go_loopw [26] (fun i wr => ∃ (k : Nat) (W : List (Int × Int)) (R : List Int), k ≤ len0 ∧ i = .int .i64 k ∧ Hid (Pm w Z p m1 m2 m3 wb rb k W R W R wr) ∧ Below w.heap.size w wr) (fun i _ => len0 - (intOf i).toNat)
    case atStart => exact ⟨0, [], [], by omega, rfl, S0, S0.out.bl⟩
    case round =>
      clear S0
      obtain ⟨k, W, R, hk, rfl, F, hbr⟩ := hrel
      by_cases hlt : k < len0
      · obtain ⟨bx, off, rfl, hcell⟩ := W0.out.open (by omega) (by simp)
        obtain ⟨hq0, hw0⟩ := hcell _ hbr k hlt 0 .u8 rfl
        obtain ⟨hq1, hw1⟩ := hcell _ hbr k hlt 1 .u16 rfl
        obtain ⟨hq2, hw2⟩ := hcell _ hbr k hlt 2 .i64 rfl
        obtain ⟨K, hK⟩ : ∃ x, x = z0 k 0 := ⟨_, rfl⟩
        obtain ⟨fd, hG⟩ : ∃ x, x = z0 k 1 := ⟨_, rfl⟩
        obtain ⟨G, hM⟩ : ∃ x, x = z0 k 2 := ⟨_, rfl⟩
        rw [← hK] at hq0 hw0
        rw [← hG] at hq1 hw1
        rw [← hM] at hq2
        obtain ⟨K0, K1⟩ := bounds_u8 hw0
        obtain ⟨f0, f1⟩ := bounds_u16 hw1
        simp only [List.length_cons, List.length_nil, Nat.reduceAdd, Nat.add_zero] at hq0 hq1 hq2
        rw [← Nat.add_assoc] at hq1 hq2
        clear hcell hw0 hw1 hw2 hK hG hM hbr
        have hln := F.out.ln
        obtain ⟨Z1, qa, za, ze, fa⟩ := F.out.act (.cells #[.int .u8 K, .int .u16 fd, .int .i64 G] 40)
        have QA := hid qa
        have ZA := hid (And.intro za ze)
        have FA := hid fa
        have EB := hid (Go.MapKept.heap_alloc wr (.cells #[.int .u8 K, .int .u16 fd, .int .i64 G] 40)).1
        clear qa za ze fa F
        rcases (show (K % 6 = 0 ∨ K % 6 = 1) ∨ (K % 6 = 2 ∨ K % 6 = 3) ∨ K % 6 = 4 ∨ K % 6 = 5 by omega) with hq | hq | hq | hq
        · rcases hq with hq | hq
          · have e1 : (wr.alloc (.cells #[.int .u8 K, .int .u16 fd, .int .i64 G] 40)).cell? ⟨wr.heap.size, 1, none⟩ = some (.int .u16 fd) := cellx EB.out rfl
            have e2 : (wr.alloc (.cells #[.int .u8 K, .int .u16 fd, .int .i64 G] 40)).cell? ⟨wr.heap.size, 2, none⟩ = some (.int .i64 G) := cellx EB.out rfl
            by_cases hG : G < 0 ∨ 4096 ≤ G
            · have A := hid (pwait_arg (p := p) fd G hG (wr.alloc (.cells #[.int .u8 K, .int .u16 fd, .int .i64 G] 40)))
              have F2 := hid FA.out.more
              have B2 := F2.out.bl
              clear hG
              go_wp2_with fail
              refine (A.out).mono ?_
              rintro e w' ⟨rfl, rfl⟩
              clear A QA ZA FA EB
              go_wp2
              go_roundw
              case rel => exact ⟨k + 1, W, R, by omega, by go_num, F2, B2⟩
              case measure => simp [intOf]; omega
            · by_cases hs : waitsF W fd = true ∨ waitsG W G = true
              · have A := hid (pwait_same QA.out fd G (by omega) (by omega) hs)
                have F2 := hid FA.out.more
                have B2 := F2.out.bl
                clear hs
                go_wp2_with fail
                refine (A.out).mono ?_
                rintro e w' ⟨rfl, rfl⟩
                clear A QA ZA FA EB
                go_wp2
                go_roundw
                case rel => exact ⟨k + 1, W, R, by omega, by go_num, F2, B2⟩
                case measure => simp [intOf]; omega
              · have hwf : waitsF W fd = false := Bool.eq_false_iff.2 fun h => hs (.inl h)
                have hwg : waitsG W G = false := Bool.eq_false_iff.2 fun h => hs (.inr h)
                have A := hid (pwait QA.out (by omega) fd G (by omega) (by omega) hwf hwg (by rw [not_full (by omega)]))
                have HWF := hid hwf
                have g0 : 0 ≤ G := by omega
                have g1 : G < 4096 := by omega
                clear hs hwf hwg hG
                go_wp2_with fail
                refine (A.out).mono ?_
                rintro e w5 ⟨rfl, f5, q5⟩
                obtain ⟨b5, p5⟩ := FA.out.frz ZA.out.1 ZA.out.2 f5 q5 EB.out (by simp; omega)
                obtain ⟨w6, r6, p6⟩ := p5.put1 HWF.out ⟨⟨g0, g1⟩, f0, f1⟩
                have F2 := hid p6
                have B2 := p6.bl
                have e1 : w5.cell? ⟨wr.heap.size, 1, none⟩ = some (.int .u16 fd) := cellx b5 rfl
                have e2 : w5.cell? ⟨wr.heap.size, 2, none⟩ = some (.int .i64 G) := cellx b5 rfl
                clear f5 q5 b5 p5 p6 A QA ZA FA EB
                go_wp2
                go_roundw
                case rel => exact ⟨k + 1, _, R, by omega, by go_num, F2, B2⟩
                case measure => simp [intOf]; omega
          · have e1 : (wr.alloc (.cells #[.int .u8 K, .int .u16 fd, .int .i64 G] 40)).cell? ⟨wr.heap.size, 1, none⟩ = some (.int .u16 fd) := cellx EB.out rfl
            have e2 : (wr.alloc (.cells #[.int .u8 K, .int .u16 fd, .int .i64 G] 40)).cell? ⟨wr.heap.size, 2, none⟩ = some (.int .i64 G) := cellx EB.out rfl
            by_cases hG : G < 0 ∨ 4096 ≤ G
            · have A := hid (pwait_arg (p := p) fd G hG (wr.alloc (.cells #[.int .u8 K, .int .u16 fd, .int .i64 G] 40)))
              have F2 := hid FA.out.more
              have B2 := F2.out.bl
              clear hG
              go_wp2_with fail
              refine (A.out).mono ?_
              rintro e w' ⟨rfl, rfl⟩
              clear A QA ZA FA EB
              go_wp2
              go_roundw
              case rel => exact ⟨k + 1, W, R, by omega, by go_num, F2, B2⟩
              case measure => simp [intOf]; omega
            · by_cases hs : waitsF W fd = true ∨ waitsG W G = true
              · have A := hid (pwait_same QA.out fd G (by omega) (by omega) hs)
                have F2 := hid FA.out.more
                have B2 := F2.out.bl
                clear hs
                go_wp2_with fail
                refine (A.out).mono ?_
                rintro e w' ⟨rfl, rfl⟩
                clear A QA ZA FA EB
                go_wp2
                go_roundw
                case rel => exact ⟨k + 1, W, R, by omega, by go_num, F2, B2⟩
                case measure => simp [intOf]; omega
              · have hwf : waitsF W fd = false := Bool.eq_false_iff.2 fun h => hs (.inl h)
                have hwg : waitsG W G = false := Bool.eq_false_iff.2 fun h => hs (.inr h)
                have A := hid (pwait QA.out (by omega) fd G (by omega) (by omega) hwf hwg (by rw [not_full (by omega)]))
                have HWF := hid hwf
                have g0 : 0 ≤ G := by omega
                have g1 : G < 4096 := by omega
                clear hs hwf hwg hG
                go_wp2_with fail
                refine (A.out).mono ?_
                rintro e w5 ⟨rfl, f5, q5⟩
                obtain ⟨b5, p5⟩ := FA.out.frz ZA.out.1 ZA.out.2 f5 q5 EB.out (by simp; omega)
                obtain ⟨w6, r6, p6⟩ := p5.put1 HWF.out ⟨⟨g0, g1⟩, f0, f1⟩
                have F2 := hid p6
                have B2 := p6.bl
                have e1 : w5.cell? ⟨wr.heap.size, 1, none⟩ = some (.int .u16 fd) := cellx b5 rfl
                have e2 : w5.cell? ⟨wr.heap.size, 2, none⟩ = some (.int .i64 G) := cellx b5 rfl
                clear f5 q5 b5 p5 p6 A QA ZA FA EB
                go_wp2
                go_roundw
                case rel => exact ⟨k + 1, _, R, by omega, by go_num, F2, B2⟩
                case measure => simp [intOf]; omega
        · rcases hq with hq | hq
          · have e1 : (wr.alloc (.cells #[.int .u8 K, .int .u16 fd, .int .i64 G] 40)).cell? ⟨wr.heap.size, 1, none⟩ = some (.int .u16 fd) := cellx EB.out rfl
            have A := hid (pready QA.out (by omega) fd (by rw [not_full (by omega)]))
            go_wp2_with fail
            refine (A.out).mono ?_
            rintro e w5 ⟨rfl, f5, q5⟩
            obtain ⟨b5, p5⟩ := FA.out.frz ZA.out.1 ZA.out.2 f5 q5 EB.out (by have := addR_len R fd; omega)
            obtain ⟨w6, r6, p6⟩ := p5.put2
            have F2 := hid p6
            have B2 := p6.bl
            have e1 : w5.cell? ⟨wr.heap.size, 1, none⟩ = some (.int .u16 fd) := cellx b5 rfl
            clear f5 q5 b5 p5 p6 A QA ZA FA EB
            go_wp2
            go_roundw
            case rel => exact ⟨k + 1, W, _, by omega, by go_num, F2, B2⟩
            case measure => simp [intOf]; omega
          · have e1 : (wr.alloc (.cells #[.int .u8 K, .int .u16 fd, .int .i64 G] 40)).cell? ⟨wr.heap.size, 1, none⟩ = some (.int .u16 fd) := cellx EB.out rfl
            have A := hid (pready QA.out (by omega) fd (by rw [not_full (by omega)]))
            go_wp2_with fail
            refine (A.out).mono ?_
            rintro e w5 ⟨rfl, f5, q5⟩
            obtain ⟨b5, p5⟩ := FA.out.frz ZA.out.1 ZA.out.2 f5 q5 EB.out (by have := addR_len R fd; omega)
            obtain ⟨w6, r6, p6⟩ := p5.put2
            have F2 := hid p6
            have B2 := p6.bl
            have e1 : w5.cell? ⟨wr.heap.size, 1, none⟩ = some (.int .u16 fd) := cellx b5 rfl
            clear f5 q5 b5 p5 p6 A QA ZA FA EB
            go_wp2
            go_roundw
            case rel => exact ⟨k + 1, W, _, by omega, by go_num, F2, B2⟩
            case measure => simp [intOf]; omega
        · rcases hnd : anyDue W R with _ | _
          · have A := hid (ptake_none QA.out hnd)
            have HND := hid hnd
            clear hnd
            go_wp2_with fail
            refine (A.out).mono ?_
            rintro e w5 ⟨rfl, b5⟩
            have P5 := hid (FA.out.below b5)
            clear b5 A QA ZA FA EB
            obtain ⟨gw, qw, sw⟩ := P5.out.wt
            obtain ⟨oo, hrg, RG⟩ := RgI.start (P := Try.prog) (t := 56) qw und1
            have SW := hid sw
            have FAR := hid P5.out.far
            have S5 := hid (show RgI (w5.alloc oo) wb w5.heap.size .u16 gw W.length (fun a => (gw a).isSome) W.length ∧ Pm w Z p m1 m2 m3 wb rb k (W) (R) W R (w5.alloc oo) from ⟨RG, P5.out.below (bl_al w5 oo)⟩)
            clear qw sw RG
            go_wp2_with fail
            obtain ⟨r, hr⟩ : ∃ r, r = w5.heap.size := ⟨_, rfl⟩
            rw [← hr] at S5 FAR
            rw [← hr]
            clear hr hrg
            go_loopw [11] (fun v w9 => ∃ (left : Int → Bool) (cnt : Nat), ((v = .int .i64 (-1) ∧ Hid (∀ a, waitsF W a = true → left a = false → a ∉ R)) ∨ ∃ m : Int, v = .int .i64 m ∧ 0 ≤ m ∧ Hid (dueP W R m = true ∧ ∀ a, waitsF W a = true → left a = false → a ∈ R → m ≤ a)) ∧
                Hid (RgI w9 wb r .u16 gw W.length left cnt ∧ Pm w Z p m1 m2 m3 wb rb k (W) (R) W R w9)) (fun _ w9 => leftI w9 wb r)
            case atStart =>
              refine ⟨_, _, .inl ⟨rfl, hid (fun a hw hl => ?_)⟩, S5⟩
              obtain ⟨y, hy⟩ := waitsF_mem hw
              rw [(SW.out a _).2 ⟨y, hy, rfl⟩] at hl; cases hl
            case round =>
              clear S5 P5
              obtain ⟨left, cnt, hst, H⟩ := hrel
              rcases H.out.1.next (P := Try.prog) with ⟨h0, hl, hnx⟩ | ⟨a, v, w', cnt', e1, e2, hnx, r', hlt3, o9, hen⟩
              · have HL := hid hl
                have P9 := hid H.out.2
                clear H h0 hl
                rcases hst with ⟨rfl, HC⟩ | ⟨m, rfl, hm0, HC⟩
                · have F2 := hid P9.out.more
                  have B2 := F2.out.bl
                  clear P9
                  go_wp2
                  go_roundw
                  case rel => exact ⟨k + 1, W, R, by omega, by go_num, F2, B2⟩
                  case measure => simp [intOf]; omega
                · exfalso
                  have := anyDue_yes HC.out.1
                  rw [HND.out] at this; cases this
              · obtain ⟨y, hy, rfl⟩ := (SW.out a v).1 e2
                have hwa : waitsF W a = true := decide_eq_true (List.mem_map.2 ⟨_, hy, rfl⟩)
                obtain ⟨_, ha0, ha1⟩ := H.out.2.gs a y hy
                have p9 := H.out.2.low FAR.out (o9.below (Nat.le_refl _) (Nat.le_refl _) (by have := H.out.1.lt.2.1; omega))
                have LE := hid (And.intro H.out.1.left_eq r'.left_eq)
                have HLT := hid hlt3
                have HWA := hid hwa
                have H2 := hid (And.intro r' p9)
                by_cases haR : a ∈ R
                · have rl := p9.lkR haR
                  have HAR := hid haR
                  clear H r' p9 e1 e2 hy hwa haR hlt3 o9
                  rcases hst with ⟨rfl, HC⟩ | ⟨m, rfl, hm0, HC⟩
                  · have HC2 := hid (And.intro (show dueP W R a = true by simp [dueP, HWA.out, HAR.out]) (le_first HC.out a))
                    go_wp2
                    go_roundw
                    case rel => exact ⟨_, cnt', .inr ⟨a, rfl, ha0, HC2⟩, H2⟩
                    case measure => have := LE.out.1; have := LE.out.2; have := HLT.out; omega
                  · have d0 : decide (m < 0) = false := decide_eq_false (by omega)
                    by_cases ham : a < m
                    · have HC2 := hid (And.intro (show dueP W R a = true by simp [dueP, HWA.out, HAR.out]) (le_more (n := a) (a := a) HC.out.2 (by omega) (fun _ => Int.le_refl _)))
                      go_wp2
                      go_roundw
                      case rel => exact ⟨_, cnt', .inr ⟨a, rfl, ha0, HC2⟩, H2⟩
                      case measure => have := LE.out.1; have := LE.out.2; have := HLT.out; omega
                    · have HC2 := hid (And.intro HC.out.1 (le_more (n := m) (a := a) HC.out.2 (by omega) (fun _ => by omega)))
                      have d1 : decide (a < m) = false := decide_eq_false ham
                      go_wp2
                      go_roundw
                      case rel => exact ⟨_, cnt', .inr ⟨m, rfl, hm0, HC2⟩, H2⟩
                      case measure => have := LE.out.1; have := LE.out.2; have := HLT.out; omega
                · have rl := p9.lkN haR
                  have HAR := hid haR
                  clear H r' p9 e1 e2 hy hwa haR hlt3 o9
                  rcases hst with ⟨rfl, HC⟩ | ⟨m, rfl, hm0, HC⟩
                  · have HC2 := hid (le_none HC.out HAR.out)
                    go_wp2
                    go_roundw
                    case rel => exact ⟨_, cnt', .inl ⟨rfl, HC2⟩, H2⟩
                    case measure => have := LE.out.1; have := LE.out.2; have := HLT.out; omega
                  · have HC2 := hid (And.intro HC.out.1 (le_more (n := m) (a := a) HC.out.2 (Int.le_refl _) (fun h => absurd h HAR.out)))
                    go_wp2
                    go_roundw
                    case rel => exact ⟨_, cnt', .inr ⟨m, rfl, hm0, HC2⟩, H2⟩
                    case measure => have := LE.out.1; have := LE.out.2; have := HLT.out; omega
          · have A := hid (ptake QA.out hnd)
            clear hnd
            go_wp2_with fail
            refine (A.out).mono ?_
            rintro e w5 ⟨m, y, rfl, hm, hmr, hle, f5, q5⟩
            have HM := hid (And.intro hm (And.intro hmr hle))
            have P5 := hid (FA.out.frz0 ZA.out.1 f5 q5 (Nat.le_trans (List.length_filter_le _ _) hln.1) (Nat.le_trans (List.length_filter_le _ _) hln.2.1))
            clear hm hmr hle f5 q5 A QA ZA FA EB
            obtain ⟨gw, qw, sw⟩ := P5.out.wt
            obtain ⟨oo, hrg, RG⟩ := RgI.start (P := Try.prog) (t := 56) qw und1
            have SW := hid sw
            have FAR := hid P5.out.far
            have S5 := hid (show RgI (w5.alloc oo) wb w5.heap.size .u16 gw W.length (fun a => (gw a).isSome) W.length ∧ Pm w Z p m1 m2 m3 wb rb k (W.filter fun e => !(e.1 == m)) (R.filter fun a => !(a == m)) W R (w5.alloc oo) from ⟨RG, P5.out.below (bl_al w5 oo)⟩)
            clear qw sw RG
            go_wp2_with fail
            obtain ⟨r, hr⟩ : ∃ r, r = w5.heap.size := ⟨_, rfl⟩
            rw [← hr] at S5 FAR
            rw [← hr]
            clear hr hrg
            go_loopw [11] (fun v w9 => ∃ (left : Int → Bool) (cnt : Nat), ((v = .int .i64 (-1) ∧ Hid (∀ a, waitsF W a = true → left a = false → a ∉ R)) ∨ ∃ m : Int, v = .int .i64 m ∧ 0 ≤ m ∧ Hid (dueP W R m = true ∧ ∀ a, waitsF W a = true → left a = false → a ∈ R → m ≤ a)) ∧
                Hid (RgI w9 wb r .u16 gw W.length left cnt ∧ Pm w Z p m1 m2 m3 wb rb k (W.filter fun e => !(e.1 == m)) (R.filter fun a => !(a == m)) W R w9)) (fun _ w9 => leftI w9 wb r)
            case atStart =>
              refine ⟨_, _, .inl ⟨rfl, hid (fun a hw hl => ?_)⟩, S5⟩
              obtain ⟨y, hy⟩ := waitsF_mem hw
              rw [(SW.out a _).2 ⟨y, hy, rfl⟩] at hl; cases hl
            case round =>
              clear S5 P5
              obtain ⟨left, cnt, hst, H⟩ := hrel
              rcases H.out.1.next (P := Try.prog) with ⟨h0, hl, hnx⟩ | ⟨a, v, w', cnt', e1, e2, hnx, r', hlt3, o9, hen⟩
              · have HL := hid hl
                have P9 := hid H.out.2
                clear H h0 hl
                rcases hst with ⟨rfl, HC⟩ | ⟨l, rfl, hm0, HC⟩
                · exfalso
                  exact HC.out m (decide_eq_true (List.mem_map.2 ⟨_, HM.out.1, rfl⟩)) (HL.out m) HM.out.2.1
                · obtain rfl : l = m := by
                    have q1 := HM.out.2.2 l HC.out.1
                    have q2 := HC.out.2 m (decide_eq_true (List.mem_map.2 ⟨_, HM.out.1, rfl⟩)) (HL.out m) HM.out.2.1
                    omega
                  have lk := P9.out.lkW HM.out.1
                  obtain ⟨⟨gy0, gy1⟩, gm0, gm1⟩ := P9.out.gs _ _ HM.out.1
                  obtain ⟨w6, w7, r6, r7, p7⟩ := P9.out.del HM.out.1 HM.out.2.1
                  have d0 : decide (0 ≤ l) = true := decide_eq_true hm0
                  have F2 := hid p7.more
                  have B2 := F2.out.bl
                  clear P9 p7 HC HL HM
                  go_wp2
                  go_roundw
                  case rel => exact ⟨k + 1, _, _, by omega, by go_num, F2, B2⟩
                  case measure => simp [intOf]; omega
              · obtain ⟨y, hy, rfl⟩ := (SW.out a v).1 e2
                have hwa : waitsF W a = true := decide_eq_true (List.mem_map.2 ⟨_, hy, rfl⟩)
                obtain ⟨_, ha0, ha1⟩ := H.out.2.gs a y hy
                have p9 := H.out.2.low FAR.out (o9.below (Nat.le_refl _) (Nat.le_refl _) (by have := H.out.1.lt.2.1; omega))
                have LE := hid (And.intro H.out.1.left_eq r'.left_eq)
                have HLT := hid hlt3
                have HWA := hid hwa
                have H2 := hid (And.intro r' p9)
                by_cases haR : a ∈ R
                · have rl := p9.lkR haR
                  have HAR := hid haR
                  clear H r' p9 e1 e2 hy hwa haR hlt3 o9
                  rcases hst with ⟨rfl, HC⟩ | ⟨m, rfl, hm0, HC⟩
                  · have HC2 := hid (And.intro (show dueP W R a = true by simp [dueP, HWA.out, HAR.out]) (le_first HC.out a))
                    go_wp2
                    go_roundw
                    case rel => exact ⟨_, cnt', .inr ⟨a, rfl, ha0, HC2⟩, H2⟩
                    case measure => have := LE.out.1; have := LE.out.2; have := HLT.out; omega
                  · have d0 : decide (m < 0) = false := decide_eq_false (by omega)
                    by_cases ham : a < m
                    · have HC2 := hid (And.intro (show dueP W R a = true by simp [dueP, HWA.out, HAR.out]) (le_more (n := a) (a := a) HC.out.2 (by omega) (fun _ => Int.le_refl _)))
                      go_wp2
                      go_roundw
                      case rel => exact ⟨_, cnt', .inr ⟨a, rfl, ha0, HC2⟩, H2⟩
                      case measure => have := LE.out.1; have := LE.out.2; have := HLT.out; omega
                    · have HC2 := hid (And.intro HC.out.1 (le_more (n := m) (a := a) HC.out.2 (by omega) (fun _ => by omega)))
                      have d1 : decide (a < m) = false := decide_eq_false ham
                      go_wp2
                      go_roundw
                      case rel => exact ⟨_, cnt', .inr ⟨m, rfl, hm0, HC2⟩, H2⟩
                      case measure => have := LE.out.1; have := LE.out.2; have := HLT.out; omega
                · have rl := p9.lkN haR
                  have HAR := hid haR
                  clear H r' p9 e1 e2 hy hwa haR hlt3 o9
                  rcases hst with ⟨rfl, HC⟩ | ⟨m, rfl, hm0, HC⟩
                  · have HC2 := hid (le_none HC.out HAR.out)
                    go_wp2
                    go_roundw
                    case rel => exact ⟨_, cnt', .inl ⟨rfl, HC2⟩, H2⟩
                    case measure => have := LE.out.1; have := LE.out.2; have := HLT.out; omega
                  · have HC2 := hid (And.intro HC.out.1 (le_more (n := m) (a := a) HC.out.2 (Int.le_refl _) (fun h => absurd h HAR.out)))
                    go_wp2
                    go_roundw
                    case rel => exact ⟨_, cnt', .inr ⟨m, rfl, hm0, HC2⟩, H2⟩
                    case measure => have := LE.out.1; have := LE.out.2; have := HLT.out; omega
        · have F2 := hid FA.out.more
          have B2 := F2.out.bl
          clear QA ZA FA EB
          go_wp2
          go_roundw
          case rel => exact ⟨k + 1, W, R, by omega, by go_num, F2, B2⟩
          case measure => simp [intOf]; omega
      · obtain rfl : k = len0 := by omega
        obtain ⟨m, hm⟩ : ∃ m, m = plen W R := ⟨_, rfl⟩
        have LN := plen_r F.out.pq (by have := F.out.ln; omega)
        rw [← hm] at LN
        have HLN := hid LN
        have hm2 : m ≤ 1024 := by have := plen_le W R; have := F.out.ln; omega
        have BL := hid F.out.bl
        clear LN F hbr hm
        go_wp2_with fail
        refine (HLN.out).mono ?_
        rintro e w5 ⟨rfl, b5⟩
        have B5 := hid (BL.out.trans (b5.mono BL.out.size))
        have d1 : decide ((m : Int) ≤ 1024) = true := decide_eq_true (by omega)
        clear b5 BL HLN
        go_wp2
        go_ret
        exact ⟨rfl, B5.out⟩
end Go.Proofs.Ytkfbicmoefaoiaa.pollOnce
