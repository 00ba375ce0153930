/- SectionAll: its closure; a step of one of so many sections. -/
import Derived.Test.YtkhkmjldncfbhaaDoorSecAllP
import Derived.Maps.AppendAt
import Derived.Deep.Upon
import Derived.Deep.CutRange
namespace Go.Proofs.YtkhkmjldncfbhaaDoor
set_option linter.unusedVariables false
set_option linter.unusedSimpArgs false
open Go.RowKit

/-- Just the blocks p and r were written, and new ones. -/
structure OnV (p : Nat) (r : Option Nat) (w w' : World) : Prop where
  os : w'.os = w.os
  tape : w'.tape = w.tape
  output : w'.output = w.output
  size : w.heap.size ≤ w'.heap.size
  block : ∀ k, k < w.heap.size → k ≠ p → r ≠ some k → w'.heap[k]? = w.heap[k]?
theorem OnV.trans {p : Nat} {r : Option Nat} {a b c : World} (h : OnV p r a b) (k : OnV p r b c) : OnV p r a c :=
  ⟨k.os.trans h.os, k.tape.trans h.tape, k.output.trans h.output, Nat.le_trans h.size k.size, fun i hi h1 h2 => (k.block i (Nat.lt_of_lt_of_le hi h.size) h1 h2).trans (h.block i hi h1 h2)⟩
theorem OnV.of_below {p : Nat} {r : Option Nat} {w w' : World} (h : Below w.heap.size w w') : OnV p r w w' := ⟨h.os, h.tape, h.output, h.size, fun k hk _ _ => h.block k hk⟩
theorem OnV.below {p B : Nat} {r : Option Nat} {w w' : World} (h : OnV p r w w') (hp : B ≤ p) (hr : ∀ k, r = some k → B ≤ k) (hB : B ≤ w.heap.size) : Below B w w' :=
  ⟨h.os, h.tape, h.output, h.size, fun k hk => h.block k (by omega) (by omega) (fun e => by have := hr k e; omega)⟩
/-- The closure's three variables: the row, the number, how often. -/
structure Av (w : World) (po pi pe : Nat) (v : Value) (i e : Int) : Prop where
  a : w.heap[po]? = some (.cells #[v] 33 (0, 0))
  b : w.heap[pi]? = some (.cells #[.int .i64 i] 3 (0, 0))
  c : w.heap[pe]? = some (.cells #[.int .i64 e] 3 (0, 0))
theorem Av.kept {w w' : World} {po pi pe : Nat} {v : Value} {i e : Int} (h : Av w po pi pe v i e) (e1 : w'.heap[po]? = w.heap[po]?) (e2 : w'.heap[pi]? = w.heap[pi]?) (e3 : w'.heap[pe]? = w.heap[pe]?) : Av w' po pi pe v i e := ⟨e1.trans h.a, e2.trans h.b, e3.trans h.c⟩
theorem blk_lta {w : World} {p : Nat} {o : Obj} (h : w.heap[p]? = some o) : p < w.heap.size := by rw [Array.getElem?_eq_some_iff] at h; exact h.1
theorem set_blka {w : World} {p : Nat} {v v' : Value} {t : TypeId} (h : w.heap[p]? = some (.cells #[v] t (0, 0))) : (w.setCell ⟨p, 0, none⟩ v').heap[p]? = some (.cells #[v'] t (0, 0)) := by
  simp [World.setCell, Array.getElem?_modify, h]
/-- What the closure leaves: one more in the row. -/
def AvPost (po base : Nat) (v : Value) (xs : List Int) (i : Int) (w w' : World) : Prop :=
  OnV po v.ownBlock w w' ∧ ∃ v', w'.heap[po]? = some (.cells #[v'] 33 (0, 0)) ∧ Owns w' base v' (xs ++ [i]) ∧ ∀ q, v'.ownBlock = some q → v.ownBlock = some q ∨ w.heap.size ≤ q
theorem AvPost.of_alloc {po base : Nat} {v : Value} {xs : List Int} {i : Int} {w w' : World} {o : Obj} (h : AvPost po base v xs i (w.alloc o) w') : AvPost po base v xs i w w' := by
  obtain ⟨h1, v', h2, h3, h4⟩ := h
  exact ⟨(OnV.of_below ((Below.refl _ _).alloc (Nat.le_refl _) _)).trans h1, v', h2, h3, fun q hq => (h4 q hq).imp id fun h => by rw [World.size_alloc] at h; omega⟩
theorem AvPost.set {po base G : Nat} {v : Value} {xs : List Int} {i : Int} {w w1 : World} {u : Value} (h : AvPost po base v xs i w w1) (hG : w.heap.size ≤ G) (hpo : po < w.heap.size) (hne : ∀ v', w1.heap[po]? = some (.cells #[v'] 33 (0, 0)) → v'.ownBlock ≠ some G) : AvPost po base v xs i w (w1.setCell ⟨G, 0, none⟩ u) := by
  obtain ⟨h1, v', h2, h3, h4⟩ := h
  have hk : ∀ k, k ≠ G → (w1.setCell ⟨G, 0, none⟩ u).heap[k]? = w1.heap[k]? := fun k hk => Below.heap_setCell _ _ _ _ hk
  exact ⟨⟨h1.os, h1.tape, h1.output, by simpa [World.setCell] using h1.size, fun k k1 k2 k3 => (hk k (by omega)).trans (h1.block k k1 k2 k3)⟩, v', (hk po (by omega)).trans h2, h3.kept (fun k e => hk k (fun eg => hne v' h2 (by rw [e, eg]))), h4⟩
set_option maxHeartbeats 2000000 in
theorem all1 (po pi pe base : Nat) (u i e : Int) (v : Value) (xs : List Int) (w : World) (r : Bool) (hr : decide (u + 1 < e) = r) (h : Av w po pi pe v i e) (ho : Owns w base v xs) (hb : base ≤ w.heap.size)
    (hne : po ≠ pi ∧ po ≠ pe) (hv : ∀ q, v.ownBlock = some q → q ≠ po ∧ q ≠ pi ∧ q ≠ pe) (hl : xs.length ≤ 1000) (hu : 0 ≤ u) (hu2 : u ≤ 1000) :
    Calls Tryd.prog 9 #[.int .i64 u, .pointer (some ⟨po, 0, none⟩), .pointer (some ⟨pi, 0, none⟩), .pointer (some ⟨pe, 0, none⟩)] w fun x w' => x = .returned (.bool r) ∧ AvPost po base v xs i w w' ∧ ∀ v', w'.heap[po]? = some (.cells #[v'] 33 (0, 0)) → ∀ G, G < w.heap.size → v.ownBlock ≠ some G → v'.ownBlock ≠ some G := by
  have l1 := blk_lta h.a
  have l2 := blk_lta h.b
  have l3 := blk_lta h.c
  have c1 : w.cell? ⟨po, 0, none⟩ = some v := cell_of_blk (i := 0) h.a rfl
  have c2 : w.cell? ⟨pi, 0, none⟩ = some (.int .i64 i) := cell_of_blk (i := 0) h.b rfl
  have H := hid h
  have HO := hid ho
  have HV := hid hv
  have HR := hid hr
  have OA := hid (fun x : Value => World.ownsRow.alloc ho (.cells #[x] 3))
  have HL := hid hl
  clear h ho hv hr
  go_enter Tryd.func9, Tryd.ntmps9
  go_upto_region 1 with (fail)
  obtain ⟨i0, hi, hz0, hz1, hz2⟩ := info_parts infoInt
  go_wp2_with (at_builtin; refine wpList_append_own_at _ rfl _ _ 33 rfl base 3 i0 (.int .i64 0) 1 8 Tryd.underlying33 hi hz0 hz1 hz2 rfl (by decide) _ _ _ rfl (OA.out _) ⟨w.heap.size, 0, none⟩ 1 1 [.int .i64 i] rfl rfl ?p1 ?p2 ?p3 ?p4 ?p5 ?_)
  case p1 => exact cell_one_new _ _ _
  case p2 => intro u hu; simp at hu; subst hu; rfl
  case p3 => have := HL.out; unfold maxLen; omega
  case p4 => have := HL.out; omega
  case p5 => simp; omega
  intro v' w6 hown6 hgrow _ hwhere
  have OW : Owns w6 base v' (xs ++ [i]) := by unfold Owns; rw [List.map_append, List.length_append]; exact hown6
  obtain ⟨a', n', c', rfl⟩ := OW.slice3
  have hs6 := hgrow.size
  rw [World.size_alloc] at hs6
  have hk6 : ∀ k, k < w.heap.size → v.ownBlock ≠ some k → w6.heap[k]? = w.heap[k]? := fun k k1 k2 => (hgrow.block k (by rw [World.size_alloc]; omega) (fun e => k2 e.symm)).trans (Below.heap_alloc _ _ _ k1)
  have np : v.ownBlock ≠ some po := fun e => (HV.out po e).1 rfl
  have ne : v.ownBlock ≠ some pe := fun e => (HV.out pe e).2.2 rfl
  have B1 := (hk6 po l1 np).trans H.out.a
  have B3 := (hk6 pe l3 ne).trans H.out.c
  have d1 : w6.cell? ⟨po, 0, none⟩ = some v := cell_of_blk (i := 0) B1 rfl
  have d3 : w6.cell? ⟨pe, 0, none⟩ = some (.int .i64 e) := cell_of_blk (i := 0) B3 rfl
  have f1 : w6.frozen? ⟨po, 0, none⟩ = false := free_of_blk B1
  have WH : ∀ q, (Value.slice a' n' c').ownBlock = some q → v.ownBlock = some q ∨ w.heap.size ≤ q := fun q hq => by
    rcases hwhere with hw | hw
    · exact .inl (hw.symm.trans hq)
    · rw [hw] at hq; cases hq; exact .inr (by first | omega | (simp; done) | (simp only [World.size_alloc]; omega))
  have NP : (Value.slice a' n' c').ownBlock ≠ some po := fun e => by rcases WH po e with h | h; exact np h; omega
  have FIN := hid (show AvPost po base v xs i w (w6.setCell ⟨po, 0, none⟩ (.slice a' n' c')) ∧ _ from
    ⟨⟨⟨hgrow.os, hgrow.tape, hgrow.output, by simp [World.setCell]; omega, fun k k1 k2 k3 => (Below.heap_setCell _ _ _ _ k2).trans (hk6 k k1 k3)⟩, _, set_blka B1, OW.kept (fun k e => Below.heap_setCell _ _ _ _ (fun eg => NP (by rw [e, eg]))), WH⟩,
      (fun (v' : Value) (hv' : (w6.setCell ⟨po, 0, none⟩ (.slice a' n' c')).heap[po]? = some (.cells #[v'] 33 (0, 0))) G (k1 : G < w.heap.size) (k2 : v.ownBlock ≠ some G) (k3 : v'.ownBlock = some G) => by
        rw [set_blka B1] at hv'
        simp only [Option.some.injEq, Obj.cells.injEq, Array.mk.injEq, List.cons.injEq, and_true] at hv'
        obtain ⟨rfl, _⟩ := hv'
        rcases WH G k3 with h | h
        · exact k2 h
        · omega)⟩)
  clear hown6 hgrow hwhere OW hs6 hk6 np ne B1 B3 WH NP H HO HV OA hi hz0 hz1 hz2 c1 c2
  go_wp2
  go_ret
  exact ⟨by rw [← HR.out]; rfl, FIN.out.1, FIN.out.2⟩
set_option maxHeartbeats 1000000 in
theorem goes_all (po pi pe base : Nat) (u i e : Int) (v : Value) (xs : List Int) (w : World) (r : Bool) (hr : decide (u + 1 < e) = r) (h : Av w po pi pe v i e) (ho : Owns w base v xs) (hb : base ≤ w.heap.size)
    (hne : po ≠ pi ∧ po ≠ pe) (hv : ∀ q, v.ownBlock = some q → q ≠ po ∧ q ≠ pi ∧ q ≠ pe) (hl : xs.length ≤ 1000) (hu : 0 ≤ u) (hu2 : u ≤ 1000) :
    Calls Tryd.prog 13 #[.func (.func 9) #[] #[.pointer (some ⟨po, 0, none⟩), .pointer (some ⟨pi, 0, none⟩), .pointer (some ⟨pe, 0, none⟩)], .int .i64 u] w fun x w' => x = .returned (.bool r) ∧ AvPost po base v xs i w w' := by
  have hmf : ∀ (fn : Fn) (first cap : Array Value) (w : World), (Instr.makeFunc fn first cap).run Tryd.prog w = .ok (.func fn first cap) w := fun _ _ _ _ => rfl
  have hnn := fun fn first cap w => func_neq fn first cap w
  have l1 := blk_lta h.a
  have l2 := blk_lta h.b
  have l3 := blk_lta h.c
  have LV : ∀ q, v.ownBlock = some q → q < w.heap.size := fun q hq => (ho.lt q hq).2
  have ha := (Below.refl w.heap.size w).alloc (Nat.le_refl _) (.cells #[.bool false] 4)
  have O1 := hid (all1 po pi pe base u i e v xs (w.alloc (.cells #[.bool false] 4)) r hr (h.kept (ha.block _ l1) (ha.block _ l2) (ha.block _ l3)) (World.ownsRow.alloc ho _) (by simp; omega) hne hv hl hu hu2)
  have NV : v.ownBlock ≠ some w.heap.size := fun e => by have := LV _ e; omega
  have HNV := hid NV
  have HL1 := hid l1
  clear h ho hv hr ha LV NV hl hu hu2
  go_enter_defers Tryd.func13, Tryd.ntmps13
  go_wp2_with fail
  refine O1.out.mono ?_
  rintro x w1 ⟨rfl, hp, hx⟩
  obtain ⟨G, hG⟩ : ∃ G, G = w.heap.size := ⟨_, rfl⟩
  have hgn := heap_alloc_new w (.cells #[.bool false] 4)
  rw [← hG] at hgn
  have hgk : w1.heap[G]? = some (.cells #[.bool false] 4 (0, 0)) := (hp.1.block G (by simp; omega) (by have := HL1.out; omega) (by rw [hG]; exact HNV.out)).trans hgn
  have g1 : w1.cell? ⟨G, 0, none⟩ = some (.bool false) := cell_of_blk (i := 0) hgk rfl
  have g2 : w1.frozen? ⟨G, 0, none⟩ = false := free_of_blk hgk
  have g3 : (w1.setCell ⟨G, 0, none⟩ (.bool r)).cell? ⟨G, 0, none⟩ = some (.bool r) := World.cell?_setCell_same _ _ _ g1
  have FIN := hid (show AvPost po base v xs i w (w1.setCell ⟨G, 0, none⟩ (.bool r)) from hp.of_alloc.set (by omega) HL1.out (fun v' e => hx v' e G (by simp; omega) (by rw [hG]; exact HNV.out)))
  rw [← hG]
  clear hp hx hgn hgk O1 HNV hG
  go_wp2
  refine leaves_cons (f := 18) (args := #[.pointer (some ⟨G, 0, none⟩)]) (by simp) (by simp [go_sem]) ?_
  refine (catch_idle ⟨G, 0, none⟩ _).mono ?_
  rintro e u' w'' ⟨rfl, rfl, rfl⟩
  simp [Leaves, settle, results, Tryd.results13, go_sem, g3]
  exact FIN.out

theorem Mem.blocks {w w' : World} {b g : Nat} {xs : List Int} {c : Nat} (h : Mem w b g xs c) (e1 : w'.heap[b]? = w.heap[b]?) (e2 : w'.heap[g]? = w.heap[g]?) : Mem w' b g xs c := by
  obtain ⟨cap, cur, hb, hg, h1⟩ := h.h
  exact ⟨⟨cap, cur, e1.trans hb, e2.trans hg, h1⟩, h.ne, h.len, h.cnt⟩
/-- All that stands in a round: the sections below i are a step further; n are in the row. -/
structure Sa (w0 : World) (A b g po pe : Nat) (k e : Nat) (z : Bool) (c d c' d' i : Nat) (q n : Nat) (v : Value) (w : World) : Prop where
  sc : ∀ j, j < k → Sct w A (j * 5) 2 5 (sgI z c d c' d' i j) (tkI z i j) (tmI z e c d c' d' i j)
  m : ∃ xs, xs.getD 2 0 = (nxI z k i : Int) ∧ xs.getD 5 0 = (svI z c d i : Int) ∧ Me w0 w b g xs q
  o : w.heap[po]? = some (.cells #[v] 33 (0, 0))
  own : Owns w w0.heap.size v (ordL e n)
  oe : w.heap[pe]? = some (.cells #[.int .i64 e] 3 (0, 0))
  ne : A ≠ b ∧ A ≠ g ∧ po ≠ A ∧ po ≠ b ∧ po ≠ g ∧ pe ≠ A ∧ pe ≠ b ∧ pe ≠ g ∧ po ≠ pe ∧ w0.heap.size ≤ A ∧ w0.heap.size ≤ po ∧ w0.heap.size ≤ pe
  nv : ∀ q, v.ownBlock = some q → q ≠ A ∧ q ≠ b ∧ q ≠ g ∧ q ≠ po ∧ q ≠ pe
  k1 : 1 ≤ k
section
variable {w0 w w' : World} {A b g po pe k e c d c' d' i q n : Nat} {z : Bool} {v : Value}
theorem Sa.ltA (h : Sa w0 A b g po pe k e z c d c' d' i q n v w) : A < w.heap.size := (h.sc 0 h.k1).lt
theorem Sa.below (h : Sa w0 A b g po pe k e z c d c' d' i q n v w) (hb : Below w.heap.size w w') : Sa w0 A b g po pe k e z c d c' d' i q n v w' := by
  obtain ⟨xs, h3, h4, h5⟩ := h.m
  exact ⟨fun j hj => (h.sc j hj).kept (hb.block _ h.ltA), ⟨xs, h3, h4, h5.below hb⟩, (hb.block _ (blk_lta h.o)).trans h.o, h.own.kept (fun k e => hb.block _ (h.own.lt k e).2), (hb.block _ (blk_lta h.oe)).trans h.oe, h.ne, h.nv, h.k1⟩
/-- A deed of a section that is no do. -/
theorem Sa.next (h : Sa w0 A b g po pe k e z c d c' d' i q n v w) {xs' : List Int} {cc : Nat} (ho : On3 A (i * 5) b g w w') (hs : Sct w' A (i * 5) 2 5 (sgB false c' d' i) i (tmB false e c' d' i)) (hm : Mem w' b g xs' cc) (hl : xs'.length = 8) (hc : cc ≤ q + 2)
    (h1 : xs'.getD 2 0 = (nxI z k (i + 1) : Int)) (h2 : xs'.getD 5 0 = (svI z c d (i + 1) : Int)) : Sa w0 A b g po pe k e z c d c' d' (i + 1) (q + 2) n v w' := by
  obtain ⟨xs, _, _, h5⟩ := h.m
  have ne := h.ne
  refine ⟨fun j hj => ?_, ⟨xs', h1, h2, h5.step ho ne.2.2.2.2.2.2.2.2.2.1 hm hl hc⟩, (ho.block _ (blk_lta h.o) ne.2.2.1 ne.2.2.2.1 ne.2.2.2.2.1).trans h.o, h.own.kept (fun p e => ho.block _ (h.own.lt p e).2 (h.nv p e).1 (h.nv p e).2.1 (h.nv p e).2.2.1), (ho.block _ (blk_lta h.oe) ne.2.2.2.2.2.1 ne.2.2.2.2.2.2.1 ne.2.2.2.2.2.2.2.1).trans h.oe, ne, h.nv, h.k1⟩
  by_cases hji : j = i
  · subst hji; rw [sg_new, tk_new, tm_new]; exact hs
  · rw [sg_old hji, tk_old hji, tm_old hji]
    have hx := h.sc j hj
    have cc : ∀ x, x < 5 → w'.cell? ⟨A, j * 5 + x, none⟩ = w.cell? ⟨A, j * 5 + x, none⟩ := fun x hx => ho.cell _ (by omega)
    exact ⟨(cc 0 (by omega)).trans hx.c0, (cc 1 (by omega)).trans hx.c1, (cc 2 (by omega)).trans hx.c2, (cc 3 (by omega)).trans hx.c3, (cc 4 (by omega)).trans hx.c4, fun x => (ho.fz x).trans (hx.fz x)⟩
/-- One more in the row. -/
theorem Sa.mid (h : Sa w0 A b g po pe k e z c d c' d' i q n v w) (hn : n / e = i) (hp : AvPost po w0.heap.size v (ordL e n) i w w') : ∃ v', Sa w0 A b g po pe k e z c d c' d' i q (n + 1) v' w' := by
  obtain ⟨ho, v', h2, h3, h4⟩ := hp
  obtain ⟨xs, x1, x2, h5⟩ := h.m
  obtain ⟨cc, hc, hm⟩ := h5.m
  have ne := h.ne
  have kb : ∀ p, p < w.heap.size → p ≠ po → (∀ q, v.ownBlock = some q → q ≠ p) → w'.heap[p]? = w.heap[p]? := fun p p1 p2 p3 => ho.block p p1 p2 (fun e => p3 p e rfl)
  have kA := kb A h.ltA (Ne.symm ne.2.2.1) (fun q hq => (h.nv q hq).1)
  have kB := kb b hm.sb (Ne.symm ne.2.2.2.1) (fun q hq => (h.nv q hq).2.1)
  have kG := kb g hm.sg (Ne.symm ne.2.2.2.2.1) (fun q hq => (h.nv q hq).2.2.1)
  have lt := h5.T.lt
  have tt := h5.t
  have kT := kb _ lt (by omega) (fun q hq => by have := (h.own.lt q hq).1; omega)
  refine ⟨v', fun j hj => (h.sc j hj).kept kA, ⟨xs, x1, x2, ⟨⟨cc, hc, hm.blocks kB kG⟩, h5.l, h5.B.trans (ho.below ne.2.2.2.2.2.2.2.2.2.2.1 (fun q hq => (h.own.lt q hq).1) h5.B.size), h5.hb, h5.hg, h5.T.eq kT, h5.t⟩⟩, h2, ?_, (kb pe (blk_lta h.oe) (Ne.symm ne.2.2.2.2.2.2.2.2.1) (fun q hq => (h.nv q hq).2.2.2.2)).trans h.oe, ne, fun q hq => ?_, h.k1⟩
  · rw [ordL_succ, hn]; exact h3
  · rcases h4 q hq with h6 | h6
    · exact h.nv q h6
    · have := h.ltA; have := hm.sb; have := hm.sg; have := blk_lta h.o; have := blk_lta h.oe
      omega
end
end Go.Proofs.YtkhkmjldncfbhaaDoor
