/- The document's timers by value: Add that adds one. -/
import Derived.Test.YtaogpodncphpjaaPre2
import Derived.Deep.RegionLaw
namespace Go.Proofs.Ytaogpodncphpjaa
set_option linter.unusedVariables false
set_option linter.unusedSimpArgs false
open Go.RowKit
/-- An append of a region that draws, by what it runs to. -/
theorem step_appR {P : Program} {ops : Array Oper} {o : Oper} {a : Act} {w : World} {K : Act → World → Prop} {Q : Exit → Act → World → Prop} {E : Prop} (hgd : o.guard = none) (s x : Operand) (t : TypeId)
    (ho : o.op = .call { callee := .builtin .append, args := #[s, x], argTypes := #[t, t] }) (ty : TypeId) (hty : o.type = ty) (sv xv : Value) (hs : a.eval s = sv) (hx : a.eval x = xv) {R : Value → World → Prop}
    (hr : ∃ v' w', (Builtin.append_ #[t, t] ty #[sv, xv]).run P w = .ok v' w' ∧ R v' w') (h : ∀ v' w', R v' w' → K (a.put o.dst v') w') :
    if Region.wanted o (yielded ops a.tmps) = true then Oper.wp P o a w K Q else E := by
  have hw : Region.wanted o (yielded ops a.tmps) = true := by simp [Region.wanted, hgd]
  rw [if_pos hw]
  obtain ⟨v', w', hrun, hR⟩ := hr
  subst hty
  unfold Oper.wp execOp
  simp only [ho, resolve, invoke, builtin, Sem.run_bind, Sem.run_pure, Result.andThen_ok, List.map_toArray, List.map_cons, List.map_nil, hs, hx, hrun]
  exact h v' w' hR
/-- An append of what is handed, as a run. -/
theorem run_appT {P : Program} {w : World} (base : Nat) (t ty e : TypeId) (i : TypeInfo) (z : Value) (size bytes : Nat) (ht : P.underlying t = some (.slice e)) (hi : P.info? e = some i) (hz : i.zero = some z)
    (hsize : i.size = size) (hby : i.bytes = bytes) (hzs : z.cells.size = size) (hsz : 0 < size) (v : Value) (n : Nat) (xs : List Value) (hown : w.ownsRow base e size v n xs)
    (m : Nat) (news : List Value) (vy : Value) (hr : HandT w vy m news) (hl : news.length = m * size) (h1 : ∀ u ∈ news, u.oneCell' = true)
    (h63 : n + m ≤ maxLen) (hbytes : (n + m) * bytes ≤ 140737488355328) (hbase : base ≤ w.heap.size) :
    ∃ v' w', (Builtin.append_ #[t, t] ty #[v, vy]).run P w = .ok v' w' ∧ w'.ownsRow base e size v' (n + m) (xs ++ news) ∧ w.grownBy w' v.ownBlock := by
  obtain ⟨ad, c, rfl, ⟨rfl, rfl, rfl, rfl⟩ | ⟨ad', rfl, hc⟩⟩ := hr
  · exact ⟨v, w, run_append_owned_none w base t ty e i size ht hi v n xs hown, by simpa using hown, .refl _ _⟩
  · obtain ⟨v', w', h2, h3, h4, _⟩ := run_append_own (P := P) w base t ty e i z size bytes ht hi hz hsize hby hzs hsz v n xs hown ad' m c news hl hc h1 h63 hbytes hbase
    exact ⟨v', w', h2, h3, h4⟩
/-- The box and the result's cells are there; what was there is as it was. -/
structure K10 (w y : World) (N : Int) (s : Value) (o : Int) : Prop where
  below : Below w.heap.size w y
  box : y.heap[w.heap.size]? = some (.cells #[.int .i64 N, s, .int .u64 o] 29 (0, 0))
  res : y.heap[w.heap.size + 1]? = some (.cells #[.int .i64 0, .slice none 0 0, .int .u64 0] 29 (0, 0))
  size : w.heap.size + 2 ≤ y.heap.size
namespace K10
variable {w y y' : World} {N o : Int} {s : Value}
theorem c (h : K10 w y N s o) : y.cell? ⟨w.heap.size, 1, none⟩ = some s ∧ y.cell? ⟨w.heap.size, 2, none⟩ = some (.int .u64 o) ∧ y.frozen? ⟨w.heap.size, 1, none⟩ = false ∧ y.frozen? ⟨w.heap.size, 2, none⟩ = false := ⟨blk_cell h.box rfl, blk_cell h.box rfl, blk_free h.box, blk_free h.box⟩
theorem grown {row : Option Nat} (h : K10 w y N s o) (hg : y.grownBy y' row) (hr : ∀ q, row = some q → w.heap.size + 2 ≤ q) : K10 w y' N s o := by
  have hs := h.size
  have hs2 := hg.size
  exact ⟨h.below.grown hg (by omega) (fun q hq => by have := hr q hq; omega), (hg.block _ (by omega) (fun e => by have := hr _ e.symm; omega)).trans h.box, (hg.block _ (by omega) (fun e => by have := hr _ e.symm; omega)).trans h.res, by omega⟩
theorem alloc (h : K10 w y N s o) (ob : Obj) : K10 w (y.alloc ob) N s o := h.grown (World.grownBy_alloc y ob none) (by simp)
theorem drew (h : K10 w y N s o) : K10 w y.drew N s o := ⟨h.below.trans (Quiet.below ⟨1, rfl⟩ _), h.box, h.res, h.size⟩
end K10
/-- The first append's outcome, and the second's. -/
def Oa (w : World) (N : Int) (s : Value) (o : Int) (D : List Tr) (X : World → Prop) (v1 : Value) (y1 : World) : Prop :=
  K10 w y1 N s o ∧ y1.ownsRow (w.heap.size + 2) 53 4 v1 D.length (ft D) ∧ X y1
def Ob (w : World) (N : Int) (s : Value) (o : Int) (D : List Tr) (e : Tr) (v2 : Value) (y2 : World) : Prop :=
  ∃ a2 c2, v2 = .slice a2 (D.length + 1) c2 ∧ K10 w y2 N s o ∧ y2.ownsRow (w.heap.size + 2) 53 4 v2 (D.length + 1) (ft (D ++ [e]))
theorem oa (w y : World) (N o : Int) (s : Value) (D : List Tr) (hD : RdT w s D) (hl : D.length ≤ 1000) (hk : K10 w y N s o) (g : Nat) (hg : y.ownsRow (w.heap.size + 2) 53 4 (.slice (some ⟨g, 0, none⟩) 0 0) 0 []) (X : World → Prop)
    (hX : ∀ y1, y.grownBy y1 (some g) → X y1) :
    Hid (∃ v' w', (Builtin.append_ #[26, 26] 26 #[.slice (some ⟨g, 0, none⟩) 0 0, s]).run Try.prog y = .ok v' w' ∧ Oa w N s o D X v' w') := by
  obtain ⟨i0, hi, hz0, hz1, hz2⟩ := info_parts infoTr
  have hs := hk.size
  obtain ⟨v', w', h1, h2, h3⟩ := run_appT (P := Try.prog) (w := y) (w.heap.size + 2) 26 26 53 i0 _ 4 32 Try.underlying26 hi hz0 hz1 hz2 rfl (by decide) _ 0 [] hg
    D.length (ft D) s (hD.handed hk.below) (ft_len D) (ft_ones D) (by unfold maxLen; omega) (by omega) (by omega)
  rw [Nat.zero_add, List.nil_append] at h2
  exact ⟨v', w', h1, hk.grown h3 (fun q hq => (World.ownsRow.lt hg q (by simpa [Value.ownBlock] using hq)).1), h2, hX _ (by simpa [Value.ownBlock] using h3)⟩
theorem ob (w y : World) (N o : Int) (s v1 : Value) (D : List Tr) (hl : D.length ≤ 1000) (hk : K10 w y N s o) (hv : y.ownsRow (w.heap.size + 2) 53 4 v1 D.length (ft D)) (e1 e2 e3 e4 : Int) (gx : Nat)
    (hx : y.heap[gx]? = some (.cells #[.int .i64 e1, .int .i64 e2, .int .u64 e3, .int .i64 e4] 53 (0, 0))) :
    ∃ v' w', (Builtin.append_ #[26, 26] 26 #[v1, .slice (some ⟨gx, 0, none⟩) 1 1]).run Try.prog y = .ok v' w' ∧ Ob w N s o D (e1, e2, e3, e4) v' w' := by
  obtain ⟨i0, hi, hz0, hz1, hz2⟩ := info_parts infoTr
  have hs := hk.size
  obtain ⟨v', w', h1, h2, h3⟩ := run_appT (P := Try.prog) (w := y) (w.heap.size + 2) 26 26 53 i0 _ 4 32 Try.underlying26 hi hz0 hz1 hz2 rfl (by decide) _ _ _ hv
    1 [.int .i64 e1, .int .i64 e2, .int .u64 e3, .int .i64 e4] (.slice (some ⟨gx, 0, none⟩) 1 1) ⟨_, _, rfl, .inr ⟨_, rfl, fun j u hj => by
      rw [Addr.add_lit]
      match j, hj with
      | 0, hj => simp at hj; subst hj; exact blk_cell hx rfl
      | 1, hj => simp at hj; subst hj; exact blk_cell hx rfl
      | 2, hj => simp at hj; subst hj; exact blk_cell hx rfl
      | 3, hj => simp at hj; subst hj; exact blk_cell hx rfl
      | j + 4, hj => simp at hj⟩⟩ rfl (by intro u hu; simp at hu; rcases hu with rfl | rfl | rfl | rfl <;> rfl) (by unfold maxLen; omega) (by omega) (by omega)
  obtain ⟨a2, c2, rfl⟩ : ∃ a c, v' = .slice a (D.length + 1) c := by
    obtain ⟨q0, ⟨q1, q2⟩ | ⟨q, cap, cur, q1, _⟩⟩ := h2
    · omega
    · exact ⟨_, _, q1⟩
  exact ⟨_, w', h1, a2, c2, rfl, hk.grown h3 (fun q hq => (World.ownsRow.lt hv q hq).1), by rw [ft_app]; exact h2⟩
/-- What the two stores leave. -/
theorem K10.fin {w y : World} {N o : Int} {s : Value} {D : List Tr} {e : Tr} {a2 : Option Addr} {c2 : Nat} (h : K10 w y N s o) (O : y.ownsRow (w.heap.size + 2) 53 4 (.slice a2 (D.length + 1) c2) (D.length + 1) (ft (D ++ [e]))) (hl : D.length < 1000) :
    (y.setCell ⟨w.heap.size, 1, none⟩ (.slice a2 (D.length + 1) c2)).cell? ⟨w.heap.size, 2, none⟩ = some (.int .u64 o) ∧ (y.setCell ⟨w.heap.size, 1, none⟩ (.slice a2 (D.length + 1) c2)).frozen? ⟨w.heap.size, 2, none⟩ = false ∧
    ((y.setCell ⟨w.heap.size, 1, none⟩ (.slice a2 (D.length + 1) c2)).setCell ⟨w.heap.size, 2, none⟩ (.int .u64 (o + 1))).heap[w.heap.size]? = some (.cells #[.int .i64 N, .slice a2 (D.length + 1) c2, .int .u64 (o + 1)] 29 (0, 0)) ∧
    ((y.setCell ⟨w.heap.size, 1, none⟩ (.slice a2 (D.length + 1) c2)).setCell ⟨w.heap.size, 2, none⟩ (.int .u64 (o + 1))).heap[w.heap.size + 1]? = some (.cells #[.int .i64 0, .slice none 0 0, .int .u64 0] 29 (0, 0)) ∧
    DtPost w s (D ++ [e]) N (o + 1) 0 (.returned (.tuple #[.agg #[.int .i64 N, .slice a2 (D.length + 1) c2, .int .u64 (o + 1)], .int .i64 0])) (((y.setCell ⟨w.heap.size, 1, none⟩ (.slice a2 (D.length + 1) c2)).setCell ⟨w.heap.size, 2, none⟩ (.int .u64 (o + 1))).setRow (w.heap.size + 1) #[.int .i64 N, .slice a2 (D.length + 1) c2, .int .u64 (o + 1)]) := by
  have K8 := blk_set (i := 1) (.slice a2 (D.length + 1) c2) h.box (show (#[.int .i64 N, s, .int .u64 o] : Array Value).setIfInBounds 1 (.slice a2 (D.length + 1) c2) = #[.int .i64 N, .slice a2 (D.length + 1) c2, .int .u64 o] from rfl)
  have K9 := blk_set (i := 2) (.int .u64 (o + 1)) K8 (show (#[.int .i64 N, .slice a2 (D.length + 1) c2, .int .u64 o] : Array Value).setIfInBounds 2 (.int .u64 (o + 1)) = #[.int .i64 N, .slice a2 (D.length + 1) c2, .int .u64 (o + 1)] from rfl)
  have R9 := (heap_setCell_other (y.setCell ⟨w.heap.size, 1, none⟩ (.slice a2 (D.length + 1) c2)) ⟨w.heap.size, 2, none⟩ (w.heap.size + 1) (.int .u64 (o + 1)) (by simp)).trans ((heap_setCell_other y ⟨w.heap.size, 1, none⟩ (w.heap.size + 1) (.slice a2 (D.length + 1) c2) (by simp)).trans h.res)
  refine ⟨blk_cell K8 rfl, blk_free K8, K9, R9, ?_⟩
  have BF := row_below ((h.below.setCell (p := ⟨w.heap.size, 1, none⟩) (Nat.le_refl _) (.slice a2 (D.length + 1) c2)).setCell (p := ⟨w.heap.size, 2, none⟩) (Nat.le_refl _) (.int .u64 (o + 1))) (show w.heap.size ≤ w.heap.size + 1 by omega) #[.int .i64 N, .slice a2 (D.length + 1) c2, .int .u64 (o + 1)]
  refine ⟨_, rfl, ⟨readsT (ownT_kept O (fun q hq => ?_)) (by simp), by simp; omega⟩, BF, fun q hq => .inr (by have := World.ownsRow.lt O q hq; simp; omega)⟩
  have := (World.ownsRow.lt O q hq).1
  rw [row_other _ _ _ _ (by omega), heap_setCell_other _ _ _ _ (by simp; omega), heap_setCell_other _ _ _ _ (by simp; omega)]
set_option maxRecDepth 4000 in
set_option maxHeartbeats 8000000 in
theorem rtadd_new (w : World) (N : Int) (o : Nat) (v : Value) (D : List Tr) (h : Dt w v D) (p g x : Int) (h1 : 0 ≤ p) (h2 : p < N) (h3 : 0 ≤ g) (h4 : g ≤ 4095) (hs : thasb D g = false) (hl : D.length < 1000) (ho : o < 1000000) :
    Calls Try.prog 53 #[.agg #[.int .i64 N, v, .int .u64 o], .int .i64 p, .int .i64 g, .int .i64 x] w (DtPost w v (D ++ [(p, x, (o : Int), g)]) N ((o : Int) + 1) 0) := by
  obtain ⟨a, n, c, rfl, HN, lw⟩ := h.sl
  have hb0 := ((Below.refl w.heap.size w).alloc (Nat.le_refl _) (.cells #[.int .i64 N, .slice a n c, .int .u64 o] 29)).alloc (by simp) (.cells #[.int .i64 0, .slice none 0 0, .int .u64 0] 29)
  have H := hid (h.below hb0)
  have B := hid hb0
  have K := hid (heap_alloc2_old w (.cells #[.int .i64 N, .slice a n c, .int .u64 o] 29) (.cells #[.int .i64 0, .slice none 0 0, .int .u64 0] 29))
  have R := hid (heap_alloc2_new w (.cells #[.int .i64 N, .slice a n c, .int .u64 o] 29) (.cells #[.int .i64 0, .slice none 0 0, .int .u64 0] 29))
  have HD := hid h
  have HS := hid hs
  have hl1 : n < 1000 := by have := HN.out; omega
  clear h hb0 hs hl
  have hsz : ((w.alloc (.cells #[.int .i64 N, .slice a n c, .int .u64 o] 29)).alloc (.cells #[.int .i64 0, .slice none 0 0, .int .u64 0] 29)).heap.size = w.heap.size + 2 := by simp
  have y0 := blk_cell K.out (i := 0) rfl
  have d1 : decide (p < 0) = false := decide_eq_false (by omega)
  have d2 : decide (N ≤ p) = false := decide_eq_false (by omega)
  have d3 : decide (g < 0) = false := decide_eq_false (by omega)
  have d4 : decide ((4095 : Int) < g) = false := decide_eq_false (by omega)
  go_enter Try.func53, Try.ntmps53
  go_wp2_with (refine wpList_load_known (by rfl) 29 (.tmp 4) rfl w.heap.size rfl 29 #[.int .i64 N, .slice a n c, .int .u64 o] (0, 0) _ K.out Try.underlying29 rfl (by kernel_rfl) ?_)
  refine (rthas_any _ N o _ D H.out g false HS.out).mono ?_
  rintro e w4 ⟨rfl, hb2⟩
  have k4 : K10 w w4 N (.slice a n c) o := ⟨B.out.trans (hb2.mono B.out.size), (hb2.block _ (by rw [hsz]; omega)).trans K.out, (hb2.block _ (by rw [hsz]; omega)).trans R.out, by have := hb2.size; omega⟩
  clear hb2 H K R B y0 hsz d1 d2 d3 d4
  obtain ⟨P4, hP4⟩ : ∃ P4, P4 = w4.heap.size := ⟨_, rfl⟩
  have s4 := k4.size
  obtain ⟨E1, hE1⟩ : ∃ E1 : Obj, E1 = .cells #[.int .i64 p, .int .i64 x, .int .u64 o, .int .i64 g] 53 := ⟨_, rfl⟩
  have hD1000 : D.length ≤ 1000 := by have := HN.out; omega
  have AP1 := oa w (w4.alloc (.cells #[] 53)).drew N o (.slice a n c) D HD.out.hd hD1000 (k4.alloc _).drew w4.heap.size (World.ownsRow_made w4 #[] 0 s4 (by omega) rfl) (fun _ => True) (fun _ _ => trivial)
  have AP2 := oa w ((w4.alloc (.cells #[] 53)).alloc (.cells #[.int .i64 p, .int .i64 x, .int .u64 o, .int .i64 g] 53)).drew N o (.slice a n c) D HD.out.hd hD1000 ((k4.alloc _).alloc _).drew w4.heap.size ((World.ownsRow_made w4 #[] 0 s4 (by omega) rfl).alloc _)
    (fun y1 => y1.heap[w4.heap.size + 1]? = some (.cells #[.int .i64 p, .int .i64 x, .int .u64 o, .int .i64 g] 53 (0, 0))) (fun y1 hg => by
      have := heap_alloc_new (w4.alloc (.cells #[] 53)) (.cells #[.int .i64 p, .int .i64 x, .int .u64 o, .int .i64 g] 53)
      rw [World.size_alloc] at this
      exact (hg.block _ (by show _ < ((w4.alloc _).alloc _).heap.size; simp) (by simp)).trans this)
  have AP3 := oa w ((w4.alloc (.cells #[.int .i64 p, .int .i64 x, .int .u64 o, .int .i64 g] 53)).alloc (.cells #[] 53)).drew N o (.slice a n c) D HD.out.hd hD1000 ((k4.alloc _).alloc _).drew (w4.heap.size + 1) (by
      have := World.ownsRow_made (base := w.heap.size + 2) (e := 53) (size := 4) (w4.alloc (.cells #[.int .i64 p, .int .i64 x, .int .u64 o, .int .i64 g] 53)) #[] 0 (by simp; omega) (by omega) rfl
      rw [World.size_alloc] at this
      exact this)
    (fun y1 => y1.heap[w4.heap.size]? = some (.cells #[.int .i64 p, .int .i64 x, .int .u64 o, .int .i64 g] 53 (0, 0))) (fun y1 hg => by
      exact (hg.block _ (by show _ < ((w4.alloc _).alloc _).heap.size; simp; omega) (by simp)).trans (heap_alloc2_old w4 _ _))
  have NW := hid (fun (y : World) => heap_alloc_new y (.cells #[.int .i64 p, .int .i64 x, .int .u64 o, .int .i64 g] 53))
  obtain ⟨a1, a2, a3, a4⟩ := k4.c
  obtain ⟨b1, b2, b3, b4⟩ := (k4.alloc (.cells #[] 53)).c
  obtain ⟨e1, e2, e3, e4⟩ := (k4.alloc (.cells #[.int .i64 p, .int .i64 x, .int .u64 o, .int .i64 g] 53)).c
  obtain ⟨g1, g2, g3, g4⟩ := ((k4.alloc (.cells #[] 53)).alloc (.cells #[.int .i64 p, .int .i64 x, .int .u64 o, .int .i64 g] 53)).c
  obtain ⟨i1, i2, i3, i4⟩ := ((k4.alloc (.cells #[.int .i64 p, .int .i64 x, .int .u64 o, .int .i64 g] 53)).alloc (.cells #[] 53)).c
  clear k4 hE1 hP4 s4 a3 a4 b3 b4 e3 e4 g3 g4 i3 i4
  have hw1 : IntKind.u64.wrap ((o : Int) + 1) = (o : Int) + 1 := by
    have hb : IntKind.u64.bits = 64 := rfl
    have hs : IntKind.u64.signed = false := rfl
    simp [IntKind.wrap, hb, hs]; omega
  go_wp2_with fail
  go_region_law (first
      | ((with_reducible refine step_appR ?_ (Operand.tmp 34) (Operand.tmp 42) _ ?_ _ ?_ _ _ ?_ ?_ (ob w _ N o _ _ D hD1000 K1.out O1.out p x o g _ X1.out) ?_); rfl; rfl; rfl; rfl; rfl; rintro v2 y2 ⟨a2, c2, rfl, k2, o2⟩; obtain ⟨j1, j2, j3, j4⟩ := k2.c; have K2 := hid k2; have O2 := hid o2; clear k2 o2)
      | ((with_reducible refine step_appR ?_ (Operand.tmp 34) (Operand.tmp 42) _ ?_ _ ?_ _ _ ?_ ?_ (ob w _ N o _ _ D hD1000 (K1.out.alloc _) (O1.out.alloc _) p x o g _ (NW.out _)) ?_); rfl; rfl; rfl; rfl; rfl; rintro v2 y2 ⟨a2, c2, rfl, k2, o2⟩; obtain ⟨j1, j2, j3, j4⟩ := k2.c; have K2 := hid k2; have O2 := hid o2; clear k2 o2)
      | ((with_reducible refine step_appR ?_ (Operand.tmp 31) (Operand.tmp 33) _ ?_ _ ?_ _ _ ?_ ?_ AP1.out ?_); rfl; rfl; rfl; rfl; rfl; rintro v1 y1 ⟨k1, o1, x1⟩; obtain ⟨f1, f2, f3, f4⟩ := k1.c; obtain ⟨q1, q2, q3, q4⟩ := (k1.alloc (.cells #[.int .i64 p, .int .i64 x, .int .u64 o, .int .i64 g] 53)).c; have K1 := hid k1; have O1 := hid o1; have X1 := hid x1; clear k1 o1 x1)
      | ((with_reducible refine step_appR ?_ (Operand.tmp 31) (Operand.tmp 33) _ ?_ _ ?_ _ _ ?_ ?_ AP2.out ?_); rfl; rfl; rfl; rfl; rfl; rintro v1 y1 ⟨k1, o1, x1⟩; obtain ⟨f1, f2, f3, f4⟩ := k1.c; have K1 := hid k1; have O1 := hid o1; have X1 := hid x1; clear k1 o1 x1)
      | ((with_reducible refine step_appR ?_ (Operand.tmp 31) (Operand.tmp 33) _ ?_ _ ?_ _ _ ?_ ?_ AP3.out ?_); rfl; rfl; rfl; rfl; rfl; rintro v1 y1 ⟨k1, o1, x1⟩; obtain ⟨f1, f2, f3, f4⟩ := k1.c; have K1 := hid k1; have O1 := hid o1; have X1 := hid x1; clear k1 o1 x1))
  all_goals
    obtain ⟨z1, z2, z3, z4, z5⟩ := K2.out.fin O2.out (show D.length < 1000 by have := HN.out; omega)
    have Z3 := hid z3
    have Z4 := hid z4
    have Z5 := hid z5
    clear z3 z4 z5 K2 O2 AP1 AP2 AP3 NW HD K1 O1 X1
    go_wp2_with (first
      | (refine wpList_load_known (by rfl) 29 (.tmp 4) rfl w.heap.size rfl 29 #[.int .i64 N, .slice a2 (D.length + 1) c2, .int .u64 ((o : Int) + 1)] (0, 0) _ Z3.out Try.underlying29 rfl (by kernel_rfl) ?_)
      | (refine wpList_store_row rfl 29 (.tmp 8) (.tmp 49) rfl (w.heap.size + 1) #[.int .i64 N, .slice a2 (D.length + 1) c2, .int .u64 ((o : Int) + 1)] rfl rfl 29 _ Z4.out (by kernel_rfl) (by rfl) (by simp [Value.oneCell']) ?_))
    refine bodyPost_ret (v := .tuple #[.agg #[.int .i64 N, .slice a2 (D.length + 1) c2, .int .u64 ((o : Int) + 1)], .int .i64 0]) (results_row_tmp10 rfl _ _ (w.heap.size + 1) 29 #[.int .i64 N, .slice a2 (D.length + 1) c2, .int .u64 ((o : Int) + 1)] (0, 0) _ (by rfl) (setRow_heap _ _ _ _ _ _ Z4.out) Try.underlying29 rfl (by kernel_rfl) _ (by rfl)) rfl Z5.out
end Go.Proofs.Ytaogpodncphpjaa
