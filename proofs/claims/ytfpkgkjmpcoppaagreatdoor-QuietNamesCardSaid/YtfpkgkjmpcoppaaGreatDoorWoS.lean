/- world.begin: the rings of a world of one. -/
import Derived.Test.YtfpkgkjmpcoppaaGreatDoorWoQ
import Derived.Test.YtfpkgkjmpcoppaaGreatDoorWoR
import Derived.Deep.AppendLies
namespace Go.Proofs.YtfpkgkjmpcoppaaGreatDoor
open Go.RowKit
set_option linter.unusedVariables false
set_option linter.unusedSimpArgs false
set_option maxRecDepth 20000
theorem infoRgp : (Tryz.prog.info? 107).map (fun i => (i.zero, i.size, i.bytes)) = some (some (.pointer none), 1, 8) := by kernel_rfl
/-- The world's own cells, its rings and its log as they are. -/
structure Wn (w : World) (W b1 b2 tb q sb ib mb : Nat) (rv lv : Value) : Prop where
  h : w.heap[W]? = some (.cells #[.int .i64 1, .int .i64 1, .int .i64 1, .pointer (some ⟨b1, 0, none⟩), .pointer (some ⟨b2, 0, none⟩), .int .i64 6, .int .i64 7, .int .i64 8, .int .i64 1, rv, .slice (some ⟨tb, 0, none⟩) 1 1, .pointer (some ⟨q, 0, none⟩), .pointer (some ⟨sb, 0, none⟩), .pointer (some ⟨ib, 0, none⟩), .slice (some ⟨mb, 0, none⟩) 1 1, lv] 95 (0, 0))
section
variable {w w' : World} {W b1 b2 tb q sb ib mb : Nat} {rv lv : Value}
theorem Wn.kept (h : Wn w W b1 b2 tb q sb ib mb rv lv) (e : w'.heap[W]? = w.heap[W]?) : Wn w' W b1 b2 tb q sb ib mb rv lv := ⟨e.trans h.h⟩
theorem Wn.lt (h : Wn w W b1 b2 tb q sb ib mb rv lv) : W < w.heap.size := blk_lt h.h
/-- Behind the first loop: there is one ring, and it is empty. -/
def RingsP (W b1 b2 tb q sb ib mb : Nat) (w w' : World) : Prop :=
  ∃ rb rg rc, Wn w' W b1 b2 tb q sb ib mb (.slice (some ⟨rb, 0, none⟩) 1 rc) (.slice none 0 0) ∧ w'.cell? ⟨rb, 0, none⟩ = some (.pointer (some ⟨rg, 0, none⟩)) ∧ Rg w' rg [] 0 false 0 ∧ w.heap.size ≤ rb ∧ w.heap.size ≤ rg ∧ rb < w'.heap.size ∧ rb ≠ rg ∧ OnL [W] w w'
/-- What is known behind ring.New, and behind the append's slice. -/
def Ry (W b1 b2 tb q sb ib mb : Nat) (w : World) (rg : Nat) (y : World) : Prop :=
  Wn y W b1 b2 tb q sb ib mb (.slice none 0 0) (.slice none 0 0) ∧ y.cell? ⟨W, 9, none⟩ = some (.slice none 0 0) ∧ y.frozen? ⟨W, 9, none⟩ = false ∧ (y.alloc (.cells #[.pointer (some ⟨rg, 0, none⟩)] 107)).heap[y.heap.size]? = some (.cells #[.pointer (some ⟨rg, 0, none⟩)] 107 (0, 0)) ∧ Rg y rg [] 0 false 0 ∧ w.heap.size ≤ rg ∧ Below w.heap.size w y
theorem ry_0 (h : Wn w W b1 b2 tb q sb ib mb (.slice none 0 0) (.slice none 0 0)) :
    Calls Tryz.prog 72 #[] w.drew fun e y => ∃ v, e = .returned v ∧ ∃ rg, v = .pointer (some ⟨rg, 0, none⟩) ∧ Hid (Ry W b1 b2 tb q sb ib mb w rg y) := by
  refine (new_r _).mono ?_
  rintro e y ⟨rg, rfl, hr, hk, hb⟩
  have hb : Below w.heap.size w y := ⟨hb.os, hb.tape, hb.output, hb.size, hb.block⟩
  have h2 := h.kept (hb.block _ h.lt)
  exact ⟨_, rfl, rg, rfl, hid ⟨h2, blk_cell h2.h rfl, blk_free h2.h, heap_alloc_new _ _, hr, hk, hb⟩⟩
theorem ry_2 {y w4 : World} {rg gg cap : Nat} (h : Wn w W b1 b2 tb q sb ib mb (.slice none 0 0) (.slice none 0 0)) (F : Ry W b1 b2 tb q sb ib mb w rg y)
    (hown : w4.ownsRow w.heap.size 107 1 (.slice (some ⟨gg, 0, none⟩) (0 + 1) cap) (0 + 1) ([] ++ [.pointer (some ⟨rg, 0, none⟩)])) (hgrow : (y.alloc (.cells #[.pointer (some ⟨rg, 0, none⟩)] 107)).grownBy w4 none) (hat : (none : Option Nat) = some gg ∨ gg = y.heap.size + 1) :
    w4.cell? ⟨W, 9, none⟩ = some (.slice none 0 0) ∧ w4.frozen? ⟨W, 9, none⟩ = false ∧ RingsP W b1 b2 tb q sb ib mb w (w4.setCell ⟨W, 9, none⟩ (.slice (some ⟨gg, 0, none⟩) 1 cap)) := by
  obtain ⟨hW, c9, f9, _, hr, hk, hb⟩ := F
  have hlt := h.lt
  have hs := hb.size
  have hrl := hr.lt
  have hgg : gg = y.heap.size + 1 := hat.resolve_left (by simp)
  have hsz := hgrow.size
  simp only [World.size_alloc] at hsz
  have hk4 : ∀ k, k < y.heap.size → w4.heap[k]? = y.heap[k]? := fun k hk => by
    rw [hgrow.block k (by simp; omega) (by simp), Below.heap_alloc _ _ _ hk]
  have hW4 := hW.kept (hk4 _ hW.lt)
  have eW : (w4.setCell ⟨W, 9, none⟩ (.slice (some ⟨gg, 0, none⟩) 1 cap)).heap.size = w4.heap.size := by simp [World.setCell]
  have hne : ∀ k, k ≠ W → (w4.setCell ⟨W, 9, none⟩ (.slice (some ⟨gg, 0, none⟩) 1 cap)).heap[k]? = w4.heap[k]? := fun k hk => Below.heap_setCell _ _ _ _ hk
  have hcel := hown.cells (g := gg) rfl 0 (.pointer (some ⟨rg, 0, none⟩)) rfl
  obtain ⟨_, ⟨he, _⟩ | ⟨g, c2, cur, he, hbg, hgg', r1, r2, r3, r4⟩⟩ := hown
  · cases he
  have hg2 : g = gg := by injection he with e1 e2 e3; injection e1 with e1; injection e1 with e1; exact e1.symm
  subst hg2
  have hbg' : w.heap.size ≤ g := hbg
  have hgl : g < w4.heap.size := blk_lt hgg'
  refine ⟨blk_cell hW4.h rfl, blk_free hW4.h, g, rg, cap, ⟨blk_set _ hW4.h rfl⟩, ?_, hr.kept ((hne _ (by omega)).trans (hk4 _ hrl)), hbg', hk, by rw [eW]; exact hgl, by omega, ?_⟩
  · have hWg : g ≠ W := by omega
    refine (World.cell?_of_block (hne _ hWg)).trans ?_
    simpa [Addr.add] using hcel
  · refine ⟨hgrow.os.trans hb.os, hgrow.tape.trans hb.tape, hgrow.output.trans hb.output, by rw [eW]; omega, fun k h1 h2 => ?_⟩
    simp at h2
    exact (hne k h2).trans ((hk4 k (by omega)).trans (hb.block k h1))
theorem cell_alloc_lt {w : World} {k i : Nat} {v : Value} (o : Obj) (hk : k < w.heap.size) (h : w.cell? ⟨k, i, none⟩ = some v) : (w.alloc o).cell? ⟨k, i, none⟩ = some v := by
  rw [← h]; exact World.cell?_of_block (Below.heap_alloc _ _ _ hk)
theorem step_call_law {P : Program} {ops : Array Oper} {o : Oper} {a : Act} {w : World} {K : Act → World → Prop} {Q : Exit → Act → World → Prop} {E : Prop} (hgd : o.guard = none)
    (f : FuncId) (args : Array Value) (hrun : (execOp a.eval o).run P w = .ok (.enter f args) w) {R : Value → World → Prop} (hc : Calls P f args w fun e y => ∃ v, e = .returned v ∧ R v y) (h : ∀ v y, R v y → K (a.put o.dst v) y) :
    if Region.wanted o (yielded ops a.tmps) = true then Oper.wp P o a w K Q else E := by
  have hw : Region.wanted o (yielded ops a.tmps) = true := by simp [Region.wanted, hgd]
  rw [if_pos hw]
  unfold Oper.wp
  rw [hrun, Oper.upon_enter]
  refine hc.mono fun e y hh => ?_
  obtain ⟨v, rfl, hv⟩ := hh
  exact h _ _ hv
/-- A machine's cells, all zero; fresh. -/
@[reducible] def mz : Array Value := #[.int .i64 0, .int .i64 0, .int .i64 0, .int .i64 0, .int .i64 0, .int .i64 0, .int .i64 0, .bool false, .bool false, .slice none 0 0, .int .i64 0, .int .i64 0, .int .i64 0, .int .i64 0, .int .i64 0, .int .i64 0, .int .u64 0, .int .i64 0, .bool false, .int .i64 0]
@[reducible] def mf (pl p : Int) : Array Value := #[.int .i64 pl, .int .i64 p, .int .i64 (-1), .int .i64 (-1), .int .i64 (-1), .int .i64 (-1), .int .i64 0, .bool false, .bool false, .slice none 0 0, .int .i64 0, .int .i64 0, .int .i64 0, .int .i64 0, .int .i64 0, .int .i64 0, .int .u64 0, .int .i64 0, .bool false, .int .i64 0]
theorem wp_store_blk {P : Program} {w : World} {o : Oper} {a : Act} {K : Act → World → Prop} {Q : Exit → Act → World → Prop} (ty : TypeId) (x y : Operand) (ho : o.op = .store ty x y)
    (g : Nat) (c cells : Array Value) (t : TypeId) (hx : a.eval x = .pointer (some ⟨g, 0, none⟩)) (hy : a.eval y = .agg cells) (hg : w.heap[g]? = some (.cells c t (0, 0)))
    (hi : (P.info? ty).map (·.size) = some cells.size) (hs : c.size = cells.size) (h1 : cells.all (·.oneCell') = true)
    (h : K (a.put o.dst undef) (w.setRow g cells)) : o.wp P a w K Q := by
  unfold Oper.wp execOp
  have e : (storeVar ty ⟨g, 0, none⟩ (.agg cells)).run P w = .ok () (w.setRow g cells) := run_storeVar_row _ _ t ty c cells hg hi hs h1
  simp only [ho, hx, hy, Instr.storeAt, Instr.sureAddr, Sem.run_bind, Sem.run_pure, Result.andThen_ok, e]
  exact h
/-- What is known behind mach.Fresh. -/
def Fy (W mb : Nat) (w y : World) : Prop :=
  Below w.heap.size w y ∧ y.heap[mb]? = some (.cells mz 101 (0, 0)) ∧ y.cell? ⟨W, 14, none⟩ = some (.slice (some ⟨mb, 0, none⟩) 1 1)
theorem fy_0 (h : Wn w W b1 b2 tb q sb ib mb rv lv) (hm : w.heap[mb]? = some (.cells mz 101 (0, 0))) :
    Calls Tryz.prog 46 #[] w.drew fun e y => ∃ v, e = .returned v ∧ v = .agg (mach0 16 (-1) 0) ∧ Hid (Fy W mb w y) := by
  refine (fresh_any _).mono ?_
  rintro e y ⟨rfl, hb⟩
  have hb : Below w.heap.size w y := ⟨hb.os, hb.tape, hb.output, hb.size, hb.block⟩
  exact ⟨_, rfl, rfl, hid ⟨hb, (hb.block _ (blk_lt hm)).trans hm, blk_cell (h.kept (hb.block _ h.lt)).h rfl⟩⟩
theorem fx_1 {y : World} (h : Fy W mb w y) : OnL [mb] w (y.setRow mb (mf 16 (-1))) ∧ (y.setRow mb (mf 16 (-1))).heap[mb]? = some (.cells (mf 16 (-1)) 101 (0, 0)) := by
  obtain ⟨hb, hm, _⟩ := h
  refine ⟨⟨hb.os, hb.tape, hb.output, by rw [row_size]; exact hb.size, fun k h1 h2 => (row_other _ _ _ _ (by simpa using h2)).trans (hb.block k h1)⟩, ?_⟩
  simp [World.setRow, Array.getElem?_modify, hm]
/-- Behind the machine's two stores. -/
def MidP (W b1 b2 tb q sb ib mb rb rg rc : Nat) (w w' : World) : Prop :=
  Wn w' W b1 b2 tb q sb ib mb (.slice (some ⟨rb, 0, none⟩) 1 rc) (.slice none 0 0) ∧ w'.cell? ⟨rb, 0, none⟩ = some (.pointer (some ⟨rg, 0, none⟩)) ∧ Rg w' rg [] 0 false 0 ∧ w.heap.size ≤ rb ∧ w.heap.size ≤ rg ∧ rb < w'.heap.size ∧ rb ≠ rg ∧ w'.heap[mb]? = some (.cells (mf 1 0) 101 (0, 0)) ∧ OnL [W, mb] w w'
theorem mid_1 {rb rg rc : Nat} {wr w2 w3 : World} (h : Wn wr W b1 b2 tb q sb ib mb (.slice (some ⟨rb, 0, none⟩) 1 rc) (.slice none 0 0) ∧ wr.cell? ⟨rb, 0, none⟩ = some (.pointer (some ⟨rg, 0, none⟩)) ∧ Rg wr rg [] 0 false 0 ∧ w.heap.size ≤ rb ∧ w.heap.size ≤ rg ∧ rb < wr.heap.size ∧ rb ≠ rg ∧ OnL [W] w wr)
    (h2 : OnL [mb] wr w2) (h3 : OnL [mb] w2 w3) (hb : w3.heap[mb]? = some (.cells (mf 1 0) 101 (0, 0))) (hWm : W ≠ mb) (hml : mb < w.heap.size) : MidP W b1 b2 tb q sb ib mb rb rg rc w w3 := by
  obtain ⟨hW, c, hr, l1, l2, l3, l4, ho⟩ := h
  have h23 := h2.trans h3
  have e : ∀ k, k < wr.heap.size → k ≠ mb → w3.heap[k]? = wr.heap[k]? := fun k h1 h2 => h23.block k h1 (by simpa using h2)
  exact ⟨hW.kept (e _ hW.lt hWm), (World.cell?_of_block (e rb l3 (by omega))).trans c, hr.kept (e _ hr.lt (by omega)), l1, l2, Nat.lt_of_lt_of_le l3 h23.size, l4, hb, (ho.mono (by simp)).trans (h23.mono (by simp))⟩
set_option maxHeartbeats 8000000 in
theorem begin_1 (Ψ Φ : World → Prop) (h : Wn w W b1 b2 tb q sb ib mb (.slice none 0 0) (.slice none 0 0)) (hm : w.heap[mb]? = some (.cells mz 101 (0, 0))) (hWm : W ≠ mb)
    (HP : ∀ w3 rb rg rc, MidP W b1 b2 tb q sb ib mb rb rg rc w w3 → Calls Tryz.prog 75 #[.pointer (some ⟨q, 0, none⟩), .slice (some ⟨w3.heap.size, 0, none⟩) 1 1] (w3.alloc (.cells #[.int .i64 0] 3)) fun e w4 => e = .returned (.tuple #[]) ∧ Ψ w4)
    (HS : ∀ w4, Ψ w4 → Calls Tryz.prog 76 #[.pointer (some ⟨W, 0, none⟩), .agg #[.int .i64 0, .int .i64 0, .int .i64 (-1), .int .i64 (-1), .int .i64 0]] w4 fun e w5 => e = .returned (.tuple #[]) ∧ Φ w5) :
    Calls Tryz.prog 42 #[.pointer (some ⟨W, 0, none⟩)] w fun e w' => e = .returned (.tuple #[]) ∧ Φ w' := by
  have HP := hid HP
  have HS := hid HS
  have hml := blk_lt hm
  have H := hid h
  have HM := hid hm
  clear hm
  have a0 : w.cell? ⟨W, 0, none⟩ = some (.int .i64 1) := blk_cell h.h rfl
  have a9 : w.cell? ⟨W, 9, none⟩ = some (.slice none 0 0) := blk_cell h.h rfl
  go_enter Tryz.func42, Tryz.ntmps42
  go_wp2_with fail
  go_loopw [9] (fun x wr => (x = .int .i64 0 ∧ wr = w) ∨ (x = .int .i64 1 ∧ Hid (RingsP W b1 b2 tb q sb ib mb w wr))) (fun x _ => 1 - (intOf x).toNat)
  case atStart => exact .inl ⟨rfl, rfl⟩
  case round =>
    obtain ⟨rfl, rfl⟩ | ⟨rfl, R⟩ := hrel
    · obtain ⟨i0, hi, hz0, hz1, hz2⟩ := info_parts infoRgp
      go_wp2_with fail
      go_region_law? (first
        | (refine step_call_law (by rfl) 72 #[] (by first | kernel_rfl | go_simp) (ry_0 H.out) ?_; rintro v y ⟨rg, rfl, FY⟩; have y9 := FY.out.2.1; have yf := FY.out.2.2.1; have yx := FY.out.2.2.2.1; have yz := cell_alloc_lt (.cells #[.pointer (some ⟨rg, 0, none⟩)] 107) FY.out.1.lt y9)
        | (refine step_append_lies _ (by rfl) _ _ _ (by rfl) wr.heap.size 107 i0 _ 1 8 Tryz.underlying91 hi hz0 hz1 hz2 rfl (by omega) _ 0 [] (by rfl) (World.ownsRow_nil _ _ _ _) ⟨y.heap.size, 0, none⟩ 1 1 [.pointer (some ⟨rg, 0, none⟩)] (by rfl) (by rfl) (World.news_of_block (cs := #[.pointer (some ⟨rg, 0, none⟩)]) (t := 107) (fr := (0, 0)) yx) (by simp [Value.oneCell']) (by omega) (by unfold maxLen; omega) (by omega) (by have := FY.out.2.2.2.2.2.2.size; simp; omega) (y.heap.size + 1) (by simp) ?_; intro gg cap w4 hown4 hgrow4 hat4 hlt4; obtain ⟨y0, f0, FN⟩ := ry_2 H.out FY.out hown4 hgrow4 hat4; have FN := hid FN; clear hown4 hgrow4 hat4 hlt4)
        )
      all_goals
        have FX := FN
        clear FN y0 f0 y9 yf yx yz FY H h a0 a9 hi hz0 hz1 hz2
        go_wp2_with fail
        go_roundw
        case rel => exact .inr ⟨by go_num, FX⟩
        case measure => simp [intOf]
    · obtain ⟨rb, rg, rc, RR⟩ := R.out
      have RM := (RR.2.2.2.2.2.2.2.block _ (blk_lt HM.out) (by simp; exact fun e => hWm e.symm)).trans HM.out
      have HR := hid RM
      clear RM
      have a1 : wr.cell? ⟨W, 1, none⟩ = some (.int .i64 1) := blk_cell RR.1.h rfl
      have a11 : wr.cell? ⟨W, 14, none⟩ = some (.slice (some ⟨mb, 0, none⟩) 1 1) := blk_cell RR.1.h rfl
      clear h a0 a9
      go_wp2_with fail
      go_loopw [36] (fun x w2 => (x = .int .i64 0 ∧ w2 = wr) ∨ (x = .int .i64 1 ∧ Hid (OnL [mb] wr w2 ∧ w2.heap[mb]? = some (.cells (mf 16 (-1)) 101 (0, 0))))) (fun x _ => 1 - (intOf x).toNat)
      case atStart => exact .inl ⟨rfl, rfl⟩
      case round =>
        obtain ⟨rfl, rfl⟩ | ⟨rfl, R2⟩ := hrel
        · go_wp2_with fail
          refine wp_region_held (S := fun w' => w'.cell? ⟨W, 14, none⟩ = some (.slice (some ⟨mb, 0, none⟩) 1 1)) (by kernel_rfl) ?_
          change wpAnyH _ _ _ _ _ _ _ _ (World.drew _)
          have hS : (fun w' : World => w'.cell? ⟨W, 14, none⟩ = some (.slice (some ⟨mb, 0, none⟩) 1 1)) (World.drew wr) := a11
          refine wpAnyH_take (i := 0) (oi := ⟨some 39, .move (.tmp 0), _, _, _, none⟩) (v := .pointer (some ⟨W, 0, none⟩)) rfl (by kernel_rfl) (by kernel_rfl) (by kernel_rfl) (fun _ _ _ h => h) (Or.inl ⟨by rfl, fun w' hSw => by go_simp⟩) hS ?_
          simp only [Act.put, List.setIfInBounds_toArray, List.set_cons_zero, List.set_cons_succ]
          refine wpAnyH_take (i := 1) (oi := ⟨some 40, .nilCheck (.tmp 39), _, _, _, none⟩) (v := .pointer (some ⟨W, 0, none⟩)) rfl (by kernel_rfl) (by kernel_rfl) (by kernel_rfl) (fun _ _ _ h => h) (Or.inl ⟨by rfl, fun w' hSw => by go_simp⟩) hS ?_
          simp only [Act.put, List.setIfInBounds_toArray, List.set_cons_zero, List.set_cons_succ]
          refine wpAnyH_take (i := 2) (oi := ⟨some 41, .fieldAddr 95 (.tmp 40) 11, _, _, _, none⟩) (v := .pointer (some ⟨W, 14, none⟩)) rfl (by kernel_rfl) (by kernel_rfl) (by kernel_rfl) (fun _ _ _ h => h) (Or.inl ⟨by rfl, fun w' hSw => by go_simp⟩) hS ?_
          simp only [Act.put, List.setIfInBounds_toArray, List.set_cons_zero, List.set_cons_succ]
          refine wpAnyH_take (i := 3) (oi := ⟨some 42, .load 90 (.tmp 41), _, _, _, none⟩) (v := .slice (some ⟨mb, 0, none⟩) 1 1) rfl (by kernel_rfl) (by kernel_rfl) (by kernel_rfl) (fun _ _ _ h => h) (Or.inl ⟨by rfl, fun w' hSw => by dsimp only at hSw; go_simp⟩) hS ?_
          simp only [Act.put, List.setIfInBounds_toArray, List.set_cons_zero, List.set_cons_succ]
          refine wpAnyH_take (i := 4) (oi := ⟨some 43, .move (.tmp 3), _, _, _, none⟩) (v := .int .i64 0) rfl (by kernel_rfl) (by kernel_rfl) (by kernel_rfl) (fun _ _ _ h => h) (Or.inl ⟨by rfl, fun w' hSw => by go_simp⟩) hS ?_
          simp only [Act.put, List.setIfInBounds_toArray, List.set_cons_zero, List.set_cons_succ]
          refine wpAnyH_ready (rs := [5]) (by kernel_rfl) (by simp) ?_
          refine AllReadyH.cons (o := ⟨some 44, .call { callee := .value (.func 46), args := #[], argTypes := #[] }, _, _, _, none⟩) rfl (fun K hK => ?_) AllReadyH.nil
          refine step_call_law rfl 46 #[] (by kernel_rfl) (fy_0 RR.1 HR.out) ?_
          rintro v y ⟨rfl, FY⟩
          refine hK.out _ _ FY.out.2.2 (fun hS2 => ?_)
          clear hK K
          simp only [Act.put, List.setIfInBounds_toArray, List.set_cons_zero, List.set_cons_succ]
          refine wpAnyH_take (i := 6) (oi := ⟨some 45, .build 101 #[(0, .tmp 44)], _, _, _, none⟩) (v := .agg (mf 16 (-1))) rfl (by kernel_rfl) (by kernel_rfl) (by kernel_rfl) (fun _ _ _ h => h) (Or.inl ⟨by rfl, fun w' hSw => by go_simp⟩) hS2 ?_
          simp only [Act.put, List.setIfInBounds_toArray, List.set_cons_zero, List.set_cons_succ]
          refine wpAnyH_take (i := 7) (oi := ⟨some 46, .indexAddr 90 (.tmp 42) (.tmp 43), _, _, _, none⟩) (v := .pointer (some ⟨mb, 0, none⟩)) rfl (by kernel_rfl) (by kernel_rfl) (by kernel_rfl) (fun _ _ _ h => h) (Or.inl ⟨by rfl, fun w' hSw => by go_simp⟩) hS2 ?_
          simp only [Act.put, List.setIfInBounds_toArray, List.set_cons_zero, List.set_cons_succ]
          refine wpAnyH_ready (rs := [8]) (by kernel_rfl) (by simp) ?_
          refine AllReadyH.cons (o := ⟨none, .store 101 (.tmp 46) (.tmp 45), _, _, _, none⟩) rfl (fun K hK => ?_) AllReadyH.nil
          rw [if_pos (by rfl)]
          refine wp_store_blk 101 (.tmp 46) (.tmp 45) rfl mb mz (mf 16 (-1)) 101 rfl rfl FY.out.2.1 (by kernel_rfl) rfl (by simp [mf, Value.oneCell']) ?_
          refine hK.out _ _ ((World.cell?_of_block (row_other _ _ _ _ hWm)).trans FY.out.2.2) (fun hS3 => ?_)
          clear hK K
          refine wpAnyH_done (by kernel_rfl) ?_ _
          have FX := hid (fx_1 FY.out)
          clear hS hS2 hS3 FY a1 a11
          go_wp2_with fail
          go_roundw
          case rel => exact .inr ⟨by go_num, FX⟩
          case measure => simp [intOf]
        · have R2o := R2.out
          have c14 : wr.cell? ⟨W, 14, none⟩ = some (.slice (some ⟨mb, 0, none⟩) 1 1) := (World.cell?_of_block (R2o.1.block _ RR.1.lt (by simpa using hWm))).trans a11
          have k0 : wr.cell? ⟨mb, 0, none⟩ = some (.int .i64 16) := blk_cell R2o.2 rfl
          have k1 : wr.cell? ⟨mb, 1, none⟩ = some (.int .i64 (-1)) := blk_cell R2o.2 rfl
          have kf : ∀ i, wr.frozen? ⟨mb, i, none⟩ = false := fun i => blk_free R2o.2
          have BX := hid (fun (w3 : World) (ho : OnL [mb] wr w3) (hb : w3.heap[mb]? = some (.cells (mf 1 0) 101 (0, 0))) => mid_1 RR R2o.1 ho hb hWm hml)
          have BB := hid R2o.2
          clear R2o a1 a11 RR HR R
          go_wp2_with fail
          go_region
          all_goals
            obtain ⟨w3, hw3⟩ : ∃ w3, w3 = ((wr.setCell ⟨mb, 0, none⟩ (.int .i64 1)).setCell ⟨mb, 1, none⟩ (.int .i64 0)).drew := ⟨_, rfl⟩
            have M := BX.out w3 (by rw [hw3]; exact (OnL.set _ _ _ _ (by simp)).trans ((OnL.set _ _ _ _ (by simp)).trans (OnL.of_quiet ⟨1, rfl⟩))) (by rw [hw3]; exact blk_set _ (blk_set _ BB.out rfl) rfl)
            rw [← hw3]
            have c11 : w3.cell? ⟨W, 11, none⟩ = some (.pointer (some ⟨q, 0, none⟩)) := blk_cell M.1.h rfl
            have PP := hid (HP.out w3 _ _ _ M)
            clear hw3 BX BB M c14 k0 k1 kf
            go_wp2_with fail
            refine PP.out.mono ?_
            rintro e w4 ⟨rfl, h4⟩
            have SS := hid (HS.out w4 h4)
            clear h4 PP c11
            go_wp2_with fail
            refine SS.out.mono ?_
            rintro e w5 ⟨rfl, h5⟩
            have F5 := hid h5
            clear h5 SS
            go_wp2
            go_end0
            exact ⟨rfl, F5.out⟩
end
end Go.Proofs.YtfpkgkjmpcoppaaGreatDoor
