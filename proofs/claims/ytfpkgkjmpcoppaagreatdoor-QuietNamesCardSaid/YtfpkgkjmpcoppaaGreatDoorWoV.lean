/- world.New's parts, in whatever order: a lemma for each state. Written by wip/tools/gennew.py. -/
import Derived.Test.YtfpkgkjmpcoppaaGreatDoorWoU
namespace Go.Proofs.YtfpkgkjmpcoppaaGreatDoor
open Go.RowKit
set_option linter.unusedVariables false
set_option linter.unusedSimpArgs false
set_option maxRecDepth 20000
/-- The region's text. -/
def opsN : Array Oper := #[{ dst := some 21, op := Op.load 24 (Operand.tmp 1), type := 24, pos := "world.go:81", after := #[], guard := none }, { dst := some 22, op := Op.move (Operand.tmp 6), type := 3, pos := "world.go:81", after := #[], guard := none }, { dst := some 23, op := Op.fieldAddr 24 (Operand.tmp 1) 2, type := 0, pos := "world.go:81", after := #[], guard := none }, { dst := some 24, op := Op.load 3 (Operand.tmp 23), type := 3, pos := "world.go:81", after := #[{ on := 2, ground := Ground.data }], guard := none }, { dst := some 25, op := Op.binOp BinOp.add 3 (Operand.tmp 22) (Operand.tmp 24) 3, type := 3, pos := "world.go:81", after := #[{ on := 1, ground := Ground.data }, { on := 3, ground := Ground.data }], guard := none }, { dst := some 26, op := Op.call { callee := Callee.value (Operand.func 38), args := #[Operand.tmp 25], argTypes := #[3] }, type := 81, pos := "world.go:83", after := #[{ on := 4, ground := Ground.data }], guard := none }, { dst := some 27, op := Op.move (Operand.tmp 6), type := 3, pos := "world.go:81", after := #[], guard := none }, { dst := some 28, op := Op.fieldAddr 24 (Operand.tmp 1) 2, type := 0, pos := "world.go:81", after := #[], guard := none }, { dst := some 29, op := Op.load 3 (Operand.tmp 28), type := 3, pos := "world.go:81", after := #[{ on := 7, ground := Ground.data }], guard := none }, { dst := some 30, op := Op.binOp BinOp.add 3 (Operand.tmp 27) (Operand.tmp 29) 3, type := 3, pos := "world.go:81", after := #[{ on := 6, ground := Ground.data }, { on := 8, ground := Ground.data }], guard := none }, { dst := some 31, op := Op.call { callee := Callee.value (Operand.func 38), args := #[Operand.tmp 30], argTypes := #[3] }, type := 81, pos := "world.go:84", after := #[{ on := 9, ground := Ground.data }, { on := 5, ground := Ground.chain }], guard := none }, { dst := some 32, op := Op.move (Operand.tmp 4), type := 3, pos := "world.go:81", after := #[], guard := none }, { dst := some 33, op := Op.move (Operand.tmp 5), type := 3, pos := "world.go:81", after := #[], guard := none }, { dst := some 34, op := Op.move (Operand.tmp 6), type := 3, pos := "world.go:81", after := #[], guard := none }, { dst := some 35, op := Op.fieldAddr 24 (Operand.tmp 1) 2, type := 0, pos := "world.go:81", after := #[], guard := none }, { dst := some 36, op := Op.load 3 (Operand.tmp 35), type := 3, pos := "world.go:81", after := #[{ on := 14, ground := Ground.data }], guard := none }, { dst := some 37, op := Op.build 84 #[(0, Operand.tmp 34), (1, Operand.tmp 36)], type := 84, pos := "world.go:81", after := #[{ on := 13, ground := Ground.data }, { on := 15, ground := Ground.data }], guard := none }, { dst := some 38, op := Op.fieldAddr 24 (Operand.tmp 1) 0, type := 0, pos := "world.go:81", after := #[], guard := none }, { dst := some 39, op := Op.load 3 (Operand.tmp 38), type := 3, pos := "world.go:81", after := #[{ on := 17, ground := Ground.data }], guard := none }, { dst := some 40, op := Op.makeSlice 35 (Operand.tmp 39) (Operand.tmp 39), type := 35, pos := "world.go:81", after := #[{ on := 18, ground := Ground.data }, { on := 18, ground := Ground.data }], guard := none }, { dst := some 41, op := Op.fieldAddr 24 (Operand.tmp 1) 0, type := 0, pos := "world.go:81", after := #[], guard := none }, { dst := some 42, op := Op.load 3 (Operand.tmp 41), type := 3, pos := "world.go:81", after := #[{ on := 20, ground := Ground.data }], guard := none }, { dst := some 43, op := Op.call { callee := Callee.value (Operand.func 39), args := #[Operand.tmp 42], argTypes := #[3] }, type := 85, pos := "world.go:89", after := #[{ on := 21, ground := Ground.data }, { on := 10, ground := Ground.chain }], guard := none }, { dst := some 44, op := Op.fieldAddr 24 (Operand.tmp 1) 0, type := 0, pos := "world.go:81", after := #[], guard := none }, { dst := some 45, op := Op.load 3 (Operand.tmp 44), type := 3, pos := "world.go:81", after := #[{ on := 23, ground := Ground.data }], guard := none }, { dst := some 46, op := Op.call { callee := Callee.value (Operand.func 40), args := #[Operand.tmp 45], argTypes := #[3] }, type := 87, pos := "world.go:90", after := #[{ on := 24, ground := Ground.data }, { on := 22, ground := Ground.chain }], guard := none }, { dst := some 47, op := Op.fieldAddr 24 (Operand.tmp 1) 0, type := 0, pos := "world.go:81", after := #[], guard := none }, { dst := some 48, op := Op.load 3 (Operand.tmp 47), type := 3, pos := "world.go:81", after := #[{ on := 26, ground := Ground.data }], guard := none }, { dst := some 49, op := Op.fieldAddr 24 (Operand.tmp 1) 1, type := 0, pos := "world.go:81", after := #[], guard := none }, { dst := some 50, op := Op.load 3 (Operand.tmp 49), type := 3, pos := "world.go:81", after := #[{ on := 28, ground := Ground.data }], guard := none }, { dst := some 51, op := Op.call { callee := Callee.value (Operand.func 41), args := #[Operand.tmp 48, Operand.tmp 50], argTypes := #[3, 3] }, type := 46, pos := "world.go:91", after := #[{ on := 27, ground := Ground.data }, { on := 29, ground := Ground.data }, { on := 25, ground := Ground.chain }], guard := none }, { dst := some 52, op := Op.fieldAddr 24 (Operand.tmp 1) 1, type := 0, pos := "world.go:81", after := #[], guard := none }, { dst := some 53, op := Op.load 3 (Operand.tmp 52), type := 3, pos := "world.go:81", after := #[{ on := 31, ground := Ground.data }], guard := none }, { dst := some 54, op := Op.makeSlice 90 (Operand.tmp 53) (Operand.tmp 53), type := 90, pos := "world.go:81", after := #[{ on := 32, ground := Ground.data }, { on := 32, ground := Ground.data }], guard := none }, { dst := some 55, op := Op.build 95 #[(0, Operand.tmp 21), (1, Operand.tmp 26), (2, Operand.tmp 31), (3, Operand.tmp 32), (4, Operand.tmp 33), (5, Operand.tmp 37), (7, Operand.tmp 40), (8, Operand.tmp 43), (9, Operand.tmp 46), (10, Operand.tmp 51), (11, Operand.tmp 54)], type := 95, pos := "world.go:81", after := #[{ on := 0, ground := Ground.data }, { on := 5, ground := Ground.data }, { on := 10, ground := Ground.data }, { on := 11, ground := Ground.data }, { on := 12, ground := Ground.data }, { on := 16, ground := Ground.data }, { on := 19, ground := Ground.data }, { on := 22, ground := Ground.data }, { on := 25, ground := Ground.data }, { on := 30, ground := Ground.data }, { on := 33, ground := Ground.data }], guard := none }, { dst := some 56, op := Op.box 95 (Operand.tmp 55), type := 25, pos := "world.go:81", after := #[{ on := 34, ground := Ground.data }], guard := none }, { dst := some 7, op := Op.assign (Operand.tmp 56), type := 25, pos := "world.go:81", after := #[{ on := 35, ground := Ground.data }, { on := 30, ground := Ground.chain }, { on := 0, ground := Ground.phase }, { on := 1, ground := Ground.phase }, { on := 2, ground := Ground.phase }, { on := 3, ground := Ground.phase }, { on := 4, ground := Ground.phase }, { on := 5, ground := Ground.phase }, { on := 6, ground := Ground.phase }, { on := 7, ground := Ground.phase }, { on := 8, ground := Ground.phase }, { on := 9, ground := Ground.phase }, { on := 10, ground := Ground.phase }, { on := 11, ground := Ground.phase }, { on := 12, ground := Ground.phase }, { on := 13, ground := Ground.phase }, { on := 14, ground := Ground.phase }, { on := 15, ground := Ground.phase }, { on := 16, ground := Ground.phase }, { on := 17, ground := Ground.phase }, { on := 18, ground := Ground.phase }, { on := 19, ground := Ground.phase }, { on := 20, ground := Ground.phase }, { on := 21, ground := Ground.phase }, { on := 22, ground := Ground.phase }, { on := 23, ground := Ground.phase }, { on := 24, ground := Ground.phase }, { on := 25, ground := Ground.phase }, { on := 26, ground := Ground.phase }, { on := 27, ground := Ground.phase }, { on := 28, ground := Ground.phase }, { on := 29, ground := Ground.phase }, { on := 30, ground := Ground.phase }, { on := 31, ground := Ground.phase }, { on := 32, ground := Ground.phase }, { on := 33, ground := Ground.phase }, { on := 34, ground := Ground.phase }, { on := 35, ground := Ground.phase }], guard := none }]
@[reducible] def FrN (bx : Nat) (v26 v31 v40 v43 v46 v51 v54 : Value) : Act := { tmps := #[.agg #[.int .i64 1, .int .i64 1, .int .i64 1], .pointer (some ⟨bx, 0, none⟩), .pointer none, .int .i64 0, .int .i64 6, .int .i64 7, .int .i64 8, undef, .agg #[.int .i64 1, .int .i64 1, .int .i64 1], .bool true, .bool false, .pointer (some ⟨bx, 0, none⟩), .int .i64 1, .int .i64 3, .int .i64 6, .int .i64 6, .int .i64 7, .int .i64 7, .pointer (some ⟨bx, 1, none⟩), .int .i64 1, .int .i64 8, .agg #[.int .i64 1, .int .i64 1, .int .i64 1], .int .i64 8, .pointer (some ⟨bx, 2, none⟩), .int .i64 1, .int .i64 9, v26, .int .i64 8, .pointer (some ⟨bx, 2, none⟩), .int .i64 1, .int .i64 9, v31, .int .i64 6, .int .i64 7, .int .i64 8, .pointer (some ⟨bx, 2, none⟩), .int .i64 1, .agg #[.int .i64 8, .int .i64 1], .pointer (some ⟨bx, 0, none⟩), .int .i64 1, v40, .pointer (some ⟨bx, 0, none⟩), .int .i64 1, v43, .pointer (some ⟨bx, 0, none⟩), .int .i64 1, v46, .pointer (some ⟨bx, 0, none⟩), .int .i64 1, .pointer (some ⟨bx, 1, none⟩), .int .i64 1, v51, .pointer (some ⟨bx, 1, none⟩), .int .i64 1, v54, undef, undef, undef, undef, undef], defers := [] }
@[reducible] def FrE (bx : Nat) (v26 v31 v40 v43 v46 v51 v54 v55 v56 : Value) : Act := { tmps := #[.agg #[.int .i64 1, .int .i64 1, .int .i64 1], .pointer (some ⟨bx, 0, none⟩), .pointer none, .int .i64 0, .int .i64 6, .int .i64 7, .int .i64 8, v56, .agg #[.int .i64 1, .int .i64 1, .int .i64 1], .bool true, .bool false, .pointer (some ⟨bx, 0, none⟩), .int .i64 1, .int .i64 3, .int .i64 6, .int .i64 6, .int .i64 7, .int .i64 7, .pointer (some ⟨bx, 1, none⟩), .int .i64 1, .int .i64 8, .agg #[.int .i64 1, .int .i64 1, .int .i64 1], .int .i64 8, .pointer (some ⟨bx, 2, none⟩), .int .i64 1, .int .i64 9, v26, .int .i64 8, .pointer (some ⟨bx, 2, none⟩), .int .i64 1, .int .i64 9, v31, .int .i64 6, .int .i64 7, .int .i64 8, .pointer (some ⟨bx, 2, none⟩), .int .i64 1, .agg #[.int .i64 8, .int .i64 1], .pointer (some ⟨bx, 0, none⟩), .int .i64 1, v40, .pointer (some ⟨bx, 0, none⟩), .int .i64 1, v43, .pointer (some ⟨bx, 0, none⟩), .int .i64 1, v46, .pointer (some ⟨bx, 0, none⟩), .int .i64 1, .pointer (some ⟨bx, 1, none⟩), .int .i64 1, v51, .pointer (some ⟨bx, 1, none⟩), .int .i64 1, v54, v55, v56, undef, undef, undef], defers := [] }
@[reducible] def wcN (b1 b2 tb q sb ib mb : Nat) : Array Value := #[.int .i64 1, .int .i64 1, .int .i64 1, .pointer (some ⟨b1, 0, none⟩), .pointer (some ⟨b2, 0, none⟩), .int .i64 6, .int .i64 7, .int .i64 8, .int .i64 1, .slice none 0 0, .slice (some ⟨tb, 0, none⟩) 1 1, .pointer (some ⟨q, 0, none⟩), .pointer (some ⟨sb, 0, none⟩), .pointer (some ⟨ib, 0, none⟩), .slice (some ⟨mb, 0, none⟩) 1 1, .slice none 0 0]
def SN (bx : Nat) (w' : World) : Prop := w'.cell? ⟨bx, 0, none⟩ = some (.int .i64 1) ∧ w'.cell? ⟨bx, 1, none⟩ = some (.int .i64 1) ∧ w'.cell? ⟨bx, 2, none⟩ = some (.int .i64 1)
@[reducible] def ptr (b : Nat) : Value := .pointer (some ⟨b, 0, none⟩)
@[reducible] def sl1 (b : Nat) : Value := .slice (some ⟨b, 0, none⟩) 1 1
theorem step_run_law {P : Program} {ops : Array Oper} {o : Oper} {a : Act} {w : World} {K : Act → World → Prop} {Q : Exit → Act → World → Prop} {E : Prop} (hgd : o.guard = none)
    (v : Value) (w' : World) (hrun : (execOp a.eval o).run P w = .ok (.value v) w') (h : K (a.put o.dst v) w') :
    if Region.wanted o (yielded ops a.tmps) = true then Oper.wp P o a w K Q else E := by
  have hw : Region.wanted o (yielded ops a.tmps) = true := by simp [Region.wanted, hgd]
  rw [if_pos hw]
  unfold Oper.wp
  rw [hrun]
  exact h
section
variable {w0 y : World} {bx : Nat} {f : Nat → Option Nat}
theorem Acc.sn (h : Acc w0 y bx f) : SN bx y := ⟨h.c0, h.c1, h.c2⟩
theorem av_1 (h : Acc w0 y bx f) : Calls Tryz.prog 38 #[.int .i64 9] y fun e y' => ∃ v, e = .returned v ∧ ∃ b g, v = ptr b ∧ Hid (Acc w0 y' bx (up (up f 1 b) 2 g)) :=
  (new_ex 9 9 (by decide) y).mono fun e y' ⟨b, g, he, hm, h1, h2, hb⟩ => ⟨_, he, b, g, rfl, hid (acc_m1 h hb hm h1 h2)⟩
theorem av_2 (h : Acc w0 y bx f) : Calls Tryz.prog 38 #[.int .i64 9] y fun e y' => ∃ v, e = .returned v ∧ ∃ b g, v = ptr b ∧ Hid (Acc w0 y' bx (up (up f 3 b) 4 g)) :=
  (new_ex 9 9 (by decide) y).mono fun e y' ⟨b, g, he, hm, h1, h2, hb⟩ => ⟨_, he, b, g, rfl, hid (acc_m2 h hb hm h1 h2)⟩
theorem av_q (h : Acc w0 y bx f) : Calls Tryz.prog 39 #[.int .i64 1] y fun e y' => ∃ v, e = .returned v ∧ ∃ q p r, v = ptr q ∧ Hid (Acc w0 y' bx (upo (up (up f 6 q) 7 p) 9 r)) :=
  (qnew 1 1 (by decide) y).mono fun e y' ⟨q, p, r, he, hq, h1, h2, h3, hb⟩ => ⟨_, he, q, p, r, rfl, hid (acc_qu h hb hq h1 h2 h3)⟩
theorem av_s (h : Acc w0 y bx f) : Calls Tryz.prog 40 #[.int .i64 1] y fun e y' => ∃ v, e = .returned v ∧ ∃ s, v = ptr s ∧ Hid (Acc w0 y' bx f) :=
  (snew_b y).mono fun e y' ⟨s, he, hb⟩ => ⟨_, he, s, rfl, hid (acc_0 h hb)⟩
theorem av_i (h : Acc w0 y bx f) : Calls Tryz.prog 41 #[.int .i64 1, .int .i64 1] y fun e y' => ∃ v, e = .returned v ∧ ∃ s, v = ptr s ∧ Hid (Acc w0 y' bx f) :=
  (inew_11 y).mono fun e y' ⟨s, he, hb⟩ => ⟨_, he, s, rfl, hid (acc_0 h hb)⟩
/-- What is wanted behind the region. -/
def HQN (w0 : World) (bx : Nat) (Q : Exit → Act → World → Prop) : Prop :=
  ∀ y f b1 g1 b2 g2 tb q p sb ib mb W, Acc w0 y bx f → f 1 = some b1 → f 2 = some g1 → f 3 = some b2 → f 4 = some g2 → f 5 = some tb → f 6 = some q → f 7 = some p → f 8 = some mb → f 0 = some W → y.heap[W]? = some (.cells (wcN b1 b2 tb q sb ib mb) 95 (0, 0)) →
    Q .normal (FrE bx (ptr b1) (ptr b2) (sl1 tb) (ptr q) (ptr sb) (ptr ib) (sl1 mb) (.agg (wcN b1 b2 tb q sb ib mb)) (ptr W)) y
variable {Q : Exit → Act → World → Prop} {b1 g1 b2 g2 tb q p sb ib mb : Nat}
set_option maxHeartbeats 2000000 in
theorem st_511 (HQ : HQN w0 bx Q) (hA : Acc w0 y bx f) (h1 : f 1 = some b1) (h2 : f 2 = some g1) (h3 : f 3 = some b2) (h4 : f 4 = some g2) (h6 : f 6 = some q) (h7 : f 7 = some p) (h5 : f 5 = some tb) (h8 : f 8 = some mb) :
    wpAnyH Tryz.prog .any opsN Q (SN bx) 3 #[true, true, true, true, true, true, true, true, true, true, true, true, true, true, true, true, true, true, true, true, true, true, true, true, true, true, true, true, true, true, true, true, true, true, false, false, false] (FrN bx (ptr b1) (ptr b2) (sl1 tb) (ptr q) (ptr sb) (ptr ib) (sl1 mb)) y := by
  refine wpAnyH_ready (rs := [34]) (by kernel_rfl) (by simp) ?_
  refine AllReadyH.cons (o := ⟨some 55, .build 95 #[(0, .tmp 21), (1, .tmp 26), (2, .tmp 31), (3, .tmp 32), (4, .tmp 33), (5, .tmp 37), (7, .tmp 40), (8, .tmp 43), (9, .tmp 46), (10, .tmp 51), (11, .tmp 54)], _, _, _, none⟩) rfl (fun K hK => ?_) AllReadyH.nil
  refine step_run_law rfl (.agg (wcN b1 b2 tb q sb ib mb)) y (by kernel_rfl) ?_
  refine hK.out _ _ hA.sn (fun _ => ?_)
  clear hK K
  refine wpAnyH_ready (rs := [35]) (by kernel_rfl) (by simp) ?_
  refine AllReadyH.cons (o := ⟨some 56, .box 95 (.tmp 55), _, _, _, none⟩) rfl (fun K hK => ?_) AllReadyH.nil
  refine step_run_law rfl (ptr y.heap.size) (y.alloc (.cells (wcN b1 b2 tb q sb ib mb) 95)) (by kernel_rfl) ?_
  have A := acc_1 hA (i0 := 0) (bla y (.cells (wcN b1 b2 tb q sb ib mb) 95)) (Nat.le_refl _) (by simp) (by decide) (by decide) (by decide) (by decide) (by decide) (by decide) (by decide) (fun e => absurd e (by decide)) (fun e => absurd e (by decide))
  refine hK.out _ _ A.sn (fun _ => ?_)
  clear hK K
  refine wpAnyH_ready (rs := [36]) (by kernel_rfl) (by simp) ?_
  refine AllReadyH.cons (o := ⟨some 7, .assign (.tmp 56), _, _, _, none⟩) rfl (fun K hK => ?_) AllReadyH.nil
  refine step_run_law rfl (ptr y.heap.size) (y.alloc (.cells (wcN b1 b2 tb q sb ib mb) 95)) (by kernel_rfl) ?_
  refine hK.out _ _ A.sn (fun _ => ?_)
  refine wpAnyH_done (by kernel_rfl) ?_ _
  exact HQ _ _ _ _ _ _ _ _ _ _ _ _ _ A h1 h2 h3 h4 h5 h6 h7 h8 rfl (heap_alloc_new _ _)
set_option maxHeartbeats 2000000 in
theorem st_510 (HQ : HQN w0 bx Q) (hA : Acc w0 y bx f) (h1 : f 1 = some b1) (h2 : f 2 = some g1) (h3 : f 3 = some b2) (h4 : f 4 = some g2) (h6 : f 6 = some q) (h7 : f 7 = some p) (h5 : f 5 = some tb) :
    wpAnyH Tryz.prog .any opsN Q (SN bx) 4 #[true, true, true, true, true, true, true, true, true, true, true, true, true, true, true, true, true, true, true, true, true, true, true, true, true, true, true, true, true, true, true, true, true, false, false, false, false] (FrN bx (ptr b1) (ptr b2) (sl1 tb) (ptr q) (ptr sb) (ptr ib) undef) y := by
  refine wpAnyH_ready (rs := [33]) (by kernel_rfl) (by simp) ?_
  refine AllReadyH.cons (o := ⟨some 54, .makeSlice 90 (.tmp 53) (.tmp 53), _, _, _, none⟩) rfl (fun K hK => ?_) AllReadyH.nil
  · refine step_run_law rfl (sl1 y.heap.size) (y.alloc (.cells mz 101)) (by have hmk := mk_ma y; go_simp) ?_
    refine hK.out _ _ (acc_ma hA).sn (fun _ => ?_)
    exact st_511 HQ (acc_ma hA) h1 h2 h3 h4 h6 h7 h5 rfl
set_option maxHeartbeats 2000000 in
theorem st_501 (HQ : HQN w0 bx Q) (hA : Acc w0 y bx f) (h1 : f 1 = some b1) (h2 : f 2 = some g1) (h3 : f 3 = some b2) (h4 : f 4 = some g2) (h6 : f 6 = some q) (h7 : f 7 = some p) (h8 : f 8 = some mb) :
    wpAnyH Tryz.prog .any opsN Q (SN bx) 4 #[true, true, true, true, true, true, true, true, true, true, true, true, true, true, true, true, true, true, true, false, true, true, true, true, true, true, true, true, true, true, true, true, true, true, false, false, false] (FrN bx (ptr b1) (ptr b2) undef (ptr q) (ptr sb) (ptr ib) (sl1 mb)) y := by
  refine wpAnyH_ready (rs := [19]) (by kernel_rfl) (by simp) ?_
  refine AllReadyH.cons (o := ⟨some 40, .makeSlice 35 (.tmp 39) (.tmp 39), _, _, _, none⟩) rfl (fun K hK => ?_) AllReadyH.nil
  · refine step_run_law rfl (sl1 y.heap.size) (y.alloc (.cells #[.int .i64 0] 3)) (by have hmk := mk_tu y; go_simp) ?_
    refine hK.out _ _ (acc_tu hA).sn (fun _ => ?_)
    exact st_511 HQ (acc_tu hA) h1 h2 h3 h4 h6 h7 rfl h8
set_option maxHeartbeats 2000000 in
theorem st_500 (HQ : HQN w0 bx Q) (hA : Acc w0 y bx f) (h1 : f 1 = some b1) (h2 : f 2 = some g1) (h3 : f 3 = some b2) (h4 : f 4 = some g2) (h6 : f 6 = some q) (h7 : f 7 = some p) :
    wpAnyH Tryz.prog .any opsN Q (SN bx) 5 #[true, true, true, true, true, true, true, true, true, true, true, true, true, true, true, true, true, true, true, false, true, true, true, true, true, true, true, true, true, true, true, true, true, false, false, false, false] (FrN bx (ptr b1) (ptr b2) undef (ptr q) (ptr sb) (ptr ib) undef) y := by
  refine wpAnyH_ready (rs := [19, 33]) (by kernel_rfl) (by simp) ?_
  refine AllReadyH.cons (o := ⟨some 40, .makeSlice 35 (.tmp 39) (.tmp 39), _, _, _, none⟩) rfl (fun K hK => ?_) ?_
  · refine step_run_law rfl (sl1 y.heap.size) (y.alloc (.cells #[.int .i64 0] 3)) (by have hmk := mk_tu y; go_simp) ?_
    refine hK.out _ _ (acc_tu hA).sn (fun _ => ?_)
    exact st_510 HQ (acc_tu hA) h1 h2 h3 h4 h6 h7 rfl
  refine AllReadyH.cons (o := ⟨some 54, .makeSlice 90 (.tmp 53) (.tmp 53), _, _, _, none⟩) rfl (fun K hK => ?_) AllReadyH.nil
  · refine step_run_law rfl (sl1 y.heap.size) (y.alloc (.cells mz 101)) (by have hmk := mk_ma y; go_simp) ?_
    refine hK.out _ _ (acc_ma hA).sn (fun _ => ?_)
    exact st_501 HQ (acc_ma hA) h1 h2 h3 h4 h6 h7 rfl
set_option maxHeartbeats 2000000 in
theorem st_411 (HQ : HQN w0 bx Q) (hA : Acc w0 y bx f) (h1 : f 1 = some b1) (h2 : f 2 = some g1) (h3 : f 3 = some b2) (h4 : f 4 = some g2) (h6 : f 6 = some q) (h7 : f 7 = some p) (h5 : f 5 = some tb) (h8 : f 8 = some mb) :
    wpAnyH Tryz.prog .any opsN Q (SN bx) 4 #[true, true, true, true, true, true, true, true, true, true, true, true, true, true, true, true, true, true, true, true, true, true, true, true, true, true, true, true, true, true, false, true, true, true, false, false, false] (FrN bx (ptr b1) (ptr b2) (sl1 tb) (ptr q) (ptr sb) undef (sl1 mb)) y := by
  refine wpAnyH_ready (rs := [30]) (by kernel_rfl) (by simp) ?_
  refine AllReadyH.cons (o := ⟨some 51, .call { callee := .value (.func 41), args := #[.tmp 48, .tmp 50], argTypes := #[_, _] }, _, _, _, none⟩) rfl (fun K hK => ?_) AllReadyH.nil
  · refine step_call_law rfl 41 #[.int .i64 1, .int .i64 1] (by kernel_rfl) (av_i hA) ?_
    rintro v y' ⟨ib', rfl, A⟩
    refine hK.out _ _ A.out.sn (fun _ => ?_)
    exact st_511 HQ A.out h1 h2 h3 h4 h6 h7 h5 h8
set_option maxHeartbeats 2000000 in
theorem st_410 (HQ : HQN w0 bx Q) (hA : Acc w0 y bx f) (h1 : f 1 = some b1) (h2 : f 2 = some g1) (h3 : f 3 = some b2) (h4 : f 4 = some g2) (h6 : f 6 = some q) (h7 : f 7 = some p) (h5 : f 5 = some tb) :
    wpAnyH Tryz.prog .any opsN Q (SN bx) 5 #[true, true, true, true, true, true, true, true, true, true, true, true, true, true, true, true, true, true, true, true, true, true, true, true, true, true, true, true, true, true, false, true, true, false, false, false, false] (FrN bx (ptr b1) (ptr b2) (sl1 tb) (ptr q) (ptr sb) undef undef) y := by
  refine wpAnyH_ready (rs := [30, 33]) (by kernel_rfl) (by simp) ?_
  refine AllReadyH.cons (o := ⟨some 51, .call { callee := .value (.func 41), args := #[.tmp 48, .tmp 50], argTypes := #[_, _] }, _, _, _, none⟩) rfl (fun K hK => ?_) ?_
  · refine step_call_law rfl 41 #[.int .i64 1, .int .i64 1] (by kernel_rfl) (av_i hA) ?_
    rintro v y' ⟨ib', rfl, A⟩
    refine hK.out _ _ A.out.sn (fun _ => ?_)
    exact st_510 HQ A.out h1 h2 h3 h4 h6 h7 h5
  refine AllReadyH.cons (o := ⟨some 54, .makeSlice 90 (.tmp 53) (.tmp 53), _, _, _, none⟩) rfl (fun K hK => ?_) AllReadyH.nil
  · refine step_run_law rfl (sl1 y.heap.size) (y.alloc (.cells mz 101)) (by have hmk := mk_ma y; go_simp) ?_
    refine hK.out _ _ (acc_ma hA).sn (fun _ => ?_)
    exact st_411 HQ (acc_ma hA) h1 h2 h3 h4 h6 h7 h5 rfl
set_option maxHeartbeats 2000000 in
theorem st_401 (HQ : HQN w0 bx Q) (hA : Acc w0 y bx f) (h1 : f 1 = some b1) (h2 : f 2 = some g1) (h3 : f 3 = some b2) (h4 : f 4 = some g2) (h6 : f 6 = some q) (h7 : f 7 = some p) (h8 : f 8 = some mb) :
    wpAnyH Tryz.prog .any opsN Q (SN bx) 5 #[true, true, true, true, true, true, true, true, true, true, true, true, true, true, true, true, true, true, true, false, true, true, true, true, true, true, true, true, true, true, false, true, true, true, false, false, false] (FrN bx (ptr b1) (ptr b2) undef (ptr q) (ptr sb) undef (sl1 mb)) y := by
  refine wpAnyH_ready (rs := [19, 30]) (by kernel_rfl) (by simp) ?_
  refine AllReadyH.cons (o := ⟨some 40, .makeSlice 35 (.tmp 39) (.tmp 39), _, _, _, none⟩) rfl (fun K hK => ?_) ?_
  · refine step_run_law rfl (sl1 y.heap.size) (y.alloc (.cells #[.int .i64 0] 3)) (by have hmk := mk_tu y; go_simp) ?_
    refine hK.out _ _ (acc_tu hA).sn (fun _ => ?_)
    exact st_411 HQ (acc_tu hA) h1 h2 h3 h4 h6 h7 rfl h8
  refine AllReadyH.cons (o := ⟨some 51, .call { callee := .value (.func 41), args := #[.tmp 48, .tmp 50], argTypes := #[_, _] }, _, _, _, none⟩) rfl (fun K hK => ?_) AllReadyH.nil
  · refine step_call_law rfl 41 #[.int .i64 1, .int .i64 1] (by kernel_rfl) (av_i hA) ?_
    rintro v y' ⟨ib', rfl, A⟩
    refine hK.out _ _ A.out.sn (fun _ => ?_)
    exact st_501 HQ A.out h1 h2 h3 h4 h6 h7 h8
set_option maxHeartbeats 2000000 in
theorem st_400 (HQ : HQN w0 bx Q) (hA : Acc w0 y bx f) (h1 : f 1 = some b1) (h2 : f 2 = some g1) (h3 : f 3 = some b2) (h4 : f 4 = some g2) (h6 : f 6 = some q) (h7 : f 7 = some p) :
    wpAnyH Tryz.prog .any opsN Q (SN bx) 6 #[true, true, true, true, true, true, true, true, true, true, true, true, true, true, true, true, true, true, true, false, true, true, true, true, true, true, true, true, true, true, false, true, true, false, false, false, false] (FrN bx (ptr b1) (ptr b2) undef (ptr q) (ptr sb) undef undef) y := by
  refine wpAnyH_ready (rs := [19, 30, 33]) (by kernel_rfl) (by simp) ?_
  refine AllReadyH.cons (o := ⟨some 40, .makeSlice 35 (.tmp 39) (.tmp 39), _, _, _, none⟩) rfl (fun K hK => ?_) ?_
  · refine step_run_law rfl (sl1 y.heap.size) (y.alloc (.cells #[.int .i64 0] 3)) (by have hmk := mk_tu y; go_simp) ?_
    refine hK.out _ _ (acc_tu hA).sn (fun _ => ?_)
    exact st_410 HQ (acc_tu hA) h1 h2 h3 h4 h6 h7 rfl
  refine AllReadyH.cons (o := ⟨some 51, .call { callee := .value (.func 41), args := #[.tmp 48, .tmp 50], argTypes := #[_, _] }, _, _, _, none⟩) rfl (fun K hK => ?_) ?_
  · refine step_call_law rfl 41 #[.int .i64 1, .int .i64 1] (by kernel_rfl) (av_i hA) ?_
    rintro v y' ⟨ib', rfl, A⟩
    refine hK.out _ _ A.out.sn (fun _ => ?_)
    exact st_500 HQ A.out h1 h2 h3 h4 h6 h7
  refine AllReadyH.cons (o := ⟨some 54, .makeSlice 90 (.tmp 53) (.tmp 53), _, _, _, none⟩) rfl (fun K hK => ?_) AllReadyH.nil
  · refine step_run_law rfl (sl1 y.heap.size) (y.alloc (.cells mz 101)) (by have hmk := mk_ma y; go_simp) ?_
    refine hK.out _ _ (acc_ma hA).sn (fun _ => ?_)
    exact st_401 HQ (acc_ma hA) h1 h2 h3 h4 h6 h7 rfl
set_option maxHeartbeats 2000000 in
theorem st_311 (HQ : HQN w0 bx Q) (hA : Acc w0 y bx f) (h1 : f 1 = some b1) (h2 : f 2 = some g1) (h3 : f 3 = some b2) (h4 : f 4 = some g2) (h6 : f 6 = some q) (h7 : f 7 = some p) (h5 : f 5 = some tb) (h8 : f 8 = some mb) :
    wpAnyH Tryz.prog .any opsN Q (SN bx) 5 #[true, true, true, true, true, true, true, true, true, true, true, true, true, true, true, true, true, true, true, true, true, true, true, true, true, false, true, true, true, true, false, true, true, true, false, false, false] (FrN bx (ptr b1) (ptr b2) (sl1 tb) (ptr q) undef undef (sl1 mb)) y := by
  refine wpAnyH_ready (rs := [25]) (by kernel_rfl) (by simp) ?_
  refine AllReadyH.cons (o := ⟨some 46, .call { callee := .value (.func 40), args := #[.tmp 45], argTypes := #[_] }, _, _, _, none⟩) rfl (fun K hK => ?_) AllReadyH.nil
  · refine step_call_law rfl 40 #[.int .i64 1] (by kernel_rfl) (av_s hA) ?_
    rintro v y' ⟨sb', rfl, A⟩
    refine hK.out _ _ A.out.sn (fun _ => ?_)
    exact st_411 HQ A.out h1 h2 h3 h4 h6 h7 h5 h8
set_option maxHeartbeats 2000000 in
theorem st_310 (HQ : HQN w0 bx Q) (hA : Acc w0 y bx f) (h1 : f 1 = some b1) (h2 : f 2 = some g1) (h3 : f 3 = some b2) (h4 : f 4 = some g2) (h6 : f 6 = some q) (h7 : f 7 = some p) (h5 : f 5 = some tb) :
    wpAnyH Tryz.prog .any opsN Q (SN bx) 6 #[true, true, true, true, true, true, true, true, true, true, true, true, true, true, true, true, true, true, true, true, true, true, true, true, true, false, true, true, true, true, false, true, true, false, false, false, false] (FrN bx (ptr b1) (ptr b2) (sl1 tb) (ptr q) undef undef undef) y := by
  refine wpAnyH_ready (rs := [25, 33]) (by kernel_rfl) (by simp) ?_
  refine AllReadyH.cons (o := ⟨some 46, .call { callee := .value (.func 40), args := #[.tmp 45], argTypes := #[_] }, _, _, _, none⟩) rfl (fun K hK => ?_) ?_
  · refine step_call_law rfl 40 #[.int .i64 1] (by kernel_rfl) (av_s hA) ?_
    rintro v y' ⟨sb', rfl, A⟩
    refine hK.out _ _ A.out.sn (fun _ => ?_)
    exact st_410 HQ A.out h1 h2 h3 h4 h6 h7 h5
  refine AllReadyH.cons (o := ⟨some 54, .makeSlice 90 (.tmp 53) (.tmp 53), _, _, _, none⟩) rfl (fun K hK => ?_) AllReadyH.nil
  · refine step_run_law rfl (sl1 y.heap.size) (y.alloc (.cells mz 101)) (by have hmk := mk_ma y; go_simp) ?_
    refine hK.out _ _ (acc_ma hA).sn (fun _ => ?_)
    exact st_311 HQ (acc_ma hA) h1 h2 h3 h4 h6 h7 h5 rfl
set_option maxHeartbeats 2000000 in
theorem st_301 (HQ : HQN w0 bx Q) (hA : Acc w0 y bx f) (h1 : f 1 = some b1) (h2 : f 2 = some g1) (h3 : f 3 = some b2) (h4 : f 4 = some g2) (h6 : f 6 = some q) (h7 : f 7 = some p) (h8 : f 8 = some mb) :
    wpAnyH Tryz.prog .any opsN Q (SN bx) 6 #[true, true, true, true, true, true, true, true, true, true, true, true, true, true, true, true, true, true, true, false, true, true, true, true, true, false, true, true, true, true, false, true, true, true, false, false, false] (FrN bx (ptr b1) (ptr b2) undef (ptr q) undef undef (sl1 mb)) y := by
  refine wpAnyH_ready (rs := [19, 25]) (by kernel_rfl) (by simp) ?_
  refine AllReadyH.cons (o := ⟨some 40, .makeSlice 35 (.tmp 39) (.tmp 39), _, _, _, none⟩) rfl (fun K hK => ?_) ?_
  · refine step_run_law rfl (sl1 y.heap.size) (y.alloc (.cells #[.int .i64 0] 3)) (by have hmk := mk_tu y; go_simp) ?_
    refine hK.out _ _ (acc_tu hA).sn (fun _ => ?_)
    exact st_311 HQ (acc_tu hA) h1 h2 h3 h4 h6 h7 rfl h8
  refine AllReadyH.cons (o := ⟨some 46, .call { callee := .value (.func 40), args := #[.tmp 45], argTypes := #[_] }, _, _, _, none⟩) rfl (fun K hK => ?_) AllReadyH.nil
  · refine step_call_law rfl 40 #[.int .i64 1] (by kernel_rfl) (av_s hA) ?_
    rintro v y' ⟨sb', rfl, A⟩
    refine hK.out _ _ A.out.sn (fun _ => ?_)
    exact st_401 HQ A.out h1 h2 h3 h4 h6 h7 h8
set_option maxHeartbeats 2000000 in
theorem st_300 (HQ : HQN w0 bx Q) (hA : Acc w0 y bx f) (h1 : f 1 = some b1) (h2 : f 2 = some g1) (h3 : f 3 = some b2) (h4 : f 4 = some g2) (h6 : f 6 = some q) (h7 : f 7 = some p) :
    wpAnyH Tryz.prog .any opsN Q (SN bx) 7 #[true, true, true, true, true, true, true, true, true, true, true, true, true, true, true, true, true, true, true, false, true, true, true, true, true, false, true, true, true, true, false, true, true, false, false, false, false] (FrN bx (ptr b1) (ptr b2) undef (ptr q) undef undef undef) y := by
  refine wpAnyH_ready (rs := [19, 25, 33]) (by kernel_rfl) (by simp) ?_
  refine AllReadyH.cons (o := ⟨some 40, .makeSlice 35 (.tmp 39) (.tmp 39), _, _, _, none⟩) rfl (fun K hK => ?_) ?_
  · refine step_run_law rfl (sl1 y.heap.size) (y.alloc (.cells #[.int .i64 0] 3)) (by have hmk := mk_tu y; go_simp) ?_
    refine hK.out _ _ (acc_tu hA).sn (fun _ => ?_)
    exact st_310 HQ (acc_tu hA) h1 h2 h3 h4 h6 h7 rfl
  refine AllReadyH.cons (o := ⟨some 46, .call { callee := .value (.func 40), args := #[.tmp 45], argTypes := #[_] }, _, _, _, none⟩) rfl (fun K hK => ?_) ?_
  · refine step_call_law rfl 40 #[.int .i64 1] (by kernel_rfl) (av_s hA) ?_
    rintro v y' ⟨sb', rfl, A⟩
    refine hK.out _ _ A.out.sn (fun _ => ?_)
    exact st_400 HQ A.out h1 h2 h3 h4 h6 h7
  refine AllReadyH.cons (o := ⟨some 54, .makeSlice 90 (.tmp 53) (.tmp 53), _, _, _, none⟩) rfl (fun K hK => ?_) AllReadyH.nil
  · refine step_run_law rfl (sl1 y.heap.size) (y.alloc (.cells mz 101)) (by have hmk := mk_ma y; go_simp) ?_
    refine hK.out _ _ (acc_ma hA).sn (fun _ => ?_)
    exact st_301 HQ (acc_ma hA) h1 h2 h3 h4 h6 h7 rfl
set_option maxHeartbeats 2000000 in
theorem st_211 (HQ : HQN w0 bx Q) (hA : Acc w0 y bx f) (h1 : f 1 = some b1) (h2 : f 2 = some g1) (h3 : f 3 = some b2) (h4 : f 4 = some g2) (h5 : f 5 = some tb) (h8 : f 8 = some mb) :
    wpAnyH Tryz.prog .any opsN Q (SN bx) 6 #[true, true, true, true, true, true, true, true, true, true, true, true, true, true, true, true, true, true, true, true, true, true, false, true, true, false, true, true, true, true, false, true, true, true, false, false, false] (FrN bx (ptr b1) (ptr b2) (sl1 tb) undef undef undef (sl1 mb)) y := by
  refine wpAnyH_ready (rs := [22]) (by kernel_rfl) (by simp) ?_
  refine AllReadyH.cons (o := ⟨some 43, .call { callee := .value (.func 39), args := #[.tmp 42], argTypes := #[_] }, _, _, _, none⟩) rfl (fun K hK => ?_) AllReadyH.nil
  · refine step_call_law rfl 39 #[.int .i64 1] (by kernel_rfl) (av_q hA) ?_
    rintro v y' ⟨q', p', r', rfl, A⟩
    refine hK.out _ _ A.out.sn (fun _ => ?_)
    exact st_311 HQ A.out h1 h2 h3 h4 rfl rfl h5 h8
set_option maxHeartbeats 2000000 in
theorem st_210 (HQ : HQN w0 bx Q) (hA : Acc w0 y bx f) (h1 : f 1 = some b1) (h2 : f 2 = some g1) (h3 : f 3 = some b2) (h4 : f 4 = some g2) (h5 : f 5 = some tb) :
    wpAnyH Tryz.prog .any opsN Q (SN bx) 7 #[true, true, true, true, true, true, true, true, true, true, true, true, true, true, true, true, true, true, true, true, true, true, false, true, true, false, true, true, true, true, false, true, true, false, false, false, false] (FrN bx (ptr b1) (ptr b2) (sl1 tb) undef undef undef undef) y := by
  refine wpAnyH_ready (rs := [22, 33]) (by kernel_rfl) (by simp) ?_
  refine AllReadyH.cons (o := ⟨some 43, .call { callee := .value (.func 39), args := #[.tmp 42], argTypes := #[_] }, _, _, _, none⟩) rfl (fun K hK => ?_) ?_
  · refine step_call_law rfl 39 #[.int .i64 1] (by kernel_rfl) (av_q hA) ?_
    rintro v y' ⟨q', p', r', rfl, A⟩
    refine hK.out _ _ A.out.sn (fun _ => ?_)
    exact st_310 HQ A.out h1 h2 h3 h4 rfl rfl h5
  refine AllReadyH.cons (o := ⟨some 54, .makeSlice 90 (.tmp 53) (.tmp 53), _, _, _, none⟩) rfl (fun K hK => ?_) AllReadyH.nil
  · refine step_run_law rfl (sl1 y.heap.size) (y.alloc (.cells mz 101)) (by have hmk := mk_ma y; go_simp) ?_
    refine hK.out _ _ (acc_ma hA).sn (fun _ => ?_)
    exact st_211 HQ (acc_ma hA) h1 h2 h3 h4 h5 rfl
set_option maxHeartbeats 2000000 in
theorem st_201 (HQ : HQN w0 bx Q) (hA : Acc w0 y bx f) (h1 : f 1 = some b1) (h2 : f 2 = some g1) (h3 : f 3 = some b2) (h4 : f 4 = some g2) (h8 : f 8 = some mb) :
    wpAnyH Tryz.prog .any opsN Q (SN bx) 7 #[true, true, true, true, true, true, true, true, true, true, true, true, true, true, true, true, true, true, true, false, true, true, false, true, true, false, true, true, true, true, false, true, true, true, false, false, false] (FrN bx (ptr b1) (ptr b2) undef undef undef undef (sl1 mb)) y := by
  refine wpAnyH_ready (rs := [19, 22]) (by kernel_rfl) (by simp) ?_
  refine AllReadyH.cons (o := ⟨some 40, .makeSlice 35 (.tmp 39) (.tmp 39), _, _, _, none⟩) rfl (fun K hK => ?_) ?_
  · refine step_run_law rfl (sl1 y.heap.size) (y.alloc (.cells #[.int .i64 0] 3)) (by have hmk := mk_tu y; go_simp) ?_
    refine hK.out _ _ (acc_tu hA).sn (fun _ => ?_)
    exact st_211 HQ (acc_tu hA) h1 h2 h3 h4 rfl h8
  refine AllReadyH.cons (o := ⟨some 43, .call { callee := .value (.func 39), args := #[.tmp 42], argTypes := #[_] }, _, _, _, none⟩) rfl (fun K hK => ?_) AllReadyH.nil
  · refine step_call_law rfl 39 #[.int .i64 1] (by kernel_rfl) (av_q hA) ?_
    rintro v y' ⟨q', p', r', rfl, A⟩
    refine hK.out _ _ A.out.sn (fun _ => ?_)
    exact st_301 HQ A.out h1 h2 h3 h4 rfl rfl h8
set_option maxHeartbeats 2000000 in
theorem st_200 (HQ : HQN w0 bx Q) (hA : Acc w0 y bx f) (h1 : f 1 = some b1) (h2 : f 2 = some g1) (h3 : f 3 = some b2) (h4 : f 4 = some g2) :
    wpAnyH Tryz.prog .any opsN Q (SN bx) 8 #[true, true, true, true, true, true, true, true, true, true, true, true, true, true, true, true, true, true, true, false, true, true, false, true, true, false, true, true, true, true, false, true, true, false, false, false, false] (FrN bx (ptr b1) (ptr b2) undef undef undef undef undef) y := by
  refine wpAnyH_ready (rs := [19, 22, 33]) (by kernel_rfl) (by simp) ?_
  refine AllReadyH.cons (o := ⟨some 40, .makeSlice 35 (.tmp 39) (.tmp 39), _, _, _, none⟩) rfl (fun K hK => ?_) ?_
  · refine step_run_law rfl (sl1 y.heap.size) (y.alloc (.cells #[.int .i64 0] 3)) (by have hmk := mk_tu y; go_simp) ?_
    refine hK.out _ _ (acc_tu hA).sn (fun _ => ?_)
    exact st_210 HQ (acc_tu hA) h1 h2 h3 h4 rfl
  refine AllReadyH.cons (o := ⟨some 43, .call { callee := .value (.func 39), args := #[.tmp 42], argTypes := #[_] }, _, _, _, none⟩) rfl (fun K hK => ?_) ?_
  · refine step_call_law rfl 39 #[.int .i64 1] (by kernel_rfl) (av_q hA) ?_
    rintro v y' ⟨q', p', r', rfl, A⟩
    refine hK.out _ _ A.out.sn (fun _ => ?_)
    exact st_300 HQ A.out h1 h2 h3 h4 rfl rfl
  refine AllReadyH.cons (o := ⟨some 54, .makeSlice 90 (.tmp 53) (.tmp 53), _, _, _, none⟩) rfl (fun K hK => ?_) AllReadyH.nil
  · refine step_run_law rfl (sl1 y.heap.size) (y.alloc (.cells mz 101)) (by have hmk := mk_ma y; go_simp) ?_
    refine hK.out _ _ (acc_ma hA).sn (fun _ => ?_)
    exact st_201 HQ (acc_ma hA) h1 h2 h3 h4 rfl
set_option maxHeartbeats 2000000 in
theorem st_111 (HQ : HQN w0 bx Q) (hA : Acc w0 y bx f) (h1 : f 1 = some b1) (h2 : f 2 = some g1) (h5 : f 5 = some tb) (h8 : f 8 = some mb) :
    wpAnyH Tryz.prog .any opsN Q (SN bx) 7 #[true, true, true, true, true, true, true, true, true, true, false, true, true, true, true, true, true, true, true, true, true, true, false, true, true, false, true, true, true, true, false, true, true, true, false, false, false] (FrN bx (ptr b1) undef (sl1 tb) undef undef undef (sl1 mb)) y := by
  refine wpAnyH_ready (rs := [10]) (by kernel_rfl) (by simp) ?_
  refine AllReadyH.cons (o := ⟨some 31, .call { callee := .value (.func 38), args := #[.tmp 30], argTypes := #[_] }, _, _, _, none⟩) rfl (fun K hK => ?_) AllReadyH.nil
  · refine step_call_law rfl 38 #[.int .i64 9] (by kernel_rfl) (av_2 hA) ?_
    rintro v y' ⟨b2', g2', rfl, A⟩
    refine hK.out _ _ A.out.sn (fun _ => ?_)
    exact st_211 HQ A.out h1 h2 rfl rfl h5 h8
set_option maxHeartbeats 2000000 in
theorem st_110 (HQ : HQN w0 bx Q) (hA : Acc w0 y bx f) (h1 : f 1 = some b1) (h2 : f 2 = some g1) (h5 : f 5 = some tb) :
    wpAnyH Tryz.prog .any opsN Q (SN bx) 8 #[true, true, true, true, true, true, true, true, true, true, false, true, true, true, true, true, true, true, true, true, true, true, false, true, true, false, true, true, true, true, false, true, true, false, false, false, false] (FrN bx (ptr b1) undef (sl1 tb) undef undef undef undef) y := by
  refine wpAnyH_ready (rs := [10, 33]) (by kernel_rfl) (by simp) ?_
  refine AllReadyH.cons (o := ⟨some 31, .call { callee := .value (.func 38), args := #[.tmp 30], argTypes := #[_] }, _, _, _, none⟩) rfl (fun K hK => ?_) ?_
  · refine step_call_law rfl 38 #[.int .i64 9] (by kernel_rfl) (av_2 hA) ?_
    rintro v y' ⟨b2', g2', rfl, A⟩
    refine hK.out _ _ A.out.sn (fun _ => ?_)
    exact st_210 HQ A.out h1 h2 rfl rfl h5
  refine AllReadyH.cons (o := ⟨some 54, .makeSlice 90 (.tmp 53) (.tmp 53), _, _, _, none⟩) rfl (fun K hK => ?_) AllReadyH.nil
  · refine step_run_law rfl (sl1 y.heap.size) (y.alloc (.cells mz 101)) (by have hmk := mk_ma y; go_simp) ?_
    refine hK.out _ _ (acc_ma hA).sn (fun _ => ?_)
    exact st_111 HQ (acc_ma hA) h1 h2 h5 rfl
set_option maxHeartbeats 2000000 in
theorem st_101 (HQ : HQN w0 bx Q) (hA : Acc w0 y bx f) (h1 : f 1 = some b1) (h2 : f 2 = some g1) (h8 : f 8 = some mb) :
    wpAnyH Tryz.prog .any opsN Q (SN bx) 8 #[true, true, true, true, true, true, true, true, true, true, false, true, true, true, true, true, true, true, true, false, true, true, false, true, true, false, true, true, true, true, false, true, true, true, false, false, false] (FrN bx (ptr b1) undef undef undef undef undef (sl1 mb)) y := by
  refine wpAnyH_ready (rs := [10, 19]) (by kernel_rfl) (by simp) ?_
  refine AllReadyH.cons (o := ⟨some 31, .call { callee := .value (.func 38), args := #[.tmp 30], argTypes := #[_] }, _, _, _, none⟩) rfl (fun K hK => ?_) ?_
  · refine step_call_law rfl 38 #[.int .i64 9] (by kernel_rfl) (av_2 hA) ?_
    rintro v y' ⟨b2', g2', rfl, A⟩
    refine hK.out _ _ A.out.sn (fun _ => ?_)
    exact st_201 HQ A.out h1 h2 rfl rfl h8
  refine AllReadyH.cons (o := ⟨some 40, .makeSlice 35 (.tmp 39) (.tmp 39), _, _, _, none⟩) rfl (fun K hK => ?_) AllReadyH.nil
  · refine step_run_law rfl (sl1 y.heap.size) (y.alloc (.cells #[.int .i64 0] 3)) (by have hmk := mk_tu y; go_simp) ?_
    refine hK.out _ _ (acc_tu hA).sn (fun _ => ?_)
    exact st_111 HQ (acc_tu hA) h1 h2 rfl h8
set_option maxHeartbeats 2000000 in
theorem st_100 (HQ : HQN w0 bx Q) (hA : Acc w0 y bx f) (h1 : f 1 = some b1) (h2 : f 2 = some g1) :
    wpAnyH Tryz.prog .any opsN Q (SN bx) 9 #[true, true, true, true, true, true, true, true, true, true, false, true, true, true, true, true, true, true, true, false, true, true, false, true, true, false, true, true, true, true, false, true, true, false, false, false, false] (FrN bx (ptr b1) undef undef undef undef undef undef) y := by
  refine wpAnyH_ready (rs := [10, 19, 33]) (by kernel_rfl) (by simp) ?_
  refine AllReadyH.cons (o := ⟨some 31, .call { callee := .value (.func 38), args := #[.tmp 30], argTypes := #[_] }, _, _, _, none⟩) rfl (fun K hK => ?_) ?_
  · refine step_call_law rfl 38 #[.int .i64 9] (by kernel_rfl) (av_2 hA) ?_
    rintro v y' ⟨b2', g2', rfl, A⟩
    refine hK.out _ _ A.out.sn (fun _ => ?_)
    exact st_200 HQ A.out h1 h2 rfl rfl
  refine AllReadyH.cons (o := ⟨some 40, .makeSlice 35 (.tmp 39) (.tmp 39), _, _, _, none⟩) rfl (fun K hK => ?_) ?_
  · refine step_run_law rfl (sl1 y.heap.size) (y.alloc (.cells #[.int .i64 0] 3)) (by have hmk := mk_tu y; go_simp) ?_
    refine hK.out _ _ (acc_tu hA).sn (fun _ => ?_)
    exact st_110 HQ (acc_tu hA) h1 h2 rfl
  refine AllReadyH.cons (o := ⟨some 54, .makeSlice 90 (.tmp 53) (.tmp 53), _, _, _, none⟩) rfl (fun K hK => ?_) AllReadyH.nil
  · refine step_run_law rfl (sl1 y.heap.size) (y.alloc (.cells mz 101)) (by have hmk := mk_ma y; go_simp) ?_
    refine hK.out _ _ (acc_ma hA).sn (fun _ => ?_)
    exact st_101 HQ (acc_ma hA) h1 h2 rfl
set_option maxHeartbeats 2000000 in
theorem st_011 (HQ : HQN w0 bx Q) (hA : Acc w0 y bx f) (h5 : f 5 = some tb) (h8 : f 8 = some mb) :
    wpAnyH Tryz.prog .any opsN Q (SN bx) 8 #[true, true, true, true, true, false, true, true, true, true, false, true, true, true, true, true, true, true, true, true, true, true, false, true, true, false, true, true, true, true, false, true, true, true, false, false, false] (FrN bx undef undef (sl1 tb) undef undef undef (sl1 mb)) y := by
  refine wpAnyH_ready (rs := [5]) (by kernel_rfl) (by simp) ?_
  refine AllReadyH.cons (o := ⟨some 26, .call { callee := .value (.func 38), args := #[.tmp 25], argTypes := #[_] }, _, _, _, none⟩) rfl (fun K hK => ?_) AllReadyH.nil
  · refine step_call_law rfl 38 #[.int .i64 9] (by kernel_rfl) (av_1 hA) ?_
    rintro v y' ⟨b1', g1', rfl, A⟩
    refine hK.out _ _ A.out.sn (fun _ => ?_)
    exact st_111 HQ A.out rfl rfl h5 h8
set_option maxHeartbeats 2000000 in
theorem st_010 (HQ : HQN w0 bx Q) (hA : Acc w0 y bx f) (h5 : f 5 = some tb) :
    wpAnyH Tryz.prog .any opsN Q (SN bx) 9 #[true, true, true, true, true, false, true, true, true, true, false, true, true, true, true, true, true, true, true, true, true, true, false, true, true, false, true, true, true, true, false, true, true, false, false, false, false] (FrN bx undef undef (sl1 tb) undef undef undef undef) y := by
  refine wpAnyH_ready (rs := [5, 33]) (by kernel_rfl) (by simp) ?_
  refine AllReadyH.cons (o := ⟨some 26, .call { callee := .value (.func 38), args := #[.tmp 25], argTypes := #[_] }, _, _, _, none⟩) rfl (fun K hK => ?_) ?_
  · refine step_call_law rfl 38 #[.int .i64 9] (by kernel_rfl) (av_1 hA) ?_
    rintro v y' ⟨b1', g1', rfl, A⟩
    refine hK.out _ _ A.out.sn (fun _ => ?_)
    exact st_110 HQ A.out rfl rfl h5
  refine AllReadyH.cons (o := ⟨some 54, .makeSlice 90 (.tmp 53) (.tmp 53), _, _, _, none⟩) rfl (fun K hK => ?_) AllReadyH.nil
  · refine step_run_law rfl (sl1 y.heap.size) (y.alloc (.cells mz 101)) (by have hmk := mk_ma y; go_simp) ?_
    refine hK.out _ _ (acc_ma hA).sn (fun _ => ?_)
    exact st_011 HQ (acc_ma hA) h5 rfl
set_option maxHeartbeats 2000000 in
theorem st_001 (HQ : HQN w0 bx Q) (hA : Acc w0 y bx f) (h8 : f 8 = some mb) :
    wpAnyH Tryz.prog .any opsN Q (SN bx) 9 #[true, true, true, true, true, false, true, true, true, true, false, true, true, true, true, true, true, true, true, false, true, true, false, true, true, false, true, true, true, true, false, true, true, true, false, false, false] (FrN bx undef undef undef undef undef undef (sl1 mb)) y := by
  refine wpAnyH_ready (rs := [5, 19]) (by kernel_rfl) (by simp) ?_
  refine AllReadyH.cons (o := ⟨some 26, .call { callee := .value (.func 38), args := #[.tmp 25], argTypes := #[_] }, _, _, _, none⟩) rfl (fun K hK => ?_) ?_
  · refine step_call_law rfl 38 #[.int .i64 9] (by kernel_rfl) (av_1 hA) ?_
    rintro v y' ⟨b1', g1', rfl, A⟩
    refine hK.out _ _ A.out.sn (fun _ => ?_)
    exact st_101 HQ A.out rfl rfl h8
  refine AllReadyH.cons (o := ⟨some 40, .makeSlice 35 (.tmp 39) (.tmp 39), _, _, _, none⟩) rfl (fun K hK => ?_) AllReadyH.nil
  · refine step_run_law rfl (sl1 y.heap.size) (y.alloc (.cells #[.int .i64 0] 3)) (by have hmk := mk_tu y; go_simp) ?_
    refine hK.out _ _ (acc_tu hA).sn (fun _ => ?_)
    exact st_011 HQ (acc_tu hA) rfl h8
set_option maxHeartbeats 2000000 in
theorem st_000 (HQ : HQN w0 bx Q) (hA : Acc w0 y bx f) :
    wpAnyH Tryz.prog .any opsN Q (SN bx) 10 #[true, true, true, true, true, false, true, true, true, true, false, true, true, true, true, true, true, true, true, false, true, true, false, true, true, false, true, true, true, true, false, true, true, false, false, false, false] (FrN bx undef undef undef undef undef undef undef) y := by
  refine wpAnyH_ready (rs := [5, 19, 33]) (by kernel_rfl) (by simp) ?_
  refine AllReadyH.cons (o := ⟨some 26, .call { callee := .value (.func 38), args := #[.tmp 25], argTypes := #[_] }, _, _, _, none⟩) rfl (fun K hK => ?_) ?_
  · refine step_call_law rfl 38 #[.int .i64 9] (by kernel_rfl) (av_1 hA) ?_
    rintro v y' ⟨b1', g1', rfl, A⟩
    refine hK.out _ _ A.out.sn (fun _ => ?_)
    exact st_100 HQ A.out rfl rfl
  refine AllReadyH.cons (o := ⟨some 40, .makeSlice 35 (.tmp 39) (.tmp 39), _, _, _, none⟩) rfl (fun K hK => ?_) ?_
  · refine step_run_law rfl (sl1 y.heap.size) (y.alloc (.cells #[.int .i64 0] 3)) (by have hmk := mk_tu y; go_simp) ?_
    refine hK.out _ _ (acc_tu hA).sn (fun _ => ?_)
    exact st_010 HQ (acc_tu hA) rfl
  refine AllReadyH.cons (o := ⟨some 54, .makeSlice 90 (.tmp 53) (.tmp 53), _, _, _, none⟩) rfl (fun K hK => ?_) AllReadyH.nil
  · refine step_run_law rfl (sl1 y.heap.size) (y.alloc (.cells mz 101)) (by have hmk := mk_ma y; go_simp) ?_
    refine hK.out _ _ (acc_ma hA).sn (fun _ => ?_)
    exact st_001 HQ (acc_ma hA) rfl
end
end Go.Proofs.YtfpkgkjmpcoppaaGreatDoor
