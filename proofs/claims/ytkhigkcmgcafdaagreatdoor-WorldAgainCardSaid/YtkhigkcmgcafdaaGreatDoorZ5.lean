/- Of WgV. -/
import Derived.Test.YtkhigkcmgcafdaaGreatDoorZ4
set_option linter.unusedVariables false
set_option linter.unusedSimpArgs false
set_option maxHeartbeats 16000000
set_option maxRecDepth 20000
namespace Go.Proofs.YtkhigkcmgcafdaaGreatDoor
open Go.RowKit
@[reducible] def FrG (bx P M:Nat) (G pp sp nt fr wd:Int) (v26 v31 v40 v43 v46 v51 v54:Value):Act := { tmps := #[(.agg #[.int .i64 (P:Int), .int .i64 (M:Int), .int .i64 G]), .pointer (some ⟨bx,0,none⟩), .pointer none, .int .i64 0, .int .i64 sp, .int .i64 nt, .int .i64 fr,undef,(.agg #[.int .i64 (P:Int), .int .i64 (M:Int), .int .i64 G]), .bool true, .bool false, .pointer (some ⟨bx,0,none⟩), .int .i64 (P:Int), .int .i64 pp, .int .i64 sp, .int .i64 sp, .int .i64 nt, .int .i64 nt, .pointer (some ⟨bx,1,none⟩), .int .i64 (M:Int), .int .i64 fr,(.agg #[.int .i64 (P:Int), .int .i64 (M:Int), .int .i64 G]), .int .i64 fr, .pointer (some ⟨bx,2,none⟩), .int .i64 G, .int .i64 wd,v26, .int .i64 fr, .pointer (some ⟨bx,2,none⟩), .int .i64 G, .int .i64 wd,v31, .int .i64 sp, .int .i64 nt, .int .i64 fr, .pointer (some ⟨bx,2,none⟩), .int .i64 G, .agg #[.int .i64 fr, .int .i64 G], .pointer (some ⟨bx,0,none⟩), .int .i64 (P:Int),v40, .pointer (some ⟨bx,0,none⟩), .int .i64 (P:Int),v43, .pointer (some ⟨bx,0,none⟩), .int .i64 (P:Int),v46, .pointer (some ⟨bx,0,none⟩), .int .i64 (P:Int), .pointer (some ⟨bx,1,none⟩), .int .i64 (M:Int),v51, .pointer (some ⟨bx,1,none⟩), .int .i64 (M:Int),v54,undef,undef,undef,undef,undef],defers := [] }
@[reducible] def FrGE (bx P M:Nat) (G pp sp nt fr wd:Int) (v26 v31 v40 v43 v46 v51 v54 v55 v56:Value):Act := { tmps := #[(.agg #[.int .i64 (P:Int), .int .i64 (M:Int), .int .i64 G]), .pointer (some ⟨bx,0,none⟩), .pointer none, .int .i64 0, .int .i64 sp, .int .i64 nt, .int .i64 fr,v56,(.agg #[.int .i64 (P:Int), .int .i64 (M:Int), .int .i64 G]), .bool true, .bool false, .pointer (some ⟨bx,0,none⟩), .int .i64 (P:Int), .int .i64 pp, .int .i64 sp, .int .i64 sp, .int .i64 nt, .int .i64 nt, .pointer (some ⟨bx,1,none⟩), .int .i64 (M:Int), .int .i64 fr,(.agg #[.int .i64 (P:Int), .int .i64 (M:Int), .int .i64 G]), .int .i64 fr, .pointer (some ⟨bx,2,none⟩), .int .i64 G, .int .i64 wd,v26, .int .i64 fr, .pointer (some ⟨bx,2,none⟩), .int .i64 G, .int .i64 wd,v31, .int .i64 sp, .int .i64 nt, .int .i64 fr, .pointer (some ⟨bx,2,none⟩), .int .i64 G, .agg #[.int .i64 fr, .int .i64 G], .pointer (some ⟨bx,0,none⟩), .int .i64 (P:Int),v40, .pointer (some ⟨bx,0,none⟩), .int .i64 (P:Int),v43, .pointer (some ⟨bx,0,none⟩), .int .i64 (P:Int),v46, .pointer (some ⟨bx,0,none⟩), .int .i64 (P:Int), .pointer (some ⟨bx,1,none⟩), .int .i64 (M:Int),v51, .pointer (some ⟨bx,1,none⟩), .int .i64 (M:Int),v54,v55,v56,undef,undef,undef],defers := [] }
@[reducible] def wcG (P M:Nat) (G sp nt fr:Int) (b1 b2 tb q sb ib mb:Nat):Array Value := #[.int .i64 (P:Int), .int .i64 (M:Int), .int .i64 G, .pointer (some ⟨b1,0,none⟩), .pointer (some ⟨b2,0,none⟩), .int .i64 sp, .int .i64 nt, .int .i64 fr, .int .i64 G, .slice none 0 0, .slice (some ⟨tb,0,none⟩) P P, .pointer (some ⟨q,0,none⟩), .pointer (some ⟨sb,0,none⟩), .pointer (some ⟨ib,0,none⟩), .slice (some ⟨mb,0,none⟩) M M, .slice none 0 0]
def SG (bx P M:Nat)(G:Int)(w':World):Prop:=w'.cell? ⟨bx,0,none⟩=some (.int .i64 (P:Int))∧w'.cell? ⟨bx,1,none⟩=some (.int .i64 (M:Int))∧w'.cell? ⟨bx,2,none⟩=some (.int .i64 G)
theorem SG.alloc{bx P M:Nat}{G:Int}{w:World}(h:SG bx P M G w)(o:Obj):SG bx P M G (w.alloc o):=
 ⟨(World.cell?_alloc_some w _ o (by rw[h.1];rfl)).trans h.1,(World.cell?_alloc_some w _ o (by rw[h.2.1];rfl)).trans h.2.1,(World.cell?_alloc_some w _ o (by rw[h.2.2];rfl)).trans h.2.2⟩
@[reducible] def sln (n b:Nat):Value := .slice (some ⟨b,0,none⟩) n n
abbrev JT:=World→Option Nat→Option Nat→Option Nat→Option Nat→Option Nat→Option Nat→Option Nat→Prop
structure JOk(J:JT)(bx P M:Nat)(G wd:Int):Prop where
 sn:∀ {y o1 o2 o5 o6 o7 o9 o8},J y o1 o2 o5 o6 o7 o9 o8→SG bx P M G y
 c0:∀ {y  o5 o8},J y none none o5 none none none o8→Calls Tryz.prog 50 #[.int .i64 wd] y fun e y'=>∃ v,e = .returned v ∧ ∃ r:Nat,v=ptr r∧J y' (some r) none o5 none none none o8
 c1:∀ {y b1 o5 o8},J y (some b1) none o5 none none none o8→Calls Tryz.prog 50 #[.int .i64 wd] y fun e y'=>∃ v,e = .returned v ∧ ∃ r:Nat,v=ptr r∧J y' (some b1) (some r) o5 none none none o8
 c2:∀ {y b1 b2 o5 o8},J y (some b1) (some b2) o5 none none none o8→Calls Tryz.prog 51 #[.int .i64 (P:Int)] y fun e y'=>∃ v,e = .returned v ∧ ∃ r:Nat,v=ptr r∧J y' (some b1) (some b2) o5 (some r) none none o8
 c3:∀ {y b1 b2 q o5 o8},J y (some b1) (some b2) o5 (some q) none none o8→Calls Tryz.prog 52 #[.int .i64 (P:Int)] y fun e y'=>∃ v,e = .returned v ∧ ∃ r:Nat,v=ptr r∧J y' (some b1) (some b2) o5 (some q) (some r) none o8
 c4:∀ {y b1 b2 q sb o5 o8},J y (some b1) (some b2) o5 (some q) (some sb) none o8→Calls Tryz.prog 53 #[.int .i64 (P:Int), .int .i64 (M:Int)] y fun e y'=>∃ v,e = .returned v ∧ ∃ r:Nat,v=ptr r∧J y' (some b1) (some b2) o5 (some q) (some sb) (some r) o8
 tu:∀ {y o1 o2 o6 o7 o9 o8},J y o1 o2 none o6 o7 o9 o8→J (y.alloc (.cells (madeCells #[.int .i64 0] P) 3)) o1 o2 (some y.heap.size) o6 o7 o9 o8
 ma:∀ {y o1 o2 o5 o6 o7 o9},J y o1 o2 o5 o6 o7 o9 none→J (y.alloc (.cells (madeCells mz (M*20)) 118)) o1 o2 o5 o6 o7 o9 (some y.heap.size)
section
variable {J:JT}{y:World}{bx P M:Nat}{G pp sp nt fr wd:Int}{Q:Exit→Act→World→Prop}{b1 b2 tb q sb ib mb:Nat}
def HQG (J:JT)(bx P M:Nat)(G pp sp nt fr wd:Int)(Q:Exit→Act→World→Prop):Prop:=
 ∀ y b1 b2 tb q sb ib mb,J y (some b1) (some b2) (some tb) (some q) (some sb) (some ib) (some mb) →
   Q .normal (FrGE bx P M G pp sp nt fr wd (ptr b1) (ptr b2) (sln P tb) (ptr q) (ptr sb) (ptr ib) (sln M mb) (.agg (wcG P M G sp nt fr b1 b2 tb q sb ib mb)) (ptr y.heap.size)) (y.alloc (.cells (wcG P M G sp nt fr b1 b2 tb q sb ib mb) 84))
theorem sg_511(hP:P≤1000)(hM:M≤1000)(HJ:JOk J bx P M G wd)(HQ:HQG J bx P M G pp sp nt fr wd Q)(hA:J y (some b1) (some b2) (some tb) (some q) (some sb) (some ib) (some mb)) :
 wpAnyH Tryz.prog .any opsN Q (SG bx P M G) 3 #[true,true,true,true,true,true,true,true,true,true,true,true,true,true,true,true,true,true,true,true,true,true,true,true,true,true,true,true,true,true,true,true,true,true,false,false,false] (FrG bx P M G pp sp nt fr wd (ptr b1) (ptr b2) (sln P tb) (ptr q) (ptr sb) (ptr ib) (sln M mb)) y:=by
 refine wpAnyH_ready (rs := [34]) (by kernel_rfl) (by simp) ?_
 refine AllReadyH.cons (o:=⟨some 55, .build 84 #[(0, .tmp 21),(1, .tmp 26),(2, .tmp 31),(3, .tmp 32),(4, .tmp 33),(5, .tmp 37),(7, .tmp 40),(8, .tmp 43),(9, .tmp 46),(10, .tmp 51),(11, .tmp 54)],_,_,_,none⟩) rfl (fun K hK => ?_) AllReadyH.nil
 refine step_run_law rfl (.agg (wcG P M G sp nt fr b1 b2 tb q sb ib mb)) y (by kernel_rfl) ?_
 refine hK.out _ _ (HJ.sn hA) (fun _ => ?_)
 clear hK K
 refine wpAnyH_ready (rs := [35]) (by kernel_rfl) (by simp) ?_
 refine AllReadyH.cons (o:=⟨some 56, .box 84 (.tmp 55),_,_,_,none⟩) rfl (fun K hK => ?_) AllReadyH.nil
 refine step_run_law rfl (ptr y.heap.size) (y.alloc (.cells (wcG P M G sp nt fr b1 b2 tb q sb ib mb) 84)) (by kernel_rfl) ?_
 have A:=(HJ.sn hA).alloc (.cells (wcG P M G sp nt fr b1 b2 tb q sb ib mb) 84)
 refine hK.out _ _ A (fun _ => ?_)
 clear hK K
 refine wpAnyH_ready (rs := [36]) (by kernel_rfl) (by simp) ?_
 refine AllReadyH.cons (o:=⟨some 7, .assign (.tmp 56),_,_,_,none⟩) rfl (fun K hK => ?_) AllReadyH.nil
 refine step_run_law rfl (ptr y.heap.size) (y.alloc (.cells (wcG P M G sp nt fr b1 b2 tb q sb ib mb) 84)) (by kernel_rfl) ?_
 refine hK.out _ _ A (fun _ => ?_)
 refine wpAnyH_done (by kernel_rfl) ?_ _
 exact HQ _ _ _ _ _ _ _ _ hA
theorem sg_510(hP:P≤1000)(hM:M≤1000)(HJ:JOk J bx P M G wd)(HQ:HQG J bx P M G pp sp nt fr wd Q)(hA:J y (some b1) (some b2) (some tb) (some q) (some sb) (some ib) none) :
 wpAnyH Tryz.prog .any opsN Q (SG bx P M G) 4 #[true,true,true,true,true,true,true,true,true,true,true,true,true,true,true,true,true,true,true,true,true,true,true,true,true,true,true,true,true,true,true,true,true,false,false,false,false] (FrG bx P M G pp sp nt fr wd (ptr b1) (ptr b2) (sln P tb) (ptr q) (ptr sb) (ptr ib) undef) y:=by
 refine wpAnyH_ready (rs := [33]) (by kernel_rfl) (by simp) ?_
 refine AllReadyH.cons (o:=⟨some 54, .makeSlice 80 (.tmp 53) (.tmp 53),_,_,_,none⟩) rfl (fun K hK => ?_) AllReadyH.nil
 ·refine step_run_law rfl (sln M y.heap.size) (y.alloc (.cells (madeCells mz (M*20)) 118)) (by have hmk:=mk_man M hM y;go_simp) ?_
  refine hK.out _ _ (HJ.sn (HJ.ma hA)) (fun _ => ?_)
  exact sg_511 hP hM HJ HQ (HJ.ma hA)
theorem sg_501(hP:P≤1000)(hM:M≤1000)(HJ:JOk J bx P M G wd)(HQ:HQG J bx P M G pp sp nt fr wd Q)(hA:J y (some b1) (some b2) none (some q) (some sb) (some ib) (some mb)) :
 wpAnyH Tryz.prog .any opsN Q (SG bx P M G) 4 #[true,true,true,true,true,true,true,true,true,true,true,true,true,true,true,true,true,true,true,false,true,true,true,true,true,true,true,true,true,true,true,true,true,true,false,false,false] (FrG bx P M G pp sp nt fr wd (ptr b1) (ptr b2) undef (ptr q) (ptr sb) (ptr ib) (sln M mb)) y:=by
 refine wpAnyH_ready (rs := [19]) (by kernel_rfl) (by simp) ?_
 refine AllReadyH.cons (o:=⟨some 40, .makeSlice 63 (.tmp 39) (.tmp 39),_,_,_,none⟩) rfl (fun K hK => ?_) AllReadyH.nil
 ·refine step_run_law rfl (sln P y.heap.size) (y.alloc (.cells (madeCells #[.int .i64 0] P) 3)) (by have hmk:=mk_tun P hP y;go_simp) ?_
  refine hK.out _ _ (HJ.sn (HJ.tu hA)) (fun _ => ?_)
  exact sg_511 hP hM HJ HQ (HJ.tu hA)
theorem sg_500(hP:P≤1000)(hM:M≤1000)(HJ:JOk J bx P M G wd)(HQ:HQG J bx P M G pp sp nt fr wd Q)(hA:J y (some b1) (some b2) none (some q) (some sb) (some ib) none) :
 wpAnyH Tryz.prog .any opsN Q (SG bx P M G) 5 #[true,true,true,true,true,true,true,true,true,true,true,true,true,true,true,true,true,true,true,false,true,true,true,true,true,true,true,true,true,true,true,true,true,false,false,false,false] (FrG bx P M G pp sp nt fr wd (ptr b1) (ptr b2) undef (ptr q) (ptr sb) (ptr ib) undef) y:=by
 refine wpAnyH_ready (rs := [19,33]) (by kernel_rfl) (by simp) ?_
 refine AllReadyH.cons (o:=⟨some 40, .makeSlice 63 (.tmp 39) (.tmp 39),_,_,_,none⟩) rfl (fun K hK => ?_) ?_
 ·refine step_run_law rfl (sln P y.heap.size) (y.alloc (.cells (madeCells #[.int .i64 0] P) 3)) (by have hmk:=mk_tun P hP y;go_simp) ?_
  refine hK.out _ _ (HJ.sn (HJ.tu hA)) (fun _ => ?_)
  exact sg_510 hP hM HJ HQ (HJ.tu hA)
 refine AllReadyH.cons (o:=⟨some 54, .makeSlice 80 (.tmp 53) (.tmp 53),_,_,_,none⟩) rfl (fun K hK => ?_) AllReadyH.nil
 ·refine step_run_law rfl (sln M y.heap.size) (y.alloc (.cells (madeCells mz (M*20)) 118)) (by have hmk:=mk_man M hM y;go_simp) ?_
  refine hK.out _ _ (HJ.sn (HJ.ma hA)) (fun _ => ?_)
  exact sg_501 hP hM HJ HQ (HJ.ma hA)
theorem sg_411(hP:P≤1000)(hM:M≤1000)(HJ:JOk J bx P M G wd)(HQ:HQG J bx P M G pp sp nt fr wd Q)(hA:J y (some b1) (some b2) (some tb) (some q) (some sb) none (some mb)) :
 wpAnyH Tryz.prog .any opsN Q (SG bx P M G) 4 #[true,true,true,true,true,true,true,true,true,true,true,true,true,true,true,true,true,true,true,true,true,true,true,true,true,true,true,true,true,true,false,true,true,true,false,false,false] (FrG bx P M G pp sp nt fr wd (ptr b1) (ptr b2) (sln P tb) (ptr q) (ptr sb) undef (sln M mb)) y:=by
 refine wpAnyH_ready (rs := [30]) (by kernel_rfl) (by simp) ?_
 refine AllReadyH.cons (o:=⟨some 51, .call { callee := .value (.func 53),args := #[.tmp 48, .tmp 50],argTypes := #[_,_] },_,_,_,none⟩) rfl (fun K hK => ?_) AllReadyH.nil
 ·refine step_call_law rfl 53 #[.int .i64 (P:Int), .int .i64 (M:Int)] (by kernel_rfl) (HJ.c4 hA) ?_
  rintro v y' ⟨r,rfl,A⟩
  refine hK.out _ _ (HJ.sn A) (fun _ => ?_)
  exact sg_511 hP hM HJ HQ A
theorem sg_410(hP:P≤1000)(hM:M≤1000)(HJ:JOk J bx P M G wd)(HQ:HQG J bx P M G pp sp nt fr wd Q)(hA:J y (some b1) (some b2) (some tb) (some q) (some sb) none none) :
 wpAnyH Tryz.prog .any opsN Q (SG bx P M G) 5 #[true,true,true,true,true,true,true,true,true,true,true,true,true,true,true,true,true,true,true,true,true,true,true,true,true,true,true,true,true,true,false,true,true,false,false,false,false] (FrG bx P M G pp sp nt fr wd (ptr b1) (ptr b2) (sln P tb) (ptr q) (ptr sb) undef undef) y:=by
 refine wpAnyH_ready (rs := [30,33]) (by kernel_rfl) (by simp) ?_
 refine AllReadyH.cons (o:=⟨some 51, .call { callee := .value (.func 53),args := #[.tmp 48, .tmp 50],argTypes := #[_,_] },_,_,_,none⟩) rfl (fun K hK => ?_) ?_
 ·refine step_call_law rfl 53 #[.int .i64 (P:Int), .int .i64 (M:Int)] (by kernel_rfl) (HJ.c4 hA) ?_
  rintro v y' ⟨r,rfl,A⟩
  refine hK.out _ _ (HJ.sn A) (fun _ => ?_)
  exact sg_510 hP hM HJ HQ A
 refine AllReadyH.cons (o:=⟨some 54, .makeSlice 80 (.tmp 53) (.tmp 53),_,_,_,none⟩) rfl (fun K hK => ?_) AllReadyH.nil
 ·refine step_run_law rfl (sln M y.heap.size) (y.alloc (.cells (madeCells mz (M*20)) 118)) (by have hmk:=mk_man M hM y;go_simp) ?_
  refine hK.out _ _ (HJ.sn (HJ.ma hA)) (fun _ => ?_)
  exact sg_411 hP hM HJ HQ (HJ.ma hA)
theorem sg_401(hP:P≤1000)(hM:M≤1000)(HJ:JOk J bx P M G wd)(HQ:HQG J bx P M G pp sp nt fr wd Q)(hA:J y (some b1) (some b2) none (some q) (some sb) none (some mb)) :
 wpAnyH Tryz.prog .any opsN Q (SG bx P M G) 5 #[true,true,true,true,true,true,true,true,true,true,true,true,true,true,true,true,true,true,true,false,true,true,true,true,true,true,true,true,true,true,false,true,true,true,false,false,false] (FrG bx P M G pp sp nt fr wd (ptr b1) (ptr b2) undef (ptr q) (ptr sb) undef (sln M mb)) y:=by
 refine wpAnyH_ready (rs := [19,30]) (by kernel_rfl) (by simp) ?_
 refine AllReadyH.cons (o:=⟨some 40, .makeSlice 63 (.tmp 39) (.tmp 39),_,_,_,none⟩) rfl (fun K hK => ?_) ?_
 ·refine step_run_law rfl (sln P y.heap.size) (y.alloc (.cells (madeCells #[.int .i64 0] P) 3)) (by have hmk:=mk_tun P hP y;go_simp) ?_
  refine hK.out _ _ (HJ.sn (HJ.tu hA)) (fun _ => ?_)
  exact sg_411 hP hM HJ HQ (HJ.tu hA)
 refine AllReadyH.cons (o:=⟨some 51, .call { callee := .value (.func 53),args := #[.tmp 48, .tmp 50],argTypes := #[_,_] },_,_,_,none⟩) rfl (fun K hK => ?_) AllReadyH.nil
 ·refine step_call_law rfl 53 #[.int .i64 (P:Int), .int .i64 (M:Int)] (by kernel_rfl) (HJ.c4 hA) ?_
  rintro v y' ⟨r,rfl,A⟩
  refine hK.out _ _ (HJ.sn A) (fun _ => ?_)
  exact sg_501 hP hM HJ HQ A
theorem sg_400(hP:P≤1000)(hM:M≤1000)(HJ:JOk J bx P M G wd)(HQ:HQG J bx P M G pp sp nt fr wd Q)(hA:J y (some b1) (some b2) none (some q) (some sb) none none) :
 wpAnyH Tryz.prog .any opsN Q (SG bx P M G) 6 #[true,true,true,true,true,true,true,true,true,true,true,true,true,true,true,true,true,true,true,false,true,true,true,true,true,true,true,true,true,true,false,true,true,false,false,false,false] (FrG bx P M G pp sp nt fr wd (ptr b1) (ptr b2) undef (ptr q) (ptr sb) undef undef) y:=by
 refine wpAnyH_ready (rs := [19,30,33]) (by kernel_rfl) (by simp) ?_
 refine AllReadyH.cons (o:=⟨some 40, .makeSlice 63 (.tmp 39) (.tmp 39),_,_,_,none⟩) rfl (fun K hK => ?_) ?_
 ·refine step_run_law rfl (sln P y.heap.size) (y.alloc (.cells (madeCells #[.int .i64 0] P) 3)) (by have hmk:=mk_tun P hP y;go_simp) ?_
  refine hK.out _ _ (HJ.sn (HJ.tu hA)) (fun _ => ?_)
  exact sg_410 hP hM HJ HQ (HJ.tu hA)
 refine AllReadyH.cons (o:=⟨some 51, .call { callee := .value (.func 53),args := #[.tmp 48, .tmp 50],argTypes := #[_,_] },_,_,_,none⟩) rfl (fun K hK => ?_) ?_
 ·refine step_call_law rfl 53 #[.int .i64 (P:Int), .int .i64 (M:Int)] (by kernel_rfl) (HJ.c4 hA) ?_
  rintro v y' ⟨r,rfl,A⟩
  refine hK.out _ _ (HJ.sn A) (fun _ => ?_)
  exact sg_500 hP hM HJ HQ A
 refine AllReadyH.cons (o:=⟨some 54, .makeSlice 80 (.tmp 53) (.tmp 53),_,_,_,none⟩) rfl (fun K hK => ?_) AllReadyH.nil
 ·refine step_run_law rfl (sln M y.heap.size) (y.alloc (.cells (madeCells mz (M*20)) 118)) (by have hmk:=mk_man M hM y;go_simp) ?_
  refine hK.out _ _ (HJ.sn (HJ.ma hA)) (fun _ => ?_)
  exact sg_401 hP hM HJ HQ (HJ.ma hA)
theorem sg_311(hP:P≤1000)(hM:M≤1000)(HJ:JOk J bx P M G wd)(HQ:HQG J bx P M G pp sp nt fr wd Q)(hA:J y (some b1) (some b2) (some tb) (some q) none none (some mb)) :
 wpAnyH Tryz.prog .any opsN Q (SG bx P M G) 5 #[true,true,true,true,true,true,true,true,true,true,true,true,true,true,true,true,true,true,true,true,true,true,true,true,true,false,true,true,true,true,false,true,true,true,false,false,false] (FrG bx P M G pp sp nt fr wd (ptr b1) (ptr b2) (sln P tb) (ptr q) undef undef (sln M mb)) y:=by
 refine wpAnyH_ready (rs := [25]) (by kernel_rfl) (by simp) ?_
 refine AllReadyH.cons (o:=⟨some 46, .call { callee := .value (.func 52),args := #[.tmp 45],argTypes := #[_] },_,_,_,none⟩) rfl (fun K hK => ?_) AllReadyH.nil
 ·refine step_call_law rfl 52 #[.int .i64 (P:Int)] (by kernel_rfl) (HJ.c3 hA) ?_
  rintro v y' ⟨r,rfl,A⟩
  refine hK.out _ _ (HJ.sn A) (fun _ => ?_)
  exact sg_411 hP hM HJ HQ A
theorem sg_310(hP:P≤1000)(hM:M≤1000)(HJ:JOk J bx P M G wd)(HQ:HQG J bx P M G pp sp nt fr wd Q)(hA:J y (some b1) (some b2) (some tb) (some q) none none none) :
 wpAnyH Tryz.prog .any opsN Q (SG bx P M G) 6 #[true,true,true,true,true,true,true,true,true,true,true,true,true,true,true,true,true,true,true,true,true,true,true,true,true,false,true,true,true,true,false,true,true,false,false,false,false] (FrG bx P M G pp sp nt fr wd (ptr b1) (ptr b2) (sln P tb) (ptr q) undef undef undef) y:=by
 refine wpAnyH_ready (rs := [25,33]) (by kernel_rfl) (by simp) ?_
 refine AllReadyH.cons (o:=⟨some 46, .call { callee := .value (.func 52),args := #[.tmp 45],argTypes := #[_] },_,_,_,none⟩) rfl (fun K hK => ?_) ?_
 ·refine step_call_law rfl 52 #[.int .i64 (P:Int)] (by kernel_rfl) (HJ.c3 hA) ?_
  rintro v y' ⟨r,rfl,A⟩
  refine hK.out _ _ (HJ.sn A) (fun _ => ?_)
  exact sg_410 hP hM HJ HQ A
 refine AllReadyH.cons (o:=⟨some 54, .makeSlice 80 (.tmp 53) (.tmp 53),_,_,_,none⟩) rfl (fun K hK => ?_) AllReadyH.nil
 ·refine step_run_law rfl (sln M y.heap.size) (y.alloc (.cells (madeCells mz (M*20)) 118)) (by have hmk:=mk_man M hM y;go_simp) ?_
  refine hK.out _ _ (HJ.sn (HJ.ma hA)) (fun _ => ?_)
  exact sg_311 hP hM HJ HQ (HJ.ma hA)
theorem sg_301(hP:P≤1000)(hM:M≤1000)(HJ:JOk J bx P M G wd)(HQ:HQG J bx P M G pp sp nt fr wd Q)(hA:J y (some b1) (some b2) none (some q) none none (some mb)) :
 wpAnyH Tryz.prog .any opsN Q (SG bx P M G) 6 #[true,true,true,true,true,true,true,true,true,true,true,true,true,true,true,true,true,true,true,false,true,true,true,true,true,false,true,true,true,true,false,true,true,true,false,false,false] (FrG bx P M G pp sp nt fr wd (ptr b1) (ptr b2) undef (ptr q) undef undef (sln M mb)) y:=by
 refine wpAnyH_ready (rs := [19,25]) (by kernel_rfl) (by simp) ?_
 refine AllReadyH.cons (o:=⟨some 40, .makeSlice 63 (.tmp 39) (.tmp 39),_,_,_,none⟩) rfl (fun K hK => ?_) ?_
 ·refine step_run_law rfl (sln P y.heap.size) (y.alloc (.cells (madeCells #[.int .i64 0] P) 3)) (by have hmk:=mk_tun P hP y;go_simp) ?_
  refine hK.out _ _ (HJ.sn (HJ.tu hA)) (fun _ => ?_)
  exact sg_311 hP hM HJ HQ (HJ.tu hA)
 refine AllReadyH.cons (o:=⟨some 46, .call { callee := .value (.func 52),args := #[.tmp 45],argTypes := #[_] },_,_,_,none⟩) rfl (fun K hK => ?_) AllReadyH.nil
 ·refine step_call_law rfl 52 #[.int .i64 (P:Int)] (by kernel_rfl) (HJ.c3 hA) ?_
  rintro v y' ⟨r,rfl,A⟩
  refine hK.out _ _ (HJ.sn A) (fun _ => ?_)
  exact sg_401 hP hM HJ HQ A
theorem sg_300(hP:P≤1000)(hM:M≤1000)(HJ:JOk J bx P M G wd)(HQ:HQG J bx P M G pp sp nt fr wd Q)(hA:J y (some b1) (some b2) none (some q) none none none) :
 wpAnyH Tryz.prog .any opsN Q (SG bx P M G) 7 #[true,true,true,true,true,true,true,true,true,true,true,true,true,true,true,true,true,true,true,false,true,true,true,true,true,false,true,true,true,true,false,true,true,false,false,false,false] (FrG bx P M G pp sp nt fr wd (ptr b1) (ptr b2) undef (ptr q) undef undef undef) y:=by
 refine wpAnyH_ready (rs := [19,25,33]) (by kernel_rfl) (by simp) ?_
 refine AllReadyH.cons (o:=⟨some 40, .makeSlice 63 (.tmp 39) (.tmp 39),_,_,_,none⟩) rfl (fun K hK => ?_) ?_
 ·refine step_run_law rfl (sln P y.heap.size) (y.alloc (.cells (madeCells #[.int .i64 0] P) 3)) (by have hmk:=mk_tun P hP y;go_simp) ?_
  refine hK.out _ _ (HJ.sn (HJ.tu hA)) (fun _ => ?_)
  exact sg_310 hP hM HJ HQ (HJ.tu hA)
 refine AllReadyH.cons (o:=⟨some 46, .call { callee := .value (.func 52),args := #[.tmp 45],argTypes := #[_] },_,_,_,none⟩) rfl (fun K hK => ?_) ?_
 ·refine step_call_law rfl 52 #[.int .i64 (P:Int)] (by kernel_rfl) (HJ.c3 hA) ?_
  rintro v y' ⟨r,rfl,A⟩
  refine hK.out _ _ (HJ.sn A) (fun _ => ?_)
  exact sg_400 hP hM HJ HQ A
 refine AllReadyH.cons (o:=⟨some 54, .makeSlice 80 (.tmp 53) (.tmp 53),_,_,_,none⟩) rfl (fun K hK => ?_) AllReadyH.nil
 ·refine step_run_law rfl (sln M y.heap.size) (y.alloc (.cells (madeCells mz (M*20)) 118)) (by have hmk:=mk_man M hM y;go_simp) ?_
  refine hK.out _ _ (HJ.sn (HJ.ma hA)) (fun _ => ?_)
  exact sg_301 hP hM HJ HQ (HJ.ma hA)
theorem sg_211(hP:P≤1000)(hM:M≤1000)(HJ:JOk J bx P M G wd)(HQ:HQG J bx P M G pp sp nt fr wd Q)(hA:J y (some b1) (some b2) (some tb) none none none (some mb)) :
 wpAnyH Tryz.prog .any opsN Q (SG bx P M G) 6 #[true,true,true,true,true,true,true,true,true,true,true,true,true,true,true,true,true,true,true,true,true,true,false,true,true,false,true,true,true,true,false,true,true,true,false,false,false] (FrG bx P M G pp sp nt fr wd (ptr b1) (ptr b2) (sln P tb) undef undef undef (sln M mb)) y:=by
 refine wpAnyH_ready (rs := [22]) (by kernel_rfl) (by simp) ?_
 refine AllReadyH.cons (o:=⟨some 43, .call { callee := .value (.func 51),args := #[.tmp 42],argTypes := #[_] },_,_,_,none⟩) rfl (fun K hK => ?_) AllReadyH.nil
 ·refine step_call_law rfl 51 #[.int .i64 (P:Int)] (by kernel_rfl) (HJ.c2 hA) ?_
  rintro v y' ⟨r,rfl,A⟩
  refine hK.out _ _ (HJ.sn A) (fun _ => ?_)
  exact sg_311 hP hM HJ HQ A
theorem sg_210(hP:P≤1000)(hM:M≤1000)(HJ:JOk J bx P M G wd)(HQ:HQG J bx P M G pp sp nt fr wd Q)(hA:J y (some b1) (some b2) (some tb) none none none none) :
 wpAnyH Tryz.prog .any opsN Q (SG bx P M G) 7 #[true,true,true,true,true,true,true,true,true,true,true,true,true,true,true,true,true,true,true,true,true,true,false,true,true,false,true,true,true,true,false,true,true,false,false,false,false] (FrG bx P M G pp sp nt fr wd (ptr b1) (ptr b2) (sln P tb) undef undef undef undef) y:=by
 refine wpAnyH_ready (rs := [22,33]) (by kernel_rfl) (by simp) ?_
 refine AllReadyH.cons (o:=⟨some 43, .call { callee := .value (.func 51),args := #[.tmp 42],argTypes := #[_] },_,_,_,none⟩) rfl (fun K hK => ?_) ?_
 ·refine step_call_law rfl 51 #[.int .i64 (P:Int)] (by kernel_rfl) (HJ.c2 hA) ?_
  rintro v y' ⟨r,rfl,A⟩
  refine hK.out _ _ (HJ.sn A) (fun _ => ?_)
  exact sg_310 hP hM HJ HQ A
 refine AllReadyH.cons (o:=⟨some 54, .makeSlice 80 (.tmp 53) (.tmp 53),_,_,_,none⟩) rfl (fun K hK => ?_) AllReadyH.nil
 ·refine step_run_law rfl (sln M y.heap.size) (y.alloc (.cells (madeCells mz (M*20)) 118)) (by have hmk:=mk_man M hM y;go_simp) ?_
  refine hK.out _ _ (HJ.sn (HJ.ma hA)) (fun _ => ?_)
  exact sg_211 hP hM HJ HQ (HJ.ma hA)
theorem sg_201(hP:P≤1000)(hM:M≤1000)(HJ:JOk J bx P M G wd)(HQ:HQG J bx P M G pp sp nt fr wd Q)(hA:J y (some b1) (some b2) none none none none (some mb)) :
 wpAnyH Tryz.prog .any opsN Q (SG bx P M G) 7 #[true,true,true,true,true,true,true,true,true,true,true,true,true,true,true,true,true,true,true,false,true,true,false,true,true,false,true,true,true,true,false,true,true,true,false,false,false] (FrG bx P M G pp sp nt fr wd (ptr b1) (ptr b2) undef undef undef undef (sln M mb)) y:=by
 refine wpAnyH_ready (rs := [19,22]) (by kernel_rfl) (by simp) ?_
 refine AllReadyH.cons (o:=⟨some 40, .makeSlice 63 (.tmp 39) (.tmp 39),_,_,_,none⟩) rfl (fun K hK => ?_) ?_
 ·refine step_run_law rfl (sln P y.heap.size) (y.alloc (.cells (madeCells #[.int .i64 0] P) 3)) (by have hmk:=mk_tun P hP y;go_simp) ?_
  refine hK.out _ _ (HJ.sn (HJ.tu hA)) (fun _ => ?_)
  exact sg_211 hP hM HJ HQ (HJ.tu hA)
 refine AllReadyH.cons (o:=⟨some 43, .call { callee := .value (.func 51),args := #[.tmp 42],argTypes := #[_] },_,_,_,none⟩) rfl (fun K hK => ?_) AllReadyH.nil
 ·refine step_call_law rfl 51 #[.int .i64 (P:Int)] (by kernel_rfl) (HJ.c2 hA) ?_
  rintro v y' ⟨r,rfl,A⟩
  refine hK.out _ _ (HJ.sn A) (fun _ => ?_)
  exact sg_301 hP hM HJ HQ A
theorem sg_200(hP:P≤1000)(hM:M≤1000)(HJ:JOk J bx P M G wd)(HQ:HQG J bx P M G pp sp nt fr wd Q)(hA:J y (some b1) (some b2) none none none none none) :
 wpAnyH Tryz.prog .any opsN Q (SG bx P M G) 8 #[true,true,true,true,true,true,true,true,true,true,true,true,true,true,true,true,true,true,true,false,true,true,false,true,true,false,true,true,true,true,false,true,true,false,false,false,false] (FrG bx P M G pp sp nt fr wd (ptr b1) (ptr b2) undef undef undef undef undef) y:=by
 refine wpAnyH_ready (rs := [19,22,33]) (by kernel_rfl) (by simp) ?_
 refine AllReadyH.cons (o:=⟨some 40, .makeSlice 63 (.tmp 39) (.tmp 39),_,_,_,none⟩) rfl (fun K hK => ?_) ?_
 ·refine step_run_law rfl (sln P y.heap.size) (y.alloc (.cells (madeCells #[.int .i64 0] P) 3)) (by have hmk:=mk_tun P hP y;go_simp) ?_
  refine hK.out _ _ (HJ.sn (HJ.tu hA)) (fun _ => ?_)
  exact sg_210 hP hM HJ HQ (HJ.tu hA)
 refine AllReadyH.cons (o:=⟨some 43, .call { callee := .value (.func 51),args := #[.tmp 42],argTypes := #[_] },_,_,_,none⟩) rfl (fun K hK => ?_) ?_
 ·refine step_call_law rfl 51 #[.int .i64 (P:Int)] (by kernel_rfl) (HJ.c2 hA) ?_
  rintro v y' ⟨r,rfl,A⟩
  refine hK.out _ _ (HJ.sn A) (fun _ => ?_)
  exact sg_300 hP hM HJ HQ A
 refine AllReadyH.cons (o:=⟨some 54, .makeSlice 80 (.tmp 53) (.tmp 53),_,_,_,none⟩) rfl (fun K hK => ?_) AllReadyH.nil
 ·refine step_run_law rfl (sln M y.heap.size) (y.alloc (.cells (madeCells mz (M*20)) 118)) (by have hmk:=mk_man M hM y;go_simp) ?_
  refine hK.out _ _ (HJ.sn (HJ.ma hA)) (fun _ => ?_)
  exact sg_201 hP hM HJ HQ (HJ.ma hA)
theorem sg_111(hP:P≤1000)(hM:M≤1000)(HJ:JOk J bx P M G wd)(HQ:HQG J bx P M G pp sp nt fr wd Q)(hA:J y (some b1) none (some tb) none none none (some mb)) :
 wpAnyH Tryz.prog .any opsN Q (SG bx P M G) 7 #[true,true,true,true,true,true,true,true,true,true,false,true,true,true,true,true,true,true,true,true,true,true,false,true,true,false,true,true,true,true,false,true,true,true,false,false,false] (FrG bx P M G pp sp nt fr wd (ptr b1) undef (sln P tb) undef undef undef (sln M mb)) y:=by
 refine wpAnyH_ready (rs := [10]) (by kernel_rfl) (by simp) ?_
 refine AllReadyH.cons (o:=⟨some 31, .call { callee := .value (.func 50),args := #[.tmp 30],argTypes := #[_] },_,_,_,none⟩) rfl (fun K hK => ?_) AllReadyH.nil
 ·refine step_call_law rfl 50 #[.int .i64 wd] (by kernel_rfl) (HJ.c1 hA) ?_
  rintro v y' ⟨r,rfl,A⟩
  refine hK.out _ _ (HJ.sn A) (fun _ => ?_)
  exact sg_211 hP hM HJ HQ A
theorem sg_110(hP:P≤1000)(hM:M≤1000)(HJ:JOk J bx P M G wd)(HQ:HQG J bx P M G pp sp nt fr wd Q)(hA:J y (some b1) none (some tb) none none none none) :
 wpAnyH Tryz.prog .any opsN Q (SG bx P M G) 8 #[true,true,true,true,true,true,true,true,true,true,false,true,true,true,true,true,true,true,true,true,true,true,false,true,true,false,true,true,true,true,false,true,true,false,false,false,false] (FrG bx P M G pp sp nt fr wd (ptr b1) undef (sln P tb) undef undef undef undef) y:=by
 refine wpAnyH_ready (rs := [10,33]) (by kernel_rfl) (by simp) ?_
 refine AllReadyH.cons (o:=⟨some 31, .call { callee := .value (.func 50),args := #[.tmp 30],argTypes := #[_] },_,_,_,none⟩) rfl (fun K hK => ?_) ?_
 ·refine step_call_law rfl 50 #[.int .i64 wd] (by kernel_rfl) (HJ.c1 hA) ?_
  rintro v y' ⟨r,rfl,A⟩
  refine hK.out _ _ (HJ.sn A) (fun _ => ?_)
  exact sg_210 hP hM HJ HQ A
 refine AllReadyH.cons (o:=⟨some 54, .makeSlice 80 (.tmp 53) (.tmp 53),_,_,_,none⟩) rfl (fun K hK => ?_) AllReadyH.nil
 ·refine step_run_law rfl (sln M y.heap.size) (y.alloc (.cells (madeCells mz (M*20)) 118)) (by have hmk:=mk_man M hM y;go_simp) ?_
  refine hK.out _ _ (HJ.sn (HJ.ma hA)) (fun _ => ?_)
  exact sg_111 hP hM HJ HQ (HJ.ma hA)
theorem sg_101(hP:P≤1000)(hM:M≤1000)(HJ:JOk J bx P M G wd)(HQ:HQG J bx P M G pp sp nt fr wd Q)(hA:J y (some b1) none none none none none (some mb)) :
 wpAnyH Tryz.prog .any opsN Q (SG bx P M G) 8 #[true,true,true,true,true,true,true,true,true,true,false,true,true,true,true,true,true,true,true,false,true,true,false,true,true,false,true,true,true,true,false,true,true,true,false,false,false] (FrG bx P M G pp sp nt fr wd (ptr b1) undef undef undef undef undef (sln M mb)) y:=by
 refine wpAnyH_ready (rs := [10,19]) (by kernel_rfl) (by simp) ?_
 refine AllReadyH.cons (o:=⟨some 31, .call { callee := .value (.func 50),args := #[.tmp 30],argTypes := #[_] },_,_,_,none⟩) rfl (fun K hK => ?_) ?_
 ·refine step_call_law rfl 50 #[.int .i64 wd] (by kernel_rfl) (HJ.c1 hA) ?_
  rintro v y' ⟨r,rfl,A⟩
  refine hK.out _ _ (HJ.sn A) (fun _ => ?_)
  exact sg_201 hP hM HJ HQ A
 refine AllReadyH.cons (o:=⟨some 40, .makeSlice 63 (.tmp 39) (.tmp 39),_,_,_,none⟩) rfl (fun K hK => ?_) AllReadyH.nil
 ·refine step_run_law rfl (sln P y.heap.size) (y.alloc (.cells (madeCells #[.int .i64 0] P) 3)) (by have hmk:=mk_tun P hP y;go_simp) ?_
  refine hK.out _ _ (HJ.sn (HJ.tu hA)) (fun _ => ?_)
  exact sg_111 hP hM HJ HQ (HJ.tu hA)
theorem sg_100(hP:P≤1000)(hM:M≤1000)(HJ:JOk J bx P M G wd)(HQ:HQG J bx P M G pp sp nt fr wd Q)(hA:J y (some b1) none none none none none none) :
 wpAnyH Tryz.prog .any opsN Q (SG bx P M G) 9 #[true,true,true,true,true,true,true,true,true,true,false,true,true,true,true,true,true,true,true,false,true,true,false,true,true,false,true,true,true,true,false,true,true,false,false,false,false] (FrG bx P M G pp sp nt fr wd (ptr b1) undef undef undef undef undef undef) y:=by
 refine wpAnyH_ready (rs := [10,19,33]) (by kernel_rfl) (by simp) ?_
 refine AllReadyH.cons (o:=⟨some 31, .call { callee := .value (.func 50),args := #[.tmp 30],argTypes := #[_] },_,_,_,none⟩) rfl (fun K hK => ?_) ?_
 ·refine step_call_law rfl 50 #[.int .i64 wd] (by kernel_rfl) (HJ.c1 hA) ?_
  rintro v y' ⟨r,rfl,A⟩
  refine hK.out _ _ (HJ.sn A) (fun _ => ?_)
  exact sg_200 hP hM HJ HQ A
 refine AllReadyH.cons (o:=⟨some 40, .makeSlice 63 (.tmp 39) (.tmp 39),_,_,_,none⟩) rfl (fun K hK => ?_) ?_
 ·refine step_run_law rfl (sln P y.heap.size) (y.alloc (.cells (madeCells #[.int .i64 0] P) 3)) (by have hmk:=mk_tun P hP y;go_simp) ?_
  refine hK.out _ _ (HJ.sn (HJ.tu hA)) (fun _ => ?_)
  exact sg_110 hP hM HJ HQ (HJ.tu hA)
 refine AllReadyH.cons (o:=⟨some 54, .makeSlice 80 (.tmp 53) (.tmp 53),_,_,_,none⟩) rfl (fun K hK => ?_) AllReadyH.nil
 ·refine step_run_law rfl (sln M y.heap.size) (y.alloc (.cells (madeCells mz (M*20)) 118)) (by have hmk:=mk_man M hM y;go_simp) ?_
  refine hK.out _ _ (HJ.sn (HJ.ma hA)) (fun _ => ?_)
  exact sg_101 hP hM HJ HQ (HJ.ma hA)
theorem sg_011(hP:P≤1000)(hM:M≤1000)(HJ:JOk J bx P M G wd)(HQ:HQG J bx P M G pp sp nt fr wd Q)(hA:J y none none (some tb) none none none (some mb)) :
 wpAnyH Tryz.prog .any opsN Q (SG bx P M G) 8 #[true,true,true,true,true,false,true,true,true,true,false,true,true,true,true,true,true,true,true,true,true,true,false,true,true,false,true,true,true,true,false,true,true,true,false,false,false] (FrG bx P M G pp sp nt fr wd undef undef (sln P tb) undef undef undef (sln M mb)) y:=by
 refine wpAnyH_ready (rs := [5]) (by kernel_rfl) (by simp) ?_
 refine AllReadyH.cons (o:=⟨some 26, .call { callee := .value (.func 50),args := #[.tmp 25],argTypes := #[_] },_,_,_,none⟩) rfl (fun K hK => ?_) AllReadyH.nil
 ·refine step_call_law rfl 50 #[.int .i64 wd] (by kernel_rfl) (HJ.c0 hA) ?_
  rintro v y' ⟨r,rfl,A⟩
  refine hK.out _ _ (HJ.sn A) (fun _ => ?_)
  exact sg_111 hP hM HJ HQ A
theorem sg_010(hP:P≤1000)(hM:M≤1000)(HJ:JOk J bx P M G wd)(HQ:HQG J bx P M G pp sp nt fr wd Q)(hA:J y none none (some tb) none none none none) :
 wpAnyH Tryz.prog .any opsN Q (SG bx P M G) 9 #[true,true,true,true,true,false,true,true,true,true,false,true,true,true,true,true,true,true,true,true,true,true,false,true,true,false,true,true,true,true,false,true,true,false,false,false,false] (FrG bx P M G pp sp nt fr wd undef undef (sln P tb) undef undef undef undef) y:=by
 refine wpAnyH_ready (rs := [5,33]) (by kernel_rfl) (by simp) ?_
 refine AllReadyH.cons (o:=⟨some 26, .call { callee := .value (.func 50),args := #[.tmp 25],argTypes := #[_] },_,_,_,none⟩) rfl (fun K hK => ?_) ?_
 ·refine step_call_law rfl 50 #[.int .i64 wd] (by kernel_rfl) (HJ.c0 hA) ?_
  rintro v y' ⟨r,rfl,A⟩
  refine hK.out _ _ (HJ.sn A) (fun _ => ?_)
  exact sg_110 hP hM HJ HQ A
 refine AllReadyH.cons (o:=⟨some 54, .makeSlice 80 (.tmp 53) (.tmp 53),_,_,_,none⟩) rfl (fun K hK => ?_) AllReadyH.nil
 ·refine step_run_law rfl (sln M y.heap.size) (y.alloc (.cells (madeCells mz (M*20)) 118)) (by have hmk:=mk_man M hM y;go_simp) ?_
  refine hK.out _ _ (HJ.sn (HJ.ma hA)) (fun _ => ?_)
  exact sg_011 hP hM HJ HQ (HJ.ma hA)
theorem sg_001(hP:P≤1000)(hM:M≤1000)(HJ:JOk J bx P M G wd)(HQ:HQG J bx P M G pp sp nt fr wd Q)(hA:J y none none none none none none (some mb)) :
 wpAnyH Tryz.prog .any opsN Q (SG bx P M G) 9 #[true,true,true,true,true,false,true,true,true,true,false,true,true,true,true,true,true,true,true,false,true,true,false,true,true,false,true,true,true,true,false,true,true,true,false,false,false] (FrG bx P M G pp sp nt fr wd undef undef undef undef undef undef (sln M mb)) y:=by
 refine wpAnyH_ready (rs := [5,19]) (by kernel_rfl) (by simp) ?_
 refine AllReadyH.cons (o:=⟨some 26, .call { callee := .value (.func 50),args := #[.tmp 25],argTypes := #[_] },_,_,_,none⟩) rfl (fun K hK => ?_) ?_
 ·refine step_call_law rfl 50 #[.int .i64 wd] (by kernel_rfl) (HJ.c0 hA) ?_
  rintro v y' ⟨r,rfl,A⟩
  refine hK.out _ _ (HJ.sn A) (fun _ => ?_)
  exact sg_101 hP hM HJ HQ A
 refine AllReadyH.cons (o:=⟨some 40, .makeSlice 63 (.tmp 39) (.tmp 39),_,_,_,none⟩) rfl (fun K hK => ?_) AllReadyH.nil
 ·refine step_run_law rfl (sln P y.heap.size) (y.alloc (.cells (madeCells #[.int .i64 0] P) 3)) (by have hmk:=mk_tun P hP y;go_simp) ?_
  refine hK.out _ _ (HJ.sn (HJ.tu hA)) (fun _ => ?_)
  exact sg_011 hP hM HJ HQ (HJ.tu hA)
theorem sg_000(hP:P≤1000)(hM:M≤1000)(HJ:JOk J bx P M G wd)(HQ:HQG J bx P M G pp sp nt fr wd Q)(hA:J y none none none none none none none) :
 wpAnyH Tryz.prog .any opsN Q (SG bx P M G) 10 #[true,true,true,true,true,false,true,true,true,true,false,true,true,true,true,true,true,true,true,false,true,true,false,true,true,false,true,true,true,true,false,true,true,false,false,false,false] (FrG bx P M G pp sp nt fr wd undef undef undef undef undef undef undef) y:=by
 refine wpAnyH_ready (rs := [5,19,33]) (by kernel_rfl) (by simp) ?_
 refine AllReadyH.cons (o:=⟨some 26, .call { callee := .value (.func 50),args := #[.tmp 25],argTypes := #[_] },_,_,_,none⟩) rfl (fun K hK => ?_) ?_
 ·refine step_call_law rfl 50 #[.int .i64 wd] (by kernel_rfl) (HJ.c0 hA) ?_
  rintro v y' ⟨r,rfl,A⟩
  refine hK.out _ _ (HJ.sn A) (fun _ => ?_)
  exact sg_100 hP hM HJ HQ A
 refine AllReadyH.cons (o:=⟨some 40, .makeSlice 63 (.tmp 39) (.tmp 39),_,_,_,none⟩) rfl (fun K hK => ?_) ?_
 ·refine step_run_law rfl (sln P y.heap.size) (y.alloc (.cells (madeCells #[.int .i64 0] P) 3)) (by have hmk:=mk_tun P hP y;go_simp) ?_
  refine hK.out _ _ (HJ.sn (HJ.tu hA)) (fun _ => ?_)
  exact sg_010 hP hM HJ HQ (HJ.tu hA)
 refine AllReadyH.cons (o:=⟨some 54, .makeSlice 80 (.tmp 53) (.tmp 53),_,_,_,none⟩) rfl (fun K hK => ?_) AllReadyH.nil
 ·refine step_run_law rfl (sln M y.heap.size) (y.alloc (.cells (madeCells mz (M*20)) 118)) (by have hmk:=mk_man M hM y;go_simp) ?_
  refine hK.out _ _ (HJ.sn (HJ.ma hA)) (fun _ => ?_)
  exact sg_001 hP hM HJ HQ (HJ.ma hA)
end
end Go.Proofs.YtkhigkcmgcafdaaGreatDoor
