/- Of WgX, WgS, WgT, WgK, SqK, Del, Ids, Ids2, Ids3, IdsN, Ids4, WhP, WhQ, WhC. -/
import Derived.Deep.MidRow
import Derived.Deep.Upon
import Derived.Lib.SliceRun
import Derived.Test.YtkhigkcmgcafdaaGreatDoorZ5
set_option linter.unusedVariables false
set_option linter.unusedSimpArgs false
set_option maxHeartbeats 16000000
set_option maxRecDepth 20000
namespace Go.Proofs.YtkhigkcmgcafdaaGreatDoor
open Go.RowKit
set_option maxHeartbeats 40000000 in
theorem wnew_yes (P M:Nat) (G:Int) (hok:OkC P M G) (w:World) (J:JT) (R:Nat→World→Prop)
 (HJ:JOk J w.heap.size P M G (2*((P:Int)+2)+1+(M:Int)+G))
 (HJ0:∀ y,Below w.heap.size w y→SG w.heap.size P M G y→J y none none none none none none none)
 (HB:∀ y b1 b2 tb q sb ib mb,J y (some b1) (some b2) (some tb) (some q) (some sb) (some ib) (some mb) →
  Calls Tryz.prog 54 #[ptr y.heap.size] (y.alloc (.cells (wcG P M G (2*((P:Int)+2)) (2*((P:Int)+2)+1) (2*((P:Int)+2)+1+(M:Int)) b1 b2 tb q sb ib mb) 84)) fun e w'=>e = .returned (.tuple #[])∧R y.heap.size w') :
 Calls Tryz.prog 25 #[.agg #[.int .i64 (P:Int), .int .i64 (M:Int), .int .i64 G]] w fun e w'=>∃ x,e = .returned (.tuple #[.pointer (some ⟨x,0,none⟩), .int .i64 0])∧R x w':=by
 have b0:=hid (bla w (.cells #[.int .i64 (P:Int), .int .i64 (M:Int), .int .i64 G] 61))
 have S0:=hid (show SG w.heap.size P M G (w.alloc (.cells #[.int .i64 (P:Int), .int .i64 (M:Int), .int .i64 G] 61)) from by have h:=heap_alloc_new w (.cells #[.int .i64 (P:Int), .int .i64 (M:Int), .int .i64 G] 61);refine⟨?_,?_,?_⟩ <;> (simp only[World.cell?,h];rfl))
 have hR:=hid (right_yes P M G hok)
 have hJ:=hid HJ
 have hJ0:=hid HJ0
 have hB:=hid HB
 clear HJ HJ0 HB
 obtain⟨h1,h2,h3,h4,h5,h6⟩:=hok
 obtain⟨bx,hbx⟩:∃ bx,bx=w.heap.size:=⟨_,rfl⟩
 have hlx:bx<(w.alloc (.cells #[.int .i64 (P:Int), .int .i64 (M:Int), .int .i64 G] 61)).heap.size:=by rw[hbx];simp
 go_enter Tryz.func25,Tryz.ntmps25
 go_wp2_with fail
 refine(hR.out _).mono ?_
 rintro e y ⟨rfl,hb⟩
 rw[←hbx]at S0 hJ hJ0 ⊢
 have A:=hid (b0.out.trans (hb.mono b0.out.size))
 have hS0:SG bx P M G y:=⟨(hb.cell (p:=⟨bx,0,none⟩) hlx).trans S0.out.1,(hb.cell (p:=⟨bx,1,none⟩) hlx).trans S0.out.2.1,(hb.cell (p:=⟨bx,2,none⟩) hlx).trans S0.out.2.2⟩
 have HX:=hid hbx
 clear hb b0 S0 hR hlx hbx
 have c0:=hS0.1
 have c1:=hS0.2.1
 have c2:=hS0.2.2
 go_wp2_with fail
 have hS:SG bx P M G (World.drew y):=hS0
 have JJ:=hid (hJ0.out _ (by rw[HX.out];exact A.out.trans (Quiet.below ⟨1,rfl⟩ _)) hS)
 refine wp_region_held (S:=SG bx P M G) (by kernel_rfl) ?_
 change wpAnyH _ _ _ _ _ _ _ _ (World.drew _)
 refine wpAnyH_take (i:=0) (oi:=⟨some 21, .load 61 (.tmp 1),_,_,_,none⟩) (v := .agg #[.int .i64 (P:Int), .int .i64 (M:Int), .int .i64 G]) rfl (by kernel_rfl) (by kernel_rfl) (by kernel_rfl) (fun _ _ _ h=>h) (Or.inl ⟨by rfl,fun w' hSw=>by (obtain⟨s0,s1,s2⟩:=hSw;go_simp)⟩) hS ?_
 simp only[Act.put,List.setIfInBounds_toArray,List.set_cons_zero,List.set_cons_succ]
 refine wpAnyH_take (i:=1) (oi:=⟨some 22, .move (.tmp 6),_,_,_,none⟩) (v := .int .i64 (2*((P:Int)+2)+1+(M:Int))) rfl (by kernel_rfl) (by kernel_rfl) (by kernel_rfl) (fun _ _ _ h=>h) (Or.inl ⟨by rfl,fun w' hSw=>by kernel_rfl⟩) hS ?_
 simp only[Act.put,List.setIfInBounds_toArray,List.set_cons_zero,List.set_cons_succ]
 refine wpAnyH_take (i:=2) (oi:=⟨some 23, .fieldAddr 61 (.tmp 1) 2,_,_,_,none⟩) (v := .pointer (some ⟨bx,2,none⟩)) rfl (by kernel_rfl) (by kernel_rfl) (by kernel_rfl) (fun _ _ _ h=>h) (Or.inl ⟨by rfl,fun w' hSw=>by kernel_rfl⟩) hS ?_
 simp only[Act.put,List.setIfInBounds_toArray,List.set_cons_zero,List.set_cons_succ]
 refine wpAnyH_take (i:=3) (oi:=⟨some 24, .load 3 (.tmp 23),_,_,_,none⟩) (v := .int .i64 G) rfl (by kernel_rfl) (by kernel_rfl) (by kernel_rfl) (fun _ _ _ h=>h) (Or.inl ⟨by rfl,fun w' hSw=>by (obtain⟨s0,s1,s2⟩:=hSw;go_simp)⟩) hS ?_
 simp only[Act.put,List.setIfInBounds_toArray,List.set_cons_zero,List.set_cons_succ]
 refine wpAnyH_take (i:=4) (oi:=⟨some 25, .binOp .add 3 (.tmp 22) (.tmp 24) 3,_,_,_,none⟩) (v := .int .i64 (2*((P:Int)+2)+1+(M:Int)+G)) rfl (by kernel_rfl) (by kernel_rfl) (by kernel_rfl) (fun _ _ _ h=>h) (Or.inl ⟨by rfl,fun w' hSw=>by (go_simp;exact IntWalk.i64_in _ (by omega))⟩) hS ?_
 simp only[Act.put,List.setIfInBounds_toArray,List.set_cons_zero,List.set_cons_succ]
 refine wpAnyH_take (i:=6) (oi:=⟨some 27, .move (.tmp 6),_,_,_,none⟩) (v := .int .i64 (2*((P:Int)+2)+1+(M:Int))) rfl (by kernel_rfl) (by kernel_rfl) (by kernel_rfl) (fun _ _ _ h=>h) (Or.inl ⟨by rfl,fun w' hSw=>by kernel_rfl⟩) hS ?_
 simp only[Act.put,List.setIfInBounds_toArray,List.set_cons_zero,List.set_cons_succ]
 refine wpAnyH_take (i:=7) (oi:=⟨some 28, .fieldAddr 61 (.tmp 1) 2,_,_,_,none⟩) (v := .pointer (some ⟨bx,2,none⟩)) rfl (by kernel_rfl) (by kernel_rfl) (by kernel_rfl) (fun _ _ _ h=>h) (Or.inl ⟨by rfl,fun w' hSw=>by kernel_rfl⟩) hS ?_
 simp only[Act.put,List.setIfInBounds_toArray,List.set_cons_zero,List.set_cons_succ]
 refine wpAnyH_take (i:=8) (oi:=⟨some 29, .load 3 (.tmp 28),_,_,_,none⟩) (v := .int .i64 G) rfl (by kernel_rfl) (by kernel_rfl) (by kernel_rfl) (fun _ _ _ h=>h) (Or.inl ⟨by rfl,fun w' hSw=>by (obtain⟨s0,s1,s2⟩:=hSw;go_simp)⟩) hS ?_
 simp only[Act.put,List.setIfInBounds_toArray,List.set_cons_zero,List.set_cons_succ]
 refine wpAnyH_take (i:=9) (oi:=⟨some 30, .binOp .add 3 (.tmp 27) (.tmp 29) 3,_,_,_,none⟩) (v := .int .i64 (2*((P:Int)+2)+1+(M:Int)+G)) rfl (by kernel_rfl) (by kernel_rfl) (by kernel_rfl) (fun _ _ _ h=>h) (Or.inl ⟨by rfl,fun w' hSw=>by (go_simp;exact IntWalk.i64_in _ (by omega))⟩) hS ?_
 simp only[Act.put,List.setIfInBounds_toArray,List.set_cons_zero,List.set_cons_succ]
 refine wpAnyH_take (i:=11) (oi:=⟨some 32, .move (.tmp 4),_,_,_,none⟩) (v := .int .i64 (2*((P:Int)+2))) rfl (by kernel_rfl) (by kernel_rfl) (by kernel_rfl) (fun _ _ _ h=>h) (Or.inl ⟨by rfl,fun w' hSw=>by kernel_rfl⟩) hS ?_
 simp only[Act.put,List.setIfInBounds_toArray,List.set_cons_zero,List.set_cons_succ]
 refine wpAnyH_take (i:=12) (oi:=⟨some 33, .move (.tmp 5),_,_,_,none⟩) (v := .int .i64 (2*((P:Int)+2)+1)) rfl (by kernel_rfl) (by kernel_rfl) (by kernel_rfl) (fun _ _ _ h=>h) (Or.inl ⟨by rfl,fun w' hSw=>by kernel_rfl⟩) hS ?_
 simp only[Act.put,List.setIfInBounds_toArray,List.set_cons_zero,List.set_cons_succ]
 refine wpAnyH_take (i:=13) (oi:=⟨some 34, .move (.tmp 6),_,_,_,none⟩) (v := .int .i64 (2*((P:Int)+2)+1+(M:Int))) rfl (by kernel_rfl) (by kernel_rfl) (by kernel_rfl) (fun _ _ _ h=>h) (Or.inl ⟨by rfl,fun w' hSw=>by kernel_rfl⟩) hS ?_
 simp only[Act.put,List.setIfInBounds_toArray,List.set_cons_zero,List.set_cons_succ]
 refine wpAnyH_take (i:=14) (oi:=⟨some 35, .fieldAddr 61 (.tmp 1) 2,_,_,_,none⟩) (v := .pointer (some ⟨bx,2,none⟩)) rfl (by kernel_rfl) (by kernel_rfl) (by kernel_rfl) (fun _ _ _ h=>h) (Or.inl ⟨by rfl,fun w' hSw=>by kernel_rfl⟩) hS ?_
 simp only[Act.put,List.setIfInBounds_toArray,List.set_cons_zero,List.set_cons_succ]
 refine wpAnyH_take (i:=15) (oi:=⟨some 36, .load 3 (.tmp 35),_,_,_,none⟩) (v := .int .i64 G) rfl (by kernel_rfl) (by kernel_rfl) (by kernel_rfl) (fun _ _ _ h=>h) (Or.inl ⟨by rfl,fun w' hSw=>by (obtain⟨s0,s1,s2⟩:=hSw;go_simp)⟩) hS ?_
 simp only[Act.put,List.setIfInBounds_toArray,List.set_cons_zero,List.set_cons_succ]
 refine wpAnyH_take (i:=16) (oi:=⟨some 37, .build 76 #[(0, .tmp 34),(1, .tmp 36)],_,_,_,none⟩) (v := .agg #[.int .i64 (2*((P:Int)+2)+1+(M:Int)), .int .i64 G]) rfl (by kernel_rfl) (by kernel_rfl) (by kernel_rfl) (fun _ _ _ h=>h) (Or.inl ⟨by rfl,fun w' hSw=>by kernel_rfl⟩) hS ?_
 simp only[Act.put,List.setIfInBounds_toArray,List.set_cons_zero,List.set_cons_succ]
 refine wpAnyH_take (i:=17) (oi:=⟨some 38, .fieldAddr 61 (.tmp 1) 0,_,_,_,none⟩) (v := .pointer (some ⟨bx,0,none⟩)) rfl (by kernel_rfl) (by kernel_rfl) (by kernel_rfl) (fun _ _ _ h=>h) (Or.inl ⟨by rfl,fun w' hSw=>by kernel_rfl⟩) hS ?_
 simp only[Act.put,List.setIfInBounds_toArray,List.set_cons_zero,List.set_cons_succ]
 refine wpAnyH_take (i:=18) (oi:=⟨some 39, .load 3 (.tmp 38),_,_,_,none⟩) (v := .int .i64 (P:Int)) rfl (by kernel_rfl) (by kernel_rfl) (by kernel_rfl) (fun _ _ _ h=>h) (Or.inl ⟨by rfl,fun w' hSw=>by (obtain⟨s0,s1,s2⟩:=hSw;go_simp)⟩) hS ?_
 simp only[Act.put,List.setIfInBounds_toArray,List.set_cons_zero,List.set_cons_succ]
 refine wpAnyH_take (i:=20) (oi:=⟨some 41, .fieldAddr 61 (.tmp 1) 0,_,_,_,none⟩) (v := .pointer (some ⟨bx,0,none⟩)) rfl (by kernel_rfl) (by kernel_rfl) (by kernel_rfl) (fun _ _ _ h=>h) (Or.inl ⟨by rfl,fun w' hSw=>by kernel_rfl⟩) hS ?_
 simp only[Act.put,List.setIfInBounds_toArray,List.set_cons_zero,List.set_cons_succ]
 refine wpAnyH_take (i:=21) (oi:=⟨some 42, .load 3 (.tmp 41),_,_,_,none⟩) (v := .int .i64 (P:Int)) rfl (by kernel_rfl) (by kernel_rfl) (by kernel_rfl) (fun _ _ _ h=>h) (Or.inl ⟨by rfl,fun w' hSw=>by (obtain⟨s0,s1,s2⟩:=hSw;go_simp)⟩) hS ?_
 simp only[Act.put,List.setIfInBounds_toArray,List.set_cons_zero,List.set_cons_succ]
 refine wpAnyH_take (i:=23) (oi:=⟨some 44, .fieldAddr 61 (.tmp 1) 0,_,_,_,none⟩) (v := .pointer (some ⟨bx,0,none⟩)) rfl (by kernel_rfl) (by kernel_rfl) (by kernel_rfl) (fun _ _ _ h=>h) (Or.inl ⟨by rfl,fun w' hSw=>by kernel_rfl⟩) hS ?_
 simp only[Act.put,List.setIfInBounds_toArray,List.set_cons_zero,List.set_cons_succ]
 refine wpAnyH_take (i:=24) (oi:=⟨some 45, .load 3 (.tmp 44),_,_,_,none⟩) (v := .int .i64 (P:Int)) rfl (by kernel_rfl) (by kernel_rfl) (by kernel_rfl) (fun _ _ _ h=>h) (Or.inl ⟨by rfl,fun w' hSw=>by (obtain⟨s0,s1,s2⟩:=hSw;go_simp)⟩) hS ?_
 simp only[Act.put,List.setIfInBounds_toArray,List.set_cons_zero,List.set_cons_succ]
 refine wpAnyH_take (i:=26) (oi:=⟨some 47, .fieldAddr 61 (.tmp 1) 0,_,_,_,none⟩) (v := .pointer (some ⟨bx,0,none⟩)) rfl (by kernel_rfl) (by kernel_rfl) (by kernel_rfl) (fun _ _ _ h=>h) (Or.inl ⟨by rfl,fun w' hSw=>by kernel_rfl⟩) hS ?_
 simp only[Act.put,List.setIfInBounds_toArray,List.set_cons_zero,List.set_cons_succ]
 refine wpAnyH_take (i:=27) (oi:=⟨some 48, .load 3 (.tmp 47),_,_,_,none⟩) (v := .int .i64 (P:Int)) rfl (by kernel_rfl) (by kernel_rfl) (by kernel_rfl) (fun _ _ _ h=>h) (Or.inl ⟨by rfl,fun w' hSw=>by (obtain⟨s0,s1,s2⟩:=hSw;go_simp)⟩) hS ?_
 simp only[Act.put,List.setIfInBounds_toArray,List.set_cons_zero,List.set_cons_succ]
 refine wpAnyH_take (i:=28) (oi:=⟨some 49, .fieldAddr 61 (.tmp 1) 1,_,_,_,none⟩) (v := .pointer (some ⟨bx,1,none⟩)) rfl (by kernel_rfl) (by kernel_rfl) (by kernel_rfl) (fun _ _ _ h=>h) (Or.inl ⟨by rfl,fun w' hSw=>by kernel_rfl⟩) hS ?_
 simp only[Act.put,List.setIfInBounds_toArray,List.set_cons_zero,List.set_cons_succ]
 refine wpAnyH_take (i:=29) (oi:=⟨some 50, .load 3 (.tmp 49),_,_,_,none⟩) (v := .int .i64 (M:Int)) rfl (by kernel_rfl) (by kernel_rfl) (by kernel_rfl) (fun _ _ _ h=>h) (Or.inl ⟨by rfl,fun w' hSw=>by (obtain⟨s0,s1,s2⟩:=hSw;go_simp)⟩) hS ?_
 simp only[Act.put,List.setIfInBounds_toArray,List.set_cons_zero,List.set_cons_succ]
 refine wpAnyH_take (i:=31) (oi:=⟨some 52, .fieldAddr 61 (.tmp 1) 1,_,_,_,none⟩) (v := .pointer (some ⟨bx,1,none⟩)) rfl (by kernel_rfl) (by kernel_rfl) (by kernel_rfl) (fun _ _ _ h=>h) (Or.inl ⟨by rfl,fun w' hSw=>by kernel_rfl⟩) hS ?_
 simp only[Act.put,List.setIfInBounds_toArray,List.set_cons_zero,List.set_cons_succ]
 refine wpAnyH_take (i:=32) (oi:=⟨some 53, .load 3 (.tmp 52),_,_,_,none⟩) (v := .int .i64 (M:Int)) rfl (by kernel_rfl) (by kernel_rfl) (by kernel_rfl) (fun _ _ _ h=>h) (Or.inl ⟨by rfl,fun w' hSw=>by (obtain⟨s0,s1,s2⟩:=hSw;go_simp)⟩) hS ?_
 simp only[Act.put,List.setIfInBounds_toArray,List.set_cons_zero,List.set_cons_succ]
 refine sg_000 (pp:=((P:Int)+2)) (sp:=(2*((P:Int)+2))) (nt:=(2*((P:Int)+2)+1)) (fr:=(2*((P:Int)+2)+1+(M:Int))) (wd:=(2*((P:Int)+2)+1+(M:Int)+G)) (by omega) (by omega) hJ.out (fun y' b1 b2 tb q sb ib mb hA => ?_) JJ.out
 have BG:=hid (hB.out _ _ _ _ _ _ _ _ hA)
 clear hA hS A c0 c1 c2 hS0 JJ hJ hJ0 hB
 go_wp2_with fail
 refine BG.out.mono ?_
 rintro e w5 ⟨rfl,h5⟩
 have F5:=hid h5
 clear h5 BG
 go_wp2
 go_ret2
 exact⟨_,rfl,F5.out⟩
theorem tsetg(b g:Nat)(xs:List Int)(c:Nat)(f n j s:Int)(w:World)(hm:Mem w b g xs c)(hc:c<1000000)(hf:0≤f)(j0:0≤j)(j1:j<n)(hl:f+j<xs.length)(hx:xs.length≤100000)(h0:0≤s)(h7:s<7) :
 Calls Tryz.prog 123 #[.agg #[.int .i64 f, .int .i64 n], .pointer (some ⟨b,0,none⟩), .int .i64 j, .int .u64 s] w fun e w'=>e = .returned (.bool true)∧Mem w' b g (xs.set (f+j).toNat s) (c+1)∧Only b g w w':=by
 have hwr:IntKind.i64.wrap (f+j)=f+j:=IntWalk.i64_in _ (by omega)
 have HM:=hid hm
 have hb0:Below w.heap.size w (w.alloc (.cells #[.int .i64 f, .int .i64 n] 76)):=(Below.refl _ _).alloc (Nat.le_refl _) _
 have B0:=hid hb0
 have HL:=hid hl
 have HC:=hid hc
 have TH:=hid (fun y:World=>thas_in0 f n j y j0 j1)
 have BX:=hid (heap_alloc_new w (.cells #[.int .i64 f, .int .i64 n] 76))
 have t7:s<7:=h7
 have ST:=hid (fun(y:World) (hy:Mem y b g xs c)=>store_in b g xs c (f+j) s y hy (by omega) (by omega) (by omega))
 clear hm hl hc hb0 hx hf j0 j1
 go_enter Tryz.func123,Tryz.ntmps123
 go_wp2_with fail
 refine(TH.out _).mono ?_
 rintro e w2 ⟨rfl,hb⟩
 have B2:=hid (B0.out.trans (hb.mono B0.out.size))
 have X2:=(hb.block _ (by simp)).trans BX.out
 have c0:w2.cell? ⟨w.heap.size,0,none⟩=some (.int .i64 f):=by simp[World.cell?,X2]
 have M2:=hid (HM.out.below B2.out HM.out.sb HM.out.sg)
 clear hb X2
 go_wp2_with fail
 refine(ST.out _ M2.out).mono ?_
 rintro e w3 ⟨rfl,hm3,ho3⟩
 have M3:=hid hm3
 have O3:=hid ((Only.of_below B2.out).trans ho3)
 clear hm3 ho3
 go_wp2
 go_ret
 exact⟨rfl,M3.out,O3.out⟩
theorem see1g{W pw pe pt b g:Nat}{w:World}{k m p x s f n j:Int}{xs:List Int}{c:Nat}(a7:w.cell? ⟨W,7,none⟩=some (.int .i64 f))(a8:w.cell? ⟨W,8,none⟩=some (.int .i64 n))(hs:Sb w W pw pe pt k j m p x s)(hm:Mem w b g xs c)(hc:c<1000000)(hf:0≤f)(j0:0≤j)(j1:j<n)(hl:f+j<xs.length)(hx:xs.length≤100000)(h0:0≤s)(h7:s<7) :
 Calls Tryz.prog 122 #[.pointer (some ⟨b,0,none⟩), .pointer (some ⟨pw,0,none⟩), .pointer (some ⟨pe,0,none⟩), .pointer (some ⟨pt,0,none⟩)] w fun e w'=>e = .returned (.tuple #[])∧Mem w' b g (xs.set (f+j).toNat s) (c+1)∧Only b g w w':=by
 have d0:w.cell? ⟨pw,0,none⟩=some (.pointer (some ⟨W,0,none⟩)):=blk_cell hs.a rfl
 have d1:w.cell? ⟨pe,1,none⟩=some (.int .i64 j):=blk_cell hs.b rfl
 have d2:w.cell? ⟨pt,0,none⟩=some (.int .u64 s):=blk_cell hs.c rfl
 have TS:=hid (fun(y:World) (hq:Quiet w y)=>(tsetg b g xs c f n j s y (hm.quiet hq) hc hf j0 j1 hl hx h0 h7).mono (R':=fun e w'=>e = .returned (.bool true)∧Mem w' b g (xs.set (f+j).toNat s) (c+1)∧Only b g w w') fun e w' hx=>⟨hx.1,hx.2.1,(Only.of_quiet hq).trans hx.2.2⟩)
 clear hs hm hc hl h0 h7 hf j0 j1 hx
 go_enter Tryz.func122,Tryz.ntmps122
 go_wp2_with fail
 go_region_with (go_at_call 123;refine(TS.out _ ⟨_,rfl⟩).mono ?_;rintro e w5 ⟨rfl,h5,o5⟩)
 all_goals
  have H5:=hid h5
  have O5:=hid o5
  clear h5 o5
  go_wp2
  go_end0
  exact⟨rfl,H5.out,O5.out⟩
structure Wg(w:World)(W b1 b2:Nat)(f n:Int)(cs:Array Value):Prop where
 h:w.heap[W]? = some (.cells cs 84 (0,0))
 e3:cs[3]? = some (.pointer (some ⟨b1,0,none⟩))
 e4:cs[4]? = some (.pointer (some ⟨b2,0,none⟩))
 e7:cs[7]? = some (.int .i64 f)
 e8:cs[8]? = some (.int .i64 n)
theorem Wg.kept{w w':World}{W b1 b2:Nat}{f n:Int}{cs:Array Value}(h:Wg w W b1 b2 f n cs)(e:w'.heap[W]? = w.heap[W]?):Wg w' W b1 b2 f n cs:=⟨e.trans h.h,h.e3,h.e4,h.e7,h.e8⟩
def BothG(b1 g1 b2 g2:Nat)(xs ys:List Int)(c d:Nat)(i s:Int)(w w':World):Prop:=Mem w' b1 g1 (xs.set i.toNat s) (c+1)∧Mem w' b2 g2 (ys.set i.toNat s) (d+1)∧OnL [b1,g1,b2,g2] w w'
theorem both_seeg{w:World}{cs:Array Value}{W b1 b2 pw pe pt g1 g2:Nat}{k m p x s f n j:Int}{xs ys:List Int}{c d:Nat}(h:Wg w W b1 b2 f n cs)(hs:Sb w W pw pe pt k j m p x s)(hm1:Mem w b1 g1 xs c)(hm2:Mem w b2 g2 ys d)(hc:c<1000000)(hd:d<1000000)
 (hf:0≤f)(j0:0≤j)(j1:j<n)(hl:f+j<xs.length)(hl2:f+j<ys.length)(hx:xs.length≤100000)(hx2:ys.length≤100000)(h0:0≤s)(h7:s<7)
 (ne:b1≠b2∧b1≠g2∧g1≠b2∧g1≠g2∧W≠b1∧W≠g1)(np:pw≠b1∧pw≠g1∧pe≠b1∧pe≠g1∧pt≠b1∧pt≠g1) :
 Calls Tryz.prog 110 #[.pointer (some ⟨W,0,none⟩), .func (.func 122) #[] #[.pointer (some ⟨pw,0,none⟩), .pointer (some ⟨pe,0,none⟩), .pointer (some ⟨pt,0,none⟩)]] w fun e w'=>e = .returned (.tuple #[])∧BothG b1 g1 b2 g2 xs ys c d (f+j) s w w':=by
 have a3:w.cell? ⟨W,3,none⟩=some (.pointer (some ⟨b1,0,none⟩)):=blk_cell h.h h.e3
 have S1:=hid (see1g (blk_cell h.h h.e7) (blk_cell h.h h.e8) hs hm1 hc hf j0 j1 hl hx h0 h7)
 have S2:=hid (fun(y:World) (ho:Only b1 g1 w y)=>(show y.cell? ⟨W,4,none⟩=some (.pointer (some ⟨b2,0,none⟩))∧Calls Tryz.prog 122 #[.pointer (some ⟨b2,0,none⟩), .pointer (some ⟨pw,0,none⟩), .pointer (some ⟨pe,0,none⟩), .pointer (some ⟨pt,0,none⟩)] y fun e w'=>e = .returned (.tuple #[])∧Mem w' b2 g2 (ys.set (f+j).toNat s) (d+1)∧Only b2 g2 y w' from by
  have hy:=h.kept (w':=y) (ho.block _ (blk_lt h.h) ne.2.2.2.2.1 ne.2.2.2.2.2)
  exact⟨blk_cell hy.h hy.e4,see1g (blk_cell hy.h hy.e7) (blk_cell hy.h hy.e8) (hs.kept (ho.block _ (blk_lt hs.a) np.1 np.2.1) (ho.block _ (blk_lt hs.b) np.2.2.1 np.2.2.2.1) (ho.block _ (blk_lt hs.c) np.2.2.2.2.1 np.2.2.2.2.2)) (hm2.other ho (Ne.symm ne.1) (Ne.symm ne.2.2.1) (Ne.symm ne.2.1) (Ne.symm ne.2.2.2.1)) hd hf j0 j1 hl2 hx2 h0 h7⟩))
 have NE:=hid ne
 clear h hs hm1 hm2 hc hd hl hl2 h0 h7 ne np hf j0 j1 hx hx2
 go_enter Tryz.func110,Tryz.ntmps110
 go_wp2_with fail
 refine S1.out.mono ?_
 rintro e w2 ⟨rfl,hm,ho⟩
 have M2:=hid hm
 have O2:=hid ho
 have HW2:=hid (S2.out w2 ho)
 have a4:=HW2.out.1
 clear hm ho a3
 go_wp2_with fail
 refine HW2.out.2.mono ?_
 rintro e w3 ⟨rfl,hm,ho⟩
 have FIN:=hid (show BothG b1 g1 b2 g2 xs ys c d (f+j) s w w3 from⟨M2.out.other ho NE.out.1 NE.out.2.1 NE.out.2.2.1 NE.out.2.2.2.1,hm,(OnL.of_only O2.out (by simp) (by simp)).trans (OnL.of_only ho (by simp) (by simp))⟩)
 clear hm ho
 go_wp2
 go_end0
 exact⟨rfl,FIN.out⟩
section
variable {w w':World}{W b1 b2:Nat}{f n:Int}{cs:Array Value}{lg:Value}
def SeeG (W b1 g1 b2 g2 base:Nat)(f n:Int)(cs:Array Value)(lg:Value)(ln:Nat)(evs:List Value)(xs ys:List Int)(c d:Nat)(i s k j m p x:Int)(w w':World):Prop:=
 ∃ lg',Wg w' W b1 b2 f n (cs.setIfInBounds 15 lg')∧Lg w' base lg' (ln+1) (evs ++ [.int .i64 k, .int .i64 j, .int .i64 m, .int .i64 p, .int .i64 x])∧Mem w' b1 g1 (xs.set i.toNat s) (c+1)∧Mem w' b2 g2 (ys.set i.toNat s) (d+1) ∧
   lg'.ownBlock≠some W∧(∀ q,lg'.ownBlock=some q→lg.ownBlock=some q∨w.heap.size≤q)∧OnL (W :: b1 :: g1 :: b2 :: g2 :: lg.ownBlock.toList) w w'
theorem see_gen{g1 g2 base ln c d:Nat}{j m p x:Int}{evs:List Value}{xs ys:List Int}(k:Nat)(hk:k<8)(h:Wg w W b1 b2 f n cs)(e15:cs[15]? = some lg)(hr:evRight k j m p x=true)(hg:Lg w base lg ln evs)(hn:ln<1000)(hb:base≤w.heap.size)(hm1:Mem w b1 g1 xs c)(hm2:Mem w b2 g2 ys d)(hc:c<1000000)(hd:d<1000000)(hf:0≤f)(j0:0≤j)(j1:j<n)(hl:f+j<xs.length)(hl2:f+j<ys.length)(hx:xs.length≤100000)(hx2:ys.length≤100000)(T2:EvNames w)(T3:EvSteps w)
 (ne:b1≠b2∧b1≠g2∧g1≠b2∧g1≠g2∧W≠b1∧W≠g1∧W≠b2∧W≠g2)(nl:∀ q,lg.ownBlock=some q→q≠W∧q≠b1∧q≠g1∧q≠b2∧q≠g2) :
 Calls Tryz.prog 86 #[.pointer (some ⟨W,0,none⟩), .agg #[.int .i64 k, .int .i64 j, .int .i64 m, .int .i64 p, .int .i64 x]] w fun e w'=>e = .returned (.tuple #[])∧SeeG W b1 g1 b2 g2 base f n cs lg ln evs xs ys c d (f+j) (evStep1 k) k j m p x w w':=by
 obtain⟨s,hs⟩:∃ s,s=evStep1 k:=⟨_,rfl⟩
 obtain⟨s',hs'⟩:∃ s',s'=evStep0 k:=⟨_,rfl⟩
 have hs07:0≤s∧s<7:=by
  rw[hs]
  match k,hk with
  | 0,_|1,_|2,_|3,_|4,_|5,_|6,_|7,_=>decide
 have hmf:∀(fn:Fn) (first cap:Array Value) (w:World),(Instr.makeFunc fn first cap).run Tryz.prog w = .ok (.func fn first cap) w:=fun _ _ _ _=>rfl
 obtain⟨wa,hwa⟩:∃ wa,wa=(w.alloc (.cells #[.pointer (some ⟨W,0,none⟩)] 24)).alloc (.cells #[.int .i64 k, .int .i64 j, .int .i64 m, .int .i64 p, .int .i64 x] 38):=⟨_,rfl⟩
 have ba:Below w.heap.size w wa:=by rw[hwa];exact ((Below.refl _ _).alloc (Nat.le_refl _) _).alloc (by simp) _
 have X0:=hid (show wa.heap[w.heap.size]? = some (.cells #[.pointer (some ⟨W,0,none⟩)] 24 (0,0)) by
  rw[hwa,Below.heap_alloc _ _ _ (by simp)];exact heap_alloc_new w _)
 have X1:=hid (show wa.heap[w.heap.size+1]? = some (.cells #[.int .i64 k, .int .i64 j, .int .i64 m, .int .i64 p, .int .i64 x] 38 (0,0)) by
  have:=heap_alloc_new (w.alloc (.cells #[.pointer (some ⟨W,0,none⟩)] 24)) (.cells #[.int .i64 k, .int .i64 j, .int .i64 m, .int .i64 p, .int .i64 x] 38)
  rw[World.size_alloc, ←hwa]at this;exact this)
 have BA:=hid ba
 have ES:=hid (esteps_in k j m p x wa (T2.at ba) (T3.at ba) hk)
 rw[←hs, ←hs']at ES
 rw[←hs]
 have HW:=hid h
 have HG:=hid hg
 have H1:=hid hm1
 have H2:=hid hm2
 have NE:=hid ne
 have NL:=hid nl
 have HR:=hid hr
 have HB:=hid hb
 have HL:=hid (And.intro hl hl2)
 have HJ:=hid (And.intro hf (And.intro j0 (And.intro j1 (And.intro hx hx2))))
 have E15:=hid e15
 have HC:=hid (And.intro hc hd)
 have HS:=hid hs07
 have HN:=hid hn
 have d1:wa.cell? ⟨w.heap.size+1,0,none⟩=some (.int .i64 k):=blk_cell X1.out rfl
 have d2:wa.cell? ⟨w.heap.size+1,1,none⟩=some (.int .i64 j):=blk_cell X1.out rfl
 have d3:wa.cell? ⟨w.heap.size+1,2,none⟩=some (.int .i64 m):=blk_cell X1.out rfl
 have d4:wa.cell? ⟨w.heap.size+1,3,none⟩=some (.int .i64 p):=blk_cell X1.out rfl
 have d5:wa.cell? ⟨w.heap.size+1,4,none⟩=some (.int .i64 x):=blk_cell X1.out rfl
 clear h hg hm1 hm2 ne nl hr hb hl hl2 hc hd hs07 hn ba T2 T3 hs hs' hk hf j0 j1 hx hx2 e15
 go_enter Tryz.func86,Tryz.ntmps86
 go_upto_region 1 with (fail)
 rw[←hwa]
 clear hwa
 go_wp2_with fail
 refine ES.out.mono ?_
 rintro e w2 ⟨rfl,hb2⟩
 have B2:=hid (BA.out.trans (hb2.mono BA.out.size))
 have Y0:=hid ((hb2.block _ (blk_lt X0.out)).trans X0.out)
 have Y1:=hid ((hb2.block _ (blk_lt X1.out)).trans X1.out)
 clear hb2 d1 d2 d3 d4 d5 ES X0 X1 BA
 obtain⟨pt,hpt⟩:∃ pt,pt=w2.heap.size:=⟨_,rfl⟩
 obtain⟨w3,hw3⟩:∃ w3,w3=w2.alloc (.cells #[.int .u64 s] 72):=⟨_,rfl⟩
 have b3:Below w2.heap.size w2 w3:=by rw[hw3];exact(Below.refl _ _).alloc (Nat.le_refl _) _
 have Z:=hid (show Sb w3 W w.heap.size (w.heap.size+1) pt k j m p x s from⟨(b3.block _ (blk_lt Y0.out)).trans Y0.out,(b3.block _ (blk_lt Y1.out)).trans Y1.out,by rw[hw3,hpt];exact heap_alloc_new _ _⟩)
 have B3:=hid (B2.out.trans (b3.mono B2.out.size))
 have PT:=hid (show w.heap.size≤pt by rw[hpt];exact B2.out.size)
 have W3:=hid (HW.out.kept (w':=w3) (B3.out.block _ (blk_lt HW.out.h)))
 have d0:w3.cell? ⟨w.heap.size,0,none⟩=some (.pointer (some ⟨W,0,none⟩)):=blk_cell Z.out.a rfl
 have BS:=hid (both_seeg W3.out Z.out (H1.out.below B3.out H1.out.sb H1.out.sg) (H2.out.below B3.out H2.out.sb H2.out.sg) HC.out.1 HC.out.2 HJ.out.1 HJ.out.2.1 HJ.out.2.2.1 HL.out.1 HL.out.2 HJ.out.2.2.2.1 HJ.out.2.2.2.2 HS.out.1 HS.out.2 (by have:=NE.out;omega) (by
  have:=H1.out.sb;have:=H1.out.sg;have:=PT.out
  omega))
 clear b3
 go_upto_region 2 with (fail)
 rw[←hw3, ←hpt]
 clear hw3 hpt
 go_wp2_with fail
 refine BS.out.mono ?_
 rintro e w4 ⟨rfl,hm1,hm2,ho⟩
 have M1:=hid hm1
 have M2:=hid hm2
 have O4:=hid ho
 have Z4:=hid (Z.out.kept (w':=w4) (ho.block _ (blk_lt Z.out.a) (by have:=H1.out.sb;have:=H1.out.sg;have:=H2.out.sb;have:=H2.out.sg;simp;omega)) (ho.block _ (blk_lt Z.out.b) (by have:=H1.out.sb;have:=H1.out.sg;have:=H2.out.sb;have:=H2.out.sg;simp;omega)) (ho.block _ (blk_lt Z.out.c) (by have:=H1.out.sb;have:=H1.out.sg;have:=H2.out.sb;have:=H2.out.sg;have:=PT.out;simp;omega)))
 have W4:=hid (W3.out.kept (w':=w4) (ho.block _ (blk_lt W3.out.h) (by have:=NE.out;simp;omega)))
 have G4:=hid ((HG.out.kept (w':=w3) (fun b hb=>B3.out.block b (HG.out.lt b hb).2)).kept (w':=w4) (fun b hb=>ho.block b (by have:=(HG.out.lt b hb).2;have:=B3.out.size;omega) (by have:=NL.out b hb;simp;omega)))
 clear hm1 hm2 ho BS d0
 have d0:w4.cell? ⟨w.heap.size,0,none⟩=some (.pointer (some ⟨W,0,none⟩)):=blk_cell Z4.out.a rfl
 have d1:w4.cell? ⟨w.heap.size+1,0,none⟩=some (.int .i64 k):=blk_cell Z4.out.b rfl
 have d2:w4.cell? ⟨w.heap.size+1,1,none⟩=some (.int .i64 j):=blk_cell Z4.out.b rfl
 have d3:w4.cell? ⟨w.heap.size+1,2,none⟩=some (.int .i64 m):=blk_cell Z4.out.b rfl
 have d4:w4.cell? ⟨w.heap.size+1,3,none⟩=some (.int .i64 p):=blk_cell Z4.out.b rfl
 have d5:w4.cell? ⟨w.heap.size+1,4,none⟩=some (.int .i64 x):=blk_cell Z4.out.b rfl
 have SZ:=hid (Nat.le_trans B3.out.size O4.out.size)
 have LA:=hid (fun(y:World) (hq:Quiet w4 y)=>(log_add y W 15 base lg ln evs k j m p x HR.out (blk_cell (W4.out.kept (w':=y) (by obtain⟨n,rfl⟩:=hq;rfl)).h E15.out) (blk_free (W4.out.kept (w':=y) (by obtain⟨n,rfl⟩:=hq;rfl)).h) (G4.out.kept (fun b hb=>by obtain⟨n,rfl⟩:=hq;rfl)) (fun e=>(NL.out W e).1 rfl) (by have:=HB.out;have:=SZ.out;obtain⟨n,rfl⟩:=hq;simp;omega) (by have:=HN.out;omega)).mono (R':=fun e w'=>e = .returned (.bool true)∧SeeG W b1 g1 b2 g2 base f n cs lg ln evs xs ys c d (f+j) s k j m p x w w') fun e w5 hx=>by
  obtain⟨he,v',w6,rfl,hlg,hvW,hvo,ho1,ho2,ho3,hsz,hblk⟩:=hx
  have e0:∀ b:Nat,y.heap[b]? = w4.heap[b]?:=fun b=>by obtain⟨n,rfl⟩:=hq;rfl
  have es:y.heap.size=w4.heap.size:=by obtain⟨n,rfl⟩:=hq;rfl
  have eo:y.os=w4.os∧y.tape=w4.tape∧y.output=w4.output:=by obtain⟨n,rfl⟩:=hq;exact⟨rfl,rfl,rfl⟩
  have kb:∀ b:Nat,b<w4.heap.size→b≠W→lg.ownBlock≠some b→(w6.setCell ⟨W,15,none⟩ v').heap[b]? = w4.heap[b]?:=fun b h1 h2 h3=>(Below.heap_setCell _ _ _ _ h2).trans ((hblk b (by omega) h3).trans (e0 b))
  refine⟨he,v',⟨?_,?_,?_,?_,?_⟩,hlg,M1.out.blocks (kb b1 M1.out.sb (by have:=NE.out;omega) (fun e=>(NL.out b1 e).2.1 rfl)) (kb g1 M1.out.sg (by have:=NE.out;omega) (fun e=>(NL.out g1 e).2.2.1 rfl)),M2.out.blocks (kb b2 M2.out.sb (by have:=NE.out;omega) (fun e=>(NL.out b2 e).2.2.2.1 rfl)) (kb g2 M2.out.sg (by have:=NE.out;omega) (fun e=>(NL.out g2 e).2.2.2.2 rfl)),hvW,fun b hb => ?_,?_⟩
  ·exact blk_set v' ((hblk W (by have:=blk_lt W4.out.h;omega) (fun e=>(NL.out W e).1 rfl)).trans ((e0 W).trans W4.out.h)) rfl
  ·rw[Array.getElem?_setIfInBounds_ne (by decide)];exact W4.out.e3
  ·rw[Array.getElem?_setIfInBounds_ne (by decide)];exact W4.out.e4
  ·rw[Array.getElem?_setIfInBounds_ne (by decide)];exact W4.out.e7
  ·rw[Array.getElem?_setIfInBounds_ne (by decide)];exact W4.out.e8
  ·rcases hvo b hb with h|h
   ·exact .inl h
   ·exact .inr (by have:=SZ.out;omega)
  ·have o1:OnL (W :: b1 :: g1 :: b2 :: g2 :: lg.ownBlock.toList) w w4:=(OnL.of_below B3.out).trans (O4.out.mono (by simp))
   exact o1.trans ⟨ho1.trans eo.1,ho2.trans eo.2.1,ho3.trans eo.2.2,by simp[World.setCell];omega,fun b hb hn=>kb b hb (fun e=>hn (by simp[e])) (fun e=>hn (by simp[e]))⟩)
 clear Z4 W4 G4 M1 M2 O4
 go_wp2_with fail
 go_region_with (go_at_call 124;refine(LA.out _ ⟨_,rfl⟩).mono ?_;rintro e w7 ⟨rfl,h7⟩)
 all_goals
  have H7:=hid h7
  clear h7
  go_wp2
  go_end0
  exact⟨rfl,H7.out⟩
end
theorem Te.keep{Z Z':Nat→Prop}{w w':World}{t n ad:Nat}{es:Nat→List En}{L:List En}(h:Te Z w t n es L ad)(hk:∀ k,¬Z k→k<w.heap.size→w'.heap[k]? = w.heap[k]?)(hs:w.heap.size≤w'.heap.size)(hz:∀ k,¬Z k→k<w.heap.size→¬Z' k):Te Z' w' t n es L ad:=by
 obtain⟨⟨hb,mb,c,hp,v,h1⟩,h2⟩:=h
 obtain⟨l1,l2,l3⟩:=h1.lt
 obtain⟨⟨z1,z2,z3⟩,z4,z5⟩:=h1.zf
 have h3:=h1.kept (hk _ z1 l1) (hk _ z2 l2) (hk _ z3 l3) hs (fun i hi=>hk _ (z4 i hi) (h1.he i hi).lt) (fun i hi q hq=>hk _ (z5 i hi q hq) (own_lt0 (h1.he i hi) hq))
 exact⟨⟨hb,mb,c,hp,v,⟨h3.box,h3.row,h3.hc,h3.mp,h3.he,h3.ord,h3.fix,h3.hpx,h3.hpi,h3.own,⟨hz _ z1 l1,hz _ z2 l2,hz _ z3 l3⟩,fun i hi=>hz _ (z4 i hi) (h1.he i hi).lt,fun i hi q hq=>hz _ (z5 i hi q hq) (own_lt0 (h1.he i hi) hq)⟩⟩,h2⟩
theorem Sq.keep{Z Z':Nat→Prop}{w w':World}{s t p b1 b2 b3 n:Nat}{now:Int}{es:Nat→List En}{L:List En}{ad:Nat}{W:List (Int × Int)}{R:List Int}(h:Sq Z w s t p b1 b2 b3 n now es L ad W R)(hk:∀ k,¬Z k→k<w.heap.size→w'.heap[k]? = w.heap[k]?)(hs:w.heap.size≤w'.heap.size)(hz:∀ k,¬Z k→k<w.heap.size→¬Z' k)(zl:∀ k,Z' k→k<w'.heap.size):Sq Z' w' s t p b1 b2 b3 n now es L ad W R:=by
 obtain⟨l1,l2,l3,l4⟩:=h.pq.lt
 obtain⟨z0,z1,z2,z3,z4⟩:=h.zf
 have nz:∀ k,¬Zt Z s p b1 b2 b3 k→¬Z k:=fun k hk h=>hk (.inl h)
 refine⟨(hk _ z0 h.lt).trans h.box,h.te.keep (fun k h1 h2=>hk k (nz k h1) h2) hs (fun k h1 h2 h3 => ?_),h.pq.kept (hk _ z1 l1) (hk _ z2 l2) (hk _ z3 l3) (hk _ z4 l4),h.now,h.whn,h.dis,⟨hz _ z0 h.lt,hz _ z1 l1,hz _ z2 l2,hz _ z3 l3,hz _ z4 l4⟩,h.ne,zl⟩
 rcases h3 with h3|h3
 ·exact hz k (nz k h1) h2 h3
 ·exact h1 (.inr h3)
theorem setCells_blk(b:Nat)(t:TypeId):∀(vs:List Value) (o:Nat) (w:World) (cur:Array Value),w.heap[b]? = some (.cells cur t (0,0)) →
 ∃ cur':Array Value,(w.setCells b o vs).heap[b]? = some (.cells cur' t (0,0))∧cur'.size=cur.size ∧ ∀ k,k<cur.size→cur'[k]? = if o≤k∧k<o+vs.length then vs[k - o]? else cur[k]?
 | [],o,w,cur,h=>⟨cur,h,rfl,fun k _=>by rw[if_neg (fun h=>absurd h.2 (by have:=h.1;simp only[List.length_nil];omega))]⟩
 | v :: vs,o,w,cur,h=>by
   have h1:(w.setCell ⟨b,o,none⟩ v).heap[b]? = some (.cells (cur.setIfInBounds o v) t (0,0)):=by
    simp[World.setCell,Array.getElem?_modify,h]
   obtain⟨cur',h2,h3,h4⟩:=setCells_blk b t vs (o+1) (w.setCell ⟨b,o,none⟩ v) _ h1
   refine⟨cur',h2,by simpa using h3,fun k hk => ?_⟩
   rw[h4 k (by simpa using hk)]
   by_cases e:k=o
   ·subst e
    rw[if_neg (by omega),if_pos (by simp)]
    simp[hk]
   ·by_cases hr:o+1≤k∧k<o+1+vs.length
    ·rw[if_pos hr,if_pos (by simp;omega),show k - o=(k - (o+1))+1 by omega];rfl
    ·rw[if_neg hr,if_neg (by simp;omega)]
     rw[Array.getElem?_setIfInBounds]
     rw[if_neg (Ne.symm e)]
theorem setCells_size(b:Nat):∀(vs:List Value) (o:Nat) (w:World),(w.setCells b o vs).heap.size=w.heap.size
 | [],_,_=>rfl
 | v :: vs,o,w=>by
   show ((w.setCell ⟨b,o,none⟩ v).setCells b (o+1) vs).heap.size=_
   rw[setCells_size b vs];simp[World.setCell]
theorem setCells_tape(b:Nat):∀(vs:List Value) (o:Nat) (w:World),(w.setCells b o vs).tape=w.tape
 | [],_,_=>rfl
 | v :: vs,o,w=>by
   show ((w.setCell ⟨b,o,none⟩ v).setCells b (o+1) vs).tape=_
   rw[setCells_tape b vs];rfl
theorem setCells_only(g:Nat)(o:Nat)(vs:List Value)(w:World):Only g g w (w.setCells g o vs):=
 ⟨World.os_setCells w g o vs,setCells_tape g vs o w,World.output_setCells w g o vs,by rw[setCells_size];exact Nat.le_refl _,fun k hk h1 _=>World.heap_setCells_other w g o vs hk h1⟩
theorem drew_only(b g:Nat)(w:World):Only b g w w.drew:=⟨rfl,rfl,rfl,Nat.le_refl _,fun _ _ _ _=>rfl⟩
def DelPost(g:Nat)(xs:List Int)(w:World)(e:Ending)(w':World):Prop:=
 ∃ v',e = .returned v'∧Owns w' 0 v' xs∧v'.ownBlock=some g∧Only g g w w'
theorem del_fin(g n c:Nat)(m:Int)(xs:List Int)(w:World)(cur:Array Value)(hn:n=xs.length)(hb:w.heap[g]? = some (.cells cur 3 (0,0)))(hc:cur.size=c)(hcm:c≤maxLen)(hcap:n+1≤c)
 (hl:cur.toList.take (n+1)=(m :: xs).map (Value.int .i64))(w':World)(hw:w'=(w.drew.setCells g 0 (xs.map (Value.int .i64))).setCells g n [.int .i64 0]) :
 DelPost g xs w (.returned (.slice (some ⟨g,0,none⟩) n c)) w':=by
 subst hw
 have hb1:w.drew.heap[g]? = some (.cells cur 3 (0,0)):=hb
 obtain⟨c1,h1,h2,h3⟩:=setCells_blk g 3 (xs.map (Value.int .i64)) 0 w.drew cur hb1
 obtain⟨c2,h4,h5,h6⟩:=setCells_blk g 3 [Value.int .i64 0] n _ c1 h1
 refine⟨_,rfl,⟨by simp, .inr ⟨g,c,c2,by rw[hn],by omega,h4,by omega,hcm,by omega,?_⟩⟩,rfl,(drew_only _ _ w).trans ((setCells_only _ _ _ _).trans (setCells_only _ _ _ _))⟩
 apply List.ext_getElem?
 intro k
 rw[List.getElem?_take,Nat.mul_one]
 by_cases hk:k<xs.length
 ·rw[if_pos hk,Array.getElem?_toList,h6 k (by omega),if_neg (by simp;omega),h3 k (by omega),if_pos (by simp;omega),Nat.sub_zero]
 ·rw[if_neg hk,List.getElem?_eq_none (by simp;omega)]
theorem del_first(g n c:Nat)(m:Int)(xs:List Int)(w:World)(cur:Array Value)(hn:n=xs.length)(hb:w.heap[g]? = some (.cells cur 3 (0,0)))(hc:cur.size=c)(hcm:c≤maxLen)(hcap:n+1≤c)
 (hl:cur.toList.take (n+1)=(m :: xs).map (Value.int .i64)) :
 Calls Tryz.prog 196 #[.slice (some ⟨g,0,none⟩) (n+1) c, .int .i64 0, .int .i64 1] w (DelPost g xs w):=by
 obtain⟨i0,hi0,hz0,hz1,hz2⟩:=info_parts infoInt
 have hcell:∀ k,k<n+1→w.cell? ⟨g,k,none⟩=some (.int .i64 ((m :: xs).getD k 0)):=by
  intro k hk
  have e:(cur.toList.take (n+1))[k]? = cur.toList[k]?:=by rw[List.getElem?_take,if_pos hk]
  rw[hl,List.getElem?_map]at e
  have e':w.cell? ⟨g,k,none⟩=cur.toList[k]?:=by simp[World.cell?,hb]
  rw[e', ←e,List.getD_eq_getElem?_getD]
  have:k<(m :: xs).length:=by simp;omega
  rw[List.getElem?_eq_getElem this];rfl
 have hfr:∀ k,w.frozen? ⟨g,k,none⟩=false:=fun k=>by simp[World.frozen?,hb]
 have FIN:=hid (fun w' h=>del_fin g n c m xs w cur hn hb hc hcm hcap hl w' h)
 obtain⟨news,hnews⟩:∃ news,news=xs.map (Value.int .i64):=⟨_,rfl⟩
 rw[←hnews]at FIN
 have hlen:news.length=n:=by rw[hnews,hn];simp
 have hget:∀ t,t<n→news[t]? = some (.int .i64 ((m :: xs).getD (t+1) 0)):=by
  intro t ht
  rw[hnews,List.getElem?_map,List.getD_cons_succ,List.getD_eq_getElem?_getD,List.getElem?_eq_getElem (by omega)]
  rfl
 obtain⟨A,hA,hsrc⟩:∃ A:Addr,(if c=1 then some (⟨g,0,none⟩:Addr) else some ⟨g,1,none⟩)=some A∧Hid (∀ t u,news[t]? = some u→w.drew.cell? (A.add t)=some u):=by
  by_cases h:c=1
  ·refine⟨⟨g,0,none⟩,by simp[h],fun t u hu => ?_⟩
   have h0:news.length=0:=by rw[hlen];omega
   rw[List.length_eq_zero_iff.1 h0]at hu
   simp at hu
  ·refine⟨⟨g,1,none⟩,by simp[h],fun t u hu => ?_⟩
   have ht:t<n:=by
    have:=(List.getElem?_eq_some_iff.1 hu).1
    rwa[hlen]at this
   rw[hget t ht]at hu
   rw[Addr.add_lit,Nat.add_comm 1 t]
   exact(hcell (t+1) (by omega)).trans hu
 have s1:Hid (news.length=n*1):=by rw[Nat.mul_one];exact hlen
 have s2:Hid (∀ u ∈ news,u.oneCell'=true):=by
  intro u hu
  rw[hnews]at hu
  obtain⟨x,_,rfl⟩:=List.mem_map.1 hu
  rfl
 have s3:Hid (∀ t,t<news.length→(w.drew.cell? ⟨g,0+0*1+t,none⟩).isSome=true∧w.drew.frozen? ⟨g,0+0*1+t,none⟩=false):=by
  intro t ht
  rw[hlen]at ht
  rw[show 0+0*1+t=t by omega]
  exact⟨by show (w.cell? _).isSome=true;rw[hcell t (by omega)];rfl,hfr t⟩
 have s4:Hid (0+n≤c):=hid (by omega)
 obtain⟨W1,hW1⟩:∃ W1,W1=w.drew.setCells g (0+0*1) news:=⟨_,rfl⟩
 have hcl:∀ ty,(Builtin.clear_ #[63] ty #[.slice (some ⟨g,n,none⟩) 1 (c - n)]).run Tryz.prog W1 = .ok (.tuple #[]) (W1.setCells g n (List.replicate 1 (.int .i64 0))):=by
  intro ty
  obtain⟨c1,q1,q2,q3⟩:=setCells_blk g 3 news 0 w.drew cur hb
  have hc1:W1.heap[g]? = some (.cells c1 3 (0,0)):=by rw[hW1];exact q1
  refine Lib.run_clear_slice W1 _ _ ty _ Tryz.underlying63 (fun w=>rfl) rfl rfl g n _ _ (by omega) (fun t ht => ?_) (fun t ht=>by simp[World.frozen?,hc1])
  have:n+t<c1.size:=by omega
  simp[World.cell?,hc1,this]
 have hW:Hid (W1=w.drew.setCells g (0+0*1) news):=hW1
 have FIN':=hid (FIN.out (W1.setCells g n (List.replicate 1 (.int .i64 0))) (by rw[hW1];rfl))
 have hn1:((n+1:Nat):Int)=(n:Int)+1:=by omega
 have hcm':=hcm
 unfold maxLen at hcm'
 have hp:(1:Int)≤(n:Int)+1:=by omega
 have hcn:¬c=n:=by omega
 have hcn2:(n:Int)+1≤(c:Int):=by omega
 clear hW1 hb hget hnews hlen hcell hfr FIN hl hn hc
 go_enter Tryz.func196,Tryz.ntmps196
 go_wp2_with fail
 go_region_law (refine step_append_room rfl (.tmp 22) (.tmp 25) 63 rfl 3 i0 1 Tryz.underlying63 hi0 hz1 g 0 0 c (by simp[Act.eval,Act.put]) A n (c - 1) news (by simp[Act.eval,Act.put]) s1.out hsrc.out s2.out s4.out s3.out ?_;rw[←hW.out])
 go_wp2
 go_ret
 exact FIN'.out
theorem owns_lt{w:World}{base:Nat}{v:Value}{xs:List Int}{k:Nat}(h:Owns w base v xs)(hk:v.ownBlock=some k):k<w.heap.size:=by
 obtain⟨h0,⟨h1,h2⟩|⟨q,cap,cur,h1,h2,h3,h4⟩⟩:=h
 ·rw[h1]at hk;cases hk
 ·rw[h1]at hk
  simp only[Value.ownBlock,Option.some.injEq]at hk
  subst hk
  rw[Array.getElem?_eq_some_iff]at h3;exact h3.1
structure Ids0(w:World)(Z:Nat→Prop)(x mx my:Nat)(r rp:Option Nat)(np:Nat)(W:List Nat)(pv:Value)(pd:List Int)(N:Int)(ss:List Int)(pl:Int):Prop where
 i:Idf w x r (.pointer (some ⟨mx,0,none⟩)) pv N ss pl
 p:Owns w 0 pv pd
 q:pv.ownBlock=rp
 m:Msk w mx my np W
 d1:x≠mx
 d2:x≠my
 d3:r≠some mx
 d4:r≠some my
 d5:rp≠some x
 d6:rp≠some mx
 d7:rp≠some my
 d8:∀ k,r=some k→rp=some k→False
 b1:¬Z x
 b2:¬Z mx
 b3:¬Z my
 b4:∀ k,r=some k→¬Z k
 b5:∀ k,rp=some k→¬Z k
 zl:∀ k,Z k→k<w.heap.size
namespace Ids0
variable {w:World}{Z:Nat→Prop}{x mx my:Nat}{r rp:Option Nat}{np:Nat}{W:List Nat}{pv:Value}{pd:List Int}{N:Int}{ss:List Int}{pl:Int}
theorem k0(h:Ids0 w Z x mx my r rp np W pv pd N ss pl):w.cell? ⟨x,0,none⟩=some (.pointer (some ⟨mx,0,none⟩)):=by
 obtain⟨sv,h1,_⟩:=h.i.h;simp[World.cell?,h1]
theorem k1(h:Ids0 w Z x mx my r rp np W pv pd N ss pl):w.cell? ⟨x,1,none⟩=some pv:=by
 obtain⟨sv,h1,_⟩:=h.i.h;simp[World.cell?,h1]
theorem rlt(h:Ids0 w Z x mx my r rp np W pv pd N ss pl){k:Nat}(hk:r=some k):k<w.heap.size:=by
 obtain⟨sv,_,h2,h3⟩:=h.i.h
 exact owns_lt h2 (h3.trans hk)
theorem plt(h:Ids0 w Z x mx my r rp np W pv pd N ss pl){k:Nat}(hk:rp=some k):k<w.heap.size:=owns_lt h.p (h.q.trans hk)
theorem quiet(h:Ids0 w Z x mx my r rp np W pv pd N ss pl){w':World}(q:Quiet w w'):Ids0 w' Z x mx my r rp np W pv pd N ss pl:=
 ⟨h.i.kept (by rw[q.heap]) (fun k _=>by rw[q.heap]),h.p.kept (fun k _=>by rw[q.heap]),h.q,h.m.quiet q,h.d1,h.d2,h.d3,h.d4,h.d5,h.d6,h.d7,h.d8,h.b1,h.b2,h.b3,h.b4,h.b5,fun k hk=>by rw[q.heap];exact h.zl k hk⟩
theorem below(h:Ids0 w Z x mx my r rp np W pv pd N ss pl){w':World}(hb:Below w.heap.size w w'):Ids0 w' Z x mx my r rp np W pv pd N ss pl:=
 ⟨h.i.kept (hb.block _ h.i.lt) (fun k hk=>hb.block _ (h.rlt hk)),h.p.kept (fun k hk=>hb.block _ (owns_lt h.p hk)),h.q,h.m.below hb h.m.sx h.m.sy,h.d1,h.d2,h.d3,h.d4,h.d5,h.d6,h.d7,h.d8,h.b1,h.b2,h.b3,h.b4,h.b5,fun k hk=>Nat.lt_of_lt_of_le (h.zl k hk) hb.size⟩
theorem mask(h:Ids0 w Z x mx my r rp np W pv pd N ss pl){W':List Nat}{w':World}(hm:Msk w' mx my np W')(ho:Only mx my w w'):Ids0 w' Z x mx my r rp np W' pv pd N ss pl:=
 ⟨h.i.kept (ho.block _ h.i.lt h.d1 h.d2) (fun k hk=>ho.block _ (h.rlt hk) (fun e=>h.d3 (by rw[hk,e])) (fun e=>h.d4 (by rw[hk,e]))),
  h.p.kept (fun k hk=>ho.block _ (owns_lt h.p hk) (fun e=>h.d6 (by rw[←h.q,hk,e])) (fun e=>h.d7 (by rw[←h.q,hk,e]))),h.q,hm,h.d1,h.d2,h.d3,h.d4,h.d5,h.d6,h.d7,h.d8,h.b1,h.b2,h.b3,h.b4,h.b5,fun k hk=>Nat.lt_of_lt_of_le (h.zl k hk) ho.size⟩
theorem stops(h:Ids0 w Z x mx my r rp np W pv pd N ss pl){ss':List Int}{pl':Int}{v:Value}{e:Ending}{w':World}(hp:IPost x r (.pointer (some ⟨mx,0,none⟩)) pv v N ss' pl' w e w') :
 e = .returned v ∧ ∃ r',Ids0 w' Z x mx my r' rp np W pv pd N ss' pl'∧OnX x r w w':=by
 obtain⟨r',he,hi,ho,hr⟩:=hp
 have fresh:∀ k,r'=some k→r=some k∨w.heap.size≤k:=fun k hk=>by
  rcases hr with e|e
  ·exact .inl (by rw[←e,hk])
  ·exact .inr (e k hk)
 refine⟨he,r',⟨hi,h.p.kept (fun k hk=>ho.block _ (owns_lt h.p hk) (fun e=>h.d5 (by rw[←h.q,hk,e])) (fun e=>h.d8 k e.symm (by rw[←h.q,hk]))),h.q,h.m.kept (ho.block _ h.m.sx (Ne.symm h.d1) (fun e=>h.d3 e.symm)) (ho.block _ h.m.sy (Ne.symm h.d2) (fun e=>h.d4 e.symm)),h.d1,h.d2,fun e => ?_,fun e => ?_,h.d5,h.d6,h.d7,fun k h1 h2 => ?_,h.b1,h.b2,h.b3,fun k hk hz => ?_,h.b5,fun k hk=>Nat.lt_of_lt_of_le (h.zl k hk) ho.size⟩,ho⟩
 ·rcases fresh _ e with e|e
  ·exact h.d3 e
  ·have:=h.m.sx;omega
 ·rcases fresh _ e with e|e
  ·exact h.d4 e
  ·have:=h.m.sy;omega
 ·rcases fresh _ h1 with e|e
  ·exact h.d8 k e h2
  ·have:=h.plt h2;omega
 ·rcases fresh _ hk with e|e
  ·exact h.b4 k e hz
  ·have:=h.zl k hz;omega
theorem pends(h:Ids0 w Z x mx my r rp np W pv pd N ss pl){pd':List Int}{pv':Value}{w':World}(hi:Idf w' x r (.pointer (some ⟨mx,0,none⟩)) pv' N ss pl)(hp:Owns w' 0 pv' pd')(ho:OnX x rp w w')(hr:∀ k,pv'.ownBlock=some k→rp=some k∨w.heap.size≤k) :
 ∃ rp',Ids0 w' Z x mx my r rp' np W pv' pd' N ss pl:=by
 refine⟨pv'.ownBlock,hi,hp,rfl,h.m.kept (ho.block _ h.m.sx (Ne.symm h.d1) (fun e=>h.d6 e.symm)) (ho.block _ h.m.sy (Ne.symm h.d2) (fun e=>h.d7 e.symm)),h.d1,h.d2,h.d3,h.d4,fun e => ?_,fun e => ?_,fun e => ?_,fun k h1 h2 => ?_,h.b1,h.b2,h.b3,h.b4,fun k hk hz => ?_,fun k hk=>Nat.lt_of_lt_of_le (h.zl k hk) ho.size⟩
 ·rcases hr _ e with e|e
  ·exact h.d5 e
  ·have:=h.i.lt;omega
 ·rcases hr _ e with e|e
  ·exact h.d6 e
  ·have:=h.m.sx;omega
 ·rcases hr _ e with e|e
  ·exact h.d7 e
  ·have:=h.m.sy;omega
 ·rcases hr _ h2 with e|e
  ·exact h.d8 k h1 e
  ·have:=h.rlt h1;omega
 ·rcases hr _ hk with e|e
  ·exact h.b5 k e hz
  ·have:=h.zl k hz;omega
end Ids0
structure Fr(Z:Nat→Prop)(w w':World):Prop where
 os:w'.os=w.os
 tape:w'.tape=w.tape
 output:w'.output=w.output
 size:w.heap.size≤w'.heap.size
 block:∀ k,Z k→w'.heap[k]? = w.heap[k]?
theorem Fr.refl(Z:Nat→Prop)(w:World):Fr Z w w:=⟨rfl,rfl,rfl,Nat.le_refl _,fun _ _=>rfl⟩
theorem Fr.trans{Z:Nat→Prop}{a b c:World}(h:Fr Z a b)(k:Fr Z b c):Fr Z a c:=
 ⟨k.os.trans h.os,k.tape.trans h.tape,k.output.trans h.output,Nat.le_trans h.size k.size,fun i hi=>(k.block i hi).trans (h.block i hi)⟩
theorem Fr.of_quiet{Z:Nat→Prop}{w w':World}(q:Quiet w w'):Fr Z w w':=by
 obtain⟨n,rfl⟩:=q;exact⟨rfl,rfl,rfl,Nat.le_refl _,fun _ _=>rfl⟩
structure Ids(Z:Nat→Prop)(x np:Nat)(f:Nat→Bool)(pd:List Int)(N:Int)(ss:List Int)(pl:Int)(w:World):Prop where
 h:∃ mx my r rp W pv,Ids0 w Z x mx my r rp np W pv pd N ss pl∧bitAt W=f
 T:DbTab w
 hz:Z 3
def DPost(v:Value)(Z:Nat→Prop)(x np:Nat)(f:Nat→Bool)(pd:List Int)(N:Int)(ss:List Int)(pl:Int)(w:World)(e:Ending)(w':World):Prop:=
 e = .returned v∧Ids Z x np f pd N ss pl w'∧Fr Z w w'
namespace Ids
variable {Z:Nat→Prop}{w:World}{x np:Nat}{f:Nat→Bool}{pd:List Int}{N:Int}{ss:List Int}{pl:Int}
theorem zl(h:Ids Z x np f pd N ss pl w):∀ k,Z k→k<w.heap.size:=by
 obtain⟨mx,my,r,rp,W,pv,h1,h2⟩:=h.h
 exact h1.zl
theorem below(h:Ids Z x np f pd N ss pl w){w':World}(hb:Below w.heap.size w w'):Ids Z x np f pd N ss pl w':=by
 obtain⟨mx,my,r,rp,W,pv,h1,h2⟩:=h.h
 exact⟨⟨mx,my,r,rp,W,pv,h1.below hb,h2⟩,h.T.at hb,h.hz⟩
theorem quiet(h:Ids Z x np f pd N ss pl w){w':World}(q:Quiet w w'):Ids Z x np f pd N ss pl w':=h.below (q.below _)
theorem lift(h:Ids Z x np f pd N ss pl w){mx my:Nat}{r rp:Option Nat}{W:List Nat}{pv:Value}(h0:Ids0 w Z x mx my r rp np W pv pd N ss pl){ss':List Int}{pl':Int}{v:Value}{e:Ending}{w':World}(hf:bitAt W=f)(hp:IPost x r (.pointer (some ⟨mx,0,none⟩)) pv v N ss' pl' w e w') :
 DPost v Z x np f pd N ss' pl' w e w':=by
 obtain⟨he,r',h1,ho⟩:=h0.stops hp
 have fr:Fr Z w w':=⟨ho.os,ho.tape,ho.output,ho.size,fun k hk=>ho.block k (h0.zl k hk) (fun e=>h0.b1 (e ▸ hk)) (fun e=>h0.b4 k e.symm hk)⟩
 exact⟨he,⟨⟨mx,my,r',rp,W,pv,h1,hf⟩,h.T.eq (fr.block _ h.hz),h.hz⟩,fr⟩
theorem liftm(h:Ids Z x np f pd N ss pl w){mx my:Nat}{r rp:Option Nat}{W:List Nat}{pv:Value}(h0:Ids0 w Z x mx my r rp np W pv pd N ss pl){W':List Nat}{w':World}(hm:Msk w' mx my np W')(ho:Only mx my w w'):Ids Z x np (bitAt W') pd N ss pl w'∧Fr Z w w':=by
 have fr:Fr Z w w':=⟨ho.os,ho.tape,ho.output,ho.size,fun k hk=>ho.block k (h0.zl k hk) (fun e=>h0.b2 (e ▸ hk)) (fun e=>h0.b3 (e ▸ hk))⟩
 exact⟨⟨⟨mx,my,r,rp,W',pv,h0.mask hm ho,rfl⟩,h.T.eq (fr.block _ h.hz),h.hz⟩,fr⟩
theorem liftp(h:Ids Z x np f pd N ss pl w){mx my:Nat}{r rp:Option Nat}{W:List Nat}{pv:Value}(h0:Ids0 w Z x mx my r rp np W pv pd N ss pl)(hf:bitAt W=f){pd':List Int}{pv':Value}{w':World}(hi:Idf w' x r (.pointer (some ⟨mx,0,none⟩)) pv' N ss pl)(hp:Owns w' 0 pv' pd')(ho:OnX x rp w w')(hr:∀ k,pv'.ownBlock=some k→rp=some k∨w.heap.size≤k):Ids Z x np f pd' N ss pl w'∧Fr Z w w':=by
 obtain⟨rp',h1⟩:=h0.pends hi hp ho hr
 have fr:Fr Z w w':=⟨ho.os,ho.tape,ho.output,ho.size,fun k hk=>ho.block k (h0.zl k hk) (fun e=>h0.b1 (e ▸ hk)) (fun e=>h0.b5 k e.symm hk)⟩
 exact⟨⟨⟨mx,my,r,rp',W,pv',h1,hf⟩,h.T.eq (fr.block _ h.hz),h.hz⟩,fr⟩
end Ids
end Go.Proofs.YtkhigkcmgcafdaaGreatDoor
namespace Go.Proofs.YtkhigkcmgcafdaaGreatDoor
open Go.RowKit
variable {Z:Nat→Prop}{w:World}{x np:Nat}{f:Nat→Bool}{pd:List Int}{N:Int}{ss:List Int}{pl:Int}
def inF (f:Nat→Bool)(np:Nat)(i:Int):Bool:=decide (0≤i∧i<np) && f i.toNat
theorem inF_out{f:Nat→Bool}{np:Nat}{i:Int}(h:i<0∨(np:Int)≤i):inF f np i=false:=by
 simp only[inF];rw[decide_eq_false (by omega)];rfl
theorem inF_in{f:Nat→Bool}{np:Nat}{k:Nat}(h:k<np):inF f np (k:Int)=f k:=by
 simp only[inF];rw[decide_eq_true (by omega)];simp
theorem mhas_any(mx my np:Nat)(W:List Nat)(i:Int)(w:World)(hm:Msk w mx my np W) :
 Calls Tryz.prog 216 #[.pointer (some ⟨mx,0,none⟩), .int .i64 i] w fun e w'=>e = .returned (.bool (inF (bitAt W) np i))∧Quiet w w':=by
 by_cases h:i<0∨(np:Int)≤i
 ·rw[inF_out h]
  exact(has_out mx my np W i w hm h).mono fun e w' ⟨he,hw⟩=>⟨he, .of_eq hw⟩
 ·obtain⟨k,rfl⟩:∃ k:Nat,i=k:=⟨i.toNat,by omega⟩
  rw[inF_in (by omega)]
  exact has_in mx my np W k _ w hm (by omega) rfl
theorem hasP_any(h:Ids Z x np f pd N ss pl w)(i:Int):Calls Tryz.prog 210 #[.pointer (some ⟨x,0,none⟩), .int .i64 i] w fun e w'=>e = .returned (.bool (inF f np i))∧Quiet w w':=by
 obtain⟨mx,my,r,rp,W,pv,h0,rfl⟩:=h.h
 have k0:=h0.k0
 have C:=hid (mhas_any mx my np W i w h0.m)
 clear h h0
 go_enter Tryz.func210,Tryz.ntmps210
 go_wp2_with fail
 refine C.out.mono ?_
 rintro e w2 ⟨rfl,hq⟩
 have HQ:=hid hq
 clear hq
 go_wp2
 go_ret
 exact⟨rfl,HQ.out⟩
theorem mput_no(mx my np:Nat)(W:List Nat)(i:Int)(w:World)(hm:Msk w mx my np W)(h:(i<0∨(np:Int)≤i)∨inF (bitAt W) np i=true) :
 Calls Tryz.prog 119 #[.pointer (some ⟨mx,0,none⟩), .int .i64 i] w fun e w'=>e = .returned (.bool false)∧Quiet w w':=by
 by_cases h1:i<0∨(np:Int)≤i
 ·exact(put_out mx my np W i w hm h1).mono fun e w' ⟨he,hw⟩=>⟨he, .of_eq hw⟩
 ·obtain⟨k,rfl⟩:∃ k:Nat,i=k:=⟨i.toNat,by omega⟩
  rcases h with h|h
  ·omega
  ·rw[inF_in (by omega)]at h
   exact put_no mx my np W k w hm (by omega) h
theorem putP_has(h:Ids Z x np f pd N ss pl w)(i:Int)(hi:hasB i pd=true)(hl:pd.length≤100000):Calls Tryz.prog 83 #[.pointer (some ⟨x,0,none⟩), .int .i64 i] w (DPost (.bool false) Z x np f pd N ss pl w):=by
 obtain⟨mx,my,r,rp,W,pv,h0,hf⟩:=h.h
 have k1:=h0.k1
 have C:=hid (contains_any pv pd i w h0.p.reads (by omega))
 rw[hi]at C
 obtain⟨a,c,rfl⟩:=h0.p.reads_n (n:=pd.length) rfl
 have FIN:=hid (fun w' q=>h.quiet (w':=w') q)
 obtain⟨n,hn⟩:∃ n,n=pd.length:=⟨_,rfl⟩
 rw[←hn]at k1 C
 clear h h0 hi hf hn hl
 go_enter Tryz.func83,Tryz.ntmps83
 go_wp2_with fail
 refine C.out.mono ?_
 rintro e w2 ⟨rfl,hq⟩
 have HQ:=hid hq
 clear hq
 go_wp2
 go_ret
 exact⟨rfl,FIN.out _ HQ.out, .of_quiet HQ.out⟩
theorem putP_no(h:Ids Z x np f pd N ss pl w)(i:Int)(hi:hasB i pd=false)(hl:pd.length≤100000)(hx:(i<0∨(np:Int)≤i)∨inF f np i=true):Calls Tryz.prog 83 #[.pointer (some ⟨x,0,none⟩), .int .i64 i] w (DPost (.bool false) Z x np f pd N ss pl w):=by
 obtain⟨mx,my,r,rp,W,pv,h0,rfl⟩:=h.h
 have k1:=h0.k1
 have C:=hid (contains_any pv pd i w h0.p.reads (by omega))
 rw[hi]at C
 obtain⟨a,c,rfl⟩:=h0.p.reads_n (n:=pd.length) rfl
 have FIN:=hid (fun w' q=>h.quiet (w':=w') q)
 have H0:=hid h0
 have PT:=hid (fun w' hm=>mput_no mx my np W i w' hm hx)
 obtain⟨n,hn⟩:∃ n,n=pd.length:=⟨_,rfl⟩
 rw[←hn]at k1 C
 clear h h0 hi hn hl hx
 go_enter Tryz.func83,Tryz.ntmps83
 go_wp2_with fail
 refine C.out.mono ?_
 rintro e w2 ⟨rfl,hq⟩
 have HQ:=hid hq
 have H2:=hid (H0.out.quiet hq)
 have k0:=H2.out.k0
 clear hq
 go_wp2_with fail
 refine(PT.out _ H2.out.m).mono ?_
 rintro e w3 ⟨rfl,hq⟩
 have HQ3:=hid (HQ.out.trans hq)
 clear hq
 go_wp2
 go_ret
 exact⟨rfl,FIN.out _ HQ3.out, .of_quiet HQ3.out⟩
theorem putP_yes(h:Ids Z x np f pd N ss pl w)(k:Nat)(hi:hasB (k:Int) pd=false)(hl:pd.length≤100000)(hk:k<np)(hf:f k=false):Calls Tryz.prog 83 #[.pointer (some ⟨x,0,none⟩), .int .i64 k] w (DPost (.bool true) Z x np (upd f k true) pd N ss pl w):=by
 obtain⟨mx,my,r,rp,W,pv,h0,rfl⟩:=h.h
 have k1:=h0.k1
 have C:=hid (contains_any pv pd k w h0.p.reads (by omega))
 rw[hi]at C
 obtain⟨a,c,rfl⟩:=h0.p.reads_n (n:=pd.length) rfl
 have FIN:=hid (fun w' q=>h.quiet (w':=w') q)
 have H0:=hid h0
 have PT:=hid (fun w' hm=>put_yes mx my np W k w' hm hk hf)
 obtain⟨n,hn⟩:∃ n,n=pd.length:=⟨_,rfl⟩
 rw[←hn]at k1 C
 clear h h0 hi hn hl hk hf
 go_enter Tryz.func83,Tryz.ntmps83
 go_wp2_with fail
 refine C.out.mono ?_
 rintro e w2 ⟨rfl,hq⟩
 have HQ:=hid hq
 have F2:=hid (FIN.out _ hq)
 have H2:=hid (H0.out.quiet hq)
 have k0:=H2.out.k0
 clear hq
 go_wp2_with fail
 refine(PT.out _ H2.out.m).mono ?_
 rintro e w3 ⟨W',rfl,hm3,hb3,ho3⟩
 have F3:=hid (F2.out.liftm H2.out hm3 ho3)
 rw[hb3]at F3
 clear hm3 hb3 ho3
 go_wp2
 go_ret
 exact⟨rfl,F3.out.1,(Fr.of_quiet HQ.out).trans F3.out.2⟩
theorem takeP_none(h:Ids Z x np f pd N ss pl w)(hf:∀ i,i<np→f i=false):Calls Tryz.prog 140 #[.pointer (some ⟨x,0,none⟩)] w (DPost (.tuple #[.int .i64 0, .bool false]) Z x np f pd N ss pl w):=by
 obtain⟨mx,my,r,rp,W,pv,h0,rfl⟩:=h.h
 have k0:=h0.k0
 have FI:=hid (mfirst_any mx my np W w h0.m h.T)
 rw[next_none (fun i _ hi=>hf i hi)]at FI
 have TK:=hid (take_out mx my np W (-1) w h0.m (by omega))
 have FIN:=hid h
 clear h h0 hf
 go_enter Tryz.func140,Tryz.ntmps140
 go_wp2_with fail
 refine FI.out.mono ?_
 rintro e w2 ⟨rfl,rfl⟩
 go_wp2_with fail
 refine TK.out.mono ?_
 rintro e w2 ⟨rfl,rfl⟩
 go_wp2
 go_ret2
 exact⟨rfl,FIN.out, .refl _ _⟩
theorem takeP_least(h:Ids Z x np f pd N ss pl w)(k:Nat)(hk:k<np)(hf:f k=true)(hl:∀ i,i<k→f i=false):Calls Tryz.prog 140 #[.pointer (some ⟨x,0,none⟩)] w (DPost (.tuple #[.int .i64 k, .bool true]) Z x np (upd f k false) pd N ss pl w):=by
 obtain⟨mx,my,r,rp,W,pv,h0,rfl⟩:=h.h
 have k0:=h0.k0
 have FI:=hid (mfirst_any mx my np W w h0.m h.T)
 rw[next_some (by omega) hk hf (fun i _ hi=>hl i hi)]at FI
 have TK:=hid (take_yes mx my np W k w h0.m hk hf)
 have FIN:=hid h
 have H0:=hid h0
 clear h h0 hf hl hk
 go_enter Tryz.func140,Tryz.ntmps140
 go_wp2_with fail
 refine FI.out.mono ?_
 rintro e w2 ⟨rfl,rfl⟩
 go_wp2_with fail
 refine TK.out.mono ?_
 rintro e w3 ⟨W',rfl,hm3,hb3,ho3⟩
 have F3:=hid (FIN.out.liftm H0.out hm3 ho3)
 rw[hb3]at F3
 clear hm3 hb3 ho3
 go_wp2
 go_ret2
 exact⟨rfl,F3.out⟩
theorem pend_no(h:Ids Z x np f pd N ss pl w)(i:Int)(hl:pd.length≤100000)(hx:(i<0∨(np:Int)≤i)∨(0≤i∧i<(np:Int)∧inF f np i=true)∨(0≤i∧i<(np:Int)∧inF f np i=false∧hasB i pd=true)):Calls Tryz.prog 200 #[.pointer (some ⟨x,0,none⟩), .int .i64 i] w (DPost (.bool false) Z x np f pd N ss pl w):=by
 obtain⟨mx,my,r,rp,W,pv,h0,hf⟩:=h.h
 have k0:=h0.k0
 have LN:=hid (mlen_any mx my np W w h0.m)
 have FIN:=hid (fun w' q=>h.quiet (w':=w') q)
 have H0:=hid h0
 have HP:=hid (hasP_any h i)
 have CO:=hid (fun w2 (q:Quiet w w2)=>contains_any pv pd i w2 (h0.p.reads.of_below (q.below _)) (by omega))
 rcases hx with (hx|hx)|⟨h1,h2,h3⟩|⟨h1,h2,h3,h4⟩
 ·clear h h0 hf hl
  go_enter Tryz.func200,Tryz.ntmps200
  go_wp2
  go_ret
  exact⟨rfl,FIN.out _ (Quiet.refl _), .refl _ _⟩
 ·have h0i:0≤i:=by omega
  clear h h0 hf hl
  go_enter Tryz.func200,Tryz.ntmps200
  go_wp2_with fail
  refine LN.out.mono ?_
  rintro e w2 ⟨rfl,rfl⟩
  go_wp2
  go_ret
  exact⟨rfl,FIN.out _ (Quiet.refl _), .refl _ _⟩
 ·rw[h3]at HP
  clear h h0 hf hl h3
  go_enter Tryz.func200,Tryz.ntmps200
  go_wp2_with fail
  refine LN.out.mono ?_
  rintro e w2 ⟨rfl,rfl⟩
  go_wp2_with fail
  refine HP.out.mono ?_
  rintro e w2 ⟨rfl,hq⟩
  have HQ:=hid hq
  clear hq
  go_wp2
  go_ret
  exact⟨rfl,FIN.out _ HQ.out, .of_quiet HQ.out⟩
 ·rw[h3]at HP
  rw[h4]at CO
  obtain⟨a,c,rfl⟩:=h0.p.reads_n (n:=pd.length) rfl
  obtain⟨n,hn⟩:∃ n,n=pd.length:=⟨_,rfl⟩
  rw[←hn]at CO H0
  clear h h0 hf hl h3 h4 hn
  go_enter Tryz.func200,Tryz.ntmps200
  go_wp2_with fail
  refine LN.out.mono ?_
  rintro e w2 ⟨rfl,rfl⟩
  go_wp2_with fail
  refine HP.out.mono ?_
  rintro e w2 ⟨rfl,hq⟩
  have HQ:=hid hq
  have H2:=hid (H0.out.quiet hq)
  have k1:=H2.out.k1
  clear hq
  go_wp2_with fail
  refine(CO.out _ HQ.out).mono ?_
  rintro e w3 ⟨rfl,hq⟩
  have HQ3:=hid (HQ.out.trans hq)
  clear hq
  go_wp2
  go_ret
  exact⟨rfl,FIN.out _ HQ3.out, .of_quiet HQ3.out⟩
theorem pend_fin{mx my:Nat}{r rp:Option Nat}{W:List Nat}{pv v6:Value}{w2 w6:World}{m:Int}(F:Ids Z x np f pd N ss pl w2)(H:Ids0 w2 Z x mx my r rp np W pv pd N ss pl)(hf:bitAt W=f)
 (hown:w6.ownsRow 0 3 1 v6 (pd.length+1) (pd.map (Value.int .i64) ++ [.int .i64 m]))(hg:(w2.alloc (.cells #[.int .i64 m] 3)).grownBy w6 pv.ownBlock)(hat:v6.ownBlock=pv.ownBlock∨v6.ownBlock=some (w2.heap.size+1)) :
 (w6.cell? ⟨x,1,none⟩=some pv∧w6.frozen? ⟨x,1,none⟩=false)∧Ids Z x np f (pd ++ [m]) N ss pl (w6.setCell ⟨x,1,none⟩ v6)∧Fr Z w2 (w6.setCell ⟨x,1,none⟩ v6):=by
 obtain⟨sv,h1,h2,h3⟩:=H.i.h
 have hx:=H.i.lt
 have hkeep:∀ k,k<w2.heap.size→some k≠rp→w6.heap[k]? = w2.heap[k]?:=fun k hk hne=>by
  rw[hg.block k (by simp;omega) (fun e=>hne (by rw[←H.q];exact e)),Below.heap_alloc _ _ _ hk]
 have h6:w6.heap[x]? = some (.cells #[.pointer (some ⟨mx,0,none⟩),pv, .int .i64 N,sv, .int .i64 pl] 145 (0,0)):=by
  rw[hkeep x hx (fun e=>H.d5 e.symm)];exact h1
 have hfresh:∀ k,v6.ownBlock=some k→rp=some k∨w2.heap.size≤k:=fun k hk=>by
  rcases hat with h|h
  ·exact .inl (by rw[←H.q, ←h,hk])
  ·rw[h]at hk;simp only[Option.some.injEq]at hk;exact .inr (by omega)
 refine⟨⟨by simp[World.cell?,h6],by simp[World.frozen?,h6]⟩,F.liftp H hf (pv':=v6) ⟨⟨sv,?_,h2.kept fun k hk => ?_,h3⟩,H.i.ne⟩ ?_ ?_ hfresh⟩
 ·simp[World.setCell,Array.getElem?_modify,h6]
 ·have hr:r=some k:=by rw[←h3,hk]
  rw[Below.heap_setCell _ _ _ _ (fun e=>H.i.ne (by rw[hr,e])),hkeep k (H.rlt hr) (fun e=>H.d8 k hr e.symm)]
 ·have ho:Owns w6 0 v6 (pd ++ [m]):=by
   unfold Owns
   rw[List.length_append,List.map_append];exact hown
  refine ho.kept fun k hk=>Below.heap_setCell _ _ _ _ (fun e => ?_)
  subst e
  rcases hfresh _ hk with e|e
  ·exact H.d5 e
  ·omega
 ·have h26:OnX x rp w2 w6:=⟨hg.os,hg.tape,hg.output,by have:=hg.size;simp at this;omega,fun k hk _ h2=>hkeep k hk h2⟩
  exact h26.trans (OnX.set w6 1 _)
theorem pend_yes(h:Ids Z x np f pd N ss pl w)(k:Nat)(hl:pd.length≤100000)(hk:k<np)(hfk:f k=false)(hpk:hasB (k:Int) pd=false):Calls Tryz.prog 200 #[.pointer (some ⟨x,0,none⟩), .int .i64 k] w (DPost (.bool true) Z x np f (pd ++ [(k:Int)]) N ss pl w):=by
 obtain⟨mx,my,r,rp,W,pv,h0,hf⟩:=h.h
 have k0:=h0.k0
 have LN:=hid (mlen_any mx my np W w h0.m)
 have HP:=hid (hasP_any h k)
 rw[inF_in hk,hfk]at HP
 have CO:=hid (fun w2 (q:Quiet w w2)=>contains_any pv pd k w2 (h0.p.reads.of_below (q.below _)) (by omega))
 rw[hpk]at CO
 obtain⟨n,hn⟩:∃ n,n=pd.length:=⟨_,rfl⟩
 obtain⟨a,c,rfl⟩:=h0.p.reads_n hn.symm
 have H:=hid h
 have H0:=hid h0
 have HN:=hid hn
 have HF:=hid hf
 have hki:(k:Int)<np:=by omega
 have hk0:0≤(k:Int):=by omega
 rw[←hn]at hl
 clear h h0 hf hk hfk hpk hn
 go_enter Tryz.func200,Tryz.ntmps200
 go_wp2_with fail
 refine LN.out.mono ?_
 rintro e w2 ⟨rfl,rfl⟩
 go_wp2_with fail
 refine HP.out.mono ?_
 rintro e w2 ⟨rfl,hq⟩
 have HQ:=hid hq
 have H2:=hid (H0.out.quiet hq)
 have k1:=H2.out.k1
 clear hq
 go_wp2_with fail
 refine(CO.out _ HQ.out).mono ?_
 rintro e w3 ⟨rfl,hq⟩
 have HQ3:=hid (HQ.out.trans hq)
 have F3:=hid (H.out.quiet HQ3.out)
 have H3:=hid (H0.out.quiet HQ3.out)
 have d1:=H3.out.k1
 clear hq k1
 have HO:=hid (show (w3.alloc (.cells #[.int .i64 k] 3)).ownsRow 0 3 1 (.slice a n c) n (pd.map (Value.int .i64)) by
  have:=H3.out.p;unfold Owns at this;rw[←HN.out]at this;exact this.alloc _)
 have B1:=hid (show n+1≤maxLen by unfold maxLen;omega)
 have B2:=hid (show (n+1)*8≤140737488355328 by omega)
 have B3:=hid (show 0≤(w3.alloc (.cells #[.int .i64 k] 3)).heap.size by omega)
 go_upto_region 3 with (fail)
 obtain⟨i0,hi,hz0,hz1,hz2⟩:=info_parts infoInt
 have HI:=hid hi
 have HZ0:=hid hz0
 have HZ1:=hid hz1
 have HZ2:=hid hz2
 clear hi hz0 hz1 hz2
 go_wp2_with (at_builtin;refine wpList_append_own_at _ rfl _ _ 63 rfl 0 3 i0 (.int .i64 0) 1 8 Tryz.underlying63 HI.out HZ0.out HZ1.out HZ2.out rfl (by decide) _ _ _ rfl HO.out ⟨w3.heap.size,0,none⟩ 1 1 [.int .i64 k] rfl rfl (cell_one_new _ _ _) (ones_of [(k:Int)]) B1.out B2.out B3.out ?_)
 intro v6 w6 hown6 hgr6 _ hat6
 obtain⟨⟨k3,g3⟩,hfin⟩:=pend_fin (v6:=v6) (m:=(k:Int)) F3.out H3.out HF.out (by rw[←HN.out];exact hown6) (by rw[H3.out.q];rw[←H3.out.q];exact hgr6) (by simpa using hat6)
 have FIN:=hid hfin
 obtain⟨va6,vc6,rfl⟩:∃ a c,v6 = .slice a (n+1) c:=by
  obtain⟨h0,⟨h1,h2⟩|⟨g,cap,cur,h1,_⟩⟩:=hown6
  ·omega
  ·exact⟨_,_,h1⟩
 clear hown6 hgr6 hat6 hfin HO
 go_wp2
 go_ret
 exact⟨rfl,FIN.out.1,(Fr.of_quiet HQ3.out).trans FIN.out.2⟩
end Go.Proofs.YtkhigkcmgcafdaaGreatDoor
namespace Go.Proofs.YtkhigkcmgcafdaaGreatDoor
open Go.RowKit
theorem inew_any(P M:Int)(np:Nat)(N:Int)(hnp:(np:Int)=min (max P 1) 64)(hN:N=min (max M 1) 128)(w:World)(T:DbTab w) :
 Calls Tryz.prog 53 #[.int .i64 P, .int .i64 M] w fun e w'=>∃ x,e = .returned (.pointer (some ⟨x,0,none⟩))∧Ids (· < w.heap.size) x np (fun _=>false) [] N [] (-1) w'∧Below w.heap.size w w':=by
 have FIN:=hid (fun(mx my:Nat) (W:List Nat) (w2:World) (hm:Msk w2 mx my np W) (hb:Below w.heap.size w w2) (hx:w.heap.size≤mx) (hy:w.heap.size≤my) (hW:bitAt W=fun _=>false)=>
  (show Ids (· < w.heap.size) w2.heap.size np (fun _=>false) [] N [] (-1) (w2.alloc (.cells #[.pointer (some ⟨mx,0,none⟩), .slice none 0 0, .int .i64 N, .slice none 0 0, .int .i64 (-1)] 145))∧Below w.heap.size w (w2.alloc (.cells #[.pointer (some ⟨mx,0,none⟩), .slice none 0 0, .int .i64 N, .slice none 0 0, .int .i64 (-1)] 145)) from by
   have hs2:=hb.size
   have hB:Below w.heap.size w (w2.alloc (.cells #[.pointer (some ⟨mx,0,none⟩), .slice none 0 0, .int .i64 N, .slice none 0 0, .int .i64 (-1)] 145)):=hb.alloc (by omega) _
   have hl:Below w2.heap.size w2 (w2.alloc (.cells #[.pointer (some ⟨mx,0,none⟩), .slice none 0 0, .int .i64 N, .slice none 0 0, .int .i64 (-1)] 145)):=(Below.refl _ _).alloc (Nat.le_refl _) _
   have hmx:=hm.sx
   have hmy:=hm.sy
   refine⟨⟨⟨mx,my,none,none,W, .slice none 0 0,⟨⟨⟨.slice none 0 0,Deep.blk_alloc_new _ _,⟨by simp, .inl ⟨rfl,rfl⟩⟩,rfl⟩,by simp⟩,⟨by simp, .inl ⟨rfl,rfl⟩⟩,rfl,hm.below hl hmx hmy,by omega,by omega,by simp,by simp,by simp,by simp,by simp,by simp,by omega,by omega,by omega,by simp,by simp,fun k hk=>by simp;omega⟩,hW⟩,T.at hB,T.lt⟩,hB⟩))
 have hP:P<1∨(1≤P∧P≤64)∨64<P:=by omega
 have hM:M<1∨(1≤M∧M≤128)∨128<M:=by omega
 clear T
 rcases hP with hP|⟨hP,hP'⟩|hP
 ·obtain rfl:np=1:=by omega
  have MN:=hid (mnew_any 1 1 (by omega) w)
  rcases hM with hM|⟨hM,hM'⟩|hM
  ·obtain rfl:N=1:=by omega
   clear hnp hN
   go_enter Tryz.func53,Tryz.ntmps53
   go_wp2_with fail
   (with_reducible refine MN.out.mono ?_)
   rintro e w2 ⟨rfl,hm2,hb2,hs2⟩
   have F2:=hid (FIN.out _ _ _ _ hm2 hb2 (by omega) (by omega) (by funext i;exact bitAt_zero _ _))
   clear hm2 hb2 hs2
   go_wp2
   go_ret
   exact⟨_,rfl,F2.out.1,F2.out.2⟩
  ·obtain rfl:N=M:=by omega
   clear hnp hN
   go_enter Tryz.func53,Tryz.ntmps53
   go_wp2_with fail
   (with_reducible refine MN.out.mono ?_)
   rintro e w2 ⟨rfl,hm2,hb2,hs2⟩
   have F2:=hid (FIN.out _ _ _ _ hm2 hb2 (by omega) (by omega) (by funext i;exact bitAt_zero _ _))
   clear hm2 hb2 hs2
   go_wp2
   go_ret
   exact⟨_,rfl,F2.out.1,F2.out.2⟩
  ·obtain rfl:N=128:=by omega
   clear hnp hN
   go_enter Tryz.func53,Tryz.ntmps53
   go_wp2_with fail
   (with_reducible refine MN.out.mono ?_)
   rintro e w2 ⟨rfl,hm2,hb2,hs2⟩
   have F2:=hid (FIN.out _ _ _ _ hm2 hb2 (by omega) (by omega) (by funext i;exact bitAt_zero _ _))
   clear hm2 hb2 hs2
   go_wp2
   go_ret
   exact⟨_,rfl,F2.out.1,F2.out.2⟩
 ·obtain rfl:P=np:=by omega
  have MN:=hid (mnew_any (np:Int) np (by omega) w)
  rcases hM with hM|⟨hM,hM'⟩|hM
  ·obtain rfl:N=1:=by omega
   clear hnp hN
   go_enter Tryz.func53,Tryz.ntmps53
   go_wp2_with fail
   (with_reducible refine MN.out.mono ?_)
   rintro e w2 ⟨rfl,hm2,hb2,hs2⟩
   have F2:=hid (FIN.out _ _ _ _ hm2 hb2 (by omega) (by omega) (by funext i;exact bitAt_zero _ _))
   clear hm2 hb2 hs2
   go_wp2
   go_ret
   exact⟨_,rfl,F2.out.1,F2.out.2⟩
  ·obtain rfl:N=M:=by omega
   clear hnp hN
   go_enter Tryz.func53,Tryz.ntmps53
   go_wp2_with fail
   (with_reducible refine MN.out.mono ?_)
   rintro e w2 ⟨rfl,hm2,hb2,hs2⟩
   have F2:=hid (FIN.out _ _ _ _ hm2 hb2 (by omega) (by omega) (by funext i;exact bitAt_zero _ _))
   clear hm2 hb2 hs2
   go_wp2
   go_ret
   exact⟨_,rfl,F2.out.1,F2.out.2⟩
  ·obtain rfl:N=128:=by omega
   clear hnp hN
   go_enter Tryz.func53,Tryz.ntmps53
   go_wp2_with fail
   (with_reducible refine MN.out.mono ?_)
   rintro e w2 ⟨rfl,hm2,hb2,hs2⟩
   have F2:=hid (FIN.out _ _ _ _ hm2 hb2 (by omega) (by omega) (by funext i;exact bitAt_zero _ _))
   clear hm2 hb2 hs2
   go_wp2
   go_ret
   exact⟨_,rfl,F2.out.1,F2.out.2⟩
 ·obtain rfl:np=64:=by omega
  have MN:=hid (mnew_any 64 64 (by omega) w)
  rcases hM with hM|⟨hM,hM'⟩|hM
  ·obtain rfl:N=1:=by omega
   clear hnp hN
   go_enter Tryz.func53,Tryz.ntmps53
   go_wp2_with fail
   (with_reducible refine MN.out.mono ?_)
   rintro e w2 ⟨rfl,hm2,hb2,hs2⟩
   have F2:=hid (FIN.out _ _ _ _ hm2 hb2 (by omega) (by omega) (by funext i;exact bitAt_zero _ _))
   clear hm2 hb2 hs2
   go_wp2
   go_ret
   exact⟨_,rfl,F2.out.1,F2.out.2⟩
  ·obtain rfl:N=M:=by omega
   clear hnp hN
   go_enter Tryz.func53,Tryz.ntmps53
   go_wp2_with fail
   (with_reducible refine MN.out.mono ?_)
   rintro e w2 ⟨rfl,hm2,hb2,hs2⟩
   have F2:=hid (FIN.out _ _ _ _ hm2 hb2 (by omega) (by omega) (by funext i;exact bitAt_zero _ _))
   clear hm2 hb2 hs2
   go_wp2
   go_ret
   exact⟨_,rfl,F2.out.1,F2.out.2⟩
  ·obtain rfl:N=128:=by omega
   clear hnp hN
   go_enter Tryz.func53,Tryz.ntmps53
   go_wp2_with fail
   (with_reducible refine MN.out.mono ?_)
   rintro e w2 ⟨rfl,hm2,hb2,hs2⟩
   have F2:=hid (FIN.out _ _ _ _ hm2 hb2 (by omega) (by omega) (by funext i;exact bitAt_zero _ _))
   clear hm2 hb2 hs2
   go_wp2
   go_ret
   exact⟨_,rfl,F2.out.1,F2.out.2⟩
end Go.Proofs.YtkhigkcmgcafdaaGreatDoor
namespace Go.Proofs.YtkhigkcmgcafdaaGreatDoor
open Go.RowKit
variable {Z:Nat→Prop}{w:World}{x np:Nat}{f:Nat→Bool}{pd:List Int}{N:Int}{ss:List Int}{pl:Int}
theorem takePend_none(h:Ids Z x np f [] N ss pl w):Calls Tryz.prog 176 #[.pointer (some ⟨x,0,none⟩)] w (DPost (.tuple #[.int .i64 0, .bool false]) Z x np f [] N ss pl w):=by
 obtain⟨mx,my,r,rp,W,pv,h0,hf⟩:=h.h
 have k1:=h0.k1
 obtain⟨a,c,rfl⟩:=h0.p.reads_n (show ([]:List Int).length=0 from rfl)
 have H:=hid h
 clear h h0 hf
 go_enter Tryz.func176,Tryz.ntmps176
 go_wp2
 go_ret2
 exact⟨rfl,H.out, .refl _ _⟩
theorem tpend_fin{m:Int}{mx my g:Nat}{r rp:Option Nat}{W:List Nat}{pv v6:Value}{w2:World}(F:Ids Z x np f (m :: pd) N ss pl w)(H:Ids0 w Z x mx my r rp np W pv (m :: pd) N ss pl)(hf:bitAt W=f)
 (hown:Owns w2 0 v6 pd)(hb:v6.ownBlock=some g)(hrp:rp=some g)(ho:Only g g w w2) :
 (w2.cell? ⟨x,1,none⟩=some pv∧w2.frozen? ⟨x,1,none⟩=false)∧Ids Z x np f pd N ss pl (w2.setCell ⟨x,1,none⟩ v6)∧Fr Z w (w2.setCell ⟨x,1,none⟩ v6):=by
 obtain⟨sv,h1,h2,h3⟩:=H.i.h
 have hx:=H.i.lt
 subst hrp
 have hxg:x≠g:=fun e=>H.d5 (by rw[e])
 have h6:w2.heap[x]? = some (.cells #[.pointer (some ⟨mx,0,none⟩),pv, .int .i64 N,sv, .int .i64 pl] 145 (0,0)):=by
  rw[ho.block x hx hxg hxg];exact h1
 refine⟨⟨by simp[World.cell?,h6],by simp[World.frozen?,h6]⟩,F.liftp H hf (pv':=v6) ⟨⟨sv,?_,h2.kept fun k hk => ?_,h3⟩,H.i.ne⟩ ?_ ?_ (fun k hk => .inl (by rw[←hb,hk]))⟩
 ·simp[World.setCell,Array.getElem?_modify,h6]
 ·have hr:r=some k:=by rw[←h3,hk]
  have hkg:k≠g:=fun e=>H.d8 k hr (by rw[e])
  rw[Below.heap_setCell _ _ _ _ (fun e=>H.i.ne (by rw[hr,e])),ho.block k (H.rlt hr) hkg hkg]
 ·refine hown.kept fun k hk=>Below.heap_setCell _ _ _ _ (fun e => ?_)
  rw[hb]at hk;simp only[Option.some.injEq]at hk
  exact hxg (by rw[hk,e])
 ·have h26:OnX x (some g) w w2:=⟨ho.os,ho.tape,ho.output,ho.size,fun k hk _ h2=>ho.block k hk (fun e=>h2 (by rw[e])) (fun e=>h2 (by rw[e]))⟩
  exact h26.trans (OnX.set w2 1 _)
theorem takePend_first(m:Int)(h:Ids Z x np f (m :: pd) N ss pl w):Calls Tryz.prog 176 #[.pointer (some ⟨x,0,none⟩)] w (DPost (.tuple #[.int .i64 m, .bool true]) Z x np f pd N ss pl w):=by
 obtain⟨mx,my,r,rp,W,pv,h0,hf⟩:=h.h
 have k1:=h0.k1
 obtain⟨g,c,cur,hpv,hb,hcap,hcm,hcs,hl⟩:∃ g c,∃ cur:Array Value,pv = .slice (some ⟨g,0,none⟩) (pd.length+1) c∧w.heap[g]? = some (.cells cur 3 (0,0))∧pd.length+1≤c∧c≤maxLen∧cur.size=c∧cur.toList.take (pd.length+1)=(m :: pd).map (Value.int .i64):=by
  obtain⟨h0,⟨h1,h2⟩|⟨g,c,cur,h1,h2,h3,h4,h5,h6,h7⟩⟩:=h0.p
  ·simp at h2
  ·refine⟨g,c,cur,h1,h3,h4,h5,by omega,?_⟩
   rw[Nat.mul_one]at h7
   exact h7
 obtain⟨n,hn⟩:∃ n,n=pd.length:=⟨_,rfl⟩
 rw[←hn]at hpv hcap hl
 have DEL:=hid (del_first g n c m pd w cur hn hb hcs hcm hcap hl)
 have hc0:w.cell? ⟨g,0,none⟩=some (.int .i64 m):=by
  have e:(cur.toList.take (n+1))[0]? = cur.toList[0]?:=by rw[List.getElem?_take,if_pos (by omega)]
  rw[hl]at e
  simp[World.cell?,hb]
  simpa using e.symm
 subst hpv
 have hrp:rp=some g:=by rw[←h0.q];rfl
 have FIN:=hid (fun v6 w2 h1 h2 h3=>tpend_fin (v6:=v6) (w2:=w2) h h0 hf h1 h2 hrp h3)
 have hn1:((n+1:Nat):Int)=(n:Int)+1:=by omega
 have t:(((n:Int)+1) == 0)=false:=beq_eq_false_iff_ne.2 (by omega)
 have hp0:(0:Int)<(n:Int)+1:=by omega
 clear h h0 hf hrp hb hcap hcm hcs hl hn
 go_enter Tryz.func176,Tryz.ntmps176
 go_wp2_with fail
 refine DEL.out.mono ?_
 rintro e w2 ⟨v6,rfl,ho6,hb6,hw6⟩
 obtain⟨⟨k3,g3⟩,hfin⟩:=FIN.out v6 w2 ho6 hb6 hw6
 have HF:=hid hfin
 obtain⟨va6,vm6,vc6,rfl⟩:=ho6.slice3
 clear ho6 hb6 hw6 hfin k1
 go_wp2
 go_ret2
 exact⟨rfl,HF.out⟩
theorem iStop_first(h:Ids Z x np f pd N ss (-1) w)(m:Int)(h0:0≤m)(h1:m<N)(hs:hasB m ss=false)(hl:ss.length≤100000):Calls Tryz.prog 84 #[.pointer (some ⟨x,0,none⟩), .int .i64 m] w (DPost (.tuple #[.bool true, .bool true]) Z x np f pd N ss m w):=by
 obtain⟨mx,my,r,rp,W,pv,i0,hf⟩:=h.h
 exact(stop_first x r _ _ N ss m w i0.i h0 h1 hs hl).mono fun e w' hp=>h.lift i0 hf hp
theorem iStop_more(h:Ids Z x np f pd N ss pl w)(m:Int)(hp:0≤pl)(hmp:m≠pl)(h0:0≤m)(h1:m<N)(hs:hasB m ss=false)(hl:ss.length≤100000):Calls Tryz.prog 84 #[.pointer (some ⟨x,0,none⟩), .int .i64 m] w (DPost (.tuple #[.bool false, .bool true]) Z x np f pd N (ss ++ [m]) pl w):=by
 obtain⟨mx,my,r,rp,W,pv,i0,hf⟩:=h.h
 exact(stop_more x r _ _ N ss pl m w i0.i hp hmp h0 h1 hs hl).mono fun e w' hp=>h.lift i0 hf hp
theorem iStop_no(h:Ids Z x np f pd N ss pl w)(m:Int)(h0:0≤m)(h1:m<N)(hs:m=pl∨(m≠pl∧hasB m ss=true))(hl:ss.length≤100000):Calls Tryz.prog 84 #[.pointer (some ⟨x,0,none⟩), .int .i64 m] w (DPost (.tuple #[.bool false, .bool false]) Z x np f pd N ss pl w):=by
 obtain⟨mx,my,r,rp,W,pv,i0,hf⟩:=h.h
 exact(stop_no x r _ _ N ss pl m w i0.i h0 h1 hs hl).mono fun e w' ⟨he,hq⟩=>⟨he,h.quiet hq, .of_quiet hq⟩
theorem iTakeM_last(m:Int)(h:Ids Z x np f pd N (ss ++ [m]) pl w)(hl:ss.length≤100000):Calls Tryz.prog 199 #[.pointer (some ⟨x,0,none⟩)] w (DPost (.tuple #[.int .i64 m, .bool true]) Z x np f pd N ss pl w):=by
 obtain⟨mx,my,r,rp,W,pv,i0,hf⟩:=h.h
 exact(takeM_last x r _ _ N ss pl m w i0.i hl).mono fun e w' hp=>h.lift i0 hf hp
theorem iTakeM_poller(h:Ids Z x np f pd N [] pl w)(hp:0≤pl):Calls Tryz.prog 199 #[.pointer (some ⟨x,0,none⟩)] w (DPost (.tuple #[.int .i64 pl, .bool true]) Z x np f pd N [] (-1) w):=by
 obtain⟨mx,my,r,rp,W,pv,i0,hf⟩:=h.h
 exact(takeM_poller x r _ _ N pl w i0.i hp).mono fun e w' hp=>h.lift i0 hf hp
theorem iTakeM_none(h:Ids Z x np f pd N [] (-1) w):Calls Tryz.prog 199 #[.pointer (some ⟨x,0,none⟩)] w (DPost (.tuple #[.int .i64 0, .bool false]) Z x np f pd N [] (-1) w):=by
 obtain⟨mx,my,r,rp,W,pv,i0,hf⟩:=h.h
 exact(takeM_none x r _ _ N w i0.i).mono fun e w' hp=>h.lift i0 hf hp
theorem iPoller_no(h:Ids Z x np f pd N ss (-1) w):Calls Tryz.prog 65 #[.pointer (some ⟨x,0,none⟩)] w fun e w'=>e = .returned (.tuple #[.int .i64 0, .bool false])∧w=w':=by
 obtain⟨mx,my,r,rp,W,pv,i0,hf⟩:=h.h
 exact poller_no x r _ _ N ss w i0.i
theorem iPoller_yes(h:Ids Z x np f pd N ss pl w)(hp:0≤pl):Calls Tryz.prog 65 #[.pointer (some ⟨x,0,none⟩)] w fun e w'=>e = .returned (.tuple #[.int .i64 pl, .bool true])∧w=w':=by
 obtain⟨mx,my,r,rp,W,pv,i0,hf⟩:=h.h
 exact poller_yes x r _ _ N ss pl w i0.i hp
end Go.Proofs.YtkhigkcmgcafdaaGreatDoor
namespace Go.Proofs.YtkhigkcmgcafdaaGreatDoor
open Go.RowKit
theorem Ids.rez{Z Z':Nat→Prop}{w w':World}{x np:Nat}{f:Nat→Bool}{pd:List Int}{N:Int}{ss:List Int}{pl:Int}(h:Ids Z x np f pd N ss pl w)(hk:∀ k,¬Z k→k<w.heap.size→w'.heap[k]? = w.heap[k]?)(hg:w'.heap[3]? = w.heap[3]?)
 (hz:∀ k,¬Z k→k<w.heap.size→¬Z' k)(zl:∀ k,Z' k→k<w'.heap.size)(ht:Z' 3):Ids Z' x np f pd N ss pl w':=by
 obtain⟨mx,my,r,rp,W,pv,h0,h2⟩:=h.h
 exact⟨⟨mx,my,r,rp,W,pv,⟨h0.i.kept (hk _ h0.b1 h0.i.lt) (fun k e=>hk k (h0.b4 k e) (h0.rlt e)),h0.p.kept (fun k e=>hk k (h0.b5 k (by rw[←h0.q,e])) (owns_lt h0.p e)),h0.q,h0.m.kept (hk _ h0.b2 h0.m.sx) (hk _ h0.b3 h0.m.sy),h0.d1,h0.d2,h0.d3,h0.d4,h0.d5,h0.d6,h0.d7,h0.d8,
  hz _ h0.b1 h0.i.lt,hz _ h0.b2 h0.m.sx,hz _ h0.b3 h0.m.sy,fun k e=>hz _ (h0.b4 k e) (h0.rlt e),fun k e=>hz _ (h0.b5 k e) (h0.plt e),zl⟩,h2⟩,h.T.eq hg,ht⟩
def fo (o1 o2 o5 o6 o7 o9 o8:Option Nat):Nat→Option Nat
 | 0=>o1
 | 1=>o2
 | 2=>o5
 | 3=>o6
 | 4=>o7
 | 5=>o9
 | 6=>o8
 | _=>none
section
variable {o1 o2 o5 o6 o7 o9 o8:Option Nat}{r:Nat}
theorem fo_0:up (fo none o2 o5 o6 o7 o9 o8) 0 r=fo (some r) o2 o5 o6 o7 o9 o8:=by funext i;rcases i with _|_|_|_|_|_|_|i <;> rfl
theorem fo_1:up (fo o1 none o5 o6 o7 o9 o8) 1 r=fo o1 (some r) o5 o6 o7 o9 o8:=by funext i;rcases i with _|_|_|_|_|_|_|i <;> rfl
theorem fo_2:up (fo o1 o2 none o6 o7 o9 o8) 2 r=fo o1 o2 (some r) o6 o7 o9 o8:=by funext i;rcases i with _|_|_|_|_|_|_|i <;> rfl
theorem fo_3:up (fo o1 o2 o5 none o7 o9 o8) 3 r=fo o1 o2 o5 (some r) o7 o9 o8:=by funext i;rcases i with _|_|_|_|_|_|_|i <;> rfl
theorem fo_4:up (fo o1 o2 o5 o6 none o9 o8) 4 r=fo o1 o2 o5 o6 (some r) o9 o8:=by funext i;rcases i with _|_|_|_|_|_|_|i <;> rfl
theorem fo_5:up (fo o1 o2 o5 o6 o7 none o8) 5 r=fo o1 o2 o5 o6 o7 (some r) o8:=by funext i;rcases i with _|_|_|_|_|_|_|i <;> rfl
theorem fo_6:up (fo o1 o2 o5 o6 o7 o9 none) 6 r=fo o1 o2 o5 o6 o7 o9 (some r):=by funext i;rcases i with _|_|_|_|_|_|_|i <;> rfl
theorem fo_no(i:Nat):fo none none none none none none none i=none:=by rcases i with _|_|_|_|_|_|_|i <;> rfl
end
def Prt (P M wd:Nat)(i b lo hi:Nat)(y:World):Prop:=
 match i with
 | 0|1=>∃ g,(lo≤b∧b<hi∧lo≤g∧g<hi)∧Mem y b g (List.replicate wd 0) 0
 | 3=>∃ p r,(lo≤b∧b<hi∧lo≤p∧p<hi)∧(∀ k,r=some k→lo≤k∧k<hi)∧Qu y b p P r []
 | 5=>Ids (fun k=>k<lo∨(hi≤k∧k<y.heap.size)) b P (fun _=>false) [] M [] (-1) y
 | 2=>(lo≤b∧b<hi)∧y.heap[b]? = some (.cells (madeCells #[.int .i64 0] P) 3 (0,0))
 | 6=>(lo≤b∧b<hi)∧y.heap[b]? = some (.cells (madeCells mz (M*20)) 118 (0,0))
 | 4=>∃ t p b1 b2 b3 es,Sq (fun k=>k<lo∨(hi≤k∧k<y.heap.size)) y b t p b1 b2 b3 P 0 es [] 0 [] []
 | _=>True
theorem Prt.kept{P M wd i b lo hi:Nat}{y y':World}(h:Prt P M wd i b lo hi y)(hh:hi≤y.heap.size)(hk:∀ k,lo≤k→k<hi→y'.heap[k]? = y.heap[k]?)(hs:y.heap.size≤y'.heap.size)(hg:y'.heap[3]? = y.heap[3]?)(U:3<lo):Prt P M wd i b lo hi y':=by
 rcases i with _|_|_|_|_|_|_|i
 ·obtain⟨g,⟨l1,l2,l3,l4⟩,hm⟩:=h
  exact⟨g,⟨l1,l2,l3,l4⟩,hm.blocks (hk b l1 l2) (hk g l3 l4)⟩
 ·obtain⟨g,⟨l1,l2,l3,l4⟩,hm⟩:=h
  exact⟨g,⟨l1,l2,l3,l4⟩,hm.blocks (hk b l1 l2) (hk g l3 l4)⟩
 ·obtain⟨⟨l1,l2⟩,hm⟩:=h
  exact⟨⟨l1,l2⟩,(hk b l1 l2).trans hm⟩
 ·obtain⟨p,r,⟨l1,l2,l3,l4⟩,l5,hq⟩:=h
  exact⟨p,r,⟨l1,l2,l3,l4⟩,l5,⟨(hk b l1 l2).trans hq.hq,hq.hb.kept (hk p l3 l4) (fun k e=>hk k (l5 k e).1 (l5 k e).2),hq.ne,hq.nr,hq.lo,hq.hi⟩⟩
 ·obtain⟨t,p,b1,b2,b3,es,hq⟩:=h
  refine⟨t,p,b1,b2,b3,es,hq.keep (fun k h1 h2=>hk k (by omega) (by omega)) hs (fun k h1 h2=>by omega) (fun k h1 => ?_)⟩
  rcases h1 with h1|h1
  ·have:=hq.hz k (.inl h1);omega
  ·exact h1.2
 ·exact Ids.rez (show Ids (fun k=>k<lo∨(hi≤k∧k<y.heap.size)) b P (fun _=>false) [] M [] (-1) y from h) (fun k h1 h2=>hk k (by omega) (by omega)) hg (fun k h1 h2=>by omega) (fun k h1=>by
   have:=(show Ids (fun k=>k<lo∨(hi≤k∧k<y.heap.size)) b P (fun _=>false) [] M [] (-1) y from h).zl
   rcases h1 with h1|h1
   ·have:=this k (.inl h1);omega
   ·exact h1.2) (.inl U)
 ·obtain⟨⟨l1,l2⟩,hm⟩:=h
  exact⟨⟨l1,l2⟩,(hk b l1 l2).trans hm⟩
 ·trivial
structure JC(w0:World)(P M wd:Nat)(G:Int)(y:World)(f:Nat→Option Nat):Prop where
 bl:Below w0.heap.size w0 y
 sn:SG w0.heap.size P M G y
 pr:∃ I:Nat→Nat × Nat,(∀ i b,f i=some b→Prt P M wd i b (I i).1 (I i).2 y∧w0.heap.size≤(I i).1∧(I i).2≤y.heap.size) ∧ ∀ i j bi bj,i≠j→f i=some bi→f j=some bj→(I i).2≤(I j).1∨(I j).2≤(I i).1
theorem JC.step{w0 y y':World}{P M wd:Nat}{G:Int}{f:Nat→Option Nat}{i b:Nat}(h:JC w0 P M wd G y f)(U:3<w0.heap.size)(hf:f i=none)(hb:Below y.heap.size y y')(hp:Prt P M wd i b y.heap.size y'.heap.size y'):JC w0 P M wd G y' (up f i b):=by
 obtain⟨I,hI,hd⟩:=h.pr
 have hs:=hb.size
 have hs0:=h.bl.size
 have hc:∀(i:Nat) (v:Value),y.cell? ⟨w0.heap.size,i,none⟩=some v→y'.cell? ⟨w0.heap.size,i,none⟩=some v:=fun i v e=>(hb.cell (p:=⟨w0.heap.size,i,none⟩) (cell_lt e)).trans e
 refine⟨h.bl.trans (hb.mono h.bl.size),⟨hc _ _ h.sn.1,hc _ _ h.sn.2.1,hc _ _ h.sn.2.2⟩,fun j=>if j=i then (y.heap.size,y'.heap.size) else I j,fun j b' e => ?_,fun j l bj bl hjl e1 e2 => ?_⟩
 ·rcases up_some e with⟨rfl,rfl⟩|⟨hne,e⟩
  ·dsimp only;rw[if_pos rfl]
   exact⟨hp,hs0,Nat.le_refl _⟩
  ·dsimp only;rw[if_neg hne]
   obtain⟨a1,a2,a3⟩:=hI j b' e
   exact⟨a1.kept a3 (fun k _ h2=>hb.block k (by omega)) hs (hb.block _ (by omega)) (by omega),a2,by omega⟩
 ·dsimp only
  rcases up_some e1 with⟨rfl,rfl⟩|⟨hne,e3⟩ <;> rcases up_some e2 with⟨rfl,rfl⟩|⟨hne2,e4⟩
  ·exact absurd rfl hjl
  ·rw[if_pos rfl,if_neg hne2]
   have:=(hI _ _ e4).2.2
   exact .inr this
  ·rw[if_neg hne,if_pos rfl]
   have:=(hI _ _ e3).2.2
   exact .inl this
  ·rw[if_neg hne,if_neg hne2]
   exact hd _ _ _ _ hjl e3 e4
def JW (w0:World)(P M wd:Nat)(G:Int):JT:=fun y o1 o2 o5 o6 o7 o9 o8=>JC w0 P M wd G y (fo o1 o2 o5 o6 o7 o9 o8)
theorem jw_ok(w0:World)(P M wd:Nat)(G wi:Int)(hok:OkC P M G)(hwd:(wd:Int)=wi)(hwi:wi=2*((P:Int)+2)+1+(M:Int)+G)(T:DbTab w0):JOk (JW w0 P M wd G) w0.heap.size P M G wi:=by
 have U:=T.lt
 obtain⟨h1,h2,h3,h4,h5,h6⟩:=hok
 constructor
 ·intro y o1 o2 o5 o6 o7 o9 o8 h
  exact h.sn
 ·intro y o5 o8 h
  refine(new_ex wi wd (by omega) y).mono ?_
  rintro e y' ⟨b,g,he,hm,l1,l2,hb⟩
  refine⟨_,he,b,rfl,?_⟩
  have:=JC.step h U (i:=0) (b:=b) rfl hb ⟨g,⟨l1,hm.sb,l2,hm.sg⟩,hm⟩
  rw[fo_0]at this
  exact this
 ·intro y b1 o5 o8 h
  refine(new_ex wi wd (by omega) y).mono ?_
  rintro e y' ⟨b,g,he,hm,l1,l2,hb⟩
  refine⟨_,he,b,rfl,?_⟩
  have:=JC.step h U (i:=1) (b:=b) rfl hb ⟨g,⟨l1,hm.sb,l2,hm.sg⟩,hm⟩
  rw[fo_1]at this
  exact this
 ·intro y b1 b2 o5 o8 h
  refine(qnew P P (by omega) y).mono ?_
  rintro e y' ⟨q,p,r,he,hq,l1,l2,l3,hb⟩
  refine⟨_,he,q,rfl,?_⟩
  have:=JC.step h U (i:=3) (b:=q) rfl hb ⟨p,r,⟨l1,hq.lt,l2,hq.hb.lt⟩,fun k hk=>⟨l3 k hk,hq.hb.rlt k hk⟩,hq⟩
  rw[fo_3]at this
  exact this
 ·intro y b1 b2 q o5 o8 h
  refine(snew P (by omega) (by omega) y).mono ?_
  rintro e y' ⟨Z,s,t,p,b1,b2,b3,he,hq,hb,z1,z2⟩
  refine⟨_,he,s,rfl,?_⟩
  have:=JC.step h U (i:=4) (b:=s) rfl hb ⟨t,p,b1,b2,b3,_,hq.keep (fun _ _ _=>rfl) (Nat.le_refl _) (fun k h1 h2 h3=>by
   rcases h3 with h3|h3
   ·exact h1 (z1 k h3)
   ·omega) (fun k h1=>by have:=hb.size;omega)⟩
  rw[fo_4]at this
  exact this
 ·intro y b1 b2 q sb o5 o8 h
  refine(inew_any P M P M (by omega) (by omega) y (T.at h.bl)).mono ?_
  rintro e y' ⟨x,he,hi,hb⟩
  refine⟨_,he,x,rfl,?_⟩
  have hs:=hb.size
  have hs0:=h.bl.size
  have:=JC.step h U (i:=5) (b:=x) rfl hb (show Ids _ _ _ _ _ _ _ _ _ from hi.rez (fun _ _ _=>rfl) rfl (fun k a1 a2=>by omega) (fun k a1=>by omega) (.inl (by omega)))
  rw[fo_5]at this
  exact this
 ·intro y o1 o2 o6 o7 o9 o8 h
  have:=JC.step h U (i:=2) (b:=y.heap.size) rfl (bla y (.cells (madeCells #[.int .i64 0] P) 3)) ⟨⟨Nat.le_refl _,by simp⟩,heap_alloc_new _ _⟩
  rw[fo_2]at this
  exact this
 ·intro y o1 o2 o5 o6 o7 o9 h
  have:=JC.step h U (i:=6) (b:=y.heap.size) rfl (bla y (.cells (madeCells mz (M*20)) 118)) ⟨⟨Nat.le_refl _,by simp⟩,heap_alloc_new _ _⟩
  rw[fo_6]at this
  exact this
theorem jw_0(w0 y:World)(P M wd:Nat)(G:Int)(hb:Below w0.heap.size w0 y)(hs:SG w0.heap.size P M G y):JW w0 P M wd G y none none none none none none none:=
 ⟨hb,hs,fun _=>(0,0),fun i b e=>(by rw[fo_no]at e;cases e),fun i j bi bj _ e=>(by rw[fo_no]at e;cases e)⟩
structure Ja(w0:World)(P M wd:Nat)(y:World)(b1 g1 b2 g2 tb q p:Nat)(r:Option Nat)(sb ib mb lo hi:Nat):Prop where
 bl:Below w0.heap.size w0 y
 m1:Mem y b1 g1 (List.replicate wd 0) 0
 m2:Mem y b2 g2 (List.replicate wd 0) 0
 qu:Qu y q p P r []
 id:Ids (fun k=>k<lo∨(hi≤k∧k<y.heap.size)) ib P (fun _=>false) [] M [] (-1) y
 ma:y.heap[mb]? = some (.cells (madeCells mz (M*20)) 118 (0,0))
 ge:w0.heap.size≤b1∧w0.heap.size≤g1∧w0.heap.size≤b2∧w0.heap.size≤g2∧w0.heap.size≤q∧w0.heap.size≤p∧w0.heap.size≤mb∧w0.heap.size≤lo
 gr:∀ k,r=some k→w0.heap.size≤k
 hh:hi≤y.heap.size
 a1:b1≠b2∧b1≠g2∧g1≠b2∧g1≠g2
 a2:b1≠q∧b1≠p∧r≠some b1∧g1≠q∧g1≠p∧r≠some g1∧b2≠q∧b2≠p∧r≠some b2∧g2≠q∧g2≠p∧r≠some g2
 a3:b1≠mb∧g1≠mb∧b2≠mb∧g2≠mb∧q≠mb∧p≠mb∧r≠some mb
 a4:¬(lo≤b1∧b1<hi)∧¬(lo≤g1∧g1<hi)∧¬(lo≤b2∧b2<hi)∧¬(lo≤g2∧g2<hi)∧¬(lo≤q∧q<hi)∧¬(lo≤p∧p<hi)∧¬(lo≤mb∧mb<hi)
 a5:∀ k,r=some k→¬(lo≤k∧k<hi)
 tu:y.heap[tb]? = some (.cells (madeCells #[.int .i64 0] P) 3 (0,0))
 sx:∃ lo4 hi4 t p' c1 c2 c3 es,Sq (fun k=>k<lo4∨(hi4≤k∧k<y.heap.size)) y sb t p' c1 c2 c3 P 0 es [] 0 [] []∧w0.heap.size≤lo4∧hi4≤y.heap.size∧(∀ k ∈ [b1,g1,b2,g2,tb,q,p,mb],¬(lo4≤k∧k<hi4))∧(∀ k,r=some k→¬(lo4≤k∧k<hi4))∧(hi4≤lo∨hi≤lo4)
 a6:(b1≠tb∧g1≠tb∧b2≠tb∧g2≠tb)∧(q≠tb∧p≠tb∧r≠some tb∧mb≠tb)∧¬(lo≤tb∧tb<hi)∧w0.heap.size≤tb
theorem jw_all{w0 y:World}{P M wd:Nat}{G:Int}{b1 b2 tb q sb ib mb:Nat}(h:JW w0 P M wd G y (some b1) (some b2) (some tb) (some q) (some sb) (some ib) (some mb)) :
 ∃ g1 g2 p r lo hi,Ja w0 P M wd y b1 g1 b2 g2 tb q p r sb ib mb lo hi:=by
 obtain⟨hb,hs,I,hI,hd⟩:=h
 obtain⟨⟨g1,l1,m1⟩,c1,d1⟩:=hI 0 b1 rfl
 obtain⟨⟨g2,l2,m2⟩,c2,d2⟩:=hI 1 b2 rfl
 obtain⟨⟨p,r,l3,l4,qu⟩,c3,d3⟩:=hI 3 q rfl
 obtain⟨⟨l7,tu⟩,c7,d7⟩:=hI 2 tb rfl
 obtain⟨id,c5,d5⟩:=hI 5 ib rfl
 obtain⟨⟨t4,p4,x1,x2,x3,es4,sq4⟩,c4,d4⟩:=hI 4 sb rfl
 have e04:=hd 0 4 _ _ (by decide) rfl rfl
 have e14:=hd 1 4 _ _ (by decide) rfl rfl
 have e24:=hd 2 4 _ _ (by decide) rfl rfl
 have e34:=hd 3 4 _ _ (by decide) rfl rfl
 have e64:=hd 6 4 _ _ (by decide) rfl rfl
 have e45:=hd 4 5 _ _ (by decide) rfl rfl
 obtain⟨⟨l6,ma⟩,c6,d6⟩:=hI 6 mb rfl
 have e01:=hd 0 1 _ _ (by decide) rfl rfl
 have e03:=hd 0 3 _ _ (by decide) rfl rfl
 have e05:=hd 0 5 _ _ (by decide) rfl rfl
 have e06:=hd 0 6 _ _ (by decide) rfl rfl
 have e13:=hd 1 3 _ _ (by decide) rfl rfl
 have e15:=hd 1 5 _ _ (by decide) rfl rfl
 have e16:=hd 1 6 _ _ (by decide) rfl rfl
 have e35:=hd 3 5 _ _ (by decide) rfl rfl
 have e36:=hd 3 6 _ _ (by decide) rfl rfl
 have e56:=hd 5 6 _ _ (by decide) rfl rfl
 have e02:=hd 0 2 _ _ (by decide) rfl rfl
 have e12:=hd 1 2 _ _ (by decide) rfl rfl
 have e32:=hd 3 2 _ _ (by decide) rfl rfl
 have e25:=hd 2 5 _ _ (by decide) rfl rfl
 have e62:=hd 6 2 _ _ (by decide) rfl rfl
 have ap:∀ {a b c d x y:Nat},b≤c∨d≤a→a≤x∧x<b→c≤y∧y<d→x≠y:=fun h1 h2 h3=>by omega
 have ao:∀ {a b c d x:Nat},b≤c∨d≤a→a≤x∧x<b→¬(c≤x∧x<d):=fun h1 h2=>by omega
 have k1:=And.intro l1.1 l1.2.1
 have k2:=l1.2.2
 have k3:=And.intro l2.1 l2.2.1
 have k4:=l2.2.2
 have k5:=And.intro l3.1 l3.2.1
 have k6:=l3.2.2
 refine⟨g1,g2,p,r,(I 5).1,(I 5).2,hb,m1,m2,qu,id,ma,?_,fun k hk=>by have:=(l4 k hk).1;omega,d5,⟨ap e01 k1 k3,ap e01 k1 k4,ap e01 k2 k3,ap e01 k2 k4⟩,
  ⟨ap e03 k1 k5,ap e03 k1 k6,fun e=>ap e03 k1 (l4 _ e) rfl,ap e03 k2 k5,ap e03 k2 k6,fun e=>ap e03 k2 (l4 _ e) rfl,ap e13 k3 k5,ap e13 k3 k6,fun e=>ap e13 k3 (l4 _ e) rfl,ap e13 k4 k5,ap e13 k4 k6,fun e=>ap e13 k4 (l4 _ e) rfl⟩,
  ⟨ap e06 k1 l6,ap e06 k2 l6,ap e16 k3 l6,ap e16 k4 l6,ap e36 k5 l6,ap e36 k6 l6,fun e=>ap e36 (l4 _ e) l6 rfl⟩,
  ⟨ao e05 k1,ao e05 k2,ao e15 k3,ao e15 k4,ao e35 k5,ao e35 k6,ao e56.symm l6⟩,fun k hk=>ao e35 (l4 k hk),tu,
  ⟨(I 4).1,(I 4).2,t4,p4,x1,x2,x3,es4,sq4,c4,d4,fun k hk => ?_,fun k hk=>ao e34 (l4 k hk),e45⟩,
  ⟨⟨ap e02 k1 l7,ap e02 k2 l7,ap e12 k3 l7,ap e12 k4 l7⟩,⟨ap e32 k5 l7,ap e32 k6 l7,fun e=>ap e32 (l4 _ e) l7 rfl,ap e62 l6 l7⟩,ao e25 l7,by omega⟩⟩
 ·exact⟨by omega,by omega,by omega,by omega,by omega,by omega,by omega,c5⟩
 ·simp only[List.mem_cons,List.not_mem_nil,or_false]at hk
  rcases hk with h|h|h|h|h|h|h|h <;> subst h
  ·exact ao e04 k1
  ·exact ao e04 k2
  ·exact ao e14 k3
  ·exact ao e14 k4
  ·exact ao e24 l7
  ·exact ao e34 k5
  ·exact ao e34 k6
  ·exact ao e64 l6
structure OnS(S:Nat→Prop)(w w':World):Prop where
 os:w'.os=w.os
 tape:w'.tape=w.tape
 output:w'.output=w.output
 size:w.heap.size≤w'.heap.size
 block:∀ k,k<w.heap.size→¬S k→w'.heap[k]? = w.heap[k]?
theorem OnS.refl(S:Nat→Prop)(w:World):OnS S w w:=⟨rfl,rfl,rfl,Nat.le_refl _,fun _ _ _=>rfl⟩
theorem OnS.trans{S S':Nat→Prop}{a b c:World}(h:OnS S a b)(k:OnS S' b c)(hS:∀ i,i<a.heap.size→S' i→S i):OnS S a c:=
 ⟨k.os.trans h.os,k.tape.trans h.tape,k.output.trans h.output,Nat.le_trans h.size k.size,fun i hi hn=>(k.block i (Nat.lt_of_lt_of_le hi h.size) (fun e=>hn (hS i hi e))).trans (h.block i hi hn)⟩
theorem OnS.mono{S S':Nat→Prop}{a b:World}(h:OnS S a b)(hS:∀ i,S i→S' i):OnS S' a b:=⟨h.os,h.tape,h.output,h.size,fun i hi hn=>h.block i hi (fun e=>hn (hS i e))⟩
theorem OnS.of_below{w w':World}(hb:Below w.heap.size w w'):OnS (fun _=>False) w w':=⟨hb.os,hb.tape,hb.output,hb.size,fun k hk _=>hb.block k hk⟩
theorem own_kept{w w':World}{base n size:Nat}{e:TypeId}{v:Value}{xs:List Value}(h:w.ownsRow base e size v n xs)(hk:∀ q,v.ownBlock=some q→w'.heap[q]? = w.heap[q]?):w'.ownsRow base e size v n xs:=by
 obtain⟨h0,h1|⟨q,cap,cur,h1,h2,h3,h4⟩⟩:=h
 ·exact⟨h0, .inl h1⟩
 ·exact⟨h0, .inr ⟨q,cap,cur,h1,h2,(hk q (by rw[h1];rfl)).trans h3,h4⟩⟩
theorem wg_setCells{b:Nat}{t:TypeId}:∀(vs:List Value) (o:Nat) (w:World) (cs:Array Value),w.heap[b]? = some (.cells cs t (0,0))→o+vs.length≤cs.size →
 ∃ cs',(w.setCells b o vs).heap[b]? = some (.cells cs' t (0,0))∧cs'.size=cs.size∧(∀ j,j<vs.length→cs'[o+j]? = vs[j]?)∧(∀ j,j<o∨o+vs.length≤j→cs'[j]? = cs[j]?)∧OnS (fun k=>k=b) w (w.setCells b o vs)
 | [],o,w,cs,h,_=>⟨cs,h,rfl,fun j hj=>by simp at hj,fun j _=>rfl,OnS.refl _ _⟩
 | v :: r,o,w,cs,h,hl=>by
   simp only[List.length_cons]at hl
   have h1:(w.setCell ⟨b,o,none⟩ v).heap[b]? = some (.cells (cs.setIfInBounds o v) t (0,0)):=blk_set v h rfl
   obtain⟨cs',a1,a2,a3,a4,a5⟩:=wg_setCells r (o+1) (w.setCell ⟨b,o,none⟩ v) (cs.setIfInBounds o v) h1 (by simp;omega)
   refine⟨cs',a1,by simpa using a2,fun j hj => ?_,fun j hj => ?_,OnS.trans (S:=fun k=>k=b) (b:=w.setCell ⟨b,o,none⟩ v) ⟨rfl,rfl,rfl,by simp[World.setCell],fun k _ hk=>Below.heap_setCell _ _ _ _ hk⟩ a5 (fun _ _ e=>e)⟩
   ·rcases j with _|j
    ·rw[a4 (o+0) (by omega)]
     simp[Array.getElem?_setIfInBounds]
     omega
    ·have:=a3 j (by simpa using hj)
     rw[show o+(j+1)=o+1+j by omega,this];rfl
   ·simp only[List.length_cons]at hj
    rw[a4 j (by omega),Array.getElem?_setIfInBounds_ne (by omega)]
@[reducible] def wcR (P M:Nat) (G sp nt fr:Int) (b1 b2:Nat) (rv:Value) (tb q sb ib mb:Nat) (lv:Value):Array Value := #[.int .i64 (P:Int), .int .i64 (M:Int), .int .i64 G, .pointer (some ⟨b1,0,none⟩), .pointer (some ⟨b2,0,none⟩), .int .i64 sp, .int .i64 nt, .int .i64 fr, .int .i64 G,rv, .slice (some ⟨tb,0,none⟩) P P, .pointer (some ⟨q,0,none⟩), .pointer (some ⟨sb,0,none⟩), .pointer (some ⟨ib,0,none⟩), .slice (some ⟨mb,0,none⟩) M M,lv]
def idf (i:Nat):Nat→Bool:=fun j=>decide (0<j) && decide (j<i)
theorem idf_0:idf 0=fun _=>false:=by funext j;simp[idf]
theorem idf_1:idf 1=fun _=>false:=by funext j;simp[idf];omega
theorem idf_s{i:Nat}(h:0<i):upd (idf i) i true=idf (i+1):=by
 funext j
 simp only[upd,idf]
 by_cases hj:j=i
 ·subst hj;simp[h]
 ·simp only[hj,if_false]
  congr 1
  rw[decide_eq_decide];omega
def ssOf (i:Nat):List Int:=(List.range (i - 2)).map fun j=>((j+2:Nat):Int)
def plOf (i:Nat):Int:=if i≤1 then -1 else 1
theorem ssOf_len(i:Nat):(ssOf i).length=i - 2:=by simp[ssOf]
theorem ssOf_no(i:Nat):hasB (i:Int) (ssOf i)=false:=by
 simp only[hasB,decide_eq_false_iff_not,ssOf,List.mem_map,List.mem_range,not_exists,not_and]
 intro j hj e;omega
theorem ssOf_s{i:Nat}(h:2≤i):ssOf (i+1)=ssOf i ++ [(i:Int)]:=by
 unfold ssOf
 rw[show i+1 - 2=(i - 2)+1 by omega,List.range_succ,List.map_append]
 simp;omega
section
variable {y1 wr w2:World}{W lo hi P M:Nat}{G sp nt fr:Int}{b1 b2 tb q sb ib mb:Nat}{rv lv:Value}{gs:List Nat}{n i:Nat}
def pg (g:Nat):Value := .pointer (some ⟨g,0,none⟩)
structure Rgs(lo:Nat)(rv:Value)(gs:List Nat)(w:World):Prop where
 rg:∀ g ∈ gs,Rg w g [] 0 false 0∧lo≤g∧rv.ownBlock≠some g
 nd:gs.Nodup
theorem Rgs.kept{lo:Nat}{rv:Value}{gs:List Nat}{w w':World}(h:Rgs lo rv gs w)(hk:∀ g ∈ gs,w'.heap[g]? = w.heap[g]?):Rgs lo rv gs w':=⟨fun g hg=>⟨(h.rg g hg).1.kept (hk g hg),(h.rg g hg).2⟩,h.nd⟩
theorem Rgs.lt{lo:Nat}{rv:Value}{gs:List Nat}{w:World}(h:Rgs lo rv gs w){g:Nat}(hg:g ∈ gs):lo≤g∧g<w.heap.size:=⟨(h.rg g hg).2.1,(h.rg g hg).1.lt⟩
structure L1(y1:World)(W lo hi P M:Nat)(G sp nt fr:Int)(b1 b2 tb q sb ib mb:Nat)(rv:Value)(gs zs:List Nat)(n i:Nat)(wr:World):Prop where
 hW:wr.heap[W]? = some (.cells (wcR P M G sp nt fr b1 b2 rv tb q sb ib mb (.slice none 0 0)) 84 (0,0))
 own:wr.ownsRow y1.heap.size 146 1 rv n (gs.map pg)
 rgs:Rgs y1.heap.size rv gs wr
 id:∃ Z:Nat→Prop,Ids Z ib P (idf i) [] M [] (-1) wr∧(∀ k,k<y1.heap.size→¬(lo≤k∧k<hi)→Z k)∧(∀ k,rv.ownBlock=some k∨k ∈ zs→Z k)
 fr:OnS (fun k=>k=W∨(lo≤k∧k<hi)) y1 wr
 lt:W<y1.heap.size∧hi≤W∧3<lo∧3<W
theorem L1.below{zs:List Nat}(h:L1 y1 W lo hi P M G sp nt fr b1 b2 tb q sb ib mb rv gs zs n i wr){y:World}(hb:Below wr.heap.size wr y):L1 y1 W lo hi P M G sp nt fr b1 b2 tb q sb ib mb rv gs zs n i y:=by
 have ho:=h.own
 obtain⟨Z,hz,z1,z2⟩:=h.id
 exact⟨(hb.block _ (blk_lt h.hW)).trans h.hW,own_kept ho (fun k hk=>hb.block k (ho.lt k hk).2),h.rgs.kept (fun g hg=>hb.block g (h.rgs.lt hg).2),⟨Z,hz.below hb,z1,z2⟩,h.fr.trans (OnS.of_below hb) (fun _ _ e=>e.elim),h.lt⟩
def RyG (y1:World)(W lo hi P M:Nat)(G sp nt fr:Int)(b1 b2 tb q sb ib mb:Nat)(rv:Value)(gs:List Nat)(n i rg:Nat)(y:World):Prop:=
 L1 y1 W lo hi P M G sp nt fr b1 b2 tb q sb ib mb rv gs (rg :: gs) n i y∧y.cell? ⟨W,9,none⟩=some rv∧y.frozen? ⟨W,9,none⟩=false∧(y.alloc (.cells #[.pointer (some ⟨rg,0,none⟩)] 146)).heap[y.heap.size]? = some (.cells #[.pointer (some ⟨rg,0,none⟩)] 146 (0,0))∧(Rg y rg [] 0 false 0∧y1.heap.size≤rg∧rv.ownBlock≠some rg∧rg ∉ gs)
theorem ryg_0(h:L1 y1 W lo hi P M G sp nt fr b1 b2 tb q sb ib mb rv gs gs n i wr) :
 Calls Tryz.prog 82 #[] wr.drew fun e y=>∃ v,e = .returned v ∧ ∃ rg,v = .pointer (some ⟨rg,0,none⟩)∧Hid (RyG y1 W lo hi P M G sp nt fr b1 b2 tb q sb ib mb rv gs n i rg y):=by
 refine(new_r _).mono ?_
 rintro e y ⟨rg,rfl,hr,hk,hb⟩
 have hb:Below wr.heap.size wr y:=⟨hb.os,hb.tape,hb.output,hb.size,hb.block⟩
 have hs1:=h.fr.size
 have hs2:=hb.size
 have hrl:=hr.lt
 have hk:wr.heap.size≤rg:=hk
 have h2:L1 y1 W lo hi P M G sp nt fr b1 b2 tb q sb ib mb rv gs (rg :: gs) n i y:=by
  have h3:=h.below hb
  obtain⟨Z,hz,z1,z2⟩:=h.id
  refine⟨h3.hW,h3.own,h3.rgs,⟨fun k=>Z k∨(wr.heap.size≤k∧k<y.heap.size),hz.rez (fun k _ h2=>hb.block k h2) (hb.block _ (hz.zl _ hz.hz)) (fun k h1 h2 e => ?_) (fun k e => ?_) (.inl hz.hz),fun k a b => .inl (z1 k a b),fun k e => ?_⟩,h3.fr,h3.lt⟩
  ·rcases e with e|e
   ·exact h1 e
   ·omega
  ·rcases e with e|e
   ·have:=hz.zl k e;omega
   ·exact e.2
  ·rcases e with e|e
   ·exact .inl (z2 k (.inl e))
   ·rcases List.mem_cons.1 e with e|e
    ·exact .inr ⟨by omega,by omega⟩
    ·exact .inl (z2 k (.inr e))
 exact⟨_,rfl,rg,rfl,hid ⟨h2,blk_cell h2.hW rfl,blk_free h2.hW,heap_alloc_new _ _,hr,by omega,fun e=>by have:=(h.own.lt rg e).2;omega,fun e=>by have:=(h.rgs.lt e).2;omega⟩⟩
theorem ryg_2{y w4:World}{rg gg cap:Nat}(h:L1 y1 W lo hi P M G sp nt fr b1 b2 tb q sb ib mb rv gs (rg :: gs) n i y)
 (hr:Rg y rg [] 0 false 0∧y1.heap.size≤rg∧rv.ownBlock≠some rg∧rg ∉ gs)(hown:w4.ownsRow y1.heap.size 146 1 (.slice (some ⟨gg,0,none⟩) (n+1) cap) (n+1) (gs.map pg ++ [.pointer (some ⟨rg,0,none⟩)]))(hgrow:(y.alloc (.cells #[.pointer (some ⟨rg,0,none⟩)] 146)).grownBy w4 rv.ownBlock)(hat:rv.ownBlock=some gg∨gg=y.heap.size+1) :
 w4.cell? ⟨W,9,none⟩=some rv∧w4.frozen? ⟨W,9,none⟩=false∧L1 y1 W lo hi P M G sp nt fr b1 b2 tb q sb ib mb (.slice (some ⟨gg,0,none⟩) (n+1) cap) (gs ++ [rg]) (gs ++ [rg]) (n+1) i (w4.setCell ⟨W,9,none⟩ (.slice (some ⟨gg,0,none⟩) (n+1) cap)):=by
 have ho:=h.own
 obtain⟨hr1,hr2,hr3,hr4⟩:=hr
 have hrl:=hr1.lt
 obtain⟨Z,hz,z1,z2⟩:=h.id
 obtain⟨l1,l2,l3,lT⟩:=h.lt
 have hs1:=h.fr.size
 have hge:∀ k,rv.ownBlock=some k→y1.heap.size≤k∧k<y.heap.size:=fun k hk=>ho.lt k hk
 have hs4:=hgrow.size
 simp only[World.size_alloc]at hs4
 have e:∀ k,k<y.heap.size→rv.ownBlock≠some k→w4.heap[k]? = y.heap[k]?:=fun k hk hv=>by
  rw[hgrow.block k (by simp;omega) (fun e=>hv e.symm),Below.heap_alloc _ _ _ hk]
 have eW:rv.ownBlock≠some W:=fun e=>by have:=hge W e;omega
 have hW4:=(e W (by omega) eW).trans h.hW
 have hgg:=(hown.lt gg rfl)
 have ss:(w4.setCell ⟨W,9,none⟩ (.slice (some ⟨gg,0,none⟩) (n+1) cap)).heap.size=w4.heap.size:=by simp[World.setCell]
 have st:∀ k,k≠W→(w4.setCell ⟨W,9,none⟩ (.slice (some ⟨gg,0,none⟩) (n+1) cap)).heap[k]? = w4.heap[k]?:=fun k hk=>Below.heap_setCell _ _ _ _ hk
 have zW:Z W:=z1 W l1 (by omega)
 have zT:Z 3:=z1 _ (by omega) (by omega)
 refine⟨blk_cell hW4 rfl,blk_free hW4,⟨blk_set _ hW4 rfl,by rw[List.map_append];exact ownsRow_setCell_other hown (a:=⟨W,9,none⟩) (by simp[Value.ownBlock];omega) _,⟨fun g hg => ?_,?_⟩,⟨fun k=>Z k∨(y.heap.size≤k∧k<w4.heap.size),?_,fun k hk hn => .inl (z1 k hk hn),fun k hk => ?_⟩,?_,h.lt⟩⟩
 ·have key:∀ g',Rg y g' [] 0 false 0→y1.heap.size≤g'→rv.ownBlock≠some g'→Rg (w4.setCell ⟨W,9,none⟩ (.slice (some ⟨gg,0,none⟩) (n+1) cap)) g' [] 0 false 0∧y1.heap.size≤g'∧(Value.slice (some ⟨gg,0,none⟩) (n+1) cap).ownBlock≠some g':=fun g' k1 k2 k3=>by
   have kl:=k1.lt
   refine⟨k1.kept ((st g' (by omega)).trans (e g' kl k3)),k2,fun e' => ?_⟩
   simp only[Value.ownBlock,Option.some.injEq]at e'
   subst e'
   rcases hat with h|h
   ·exact k3 h
   ·omega
  rcases List.mem_append.1 hg with hg|hg
  ·obtain⟨k1,k2,k3⟩:=h.rgs.rg g hg
   exact key g k1 k2 k3
  ·rw[List.mem_singleton]at hg
   subst hg
   exact key g hr1 hr2 hr3
 ·rw[List.nodup_append]
  exact⟨h.rgs.nd,by simp,fun a ha b hb=>by rw[List.mem_singleton]at hb;subst hb;exact fun e=>hr4 (e ▸ ha)⟩
 ·refine hz.rez (fun k hk1 hk2 => ?_) ?_ (fun k hk1 hk2 e => ?_) (fun k hk => ?_) (.inl zT)
  ·exact(st k (fun e=>hk1 (e ▸ zW))).trans (e k hk2 (fun e=>hk1 (z2 k (.inl e))))
  ·exact(st _ (by omega)).trans (e _ (by omega) (fun e=>by have:=hge _ e;omega))
  ·rcases e with e|e
   ·exact hk1 e
   ·omega
  ·rw[ss]
   rcases hk with hk|hk
   ·have:=hz.zl k hk;omega
   ·omega
 ·rcases hk with hk|hk
  ·simp only[Value.ownBlock,Option.some.injEq]at hk
   subst hk
   rcases hat with h|h
   ·exact .inl (z2 _ (.inl h))
   ·exact .inr ⟨by omega,hgg.2⟩
  ·rcases List.mem_append.1 hk with hk|hk
   ·exact .inl (z2 k (.inr (List.mem_cons_of_mem _ hk)))
   ·rw[List.mem_singleton]at hk
    exact .inl (z2 k (.inr (by rw[hk];exact List.mem_cons_self)))
 ·exact⟨hgrow.os.trans h.fr.os,hgrow.tape.trans h.fr.tape,hgrow.output.trans h.fr.output,by rw[ss];omega,fun k hk hn=>(st k (fun e=>hn (.inl e))).trans ((e k (by omega) (fun e=>by have:=hge k e;omega)).trans (h.fr.block k hk hn))⟩
theorem l1_put0(h:L1 y1 W lo hi P M G sp nt fr b1 b2 tb q sb ib mb rv gs gs n 0 wr):L1 y1 W lo hi P M G sp nt fr b1 b2 tb q sb ib mb rv gs gs n 1 wr:=by
 obtain⟨Z,hz,z⟩:=h.id
 exact⟨h.hW,h.own,h.rgs,⟨Z,by rw[idf_1, ←idf_0];exact hz,z⟩,h.fr,h.lt⟩
theorem l1_put(h:L1 y1 W lo hi P M G sp nt fr b1 b2 tb q sb ib mb rv gs gs n i wr)(h0:0<i)(h1:i<P) :
 Calls Tryz.prog 83 #[.pointer (some ⟨ib,0,none⟩), .int .i64 i] wr fun e w'=>e = .returned (.bool true)∧L1 y1 W lo hi P M G sp nt fr b1 b2 tb q sb ib mb rv gs gs n (i+1) w':=by
 have ho:=h.own
 obtain⟨Z,hz,z1,z2⟩:=h.id
 obtain⟨l1,l2,l3,lT⟩:=h.lt
 refine(putP_yes hz i (hasB_nil _) (by simp) h1 (by simp[idf])).mono ?_
 rintro e w' ⟨rfl,h2,f2⟩
 rw[idf_s h0]at h2
 exact⟨rfl,(f2.block W (z1 W l1 (by omega))).trans h.hW,own_kept ho (fun k hk=>f2.block k (z2 k (.inl hk))),h.rgs.kept (fun g hg=>f2.block g (z2 g (.inr hg))),⟨Z,h2,z1,z2⟩,h.fr.trans (S':=fun k=>¬Z k) ⟨f2.os,f2.tape,f2.output,f2.size,fun k _ hn=>f2.block k (Classical.not_not.1 hn)⟩ (fun k hk hn => .inr (Classical.not_not.1 (fun hh=>hn (z1 k hk hh)))),h.lt⟩
structure L2(y1:World)(W lo hi P M:Nat)(G sp nt fr:Int)(b1 b2 tb q sb ib mb:Nat)(rv:Value)(gs:List Nat)(m i:Nat)(c0:Array Value)(wr:World):Prop where
 hW:wr.heap[W]? = some (.cells (wcR P M G sp nt fr b1 b2 rv tb q sb ib mb (.slice none 0 0)) 84 (0,0))
 own:wr.ownsRow y1.heap.size 146 1 rv P (gs.map pg)
 rgs:Rgs y1.heap.size rv gs wr
 id:∃ Z:Nat→Prop,Ids Z ib P (idf P) [] M (ssOf i) (plOf i) wr∧(∀ k,k<y1.heap.size→¬(lo≤k∧k<hi)→Z k)∧(∀ k,rv.ownBlock=some k∨k ∈ gs→Z k)
 fr:OnS (fun k=>k=W∨k=mb∨(lo≤k∧k<hi)) y1 wr
 lt:W<y1.heap.size∧hi≤W∧3<lo∧mb<W∧¬(lo≤mb∧mb<hi)∧3≠mb∧3<W
 mc:∃ cs,wr.heap[mb]? = some (.cells cs 118 (0,0))∧cs.size=M*20∧(∀ i,i<m → ∀ j,j<20→cs[i*20+j]? = (if i=0 then c0 else mf 16 (-1))[j]?)
theorem l2_start(h:L1 y1 W lo hi P M G sp nt fr b1 b2 tb q sb ib mb rv gs gs P P wr)(hm:y1.heap[mb]? = some (.cells (madeCells mz (M*20)) 118 (0,0)))(l4:mb<W)(l5:¬(lo≤mb∧mb<hi))(l6:3≠mb)(c0:Array Value) :
 L2 y1 W lo hi P M G sp nt fr b1 b2 tb q sb ib mb rv gs 0 0 c0 wr:=
 ⟨h.hW,h.own,h.rgs,h.id,h.fr.mono (fun k e=>e.elim .inl (fun e => .inr (.inr e))),⟨h.lt.1,h.lt.2.1,h.lt.2.2.1,l4,l5,l6,h.lt.2.2.2⟩,_,(h.fr.block mb (blk_lt hm) (by omega)).trans hm,size_madeCells _ _,fun i e=>absurd e (by omega)⟩
theorem L2.below{m:Nat}{c0:Array Value}(h:L2 y1 W lo hi P M G sp nt fr b1 b2 tb q sb ib mb rv gs m i c0 wr){y:World}(hb:Below wr.heap.size wr y):L2 y1 W lo hi P M G sp nt fr b1 b2 tb q sb ib mb rv gs m i c0 y:=by
 have ho:=h.own
 obtain⟨Z,hz,z1,z2⟩:=h.id
 obtain⟨cs,c1,c2⟩:=h.mc
 exact⟨(hb.block _ (blk_lt h.hW)).trans h.hW,own_kept ho (fun k hk=>hb.block k (ho.lt k hk).2),h.rgs.kept (fun g hg=>hb.block g (h.rgs.lt hg).2),⟨Z,hz.below hb,z1,z2⟩,h.fr.trans (OnS.of_below hb) (fun _ _ e=>e.elim),h.lt,cs,(hb.block _ (blk_lt c1)).trans c1,c2⟩
theorem L2.turn{m m':Nat}{c0 c0' cs':Array Value}(h:L2 y1 W lo hi P M G sp nt fr b1 b2 tb q sb ib mb rv gs m i c0 wr){y:World}(hy:OnS (fun k=>k=mb) wr y)(hc:y.heap[mb]? = some (.cells cs' 118 (0,0)))(hs:cs'.size=M*20)(hj:∀ i,i<m' → ∀ j,j<20→cs'[i*20+j]? = (if i=0 then c0' else mf 16 (-1))[j]?) :
 L2 y1 W lo hi P M G sp nt fr b1 b2 tb q sb ib mb rv gs m' i c0' y:=by
 have ho:=h.own
 obtain⟨Z,hz,z1,z2⟩:=h.id
 obtain⟨l1,l2,l3,l4,l5,l6,lT⟩:=h.lt
 have hs1:=h.fr.size
 have zM:Z mb:=z1 mb (by omega) l5
 have zT:Z 3:=z1 _ (by omega) (by omega)
 refine⟨(hy.block W (blk_lt h.hW) (by omega)).trans h.hW,own_kept ho (fun k hk=>hy.block k (ho.lt k hk).2 (fun e=>by have:=(ho.lt k hk).1;omega)),h.rgs.kept (fun g hg=>hy.block g (h.rgs.lt hg).2 (fun e=>by have:=(h.rgs.lt hg).1;omega)),⟨Z,?_,z1,z2⟩,h.fr.trans hy (fun k _ e => .inr (.inl e)),h.lt,cs',hc,hs,hj⟩
 exact hz.rez (fun k h1 h2=>hy.block k h2 (fun e=>h1 (e ▸ zM))) (hy.block _ (by omega) l6) (fun k h1 _=>h1) (fun k hk=>Nat.lt_of_lt_of_le (hz.zl k hk) hy.size) zT
theorem l2_made{m:Nat}(h:L2 y1 W lo hi P M G sp nt fr b1 b2 tb q sb ib mb rv gs m i (mf 16 (-1)) wr)(hm:m<M):wr.there mb (m*20) 20∧L2 y1 W lo hi P M G sp nt fr b1 b2 tb q sb ib mb rv gs (m+1) i (mf 16 (-1)) (wr.setCells mb (m*20) (mf 16 (-1)).toList):=by
 obtain⟨cs,c1,c2,c3⟩:=h.mc
 have hl:(mf 16 (-1)).toList.length=20:=rfl
 have hb:m*20+20≤M*20:=by omega
 obtain⟨cs',a1,a2,a3,a4,a5⟩:=wg_setCells (mf 16 (-1)).toList (m*20) wr cs c1 (by rw[hl,c2];omega)
 refine⟨fun j hj=>⟨?_,blk_free c1⟩,h.turn a5 a1 (by omega) (fun i hi j hj => ?_)⟩
 ·have:m*20+j<cs.size:=by omega
  rw[blk_cell c1 (Array.getElem?_eq_getElem this)];rfl
 ·by_cases him:i=m
  ·subst him
   rw[a3 j (by rw[hl];exact hj),Array.getElem?_toList]
   split <;> rfl
  ·rw[a4 (i*20+j) (.inl (by omega))];exact c3 i (by omega) j hj
theorem l2_stop0{m:Nat}{c0:Array Value}(h:L2 y1 W lo hi P M G sp nt fr b1 b2 tb q sb ib mb rv gs m 0 c0 wr):L2 y1 W lo hi P M G sp nt fr b1 b2 tb q sb ib mb rv gs m 1 c0 wr:=
 ⟨h.hW,h.own,h.rgs,h.id,h.fr,h.lt,h.mc⟩
theorem l2_stop{m:Nat}{c0:Array Value}(h:L2 y1 W lo hi P M G sp nt fr b1 b2 tb q sb ib mb rv gs m i c0 wr)(h0:0<i)(h1:i<M)(hM:M≤128) :
 Calls Tryz.prog 84 #[.pointer (some ⟨ib,0,none⟩), .int .i64 i] wr fun e w'=>(∃ b,e = .returned (.tuple #[.bool b, .bool true]))∧L2 y1 W lo hi P M G sp nt fr b1 b2 tb q sb ib mb rv gs m (i+1) c0 w':=by
 have ho:=h.own
 obtain⟨Z,hz,z1,z2⟩:=h.id
 obtain⟨l1,l2,l3,l4,l5,l6,lT⟩:=h.lt
 obtain⟨cs,c1,c2⟩:=h.mc
 have key:∀ w',Ids Z ib P (idf P) [] M (ssOf (i+1)) (plOf (i+1)) w'→Fr Z wr w'→L2 y1 W lo hi P M G sp nt fr b1 b2 tb q sb ib mb rv gs m (i+1) c0 w':=fun w' h2 f2=>
  ⟨(f2.block W (z1 W l1 (by omega))).trans h.hW,own_kept ho (fun k hk=>f2.block k (z2 k (.inl hk))),h.rgs.kept (fun g hg=>f2.block g (z2 g (.inr hg))),⟨Z,h2,z1,z2⟩,h.fr.trans (S':=fun k=>¬Z k) ⟨f2.os,f2.tape,f2.output,f2.size,fun k _ hn=>f2.block k (Classical.not_not.1 hn)⟩ (fun k hk hn => .inr (.inr (Classical.not_not.1 (fun hh=>hn (z1 k hk hh))))),h.lt,cs,(f2.block mb (z1 mb (by omega) l5)).trans c1,c2⟩
 by_cases h2:i=1
 ·subst h2
  refine(iStop_first (show Ids Z ib P (idf P) [] M [] (-1) wr from hz) 1 (by omega) (by omega) (hasB_nil _) (by simp)).mono ?_
  rintro e w' ⟨rfl,h2,f2⟩
  exact⟨⟨_,rfl⟩,key w' h2 f2⟩
 ·have e1:plOf i=1:=if_neg (by omega)
  have e2:plOf (i+1)=1:=if_neg (by omega)
  rw[e1]at hz
  refine(iStop_more hz i (by omega) (by omega) (by omega) (by omega) (ssOf_no i) (by rw[ssOf_len];omega)).mono ?_
  rintro e w' ⟨rfl,h2,f2⟩
  exact⟨⟨_,rfl⟩,key w' (by rw[ssOf_s (by omega),e2];exact h2) f2⟩
theorem l2_put{cs:Array Value}(h:L2 y1 W lo hi P M G sp nt fr b1 b2 tb q sb ib mb rv gs M M (mf 16 (-1)) wr)(m1:wr.heap[mb]? = some (.cells cs 118 (0,0)))(m2:cs.size=M*20)(m3:∀ i,i<M → ∀ j,j<20→cs[i*20+j]? = (if i=0 then mf 16 (-1) else mf 16 (-1))[j]?) :
 L2 y1 W lo hi P M G sp nt fr b1 b2 tb q sb ib mb rv gs M M (mf 1 0) ((wr.setCell ⟨mb,0,none⟩ (.int .i64 1)).setCell ⟨mb,1,none⟩ (.int .i64 0)).drew:=by
 have hz:∀ j,j<20→0<M→j<cs.size:=fun j hj hM=>by omega
 refine h.turn (cs':=(cs.setIfInBounds 0 (.int .i64 1)).setIfInBounds 1 (.int .i64 0)) ⟨rfl,rfl,rfl,by simp[World.setCell,World.drew],fun k _ hk=>(Below.heap_setCell _ _ _ _ hk).trans (Below.heap_setCell _ _ _ _ hk)⟩ (blk_set _ (blk_set _ m1 rfl) rfl) (by simpa using m2) (fun i hM j hj => ?_)
 by_cases hi:i=0
 ·subst hi
  have m4:=fun j hj=>m3 0 hM j hj
  simp only[if_true,Nat.zero_mul,Nat.zero_add]at m4 ⊢
  rcases j with _|_|j
  ·rw[Array.getElem?_setIfInBounds_ne (by decide),Array.getElem?_setIfInBounds_self_of_lt (hz 0 hj hM)];rfl
  ·rw[Array.getElem?_setIfInBounds_self_of_lt (by simpa using hz 1 hj hM)];rfl
  ·rw[Array.getElem?_setIfInBounds_ne (by omega),Array.getElem?_setIfInBounds_ne (by omega),m4 (j+1+1) hj];rfl
 ·have:=m3 i hM j hj
  rw[if_neg hi]at this ⊢
  rw[Array.getElem?_setIfInBounds_ne (by omega),Array.getElem?_setIfInBounds_ne (by omega),this]
end
structure SrX(N0 W P sb:Nat)(L:List Nat)(r lo:Option Nat)(Z:Nat→Prop)(w:World)(lo4 hi4 t p c1 c2 c3:Nat)(es:Nat→List En):Prop where
 sq:Sq (fun k=>k<lo4∨(hi4≤k∧k<w.heap.size)) w sb t p c1 c2 c3 P 0 es [] 0 [] []
 l:N0≤lo4∧hi4≤W
 nl:∀ k ∈ L,¬(lo4≤k∧k<hi4)
 nr:∀ k,r=some k→¬(lo4≤k∧k<hi4)
 ng:∀ k,lo=some k→¬(lo4≤k∧k<hi4)
 zi:∀ k,(k<N0∨(lo4≤k∧k<hi4))→Z k
structure Nf(P M:Nat)(G:Int)(W b1 g1 b2 g2 tb q p sb ib mb:Nat)(r:Option Nat)(rv lg:Value)(gs:List Nat)(base rbase wd N0:Nat)(Z:Nat→Prop)(w':World):Prop where
 hW:w'.heap[W]? = some (.cells (wcR P M G (2*((P:Int)+2)) (2*((P:Int)+2)+1) (2*((P:Int)+2)+1+(M:Int)) b1 b2 rv tb q sb ib mb lg) 84 (0,0))
 hwd:(wd:Int)=2*((P:Int)+2)+1+(M:Int)+G
 m1:Mem w' b1 g1 ((List.replicate wd 0).set (2*((P:Int)+2)+1+(M:Int)+0).toNat 1) 1
 m2:Mem w' b2 g2 ((List.replicate wd 0).set (2*((P:Int)+2)+1+(M:Int)+0).toNat 1) 1
 own:w'.ownsRow rbase 146 1 rv P (gs.map pg)
 rgs:Rgs rbase rv gs w'
 gl:gs.length=P
 rb:W<rbase
 tu:w'.heap[tb]? = some (.cells (madeCells #[.int .i64 0] P) 3 (0,0))
 qu:Qu w' q p P r [0]
 id:Ids Z ib P (idf P) [] M (ssOf M) (plOf M) w'
 mc:∃ cs,w'.heap[mb]? = some (.cells cs 118 (0,0))∧cs.size=M*20 ∧ ∀ i,i<M → ∀ j,j<20→cs[i*20+j]? = (if i=0 then mf 1 0 else mf 16 (-1))[j]?
 lgr:Lg w' base lg 1 [.int .i64 0, .int .i64 0, .int .i64 (-1), .int .i64 (-1), .int .i64 0]
 nd:([W,b1,g1,b2,g2,tb,q,p,mb]:List Nat).Nodup
 lo:∀ k ∈ ([W,b1,g1,b2,g2,tb,q,p,mb]:List Nat),N0≤k∧k≤W
 ar:∀ k,r=some k→k ∉ ([W,b1,g1,b2,g2,tb,q,p,mb]:List Nat)∧N0≤k∧k ∉ gs∧rv.ownBlock≠some k
 al:∀ k,lg.ownBlock=some k→k ∉ ([W,b1,g1,b2,g2,tb,q,p,mb]:List Nat)∧N0≤k∧k ∉ gs∧rv.ownBlock≠some k∧r≠some k
 sx:∃ lo4 hi4 t p' c1 c2 c3 es,SrX N0 W P sb [W,b1,g1,b2,g2,tb,q,p,mb] r lg.ownBlock Z w' lo4 hi4 t p' c1 c2 c3 es
 az:∀ k,(k ∈ ([W,b1,g1,b2,g2,tb,q,p,mb]:List Nat)∨k ∈ gs∨rv.ownBlock=some k∨r=some k∨lg.ownBlock=some k)→Z k
def Nw0 (w0:World)(P M:Nat)(G:Int)(W:Nat)(w':World):Prop:=
 Below w0.heap.size w0 w' ∧ ∃ b1 g1 b2 g2 tb q p sb ib mb r rv lg gs base rbase wd Z,Nf P M G W b1 g1 b2 g2 tb q p sb ib mb r rv lg gs base rbase wd w0.heap.size Z w'
abbrev Lb(W b1 g1 b2 g2 tb q p mb:Nat):List Nat := [W,b1,g1,b2,g2,tb,q,p,mb]
section
variable {w0 y y1:World}{P M wd:Nat}{G sp nt fr:Int}{b1 g1 b2 g2 tb q p sb ib mb lo hi W:Nat}{r:Option Nat}
structure Ps(w0:World)(P M wd:Nat)(G sp nt fr:Int)(W b1 g1 b2 g2 tb q p sb ib mb rbase:Nat)(w4:World):Prop where
 bl:Below w0.heap.size w0 w4
 m1:Mem w4 b1 g1 (List.replicate wd 0) 0
 m2:Mem w4 b2 g2 (List.replicate wd 0) 0
 tu:w4.heap[tb]? = some (.cells (madeCells #[.int .i64 0] P) 3 (0,0))
 ex:∃(rv:Value) (gs:List Nat) (r':Option Nat) (Z:Nat→Prop),w4.heap[W]? = some (.cells (wcR P M G sp nt fr b1 b2 rv tb q sb ib mb (.slice none 0 0)) 84 (0,0))∧w4.ownsRow rbase 146 1 rv P (gs.map pg)∧Rgs rbase rv gs w4∧gs.length=P∧Qu w4 q p P r' [0]∧Ids Z ib P (idf P) [] M (ssOf M) (plOf M) w4 ∧
  (∀ k,(k ∈ Lb W b1 g1 b2 g2 tb q p mb∨k ∈ gs∨rv.ownBlock=some k∨r'=some k)→Z k)∧(∀ k,r'=some k→k ∉ Lb W b1 g1 b2 g2 tb q p mb∧w0.heap.size≤k∧k ∉ gs∧rv.ownBlock≠some k) ∧ ∃ lo4 hi4 t p' c1 c2 c3 es,SrX w0.heap.size W P sb (Lb W b1 g1 b2 g2 tb q p mb) r' none Z w4 lo4 hi4 t p' c1 c2 c3 es
 mc:∃ cs,w4.heap[mb]? = some (.cells cs 118 (0,0))∧cs.size=M*20 ∧ ∀ i,i<M → ∀ j,j<20→cs[i*20+j]? = (if i=0 then mf 1 0 else mf 16 (-1))[j]?
 nd:(Lb W b1 g1 b2 g2 tb q p mb).Nodup
 lo:∀ k ∈ Lb W b1 g1 b2 g2 tb q p mb,w0.heap.size≤k∧k≤W
 rb:W<rbase
 tab:3<w0.heap.size
theorem psg_1(hJ:Ja w0 P M wd y b1 g1 b2 g2 tb q p r sb ib mb lo hi)(hy:Below y.heap.size y y1)(hy1:y1.heap.size=y.heap.size+1)(hM:0<M)(hT:3<w0.heap.size){rv:Value}{gs:List Nat}{w3:World}(L:L2 y1 y.heap.size lo hi P M G sp nt fr b1 b2 tb q sb ib mb rv gs M M (mf 1 0) w3) :
 Calls Tryz.prog 85 #[.pointer (some ⟨q,0,none⟩), .slice (some ⟨w3.heap.size,0,none⟩) 1 1] (w3.alloc (.cells #[.int .i64 0] 3)) fun e w4=>e = .returned (.tuple #[])∧Ps w0 P M wd G sp nt fr y.heap.size b1 g1 b2 g2 tb q p sb ib mb y1.heap.size w4:=by
 have ho:=L.own
 obtain⟨Z,hz,z1,z2⟩:=L.id
 obtain⟨cs,c1,c2,c3⟩:=L.mc
 obtain⟨l1,l2,l3,l4,l5,l6,lT⟩:=L.lt
 have hbs:=hJ.bl.size
 obtain⟨v1,v2,v3,v4,v5,v6,v7,v8⟩:=hJ.ge
 have lq:=hJ.qu.lt
 have lp:=hJ.qu.hb.lt
 have lr:=hJ.qu.hb.rlt
 have lb1:=hJ.m1.sb
 have lg1:=hJ.m1.sg
 have lb2:=hJ.m2.sb
 have lg2:=hJ.m2.sg
 have lt:=blk_lt hJ.tu
 have nb1:=hJ.m1.ne
 have nb2:=hJ.m2.ne
 have nqp:=hJ.qu.ne
 have nrq:=hJ.qu.nr
 have nrp:=hJ.qu.hb.ne
 have hs3:=L.fr.size
 obtain⟨a11,a12,a13,a14⟩:=hJ.a1
 obtain⟨n1,n2,n3,n4,n5,n6,n7,n8,n9,n10,n11,n12⟩:=hJ.a2
 obtain⟨e1,e2,e3,e4,e5,e6,e7⟩:=hJ.a3
 obtain⟨i1,i2,i3,i4,i5,i6,i7⟩:=hJ.a4
 obtain⟨⟨t1,t2,t3,t4⟩,⟨t5,t6,t7,t8⟩,t9,t10⟩:=hJ.a6
 have f3:∀ k,k<y.heap.size→k≠mb→¬(lo≤k∧k<hi)→w3.heap[k]? = y.heap[k]?:=fun k h1 h2 h3=>
  (L.fr.block k (by omega) (fun e=>by rcases e with e|e|e <;> omega)).trans (hy.block k h1)
 have hQ3:Qu w3 q p P r []:=⟨(f3 q lq e5 i5).trans hJ.qu.hq,hJ.qu.hb.kept (f3 p lp e6 i6) (fun k hk=>f3 k (lr k hk) (fun e=>e7 (by rw[hk,e])) (hJ.a5 k hk)),hJ.qu.ne,hJ.qu.nr,hJ.qu.lo,hJ.qu.hi⟩
 have hba:Below w3.heap.size w3 (w3.alloc (.cells #[.int .i64 0] 3)):=bla w3 _
 have hQa:=hQ3.below hba
 have hnew:=heap_alloc_new w3 (.cells #[.int .i64 0] 3)
 have hRd:Reads (w3.alloc (.cells #[.int .i64 0] 3)) (.slice (some ⟨w3.heap.size,0,none⟩) 1 1) [0]:=
  ⟨_,1,rfl,⟨by simp,by unfold maxLen;omega, .inr ⟨_,rfl⟩⟩,fun _=>⟨_,0,rfl,by simp,fun j hj=>by
   have:j=0:=by simp at hj;exact hj
   subst this
   exact blk_cell hnew rfl⟩⟩
 refine(qput q p P r [] [0] _ _ hQa hRd (by simp)).mono ?_
 rintro e w4 ⟨rfl,r',hb,hoo,hr'⟩
 have hQ4:=hQa.after hoo hb hr'
 have s3:(w3.alloc (.cells #[.int .i64 0] 3)).heap.size=w3.heap.size+1:=by simp
 have s4:=hoo.size
 have k4:∀ k,k<w3.heap.size→k≠p→r≠some k→w4.heap[k]? = w3.heap[k]?:=fun k h1 h2 h3=>(hoo.block k (by omega) h2 (Ne.symm h3)).trans (hba.block k h1)
 have k5:∀ k,y1.heap.size≤k→k<w3.heap.size→w4.heap[k]? = w3.heap[k]?:=fun k h1 h2=>k4 k h2 (by omega) (fun e=>by have:=lr _ e;omega)
 have fin:∀ k,k<y.heap.size→k≠mb→¬(lo≤k∧k<hi)→k≠p→r≠some k→w4.heap[k]? = y.heap[k]?:=fun k h1 h2 h3 h4 h5=>(k4 k (by omega) h4 h5).trans (f3 k h1 h2 h3)
 have zp:∀ k,(k=p∨r=some k)→Z k:=fun k hk=>by
  rcases hk with hk|hk
  ·exact z1 k (by omega) (by rw[hk];exact i6)
  ·exact z1 k (by have:=lr k hk;omega) (hJ.a5 k hk)
 have hLz:∀ k ∈ Lb y.heap.size b1 g1 b2 g2 tb q p mb,k<y1.heap.size∧¬(lo≤k∧k<hi)∧w0.heap.size≤k∧k≤y.heap.size:=fun k hk=>by
  simp only[List.mem_cons,List.not_mem_nil,or_false]at hk
  rcases hk with h|h|h|h|h|h|h|h|h <;> subst h
  ·exact⟨by omega,by omega,by omega,by omega⟩
  ·exact⟨by omega,i1,v1,by omega⟩
  ·exact⟨by omega,i2,v2,by omega⟩
  ·exact⟨by omega,i3,v3,by omega⟩
  ·exact⟨by omega,i4,v4,by omega⟩
  ·exact⟨by omega,t9,t10,by omega⟩
  ·exact⟨by omega,i5,v5,by omega⟩
  ·exact⟨by omega,i6,v6,by omega⟩
  ·exact⟨by omega,i7,v7,by omega⟩
 obtain⟨lo4,hi4,tt,pp,x1,x2,x3,es4,sq4,s41,s42,s43,s44,s45⟩:=hJ.sx
 have sq4':Sq (fun k=>k<lo4∨(hi4≤k∧k<w4.heap.size)) w4 sb tt pp x1 x2 x3 P 0 es4 [] 0 [] []:=sq4.keep (fun k h1 h2=>fin k h2 (fun e=>s43 mb (by simp) (by omega)) (by omega) (fun e=>s43 p (by simp) (by omega)) (fun e=>s44 k e (by omega))) (by omega) (fun k h1 h2=>by omega) (fun k h1=>by
  rcases h1 with h1|h1
  ·have:=sq4.hz k (.inl h1);omega
  ·exact h1.2)
 refine⟨rfl,⟨hoo.os.trans (hba.os.trans (L.fr.os.trans (hy.os.trans hJ.bl.os))),hoo.tape.trans (hba.tape.trans (L.fr.tape.trans (hy.tape.trans hJ.bl.tape))),hoo.output.trans (hba.output.trans (L.fr.output.trans (hy.output.trans hJ.bl.output))),by omega,fun k hk => ?_⟩,
  hJ.m1.blocks (fin b1 lb1 e1 i1 n2 n3) (fin g1 lg1 e2 i2 n5 n6),hJ.m2.blocks (fin b2 lb2 e3 i3 n8 n9) (fin g2 lg2 e4 i4 n11 n12),(fin tb lt (Ne.symm t8) t9 (Ne.symm t6) t7).trans hJ.tu,
  ⟨rv,gs,r',fun k=>Z k∨(w3.heap.size≤k∧k<w4.heap.size),(k4 _ (by omega) (by omega) (fun e=>by have:=lr _ e;omega)).trans L.hW,own_kept ho (fun k hk=>k5 k (ho.lt k hk).1 (ho.lt k hk).2),L.rgs.kept (fun g hg=>k5 g (L.rgs.lt hg).1 (L.rgs.lt hg).2),by simpa using ho.1,hQ4,?_,fun k hk => ?_,fun k hk => ?_,lo4,hi4,tt,pp,x1,x2,x3,es4,sq4',⟨s41,s42⟩,fun k hk => ?_,fun k hk => ?_,fun k hk=>(by cases hk),fun k hk => .inl (z1 k (by omega) (by omega))⟩,
  ⟨cs,(k4 mb (by omega) (Ne.symm e6) e7).trans c1,c2,c3⟩,?_,fun k hk=>⟨(hLz k hk).2.2.1,(hLz k hk).2.2.2⟩,by omega,hT⟩
 ·rw[fin k (by omega) (by omega) (by omega) (by omega) (fun e=>by have:=hJ.gr k e;omega)]
  exact hJ.bl.block k hk
 ·exact hz.rez (fun k h1 h2=>k4 k h2 (fun e=>h1 (zp k (.inl e))) (fun e=>h1 (zp k (.inr e)))) (k4 _ (by omega) (by omega) (fun e=>by have:=hJ.gr _ e;omega)) (fun k h1 h2 e=>e.elim h1 (fun e=>by omega)) (fun k hk=>by
   rcases hk with hk|hk
   ·have:=hz.zl k hk;omega
   ·exact hk.2) (.inl hz.hz)
 ·rcases hk with hk|hk|hk|hk
  ·exact .inl (z1 k (hLz k hk).1 (hLz k hk).2.1)
  ·exact .inl (z2 k (.inr hk))
  ·exact .inl (z2 k (.inl hk))
  ·have hk4:=hQ4.hb.rlt k hk
   rcases hr' with h|h
   ·exact .inl (zp k (.inr (h ▸ hk)))
   ·have:=h k hk;exact .inr ⟨by omega,hk4⟩
 ·have c:r=some k∨w3.heap.size≤k:=by
   rcases hr' with h|h
   ·exact .inl (h ▸ hk)
   ·have:=h k hk;exact .inr (by omega)
  rcases c with c|c
  ·have lk:=lr k c
   refine⟨?_,hJ.gr k c,fun e=>by have:=(L.rgs.lt e).1;omega,fun e=>by have:=(ho.lt k e).1;omega⟩
   simp only[List.mem_cons,List.not_mem_nil,or_false,not_or]
   exact⟨by omega,fun e=>n3 (by rw[c,e]),fun e=>n6 (by rw[c,e]),fun e=>n9 (by rw[c,e]),fun e=>n12 (by rw[c,e]),fun e=>t7 (by rw[c,e]),fun e=>nrq (by rw[c,e]),fun e=>nrp (by rw[c,e]),fun e=>e7 (by rw[c,e])⟩
  ·exact⟨fun e=>by have:=(hLz k e).1;omega,by omega,fun e=>by have:=(L.rgs.lt e).2;omega,fun e=>by have:=(ho.lt k e).2;omega⟩
 ·rcases List.mem_cons.1 hk with hk|hk
  ·rw[hk];omega
  ·exact s43 k hk
 ·rcases hr' with h|h
  ·exact s44 k (h ▸ hk)
  ·have:=h k hk;omega
 ·simp only[List.nodup_cons,List.mem_cons,List.not_mem_nil,or_false,not_or,List.nodup_nil,and_true,not_false_eq_true]
  exact⟨⟨by omega,by omega,by omega,by omega,by omega,by omega,by omega,by omega⟩,⟨nb1,a11,a12,t1,n1,n2,e1⟩,⟨a13,a14,t2,n4,n5,e2⟩,⟨nb2,t3,n7,n8,e3⟩,⟨t4,n10,n11,e4⟩,⟨Ne.symm t5,Ne.symm t6,Ne.symm t8⟩,⟨nqp,e5⟩,e6⟩
theorem psg_2{rbase:Nat}{w4:World}(hok:OkC P M G)(hwd:(wd:Int)=2*((P:Int)+2)+1+(M:Int)+G)(h:Ps w0 P M wd G (2*((P:Int)+2)) (2*((P:Int)+2)+1) (2*((P:Int)+2)+1+(M:Int)) W b1 g1 b2 g2 tb q p sb ib mb rbase w4)(T2:EvNames w0)(T3:EvSteps w0)(U2:2<w0.heap.size)(U3:1<w0.heap.size) :
 Calls Tryz.prog 86 #[.pointer (some ⟨W,0,none⟩), .agg #[.int .i64 0, .int .i64 0, .int .i64 (-1), .int .i64 (-1), .int .i64 0]] w4 fun e w5=>e = .returned (.tuple #[])∧Nw0 w0 P M G W w5:=by
 obtain⟨rv,gs,r',Z,hW,ho,hg,gl,hQ,hz,zz,rr,lo4,hi4,tt,pp,x1,x2,x3,es4,sx⟩:=h.ex
 obtain⟨cs,c1,c2,c3⟩:=h.mc
 have nd:=h.nd
 simp only[List.nodup_cons,List.mem_cons,List.not_mem_nil,or_false,not_or,List.nodup_nil,and_true,not_false_eq_true]at nd
 obtain⟨⟨w1,w2,w3,w4',w5,w6,w7,w8⟩,⟨b11,b12,b13,b14,b15,b16,b17⟩,⟨g11,g12,g13,g14,g15,g16⟩,⟨b21,b22,b23,b24,b25⟩,⟨g21,g22,g23,g24⟩,⟨t1,t2,t3⟩,⟨q1,q2⟩,p1⟩:=nd
 obtain⟨o1,o2,o3,o4,o5,o6⟩:=hok
 have hlo:=h.lo
 have hrb:=h.rb
 have hs4:=h.bl.size
 have hT:=h.tab
 have hlen:(List.replicate wd (0:Int)).length=wd:=List.length_replicate
 have LW:∀ k ∈ Lb W b1 g1 b2 g2 tb q p mb,k<rbase:=fun k hk=>by have:=(hlo k hk).2;omega
 refine(see_gen (w:=w4) (f:=2*((P:Int)+2)+1+(M:Int)) (n:=G) (cs:=wcR P M G (2*((P:Int)+2)) (2*((P:Int)+2)+1) (2*((P:Int)+2)+1+(M:Int)) b1 b2 rv tb q sb ib mb (.slice none 0 0)) (lg := .slice none 0 0) (base:=w4.heap.size) (ln:=0) (j:=0) (m := -1) (p := -1) (x:=0) (evs := []) (g1:=g1) (g2:=g2) (xs:=List.replicate wd 0) (ys:=List.replicate wd 0) (c:=0) (d:=0) 0 (by decide) ⟨hW,rfl,rfl,rfl,rfl⟩ rfl (by decide) ⟨World.ownsRow_nil _ _ _ _⟩ (by decide) (Nat.le_refl _) h.m1 h.m2 (by decide) (by decide) (by omega) (by omega) (by omega) (by rw[hlen];omega) (by rw[hlen];omega) (by rw[hlen];omega) (by rw[hlen];omega) (T2.at h.bl) (T3.at h.bl) ⟨b12,b13,g11,g12,w1,w2,w3,w4'⟩ (fun k hk=>by simp[Value.ownBlock]at hk)).mono ?_
 rintro e wz ⟨rfl,lg',hWg,hL,hM1,hM2,hlW,hlo5,ho5⟩
 have ho5:OnL [W,b1,g1,b2,g2] w4 wz:=ho5.mono (by simp[Value.ownBlock])
 have hs5:=ho5.size
 have kk:∀ k,k<w4.heap.size→k≠W→k≠b1→k≠g1→k≠b2→k≠g2→wz.heap[k]? = w4.heap[k]?:=fun k h0 h1 h2 h3 h4 h5=>ho5.block k h0 (by simp;omega)
 have zS:∀ k,k=W∨k=b1∨k=g1∨k=b2∨k=g2→Z k:=fun k hk=>zz k (.inl (by
  simp only[List.mem_cons,List.not_mem_nil,or_false]
  rcases hk with h|h|h|h|h
  ·exact .inl h
  ·exact .inr (.inl h)
  ·exact .inr (.inr (.inl h))
  ·exact .inr (.inr (.inr (.inl h)))
  ·exact .inr (.inr (.inr (.inr (.inl h))))))
 have mW:W ∈ Lb W b1 g1 b2 g2 tb q p mb:=by simp
 have kb:∀ k,rbase≤k→k<w4.heap.size→wz.heap[k]? = w4.heap[k]?:=fun k h1 h2=>by
  have a0:=LW W mW
  have a1:=LW b1 (by simp)
  have a2:=LW g1 (by simp)
  have a3:=LW b2 (by simp)
  have a4:=LW g2 (by simp)
  exact kk k h2 (by omega) (by omega) (by omega) (by omega) (by omega)
 have hl4:∀ k ∈ Lb W b1 g1 b2 g2 tb q p mb,k<w4.heap.size:=fun k hk=>by
  have:=(hlo k hk).2
  have:=blk_lt hW
  omega
 have rr':∀ k,r'=some k→k≠W∧k≠b1∧k≠g1∧k≠b2∧k≠g2:=fun k hk=>by
  have h1:=(rr k hk).1
  simp only[List.mem_cons,List.not_mem_nil,or_false,not_or]at h1
  exact⟨h1.1,h1.2.1,h1.2.2.1,h1.2.2.2.1,h1.2.2.2.2.1⟩
 have al:∀ k,lg'.ownBlock=some k→w4.heap.size≤k:=fun k hk=>by
  rcases hlo5 k hk with e|e
  ·simp[Value.ownBlock]at e
  ·exact e
 refine⟨rfl,h.bl.trans (ho5.below (B:=w0.heap.size) (fun k hk => ?_) hs4),b1,g1,b2,g2,tb,q,p,sb,ib,mb,r',rv,lg',gs,w4.heap.size,rbase,wd,(fun k=>Z k∨(w4.heap.size≤k∧k<wz.heap.size)),hWg.h,hwd,hM1,hM2,own_kept ho (fun k hk=>kb k (ho.lt k hk).1 (ho.lt k hk).2),hg.kept (fun g hgg=>kb g (hg.lt hgg).1 (hg.lt hgg).2),gl,hrb,(kk tb (hl4 tb (by simp)) (Ne.symm w5) (Ne.symm b14) (Ne.symm g13) (Ne.symm b22) (Ne.symm g21)).trans h.tu,
  ⟨(kk q hQ.lt (Ne.symm w6) (Ne.symm b15) (Ne.symm g14) (Ne.symm b23) (Ne.symm g22)).trans hQ.hq,hQ.hb.kept (kk p hQ.hb.lt (Ne.symm w7) (Ne.symm b16) (Ne.symm g15) (Ne.symm b24) (Ne.symm g23)) (fun k hk=>kk k (hQ.hb.rlt k hk) (rr' k hk).1 (rr' k hk).2.1 (rr' k hk).2.2.1 (rr' k hk).2.2.2.1 (rr' k hk).2.2.2.2),hQ.ne,hQ.nr,hQ.lo,hQ.hi⟩,?_,⟨cs,(kk mb (blk_lt c1) (Ne.symm w8) (Ne.symm b17) (Ne.symm g16) (Ne.symm b25) (Ne.symm g24)).trans c1,c2,c3⟩,hL,h.nd,hlo,rr,fun k hk => ?_,⟨lo4,hi4,tt,pp,x1,x2,x3,es4,sx.sq.keep (fun k h1 h2=>kk k h2 (fun e=>sx.nl W (by simp) (by omega)) (fun e=>sx.nl b1 (by simp) (by omega)) (fun e=>sx.nl g1 (by simp) (by omega)) (fun e=>sx.nl b2 (by simp) (by omega)) (fun e=>sx.nl g2 (by simp) (by omega))) (by omega) (fun k h1 h2=>by omega) (fun k h1=>by
    rcases h1 with h1|h1
    ·have:=sx.sq.hz k (.inl h1);omega
    ·exact h1.2),sx.l,sx.nl,sx.nr,fun k hk=>by have:=al k hk;have:=sx.l;have:=hl4 W (by simp);omega,fun k hk => .inl (sx.zi k hk)⟩,fun k hk => ?_⟩
 ·have hm:k ∈ Lb W b1 g1 b2 g2 tb q p mb:=by
   simp only[List.mem_cons,List.not_mem_nil,or_false]at hk ⊢
   rcases hk with h|h|h|h|h
   ·exact .inl h
   ·exact .inr (.inl h)
   ·exact .inr (.inr (.inl h))
   ·exact .inr (.inr (.inr (.inl h)))
   ·exact .inr (.inr (.inr (.inr (.inl h))))
  exact(hlo k hm).1
 ·exact hz.rez (fun k h1 h2=>kk k h2 (fun e=>h1 (zS k (.inl e))) (fun e=>h1 (zS k (.inr (.inl e)))) (fun e=>h1 (zS k (.inr (.inr (.inl e))))) (fun e=>h1 (zS k (.inr (.inr (.inr (.inl e)))))) (fun e=>h1 (zS k (.inr (.inr (.inr (.inr e))))))) (by
   have t0:=(hlo W mW).1
   have t1':=(hlo b1 (by simp)).1
   have t2':=(hlo g1 (by simp)).1
   have t3':=(hlo b2 (by simp)).1
   have t4':=(hlo g2 (by simp)).1
   exact kk _ (by omega) (by omega) (by omega) (by omega) (by omega) (by omega)) (fun k h1 h2 e=>e.elim h1 (fun e=>by omega)) (fun k hk=>by
   rcases hk with hk|hk
   ·have:=hz.zl k hk;omega
   ·exact hk.2) (.inl hz.hz)
 ·have h1:=al k hk
  exact⟨fun e=>by have:=hl4 k e;omega,by omega,fun e=>by have:=(hg.lt e).2;omega,fun e=>by have:=(ho.lt k e).2;omega,fun e=>by have:=hQ.hb.rlt k e;omega⟩
 ·rcases hk with hk|hk|hk|hk|hk
  ·exact .inl (zz k (.inl hk))
  ·exact .inl (zz k (.inr (.inl hk)))
  ·exact .inl (zz k (.inr (.inr (.inl hk))))
  ·exact .inl (zz k (.inr (.inr (.inr hk))))
  ·exact .inr ⟨al k hk,(hL.lt k hk).2⟩
end
end Go.Proofs.YtkhigkcmgcafdaaGreatDoor
