/- Of WhB. -/
import Derived.Test.YtkhigkcmgcafdaaGreatDoorZ6
set_option linter.unusedVariables false
set_option linter.unusedSimpArgs false
set_option maxHeartbeats 16000000
set_option maxRecDepth 20000
namespace Go.Proofs.YtkhigkcmgcafdaaGreatDoor
open Go.RowKit
section
variable {y1:World}{W lo hi P M:Nat}{G sp nt fr:Int}{b1 b2 tb q sb ib mb:Nat}
theorem begin_gen(Ψ Φ:World→Prop)(hP:1≤P)(hP2:P≤64)(hPM:P≤M)(hM:M≤128)
 (h1:L1 y1 W lo hi P M G sp nt fr b1 b2 tb q sb ib mb (.slice none 0 0) [] [] 0 0 y1)(hm:y1.heap[mb]? = some (.cells (madeCells mz (M*20)) 118 (0,0)))(l4:mb<W)(l5:¬(lo≤mb∧mb<hi))(l6:3≠mb)
 (HP:∀ rv gs w3,L2 y1 W lo hi P M G sp nt fr b1 b2 tb q sb ib mb rv gs M M (mf 1 0) w3→Calls Tryz.prog 85 #[.pointer (some ⟨q,0,none⟩), .slice (some ⟨w3.heap.size,0,none⟩) 1 1] (w3.alloc (.cells #[.int .i64 0] 3)) fun e w4=>e = .returned (.tuple #[]) ∧ Ψ w4)
 (HS:∀ w4, Ψ w4→Calls Tryz.prog 86 #[.pointer (some ⟨W,0,none⟩), .agg #[.int .i64 0, .int .i64 0, .int .i64 (-1), .int .i64 (-1), .int .i64 0]] w4 fun e w5=>e = .returned (.tuple #[]) ∧ Φ w5) :
 Calls Tryz.prog 54 #[.pointer (some ⟨W,0,none⟩)] y1 fun e w'=>e = .returned (.tuple #[]) ∧ Φ w':=by
 have HP:=hid HP
 have HS:=hid HS
 have H1:=hid h1
 have HM:=hid hm
 have HL:=hid (And.intro l4 (And.intro l5 l6))
 have HN:=hid (And.intro hP (And.intro hP2 (And.intro hPM hM)))
 have a0:y1.cell? ⟨W,0,none⟩=some (.int .i64 P):=blk_cell h1.hW rfl
 clear h1 hm l4 l5 l6 hP hP2 hPM hM
 go_enter Tryz.func54,Tryz.ntmps54
 go_wp2_with fail
 go_loopw [9] (fun x wr=>∃(i:Nat) (rv:Value) (gs:List Nat),i≤P∧x = .int .i64 i∧Hid (L1 y1 W lo hi P M G sp nt fr b1 b2 tb q sb ib mb rv gs gs i i wr)) (fun x _=>P - (intOf x).toNat)
 case atStart=>exact⟨0,_,_,Nat.zero_le _,rfl,H1⟩
 case round=>
  clear H1 a0
  obtain⟨i,rv,gs,hi0,rfl,F⟩:=hrel
  by_cases hlt:i<P
  ·have tlt:decide ((i:Int)<(P:Int))=true:=decide_eq_true (by omega)
   obtain⟨i0,hi1,hz0,hz1,hz2⟩:=info_parts infoRgp
   have HI:=hid (And.intro hi0 hlt)
   have hn64:=hid (show i+1≤64 by have:=HN.out;omega)
   clear hi0 tlt
   go_wp2_with fail
   have a9:wr.cell? ⟨W,9,none⟩=some rv:=blk_cell F.out.hW rfl
   go_region_law? (first
    | (refine step_call_law (by rfl) 82 #[] (by first|kernel_rfl|go_simp) (ryg_0 F.out) ?_;rintro v y ⟨rg,rfl,FY⟩;have y9:=FY.out.2.1;have yf:=FY.out.2.2.1;have yx:=FY.out.2.2.2.1;have yz:=cell_alloc_lt (.cells #[.pointer (some ⟨rg,0,none⟩)] 146) (blk_lt FY.out.1.hW) y9;have OWN:=hid (FY.out.1.own.alloc (.cells #[.pointer (some ⟨rg,0,none⟩)] 146)))
    | (refine step_append_lies _ (by rfl) _ _ _ (by rfl) y1.heap.size 146 i0 _ 1 8 Tryz.underlying77 hi1 hz0 hz1 hz2 rfl (by omega) rv i (gs.map pg) (by rfl) OWN.out ⟨y.heap.size,0,none⟩ 1 1 [.pointer (some ⟨rg,0,none⟩)] (by rfl) (by rfl) (World.news_of_block (cs := #[.pointer (some ⟨rg,0,none⟩)]) (t:=146) (fr:=(0,0)) yx) (by simp[Value.oneCell']) (by omega) (by have:=hn64.out;unfold maxLen;omega) (by have:=hn64.out;omega) (by have:=FY.out.1.fr.size;simp;omega) (y.heap.size+1) (by simp) ?_;intro gg cap w4 hown4 hgrow4 hat4 hlt4;obtain⟨y0,f0,FN⟩:=ryg_2 FY.out.1 FY.out.2.2.2.2 hown4 hgrow4 hat4;have FN:=hid FN;clear hown4 hgrow4 hat4 hlt4)
    )
   all_goals
    obtain⟨wx,hwx⟩:∃ wx,wx=w4.setCell ⟨W,9,none⟩ (.slice (some ⟨gg,0,none⟩) (i+1) cap):=⟨_,rfl⟩
    rw[←hwx]at FN ⊢
    clear hwx y0 f0 y9 yf yx yz FY OWN hi1 hz0 hz1 hz2 hlt F a9
    have hi0:=HI.out
    by_cases h0:0<i
    ·have t0:decide ((0:Int)<(i:Int))=true:=decide_eq_true (by omega)
     have c13:wx.cell? ⟨W,13,none⟩=some (.pointer (some ⟨ib,0,none⟩)):=blk_cell FN.out.hW rfl
     have PU:=hid (l1_put FN.out h0 hi0.2)
     clear hi0
     go_wp2_with fail
     refine PU.out.mono ?_
     rintro e w5 ⟨rfl,F5⟩
     have F5:=hid F5
     clear PU c13 FN t0
     have hi2:i≤63:=by have:=hn64.out;omega
     go_wp2_with fail
     go_roundw
     case rel=>exact⟨i+1,_,_,HI.out.2,by go_num,F5⟩
     case measure=>have:=HI.out;simp[intOf];omega
    ·obtain rfl:i=0:=by omega
     have F5:=hid (l1_put0 FN.out)
     clear hi0 h0 FN
     go_wp2_with fail
     go_roundw
     case rel=>exact⟨1,_,_,HI.out.2,by go_num,F5⟩
     case measure=>have:=HI.out;simp[intOf];omega
  ·obtain rfl:P=i:=by omega
   have tlt:decide ((P:Int)<(P:Int))=false:=by simp
   have LS:=hid (l2_start F.out HM.out HL.out.1 HL.out.2.1 HL.out.2.2 (mf 16 (-1)))
   have a1:wr.cell? ⟨W,1,none⟩=some (.int .i64 M):=blk_cell F.out.hW rfl
   clear hlt hi0 F HM
   go_wp2_with fail
   go_loopw [36] (fun x w2=>∃ i:Nat,i≤M∧x = .int .i64 i∧Hid (L2 y1 W lo hi P M G sp nt fr b1 b2 tb q sb ib mb rv gs i i (mf 16 (-1)) w2)) (fun x _=>M - (intOf x).toNat)
   case atStart=>exact⟨0,Nat.zero_le _,rfl,LS⟩
   case round=>
    clear LS a1 tlt
    obtain⟨i,hi0,rfl,F⟩:=hrel
    by_cases hlt:i<M
    ·have tlt:decide ((i:Int)<(M:Int))=true:=decide_eq_true (by omega)
     have HI:=hid (And.intro hi0 hlt)
     have a14:wr.cell? ⟨W,14,none⟩=some (.slice (some ⟨mb,0,none⟩) M M):=blk_cell F.out.hW rfl
     have HF:=hid (fun(y:World) (hb:Below wr.heap.size wr y)=>l2_made (F.out.below hb) hlt)
     have HC:=hid (fun(y:World) (hb:Below wr.heap.size wr y)=>(show y.cell? ⟨W,14,none⟩=some (.slice (some ⟨mb,0,none⟩) M M) from (World.cell?_of_block (hb.block _ (blk_lt F.out.hW))).trans a14))
     have HD:=hid (fun(w':World) (hw:w'.heap[W]? = some (.cells (wcR P M G sp nt fr b1 b2 rv tb q sb ib mb (.slice none 0 0)) 84 (0,0)))=>(show w'.cell? ⟨W,14,none⟩=some (.slice (some ⟨mb,0,none⟩) M M) from blk_cell hw rfl))
     go_wp2_with fail
     refine wp_region_held (S:=fun w'=>w'.cell? ⟨W,14,none⟩=some (.slice (some ⟨mb,0,none⟩) M M)) (by kernel_rfl) ?_
     change wpAnyH _ _ _ _ _ _ _ _ (World.drew _)
     have hS:(fun w':World=>w'.cell? ⟨W,14,none⟩=some (.slice (some ⟨mb,0,none⟩) M M)) (World.drew wr):=a14
     refine wpAnyH_take (i:=0) (oi:=⟨some 39, .move (.tmp 0),_,_,_,none⟩) (v := .pointer (some ⟨W,0,none⟩)) rfl (by kernel_rfl) (by kernel_rfl) (by kernel_rfl) (fun _ _ _ h=>h) (Or.inl ⟨by rfl,fun w' hSw=>by go_simp⟩) hS ?_
     simp only[Act.put,List.setIfInBounds_toArray,List.set_cons_zero,List.set_cons_succ]
     refine wpAnyH_take (i:=1) (oi:=⟨some 40, .nilCheck (.tmp 39),_,_,_,none⟩) (v := .pointer (some ⟨W,0,none⟩)) rfl (by kernel_rfl) (by kernel_rfl) (by kernel_rfl) (fun _ _ _ h=>h) (Or.inl ⟨by rfl,fun w' hSw=>by go_simp⟩) hS ?_
     simp only[Act.put,List.setIfInBounds_toArray,List.set_cons_zero,List.set_cons_succ]
     refine wpAnyH_take (i:=2) (oi:=⟨some 41, .fieldAddr 84 (.tmp 40) 11,_,_,_,none⟩) (v := .pointer (some ⟨W,14,none⟩)) rfl (by kernel_rfl) (by kernel_rfl) (by kernel_rfl) (fun _ _ _ h=>h) (Or.inl ⟨by rfl,fun w' hSw=>by go_simp⟩) hS ?_
     simp only[Act.put,List.setIfInBounds_toArray,List.set_cons_zero,List.set_cons_succ]
     refine wpAnyH_take (i:=3) (oi:=⟨some 42, .load 80 (.tmp 41),_,_,_,none⟩) (v := .slice (some ⟨mb,0,none⟩) M M) rfl (by kernel_rfl) (by kernel_rfl) (by kernel_rfl) (fun _ _ _ h=>h) (Or.inl ⟨by rfl,fun w' hSw=>by dsimp only at hSw;go_simp⟩) hS ?_
     simp only[Act.put,List.setIfInBounds_toArray,List.set_cons_zero,List.set_cons_succ]
     refine wpAnyH_take (i:=4) (oi:=⟨some 43, .move (.tmp 3),_,_,_,none⟩) (v := .int .i64 (i:Int)) rfl (by kernel_rfl) (by kernel_rfl) (by kernel_rfl) (fun _ _ _ h=>h) (Or.inl ⟨by rfl,fun w' hSw=>by go_simp⟩) hS ?_
     simp only[Act.put,List.setIfInBounds_toArray,List.set_cons_zero,List.set_cons_succ]
     refine wpAnyH_ready (rs := [5]) (by kernel_rfl) (by simp) ?_
     refine AllReadyH.cons (o:=⟨some 44, .call { callee := .value (.func 55),args := #[],argTypes := #[] },_,_,_,none⟩) rfl (fun K hK => ?_) AllReadyH.nil
     refine step_call_law (R:=fun v y=>v = .agg (mach0 16 (-1) 0)∧Below wr.heap.size wr y) rfl 55 #[] (by kernel_rfl) ((fresh_any _).mono (fun e y hh=>⟨_,hh.1,rfl,⟨hh.2.os,hh.2.tape,hh.2.output,hh.2.size,hh.2.block⟩⟩)) ?_
     rintro v y ⟨rfl,hby⟩
     refine hK.out _ _ (HC.out y hby) (fun hS2 => ?_)
     clear hK K
     simp only[Act.put,List.setIfInBounds_toArray,List.set_cons_zero,List.set_cons_succ]
     refine wpAnyH_take (i:=6) (oi:=⟨some 45, .build 118 #[(0, .tmp 44)],_,_,_,none⟩) (v := .agg (mf 16 (-1))) rfl (by kernel_rfl) (by kernel_rfl) (by kernel_rfl) (fun _ _ _ h=>h) (Or.inl ⟨by rfl,fun w' hSw=>by go_simp⟩) hS2 ?_
     simp only[Act.put,List.setIfInBounds_toArray,List.set_cons_zero,List.set_cons_succ]
     refine wpAnyH_take (i:=7) (oi:=⟨some 46, .indexAddr 80 (.tmp 42) (.tmp 43),_,_,_,none⟩) (v := .pointer (some ⟨mb,i*20,none⟩)) rfl (by kernel_rfl) (by kernel_rfl) (by kernel_rfl) (fun _ _ _ h=>h) (Or.inl ⟨by rfl,fun w' hSw=>by go_simp⟩) hS2 ?_
     simp only[Act.put,List.setIfInBounds_toArray,List.set_cons_zero,List.set_cons_succ]
     obtain⟨HT,HL2⟩:=HF.out y hby
     have HL2:=hid HL2
     refine wpAnyH_ready (rs := [8]) (by kernel_rfl) (by simp) ?_
     refine AllReadyH.cons (o:=⟨none, .store 118 (.tmp 46) (.tmp 45),_,_,_,none⟩) rfl (fun K hK => ?_) AllReadyH.nil
     rw[if_pos (by rfl)]
     refine wp_store_mid 118 (.tmp 46) (.tmp 45) rfl mb (i*20) (mf 16 (-1)) rfl rfl HT (by kernel_rfl) (by simp[mf,Value.oneCell']) ?_
     refine hK.out _ _ (HD.out _ HL2.out.hW) (fun hS3 => ?_)
     clear hK K
     refine wpAnyH_done (by kernel_rfl) ?_ _
     obtain⟨wx,hwx⟩:∃ wx,wx=y.setCells mb (i*20) (mf 16 (-1)).toList:=⟨_,rfl⟩
     rw[←hwx]at HL2 ⊢
     clear hwx hS hS2 hS3 HT hby HF HC HD a14 tlt hi0 hlt F
     have hi1:=HI.out
     by_cases h0:0<i
     ·have t0:decide ((0:Int)<(i:Int))=true:=decide_eq_true (by omega)
      have c13:wx.cell? ⟨W,13,none⟩=some (.pointer (some ⟨ib,0,none⟩)):=blk_cell HL2.out.hW rfl
      have PU:=hid (l2_stop HL2.out h0 hi1.2 (by have:=HN.out;omega))
      clear hi1
      go_wp2_with fail
      refine PU.out.mono ?_
      rintro e w5 ⟨⟨b,rfl⟩,F5⟩
      have F5:=hid F5
      clear PU c13 HL2 t0
      have hi2:i≤127:=by have:=HI.out;have:=HN.out;omega
      go_wp2_with fail
      go_roundw
      case rel=>exact⟨i+1,HI.out.2,by go_num,F5⟩
      case measure=>have:=HI.out;simp[intOf];omega
     ·obtain rfl:i=0:=by omega
      have F5:=hid (l2_stop0 HL2.out)
      clear hi1 h0 HL2
      go_wp2_with fail
      go_roundw
      case rel=>exact⟨1,HI.out.2,by go_num,F5⟩
      case measure=>have:=HI.out;simp[intOf];omega
    ·obtain rfl:M=i:=by omega
     have tlt:decide ((M:Int)<(M:Int))=false:=by simp
     obtain⟨cs,m1,m2,m3⟩:=F.out.mc
     have hM0:0<M:=by have:=HN.out;omega
     have c14:wr.cell? ⟨W,14,none⟩=some (.slice (some ⟨mb,0,none⟩) M M):=blk_cell F.out.hW rfl
     have m4:=m3 0 hM0
     simp only[if_true,Nat.zero_mul,Nat.zero_add]at m4
     have k0:wr.cell? ⟨mb,0,none⟩=some (.int .i64 16):=blk_cell m1 (m4 0 (by decide))
     have k1:wr.cell? ⟨mb,1,none⟩=some (.int .i64 (-1)):=blk_cell m1 (m4 1 (by decide))
     have kf:∀ i,wr.frozen? ⟨mb,i,none⟩=false:=fun i=>blk_free m1
     have FN:=hid (l2_put F.out m1 m2 m3)
     clear m1 m2 m3 m4 hlt hi0 F
     go_wp2_with fail
     go_region
     all_goals
      obtain⟨w3,hw3⟩:∃ w3,w3=((wr.setCell ⟨mb,0,none⟩ (.int .i64 1)).setCell ⟨mb,1,none⟩ (.int .i64 0)).drew:=⟨_,rfl⟩
      rw[←hw3]at FN ⊢
      have c11:w3.cell? ⟨W,11,none⟩=some (.pointer (some ⟨q,0,none⟩)):=blk_cell FN.out.hW rfl
      have PP:=hid (HP.out _ _ w3 FN.out)
      clear hw3 FN c14 k0 k1 kf
      go_wp2_with fail
      refine PP.out.mono ?_
      rintro e w4 ⟨rfl,h4⟩
      have SS:=hid (HS.out w4 h4)
      clear h4 PP c11
      go_wp2_with fail
      refine SS.out.mono ?_
      rintro e w5 ⟨rfl,h5⟩
      have F5:=hid h5
      clear h5 SS
      go_wp2
      go_end0
      exact⟨rfl,F5.out⟩
end
end Go.Proofs.YtkhigkcmgcafdaaGreatDoor
