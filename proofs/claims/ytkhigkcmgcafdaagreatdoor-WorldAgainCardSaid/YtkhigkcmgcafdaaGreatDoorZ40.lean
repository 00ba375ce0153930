/- Of WorldAgainW. -/
import Derived.Test.YtkhigkcmgcafdaaGreatDoorZ39
set_option linter.unusedVariables false
set_option linter.unusedSimpArgs false
set_option maxHeartbeats 16000000
set_option maxRecDepth 20000
namespace Go.Proofs.YtkhigkcmgcafdaaGreatDoor.worldAgain
open Go.RowKit
theorem MemCnt.out(b g:Nat)(xs:List Int)(c:Nat)(w:World)(hm:Mem w b g xs c):Calls Tryz.prog 13 #[.pointer (some ⟨b,0,none⟩)] w fun e w'=>e = .returned (.int .i64 c)∧w=w':=by
 have h0:=hm.c1
 go_enter Tryz.func13,Tryz.ntmps13
 go_wp2
 go_ret
 exact⟨rfl,rfl⟩
def R1 (w0:World)(Bx By:Bk)(v:Y.V)(l:List Y.St)(k c:Nat)(wr:World):Prop:=Tw w0 Bx By (1+2*k) 1 (v.run (l.take k)) v wr∧c=v.cnt (l.take k)
theorem walk(a0 a1 a2:Int)(a3:Option Addr)(len3 cap3:Nat)(z3:Nat→Nat→Int)(w:World)(w0:(Lit.int .u8 a0).wf=true)(w1:(Lit.int .u8 a1).wf=true)(w2:(Lit.int .u8 a2).wf=true)(w3:IsStructs [.u8, .u8, .i64, .i64, .i64] w a3 len3 cap3 z3)(T:DbTab w)(T2:EvNames w)(T3:EvSteps w)(T1:MaPlaces w) :
 Calls Tryz.prog 3 #[.int .u8 a0, .int .u8 a1, .int .u8 a2, .slice a3 len3 cap3] w fun e w'=>e = .returned (.bool true)∧Below w.heap.size w w':=by
 have b0:=bounds_u8 w0
 have b1:=bounds_u8 w1
 have b2:=bounds_u8 w2
 have LV:=hid (fun(y:World) (hb:Below w.heap.size w y)=>(lives20 y (T.at hb) (T1.at hb) (T2.at hb) (T3.at hb) (by have:=T1.lt;have:=hb.size;omega) (by have:=T2.lt;have:=hb.size;omega) (by have:=T3.lt;have:=hb.size;omega)).mono (R':=fun e w'=>e = .returned (.bool true)∧Below w.heap.size w w') fun e w' hx=>⟨hx.1,hb.trans (hx.2.mono hb.size)⟩)
 have BG:=hid (fun(y:World) (hb:Below w.heap.size w y)=>wBegin a0 a1 a2 b0 b1 b2 y (T.at hb) (T1.at hb) (T2.at hb) (T3.at hb) (by have:=T1.lt;have:=hb.size;omega) (by have:=T2.lt;have:=hb.size;omega) (by have:=T3.lt;have:=hb.size;omega))
 have SP:=hid (fun(y:World) (hb:Below w.heap.size w y) (o:Nat→Nat) (ho:∀ k,k<w.heap.size→o k=0)=>stp_of w3 hb o ho)
 have AL:=hid (Y.all_new (sm_cfg a0 a1 a2))
 have XT:=hid (Y.new_xt (sm_cfg a0 a1 a2))
 obtain⟨v,hv⟩:∃ v,v=Y.V.new (smP a0) (smM a0 a1) (smG a2):=⟨_,rfl⟩
 rw[←hv]at AL XT BG
 have LP:=hid (fun l=>show 0<(v.run l).lg.length by rw[hv];exact Y.lg_pos l)
 obtain⟨l,hl⟩:∃ l,l=stsOf z3 len3:=⟨_,rfl⟩
 rw[←hl]at SP
 have HLN:=hid (show l.length=len3 by rw[hl,stsOf_len])
 clear T T1 T2 T3 w0 w1 w2 w3 hv hl b0 b1 b2
 go_enter Tryz.func3,Tryz.ntmps3
 go_wp2_with fail
 refine(LV.out w (Below.refl _ _)).mono ?_
 rintro e y1 ⟨rfl,hb1⟩
 by_cases h4:400<len3
 ·have t4:decide ((400:Int)<(len3:Int))=true:=decide_eq_true (by omega)
  have L2:=hid (LV.out y1 hb1)
  clear hb1 LV BG
  go_wp2_with fail
  refine L2.out.mono ?_
  rintro e y2 ⟨rfl,hb2⟩
  have FIN:=hid hb2
  clear hb2 L2
  go_wp2
  go_ret
  exact⟨rfl,FIN.out⟩
 ·have t4 : decide ((400:Int)<(len3:Int))=false:=decide_eq_false (by omega)
  have HL4:=hid h4
  have B1:=hid hb1
  have G1:=hid (BG.out y1 hb1)
  clear hb1 h4
  go_wp2_with fail
  refine G1.out.mono ?_
  rintro e y2 ⟨Bx,ox,rfl,hNx,hx,hb2⟩
  have B2:=hid (B1.out.trans (hb2.mono B1.out.size))
  have X2:=hid hx
  have NX:=hid (show w.heap.size≤Bx.N0 from Nat.le_trans B1.out.size hNx)
  have G2:=hid (BG.out y2 B2.out)
  clear G1 hNx hx hb2 BG
  go_wp2_with fail
  refine G2.out.mono ?_
  rintro e y3 ⟨By,oy,rfl,hNy,hy,hb3⟩
  have F0:=hid (show R1 w Bx By v l 0 0 y3 from⟨Tw.two X2.out B2.out NX.out hy hb3 hNy,rfl⟩)
  clear G2 hNy hy hb3 X2
  obtain⟨Wx,hWx⟩:∃ Wx,Wx=Bx.W:=⟨_,rfl⟩
  obtain⟨Wy,hWy⟩:∃ Wy,Wy=By.W:=⟨_,rfl⟩
  rw[←hWx, ←hWy]
  have HWx:=hid hWx
  have HWy:=hid hWy
  clear hWx hWy
  go_wp2_with fail
  go_loopw [11,42] (fun x11 x42 wr=>∃(k c:Nat),k≤len3∧x11 = .int .i64 c∧x42 = .int .i64 k∧Hid (R1 w Bx By v l k c wr)) (fun _ x42 _=>len3 - (intOf x42).toNat)
  case atStart=>exact⟨0,0,Nat.zero_le _,rfl,rfl,F0⟩
  case round=>
   clear F0
   obtain⟨k,c,hk,rfl,rfl,F⟩:=hrel
   by_cases hlt:k<len3
   ·have tlt:decide ((k:Int)<(len3:Int))=true:=decide_eq_true (by omega)
    have hk0:(0:Int)≤(k:Int):=by omega
    have hk1:(k:Int)<(len3:Int):=by omega
    have hkl:k<l.length:=by rw[HLN.out];exact hlt
    have hbw:Below w.heap.size w wr:=F.out.1.choose_spec.choose_spec.2.2.2.1
    have S1:=SP.out wr hbw (fun _=>0) (fun _ _=>rfl)
    obtain⟨gb,off,rfl,g1,g2,gc⟩:=S1.2 (by omega)
    obtain⟨q0,q1,q2,q3,q4⟩:=gc k hkl
    obtain⟨i1,i2⟩:=inv_run AL.out XT.out l S1.1 k (by omega) (by rw[HLN.out];have:=HL4.out;omega)
    obtain⟨st,hst⟩:∃ st,st=stAt l k:=⟨_,rfl⟩
    have hcb:=cnt_le v (l.take k)
    have hc:=F.out.2
    have hcl:c≤1000000:=by
     rw[hc]
     rw[List.length_take,HLN.out]at hcb
     have:=HL4.out
     omega
    have hwc:IntKind.i64.wrap ((c:Int)+1)=((c+1:Nat):Int):=by rw[IntWalk.i64_in _ (by omega)];omega
    have hlk:k≤1000000:=by have:=HL4.out;omega
    have CS:=hid ((Tw.x (F.out.1.below (w':=wr.alloc (.cells (stR st) 27)) (bla wr _)) (fun o h z=>wstep h i1 i2 (by have:=HL4.out;omega) (by have:=HL4.out;omega) (by have:=HL4.out;omega) (by have:=HL4.out;omega) st (by rw[hst];exact S1.1 k hkl))).mono (R':=fun e w'=>e = .returned (.bool ((v.run (l.take k)).step st).2)∧Tw w Bx By (1+2*(k+1)) 1 (v.run (l.take (k+1))) v w') fun e w' hx=>⟨hx.1,by
     have:=hx.2
     rw[run_take hkl, ←hst]
     exact this⟩)
    have HCC:=hid (show v.cnt (l.take (k+1))=c+if ((v.run (l.take k)).step st).2 then 1 else 0 by rw[cnt_take hkl,hc,hst])
    rw[←hst]at q0 q1 q2 q3 q4
    rw[←HWx.out]at CS
    obtain⟨kd,act,sa,sx,d⟩:=st
    generalize ((v.run (l.take k)).step ⟨kd,act,sa,sx,d⟩).2=b at CS HCC
    clear i1 i2 hst gc hcb hc F g2 hkl S1 hbw
    go_wp2_with fail
    refine CS.out.mono ?_
    rintro e y ⟨rfl,t1⟩
    have R2:=hid t1
    clear t1 CS q0 q1 q2 q3 q4
    rcases b with _|_
    ·have HQ:=hid (show R1 w Bx By v l (k+1) c y from⟨R2.out,by rw[HCC.out];simp⟩)
     clear HCC hwc
     go_wp2_with fail
     go_roundw
     case rel=>exact⟨k+1,c,by omega,rfl,by go_num,HQ⟩
     case measure=>simp[intOf];omega
    ·have HQ:=hid (show R1 w Bx By v l (k+1) (c+1) y from⟨R2.out,by rw[HCC.out];simp⟩)
     clear HCC
     go_wp2_with fail
     go_roundw
     case rel=>exact⟨k+1,c+1,by omega,by go_num,by go_num,HQ⟩
     case measure=>simp[intOf];omega
   ·obtain rfl:k=len3:=by omega
    have tlt:decide ((k:Int)<(k:Int))=false:=by simp
    have hlk:l.take k=l:=by rw[←HLN.out];exact List.take_length
    obtain⟨FT,hc⟩:=F.out
    rw[hlk]at FT hc
    have hok:=(SP.out w (Below.refl _ _) (fun _=>0) (fun _ _=>rfl)).1
    have IX:=(inv_run AL.out XT.out l hok l.length (Nat.le_refl _) (by rw[HLN.out];have:=HL4.out;omega)).2
    rw[List.take_length]at IX
    have h9:(v.run l).lg.length<1000:=by have:=IX.lg;rw[HLN.out]at this;have:=HL4.out;omega
    have hpos:=LP.out l
    have RNC:=hid (fun(o:Nat→Nat) (y:World) (hbw:Below w.heap.size w y) (h:WR By o 1 v y) (z:∀ k,k<w.heap.size→o k=0)=>wrun h AL.out XT.out a3 cap3 l (SP.out y hbw o z) (by rw[HLN.out];have:=HL4.out;omega) (by rw[HLN.out];have:=HL4.out;omega) (by rw[HLN.out];have:=HL4.out;omega) (by rw[HLN.out];have:=HL4.out;omega))
    rw[HLN.out, ←hc]at RNC
    have C0:=hid (show c≤1000 by rw[hc];have:=cnt_le v l;rw[HLN.out]at this;have:=HL4.out;omega)
    obtain⟨vE,hvE⟩:∃ vE,vE=v.run l:=⟨_,rfl⟩
    rw[←hvE]at FT h9 hpos RNC
    obtain⟨es,hes⟩:∃ es,es=vE.lg.map evE:=⟨_,rfl⟩
    have EVC:=hid (fun(B:Bk) (o:Nat→Nat) (n:Nat) (y:World) (h:WR B o n vE y)=>wevents h hpos h9)
    rw[←hes]at EVC
    have E9:=hid (show es.length≤1000 by rw[hes,List.length_map];omega)
    have FX:=hid FT
    have EV1:=hid (show Calls Tryz.prog 9 #[.pointer (some ⟨Wx,0,none⟩)] wr (EvsW es wr) by
     obtain⟨ox,oy,h1,_⟩:=FT
     rw[HWx.out];exact EVC.out _ _ _ _ h1)
    have hbw:Below w.heap.size w wr:=FT.choose_spec.choose_spec.2.2.2.1
    have BW:=hid hbw
    have tc:((c:Int) != (c:Int))=false:=by simp
    clear F FT hc hlk hok IX h9 hpos hvE hes hbw hk hlt
    go_wp2_with fail
    refine EV1.out.mono ?_
    rintro e y1 ⟨va,rfl,ra,hb1,ka⟩
    have RN:=hid (Tw.y2 FX.out hb1 (fun o h z=>RNC.out o y1 (BW.out.trans (hb1.mono BW.out.size)) h z))
    rw[←HWy.out]at RN
    have RA:=hid ra
    have KA:=hid ka
    clear ra hb1 ka EV1 RNC
    go_wp2_with fail
    refine RN.out.mono ?_
    rintro e y2 ⟨rfl,t2,s2,k2⟩
    have RA2:=hid (RA.out.blocks s2 (fun q hq hl=>k2 q (KA.out q hq) hl))
    have T2:=hid t2
    have EV2:=hid (show Calls Tryz.prog 9 #[.pointer (some ⟨Wy,0,none⟩)] y2 (EvsW es y2) by
     obtain⟨ox,oy,_,h2,_⟩:=t2
     rw[HWy.out];exact EVC.out _ _ _ _ h2)
    clear t2 s2 k2 RA KA RN FX EVC
    go_wp2_with fail
    refine EV2.out.mono ?_
    rintro e y3 ⟨vc,rfl,rc,hb3,kc⟩
    have RA3:=hid (RA2.out.below hb3)
    have RC3:=hid rc
    have T3:=hid (T2.out.below hb3)
    obtain⟨aa,ca,hva,_,_⟩:=RA3.out
    obtain⟨ac,cc,hvc,_,_⟩:=rc
    subst hva hvc
    obtain⟨ne,hne⟩:∃ ne,ne=es.length:=⟨_,rfl⟩
    rw[←hne]at RA3 RC3 ⊢
    have HNE:=hid hne
    have te:((ne:Int) != (ne:Int))=false:=by simp
    have MX:=hid (fun(y:World) (t:Tw w Bx By (1+2*k) (1+2*k) vE vE y)=>(show Calls Tryz.prog 11 #[.pointer (some ⟨Wx,0,none⟩)] y (MemC.CopyPost vE.ms vE.mc y) by
     obtain⟨ox,oy,h1,_⟩:=t
     rw[HWx.out];exact wmemory h1))
    have MY:=hid (fun(y:World) (t:Tw w Bx By (1+2*k) (1+2*k) vE vE y)=>(show Calls Tryz.prog 11 #[.pointer (some ⟨Wy,0,none⟩)] y (MemC.CopyPost vE.ms vE.mc y) by
     obtain⟨ox,oy,_,h2,_⟩:=t
     rw[HWy.out];exact wmemory h2))
    have M1:=hid (MX.out y3 T3.out)
    generalize vE.ms=ms at M1 MX MY
    generalize vE.mc=mc at M1 MX MY
    have tm:((mc:Int) != (mc:Int))=false:=by simp
    clear hb3 kc T2 EV2 hne RA2
    go_wp2_with fail
    refine M1.out.mono ?_
    rintro e y4 ⟨m1,g1,rfl,q1,_,_,hb4⟩
    have T4:=hid (T3.out.below hb4)
    have B4:=hid hb4
    have Q1:=hid q1
    have M2:=hid (MY.out y4 T4.out)
    clear q1 hb4 M1
    go_wp2_with fail
    refine M2.out.mono ?_
    rintro e y5 ⟨m2,g2,rfl,q2,_,_,hb5⟩
    have T5:=hid (T4.out.below hb5)
    have B5:=hid (B4.out.trans (hb5.mono B4.out.size))
    have SA:=hid (MemC.same_any m1 g1 m2 g2 ms ms mc mc true y5 (Q1.out.below hb5 Q1.out.sb Q1.out.sg) q2 (decide_eq_true rfl).symm)
    clear q2 hb5 M2 T4 B4 Q1
    go_wp2_with fail
    refine SA.out.mono ?_
    rintro e y6 ⟨rfl,hq6⟩
    have T6:=hid (T5.out.below (hq6.below _))
    have B6:=hid (B5.out.trans ((hq6.below y5.heap.size).mono B5.out.size))
    have M3:=hid (MX.out y6 T6.out)
    clear hq6 SA T5 B5
    go_wp2_with fail
    refine M3.out.mono ?_
    rintro e y7 ⟨m3,g3,rfl,q3,_,_,hb7⟩
    have T7:=hid (T6.out.below hb7)
    have B7:=hid (B6.out.trans (hb7.mono B6.out.size))
    have N3:=hid (MemCnt.out m3 g3 ms mc y7 q3)
    have M4:=hid (MY.out y7 T7.out)
    clear q3 hb7 M3 T6 B6
    go_wp2_with fail
    refine N3.out.mono ?_
    rintro e y7' ⟨rfl,rfl⟩
    go_wp2_with fail
    refine M4.out.mono ?_
    rintro e y8 ⟨m4,g4,rfl,q4,_,_,hb8⟩
    have T8:=hid (T7.out.below hb8)
    have B8:=hid (B7.out.trans (hb8.mono B7.out.size))
    have N4:=hid (MemCnt.out m4 g4 ms mc y8 q4)
    clear q4 hb8 M4 N3 T7 B7 MX MY
    go_wp2_with fail
    refine N4.out.mono ?_
    rintro e y8' ⟨rfl,rfl⟩
    have RA8:=hid (RA3.out.below B8.out)
    have RC8:=hid (RC3.out.below B8.out)
    have BW8:=hid (show Below w.heap.size w y8 by obtain⟨_,_,_,_,_,h,_⟩:=T8.out;exact h)
    have S0:=hid (Below.refl y8.heap.size y8)
    clear N4 T8 B8 T3 RA3 RC3 tc te tm BW
    go_wp2_with fail
    go_loopw [88] (fun x88 wr=>∃ j:Nat,j≤ne∧x88 = .int .i64 j∧Hid (Below y8.heap.size y8 wr)) (fun x88 _=>ne - (intOf x88).toNat)
    case atStart=>exact⟨0,Nat.zero_le _,rfl,S0⟩
    case round=>
     clear S0
     obtain⟨j,hj,rfl,BR⟩:=hrel
     by_cases hlt2:j<ne
     ·have tlt2:decide ((j:Int)<(ne:Int))=true:=decide_eq_true (by omega)
      have hj0:(0:Int)≤(j:Int):=by omega
      have HJ:=hid hlt2
      have hj2:j≤1000:=by have:=E9.out;have:=HNE.out;omega
      have hj1:(j:Int)<(ne:Int):=by omega
      obtain⟨aa',ca',hva,_,ga⟩:=RA8.out.below BR.out
      obtain⟨ac',cc',hvc,_,gc⟩:=RC8.out.below BR.out
      cases hva
      cases hvc
      obtain⟨g1,o1,rfl,hg1,hc1⟩:=ga (by have:=HNE.out;omega)
      obtain⟨g2,o2,rfl,hg2,hc2⟩:=gc (by have:=HNE.out;omega)
      obtain⟨x0,x1,x2,x3,x4⟩:=hc1 j (by have:=HNE.out;omega)
      obtain⟨y0,y1,y2,y3,y4⟩:=hc2 j (by have:=HNE.out;omega)
      generalize evAt es j=ev at x0 x1 x2 x3 x4 y0 y1 y2 y3 y4
      obtain⟨u0,u1,u2,u3,u4⟩:=ev
      simp only at x0 x1 x2 x3 x4 y0 y1 y2 y3 y4
      have EQ:=equalIn_ev u0 u1 u2 u3 u4 u0 u1 u2 u3 u4
      rw[decide_eq_true rfl]at EQ
      clear ga gc hc1 hc2 hg1 hg2 hlt2
      go_upto_region 20 with (fail)
      go_quiet (fail)
      have B5:=hid (BR.out.trans ((Quiet.below ⟨nq,rfl⟩ wr.heap.size:Below wr.heap.size wr (wr.drewN nq)).mono BR.out.size))
      clear EQ BR
      generalize wr.drewN nq=wd at *
      go_wp2
      go_roundw
      case rel=>exact⟨j+1,by have:=HJ.out;omega,by go_num,B5⟩
      case measure=>have:=HJ.out;simp[intOf];omega
     ·have tlt2:decide ((j:Int)<(ne:Int))=false:=decide_eq_false (by omega)
      have FIN:=hid (BW8.out.trans (BR.out.mono BW8.out.size))
      clear BR
      go_wp2
      go_ret
      exact⟨rfl,FIN.out⟩
end Go.Proofs.YtkhigkcmgcafdaaGreatDoor.worldAgain
