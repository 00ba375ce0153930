/- Of Vl. -/
import Derived.Test.YtkhigkcmgcafdaaGreatDoorZ20
set_option linter.unusedVariables false
set_option linter.unusedSimpArgs false
set_option maxHeartbeats 16000000
set_option maxRecDepth 20000
namespace Go.Proofs.YtkhigkcmgcafdaaGreatDoor
open Go.RowKit
section
variable {B:Bk}{o o':Nat→Nat}{n n':Nat}{v v':Y.V}{w w' wx:World}{C:Nat→Prop}{i p:Nat}{tm:Int}
theorem WR.now(h:WR B o n v w):inI v.sr.now:=by
 obtain⟨_,_,_,_,_,_,_,hq⟩:=h.c10
 exact hq.now
theorem park_first(h:WR B o n v w)(hfs:Fes v.sr)(hl:v.mm.length=v.M)(hi:i<v.M)(ht:tm≤0)(hpP:0≤(v.mach i).p∧(v.mach i).p<v.P)(hg:0≤(v.mach i).g∧(v.mach i).g<4096)(ha:inI (v.mach i).arg)(h1:v.sr.hasW (v.mach i).g=false)(h2:v.sr.hasL (v.mach i).g=false):Calls Tryz.prog 182 #[.pointer (some ⟨B.W,0,none⟩), .int .i64 (i:Int), .int .i64 tm] w (Po B o n (.bool true) ((v.putS (v.sr.sleep (v.mach i).g (v.mach i).arg).2).onM i fun m => { m with til:=Y.sat v.sr.now (max m.arg 0),yes:=(v.sr.sleep (v.mach i).g (v.mach i).arg).1 }) w):=by
 have I0:(0:Int)≤(i:Int):=by omega
 have I1:(i:Int)<(v.M:Int):=by omega
 have a14:=h.w14
 have a12:=h.w12
 have k1:=h.m1 hi
 have k2:=h.m2 hi
 have k12:=h.m12 hi
 have k19:=h.m19 hi
 have kf:=h.mfz
 have t1:decide (0<tm)=false:=decide_eq_false (by omega)
 obtain⟨x,hx⟩:∃ x,x=(v.mach i).arg:=⟨_,rfl⟩
 obtain⟨g,hg'⟩:∃ g,g=(v.mach i).g:=⟨_,rfl⟩
 obtain⟨q,hq'⟩:∃ q,q=(v.mach i).p:=⟨_,rfl⟩
 obtain⟨z,hz⟩:∃ z,z=Y.sat v.sr.now (max x 0):=⟨_,rfl⟩
 have GL:=hid (show ((v.putS (v.sr.sleep (v.mach i).g (v.mach i).arg).2).onM i fun m => { m with til:=Y.sat v.sr.now (max m.arg 0),yes:=(v.sr.sleep (v.mach i).g (v.mach i).arg).1 })=(v.putS (v.sr.sleep g x).2).onM i fun m => { m with til:=z,yes:=(v.sr.sleep g x).1 } by
  rw[hg',hz,hx];rfl)
 rw[GL.out]
 rw[←hx]at k12 ha
 rw[←hg']at k2 hg h1 h2
 rw[←hq']at k1 hpP
 have hmx:inI (max x 0):=by unfold inI at ha ⊢;omega
 have NW:=hid (fun(y:World) (hq:Quiet w y)=>wsnow (h.quiet hq))
 have SM:=hid (fun(u:Int) (hu:u=max x 0) (y:World)=>(show Calls Tryz.prog 152 #[.int .i64 v.sr.now, .int .i64 u] y fun e w'=>e = .returned (.int .i64 z)∧w'=y by rw[hz,hu];exact csum v.sr.now (max x 0) y h.now hmx))
 obtain⟨v1,hv1⟩:∃ v1,v1=v.putM i { v.mach i with til:=z }:=⟨_,rfl⟩
 have U:=hid (show WR B o n v1 (w.setCell ⟨B.mb,i*20+19,none⟩ (.int .i64 z)) by rw[hv1];exact(h.self hl hi).v19 hl hi z)
 have f1:v1.sr=v.sr:=by rw[hv1];rfl
 have f2:v1.P=v.P:=by rw[hv1];rfl
 have C1:=hid (fun(y:World) (hq:Quiet (w.setCell ⟨B.mb,i*20+19,none⟩ (.int .i64 z)) y)=>wssleep (U.out.quiet hq) (by rw[f1];exact hfs) q g x (by rw[f2];exact hpP) hg ha (by rw[f1];exact h1) (by rw[f1];exact h2))
 rw[f1]at C1
 have E1:=hid (Ek.setM h (i*20+19) (.int .i64 z))
 obtain⟨⟨r1,s⟩,hs⟩:∃ r,r=v.sr.sleep g x:=⟨_,rfl⟩
 rw[←hs]at C1 ⊢
 simp only at C1 ⊢
 have HL:=hid (show (v1.putS s).mm.length=(v1.putS s).M∧i<(v1.putS s).M by rw[hv1];exact⟨putM_len v i _ hl,hi⟩)
 have UF:=hid (show (v1.putS s).putM i { (v1.putS s).mach i with yes:=r1 } = (v.putS s).onM i fun m => { m with til:=z,yes:=r1 } by
  have e1:v1.putS s=(v.putS s).putM i { v.mach i with til:=z }:=by rw[hv1];rfl
  rw[e1,mach_putM (v.putS s) i _ hl hi,putM2]
  rfl)
 have L1:=U.out.w12
 have L2:=U.out.m12 (i:=i) (by rw[hv1];exact hi)
 rw[show (v1.mach i).arg=x by rw[hv1,mach_putM _ _ _ hl hi,hx]]at L2
 have q1:=U.out.m1 (i:=i) (by rw[hv1];exact hi)
 rw[show (v1.mach i).p=q by rw[hv1,mach_putM _ _ _ hl hi,hq']]at q1
 have q2:=U.out.m2 (i:=i) (by rw[hv1];exact hi)
 rw[show (v1.mach i).g=g by rw[hv1,mach_putM _ _ _ hl hi,hg']]at q2
 have XC:x<0∨¬x<0:=by omega
 have HV:=hid (show ((v1.putS s).mach i).p=q∧((v1.putS s).mach i).g=g∧((v1.putS s).mach i).arg=x by
  have e:(v1.putS s).mach i = { v.mach i with til:=z }:=by rw[hv1];exact mach_putM v i _ hl hi
  rw[e];exact⟨hq'.symm,hg'.symm,hx.symm⟩)
 generalize v.sr.now=now at NW SM
 have SL:=hid (fun(o2:Nat→Nat) (y:World) (h2:WR B o2 n (v1.putS s) y)=>(show y.cell? ⟨B.W,12,none⟩=some (.pointer (some ⟨B.sb,0,none⟩))∧y.cell? ⟨B.mb,i*20+1,none⟩=some (.int .i64 q)∧y.cell? ⟨B.mb,i*20+2,none⟩=some (.int .i64 g)∧y.cell? ⟨B.mb,i*20+12,none⟩=some (.int .i64 x) from
  ⟨h2.w12,by rw[←HV.out.1];exact h2.m1 HL.out.2,by rw[←HV.out.2.1];exact h2.m2 HL.out.2,by rw[←HV.out.2.2];exact h2.m12 HL.out.2⟩))
 have SM3:=hid (fun(o2:Nat→Nat) (y:World) (h2:WR B o2 n (v1.putS s) y)=>(show (y.setCell ⟨B.mb,i*20+18,none⟩ (.bool r1)).cell? ⟨B.W,12,none⟩=some (.pointer (some ⟨B.sb,0,none⟩))∧(y.setCell ⟨B.mb,i*20+18,none⟩ (.bool r1)).cell? ⟨B.mb,i*20+1,none⟩=some (.int .i64 q)∧(y.setCell ⟨B.mb,i*20+18,none⟩ (.bool r1)).cell? ⟨B.mb,i*20+2,none⟩=some (.int .i64 g)∧(y.setCell ⟨B.mb,i*20+18,none⟩ (.bool r1)).cell? ⟨B.mb,i*20+12,none⟩=some (.int .i64 x) from by
  have U3:=(h2.self HL.out.1 HL.out.2).v18 HL.out.1 HL.out.2 r1
  have b1:=U3.m1 (i:=i) HL.out.2
  have b2:=U3.m2 (i:=i) HL.out.2
  have b3:=U3.m12 (i:=i) HL.out.2
  rw[mach_putM _ _ _ HL.out.1 HL.out.2]at b1 b2 b3
  exact⟨U3.w12,by rw[←HV.out.1];exact b1,by rw[←HV.out.2.1];exact b2,by rw[←HV.out.2.2];exact b3⟩))
 clear h hfs hl hg ha h1 h2 hx hg' hs hz hmx hpP hq' GL f1 f2 hv1 t1
 have t1:decide (0<tm)=false:=decide_eq_false (by omega)
 rcases XC with hc|hc
 ·have SM0:=hid (SM.out 0 (by omega))
  clear SM
  go_enter Tryz.func182,Tryz.ntmps182
  go_wp2_with fail
  go_region_held3 (fun y=>y.cell? ⟨B.W,12,none⟩=some (.pointer (some ⟨B.sb,0,none⟩))∧y.cell? ⟨B.mb,i*20+12,none⟩=some (.int .i64 x))
   (first
    | exact⟨a12,k12⟩
    | exact⟨L1,L2⟩)
   (first
    | (go_at_call 21;refine(NW.out _ ⟨_,rfl⟩).mono ?_;rintro e y ⟨rfl,rfl⟩)
    | (go_at_call 152;refine(SM0.out _).mono ?_;rintro e y ⟨rfl,rfl⟩))
  all_goals
   clear SM0 NW k19
   go_wp2_with fail
   go_region_held3 (fun y=>y.cell? ⟨B.W,12,none⟩=some (.pointer (some ⟨B.sb,0,none⟩))∧y.cell? ⟨B.mb,i*20+1,none⟩=some (.int .i64 q)∧y.cell? ⟨B.mb,i*20+2,none⟩=some (.int .i64 g)∧y.cell? ⟨B.mb,i*20+12,none⟩=some (.int .i64 x))
    (first
     | exact S2
     | exact S3
     | exact⟨L1,q1,q2,L2⟩)
    (first
     | (go_at_call 201;refine(C1.out _ ⟨2,rfl⟩).mono ?_;rintro e y2 ⟨rfl,o2,h2,e2⟩;have H2:=hid h2;have E2:=hid (E1.out.trans ((Ek.of_quiet (o:=o) ⟨2,rfl⟩).trans e2));have k18:=h2.m18 (i:=i) HL.out.2;have kf2:=h2.mfz;have S2:=SL.out o2 y2 h2;have S3:=SM3.out o2 y2 h2;clear h2 e2))
   all_goals
    clear C1
    go_wp2
    go_ret
    refine⟨rfl,o2,?_,E2.out.trans (Ek.setM H2.out (i*20+18) (.bool r1))⟩
    rw[←UF.out]
    exact(H2.out.self HL.out.1 HL.out.2).v18 HL.out.1 HL.out.2 r1
 ·have SM0:=hid (SM.out x (by omega))
  have n1:¬x<0:=hc
  have n2:decide (x<0)=false:=decide_eq_false hc
  have n3:max x 0=x:=by omega
  have n4:(if x<0 then 0 else x)=x:=if_neg hc
  clear hc
  clear SM
  go_enter Tryz.func182,Tryz.ntmps182
  go_wp2_with fail
  go_region_held3 (fun y=>y.cell? ⟨B.W,12,none⟩=some (.pointer (some ⟨B.sb,0,none⟩))∧y.cell? ⟨B.mb,i*20+12,none⟩=some (.int .i64 x))
   (first
    | exact⟨a12,k12⟩
    | exact⟨L1,L2⟩)
   (first
    | (go_at_call 21;refine(NW.out _ ⟨_,rfl⟩).mono ?_;rintro e y ⟨rfl,rfl⟩)
    | (go_at_call 152;refine(SM0.out _).mono ?_;rintro e y ⟨rfl,rfl⟩))
  all_goals
   clear SM0 NW k19
   go_wp2_with fail
   go_region_held3 (fun y=>y.cell? ⟨B.W,12,none⟩=some (.pointer (some ⟨B.sb,0,none⟩))∧y.cell? ⟨B.mb,i*20+1,none⟩=some (.int .i64 q)∧y.cell? ⟨B.mb,i*20+2,none⟩=some (.int .i64 g)∧y.cell? ⟨B.mb,i*20+12,none⟩=some (.int .i64 x))
    (first
     | exact S2
     | exact S3
     | exact⟨L1,q1,q2,L2⟩)
    (first
     | (go_at_call 201;refine(C1.out _ ⟨2,rfl⟩).mono ?_;rintro e y2 ⟨rfl,o2,h2,e2⟩;have H2:=hid h2;have E2:=hid (E1.out.trans ((Ek.of_quiet (o:=o) ⟨2,rfl⟩).trans e2));have k18:=h2.m18 (i:=i) HL.out.2;have kf2:=h2.mfz;have S2:=SL.out o2 y2 h2;have S3:=SM3.out o2 y2 h2;clear h2 e2))
   all_goals
    clear C1
    go_wp2
    go_ret
    refine⟨rfl,o2,?_,E2.out.trans (Ek.setM H2.out (i*20+18) (.bool r1))⟩
    rw[←UF.out]
    exact(H2.out.self HL.out.1 HL.out.2).v18 HL.out.1 HL.out.2 r1
end
end Go.Proofs.YtkhigkcmgcafdaaGreatDoor
