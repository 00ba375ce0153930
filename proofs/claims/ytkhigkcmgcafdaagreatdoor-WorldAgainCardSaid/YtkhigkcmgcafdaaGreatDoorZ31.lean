/- Of Vt, Vu, Ug. -/
import Derived.Test.YtkhigkcmgcafdaaGreatDoorZ27
import Derived.Test.YtkhigkcmgcafdaaGreatDoorZ28
import Derived.Test.YtkhigkcmgcafdaaGreatDoorZ29
import Derived.Test.YtkhigkcmgcafdaaGreatDoorZ30
set_option linter.unusedVariables false
set_option linter.unusedSimpArgs false
set_option maxHeartbeats 16000000
set_option maxRecDepth 20000
namespace Go.Proofs.YtkhigkcmgcafdaaGreatDoor
open Go.RowKit
section
variable {B:Bk}{o o':Nat→Nat}{n n':Nat}{v v':Y.V}{w w' wx:World}{C:Nat→Prop}{i p:Nat}{tm:Int}
theorem pass_26(h:WR B o n v w)(hf:Few n v)(hl:v.mm.length=v.M)(hi:i<v.M)(hp:(v.mach i).pl=26)(hj:0≤(v.mach i).got∧(v.mach i).got<v.G)(hr:evRight 1 (v.mach i).got i (v.mach i).p 0=true):Calls Tryz.prog 62 #[.pointer (some ⟨B.W,0,none⟩), .int .i64 (i:Int)] w (Po B o (n+1) (.tuple #[]) ((v.see ⟨1,(v.mach i).got,i,(v.mach i).p,0⟩).onM i fun m => { m with back:=25,pl:=27 }) w):=by
 have I0:(0:Int)≤(i:Int):=by omega
 have I1:(i:Int)<(v.M:Int):=by omega
 have a14:=h.w14
 have k0:=h.m0 hi
 have k1:=h.m1 hi
 have k4:=h.m4 hi
 have C1:=hid (fun(y:World) (hq:Quiet w y)=>wsee (h.quiet hq) hf 1 (by decide) (v.mach i).got i (v.mach i).p 0 hj hr)
 have HL:=hid (show (v.see ⟨1,(v.mach i).got,i,(v.mach i).p,0⟩).mm.length=(v.see ⟨1,(v.mach i).got,i,(v.mach i).p,0⟩).M∧i<(v.see ⟨1,(v.mach i).got,i,(v.mach i).p,0⟩).M from⟨hl,hi⟩)
 have HG:=hid (show ((v.see ⟨1,(v.mach i).got,i,(v.mach i).p,0⟩).mach i).got=(v.mach i).got from rfl)
 obtain⟨v1,hv1⟩:∃ v1,v1=v.see ⟨1,(v.mach i).got,i,(v.mach i).p,0⟩:=⟨_,rfl⟩
 rw[show ((((1:Nat):Int)))=1 from rfl]at C1
 rw[←hv1]at C1 HL HG ⊢
 obtain⟨x,hx⟩:∃ x,x=(v.mach i).got:=⟨_,rfl⟩
 obtain⟨q,hq⟩:∃ q,q=(v.mach i).p:=⟨_,rfl⟩
 rw[←hx, ←hq]at C1
 rw[←hx]at k4 HG
 rw[←hq]at k1
 rw[hp]at k0
 clear h hf hl hp hv1 hj hr hx hq
 go_enter Tryz.func62,Tryz.ntmps62
 go_wp2_with fail
 go_region_with (go_at_call 86;refine(C1.out _ ⟨_,rfl⟩).mono ?_;rintro e y ⟨rfl,o2,h2,e2⟩;have H2:=hid h2;have E2:=hid ((Ek.of_quiet (o:=o) (w:=w) ⟨1,rfl⟩).trans e2);have kf2:=h2.mfz;have q10:=h2.m10 (i:=i) HL.out.2;have q0:=h2.m0 (i:=i) HL.out.2;clear h2 e2)
 all_goals
  clear C1
  go_wp2
  go_end0
  have U0:=H2.out.self HL.out.1 HL.out.2
  have U1:=U0.v10 HL.out.1 HL.out.2 (25)
  have U2:=U1.v0 HL.out.1 HL.out.2 (27)
  exact⟨rfl,o2,U2,((E2.out.trans (Ek.setM U0 (i*20+10) (.int .i64 (25)))).trans (Ek.setM U1 (i*20) (.int .i64 (27))))⟩
theorem pass_20(h:WR B o n v w)(hf:Few n v)(hl:v.mm.length=v.M)(hi:i<v.M)(hp:(v.mach i).pl=20)(hj:0≤(v.mach i).got∧(v.mach i).got<v.G)(hr:evRight 2 (v.mach i).got i (v.mach i).p 0=true):Calls Tryz.prog 62 #[.pointer (some ⟨B.W,0,none⟩), .int .i64 (i:Int)] w (Po B o (n+1) (.tuple #[]) ((v.see ⟨2,(v.mach i).got,i,(v.mach i).p,0⟩).onM i fun m => { m with g:=m.got,got := -1,pl:=0 }) w):=by
 have I0:(0:Int)≤(i:Int):=by omega
 have I1:(i:Int)<(v.M:Int):=by omega
 have a14:=h.w14
 have k0:=h.m0 hi
 have k1:=h.m1 hi
 have k4:=h.m4 hi
 have C1:=hid (fun(y:World) (hq:Quiet w y)=>wsee (h.quiet hq) hf 2 (by decide) (v.mach i).got i (v.mach i).p 0 hj hr)
 have HL:=hid (show (v.see ⟨2,(v.mach i).got,i,(v.mach i).p,0⟩).mm.length=(v.see ⟨2,(v.mach i).got,i,(v.mach i).p,0⟩).M∧i<(v.see ⟨2,(v.mach i).got,i,(v.mach i).p,0⟩).M from⟨hl,hi⟩)
 have HG:=hid (show ((v.see ⟨2,(v.mach i).got,i,(v.mach i).p,0⟩).mach i).got=(v.mach i).got from rfl)
 obtain⟨v1,hv1⟩:∃ v1,v1=v.see ⟨2,(v.mach i).got,i,(v.mach i).p,0⟩:=⟨_,rfl⟩
 rw[show ((((2:Nat):Int)))=2 from rfl]at C1
 rw[←hv1]at C1 HL HG ⊢
 obtain⟨x,hx⟩:∃ x,x=(v.mach i).got:=⟨_,rfl⟩
 obtain⟨q,hq⟩:∃ q,q=(v.mach i).p:=⟨_,rfl⟩
 rw[←hx, ←hq]at C1
 rw[←hx]at k4 HG
 rw[←hq]at k1
 rw[hp]at k0
 clear h hf hl hp hv1 hj hr hx hq
 go_enter Tryz.func62,Tryz.ntmps62
 go_wp2_with fail
 go_region_with (go_at_call 86;refine(C1.out _ ⟨_,rfl⟩).mono ?_;rintro e y ⟨rfl,o2,h2,e2⟩;have H2:=hid h2;have E2:=hid ((Ek.of_quiet (o:=o) (w:=w) ⟨1,rfl⟩).trans e2);have kf2:=h2.mfz;have q2:=h2.m2 (i:=i) HL.out.2;have q4:=h2.m4 (i:=i) HL.out.2;rw[HG.out]at q4;have q0:=h2.m0 (i:=i) HL.out.2;clear h2 e2)
 all_goals
  clear C1
  go_wp2
  go_end0
  have U0:=H2.out.self HL.out.1 HL.out.2
  have U1:=U0.v2 HL.out.1 HL.out.2 (x)
  have U2:=U1.v4 HL.out.1 HL.out.2 (-1)
  have U3:=U2.v0 HL.out.1 HL.out.2 (0)
  have VE:(v1.onM i fun m => { m with g:=m.got,got := -1,pl:=0 })=v1.putM i { v1.mach i with g:=x,got := -1,pl:=0 }:=by rw[←HG.out];rfl
  rw[VE]
  exact⟨rfl,o2,U3,(((E2.out.trans (Ek.setM U0 (i*20+2) (.int .i64 x))).trans (Ek.setM U1 (i*20+4) (.int .i64 (-1)))).trans (Ek.setM U2 (i*20) (.int .i64 (0))))⟩
theorem pass_24(h:WR B o n v w)(hf:Few n v)(hl:v.mm.length=v.M)(hi:i<v.M)(hp:(v.mach i).pl=24){q:Nat}(htg:(v.mach i).tg=(q:Int))(hq:q<v.M):Calls Tryz.prog 62 #[.pointer (some ⟨B.W,0,none⟩), .int .i64 (i:Int)] w (Po B o (n+1) (.tuple #[]) ((v.wake (q:Int)).onM i fun m => { m with tg := -1,pl:=m.back }) w):=by
 have I0:(0:Int)≤(i:Int):=by omega
 have I1:(i:Int)<(v.M:Int):=by omega
 have a14:=h.w14
 have k0:=h.m0 hi
 have k5:=h.m5 hi
 rw[htg]at k5
 have C1:=hid (wwake h hf hq)
 have HL:=hid (show (v.wake (q:Int)).mm.length=(v.wake (q:Int)).M∧i<(v.wake (q:Int)).M from⟨hl,hi⟩)
 obtain⟨v1,hv1⟩:∃ v1,v1=v.wake (q:Int):=⟨_,rfl⟩
 rw[←hv1]at C1 HL ⊢
 rw[hp]at k0
 clear h hf hl hp hv1 htg hq
 go_enter Tryz.func62,Tryz.ntmps62
 go_wp2_with fail
 refine C1.out.mono ?_
 rintro e y ⟨rfl,o2,h2,e2⟩
 have H2:=hid h2
 have E2:=hid e2
 have q5:=h2.m5 (i:=i) HL.out.2
 have q10:=h2.m10 (i:=i) HL.out.2
 have q0:=h2.m0 (i:=i) HL.out.2
 have kf2:=h2.mfz
 clear h2 e2 C1
 go_wp2
 go_end0
 have U0:=H2.out.self HL.out.1 HL.out.2
 have U1:=U0.v5 HL.out.1 HL.out.2 (-1)
 exact⟨rfl,o2,U1.v0 HL.out.1 HL.out.2 _,E2.out.trans ((Ek.setM U0 (i*20+5) (.int .i64 (-1))).trans (Ek.setM U1 (i*20) _))⟩
end
section
variable {B:Bk}{o o':Nat→Nat}{n n':Nat}{v v':Y.V}{w w' wx:World}{C:Nat→Prop}{i p:Nat}{tm:Int}
theorem pass_21(h:WR B o n v w)(hf:Few n v)(hl:v.mm.length=v.M)(hi:i<v.M)(hp:(v.mach i).pl=21)(b:Bool)(hb:(v.ms.getD v.spn 0 == 0)=b):Calls Tryz.prog 62 #[.pointer (some ⟨B.W,0,none⟩), .int .i64 (i:Int)] w (Po B o n (.tuple #[]) (({ v with mc:=v.mc+1 }:Y.V).onM i fun m => { m with pl:=if b then 22 else m.back }) w):=by
 have I0:(0:Int)≤(i:Int):=by omega
 have I1:(i:Int)<(v.M:Int):=by omega
 have a14:=h.w14
 have a3:=h.w3
 have a5:=h.w5
 have k0:=h.m0 hi
 have k10:=h.m10 hi
 have kf:=h.mfz
 have hs:v.spn<v.wds:=by unfold Y.V.wds Y.V.sts Y.V.nts;omega
 obtain⟨z,hz⟩:∃ z,z=v.ms.getD v.spn 0:=⟨_,rfl⟩
 rw[←hz]at hb
 have HH:=hid h
 have LD:=hid (fun(y:World) (hq:Quiet w y)=>load_v B.b1 B.g1 v.ms v.mc (v.spn:Nat) z y (h.quiet hq).c2.2 (by have:=hf.mc;omega) (by omega) (by rw[hf.ms];omega) (by rw[Int.toNat_natCast];exact hz.symm))
 have HL:=hid (And.intro hl hi)
 rw[hp]at k0
 obtain⟨bk,hbk⟩:∃ bk,bk=(v.mach i).back:=⟨_,rfl⟩
 rw[←hbk]at k10
 have HBK:=hid (show (Y.V.mach ({ v with mc:=v.mc+1 }:Y.V) i).back=bk from hbk.symm)
 have EI:=hid (fun(y:World)=>either_any y b 22 bk)
 have VE:=hid (fun x (hx:x=if b then 22 else bk)=>(show (({ v with mc:=v.mc+1 }:Y.V).onM i fun m => { m with pl:=if b then 22 else m.back })=({ v with mc:=v.mc+1 }:Y.V).onM i fun m => { m with pl:=x } by rw[hx,hbk];rfl))
 clear h hf hl hp hz hs hbk
 rcases b with _|_
 all_goals
  rw[VE.out _ rfl]
  go_enter Tryz.func62,Tryz.ntmps62
  go_wp2_with fail
  go_region_with (first
   | (go_at_call 89;refine(LD.out _ ⟨_,rfl⟩).mono ?_;rintro e y ⟨rfl,hm1,ho1⟩;have W1:=hid ((HH.out.quiet (w':=w.drew) ⟨1,rfl⟩).mem1 hm1 ho1);have kf2:=W1.out.1.mfz;have q0:=W1.out.1.m0 (i:=i) HL.out.2;have q10:=W1.out.1.m10 (i:=i) HL.out.2;rw[HBK.out]at q10;clear hm1 ho1)
   | (go_at_call 105;refine(EI.out _).mono ?_;rintro e y2 ⟨rfl,rfl⟩))
  all_goals
   clear LD EI
   go_wp2
   go_end0
   exact⟨rfl,_,(W1.out.1.self HL.out.1 HL.out.2).v0 HL.out.1 HL.out.2 _,(Ek.of_quiet (o:=o) (w:=w) ⟨1,rfl⟩).trans (W1.out.2.trans (Ek.setM W1.out.1 (i*20) _))⟩
end
section
variable {B:Bk}{o o':Nat→Nat}{N n n' r g:Nat}{v v':Y.V}{w w' wx:World}{C:Nat→Prop}{i p:Nat}{tm:Int}
theorem wpass(h:WR B o n v w)(s:Sm N n r g v)(hi:i<v.M)(hin:(v.mach i).inn=false):Calls Tryz.prog 62 #[.pointer (some ⟨B.W,0,none⟩), .int .i64 (i:Int)] w (Po B o (n+1) (.tuple #[]) (v.pass i) w):=by
 have mo:=s.i.mo i hi
 have hl:=s.i.ln.1
 have cf:=s.i.cf
 have hN:=s.N
 by_cases h1:(v.mach i).pl=1
 ·have lc:=(Y.loc_1 h1).1 mo.l
  obtain⟨p,hpp⟩:=nat_of lc.1.1
  rw[show v.pass i=v.turn i by simp[Y.V.pass,h1]]
  have ht:0≤v.tu.getD p 0∧v.tu.getD p 0≤N:=by
   have hlt:p<v.tu.length:=by rw[s.i.ln.2.2.1];omega
   have:v.tu.getD p 0 ∈ v.tu:=by simp[hlt]
   exact s.i.cn.2.2.1 _ this
  exact(pass_1 h hi h1 (wturn h hl hi s.i.ln.2.2.1 hpp (by omega) (by omega))).mono fun e w' hx=>po_up hx
 by_cases h5:(v.mach i).pl=5
 ·rw[show v.pass i=(v.spin 1).onM i fun m=>({ m with spin:=true }:Y.Mh).steal v.P 1 by simp[Y.V.pass,h5]]
  exact pass_5 h s.few hl hi h5
 by_cases h8:(v.mach i).pl=8
 ·rw[show v.pass i=(v.spin (-1)).onM i fun m => { m with spin:=false,i:=0,pl:=9 } by simp[Y.V.pass,h8]]
  exact pass_8 h s.few hl hi h8
 by_cases h12:(v.mach i).pl=12
 ·rw[show v.pass i=(v.spin 1).onM i fun m => { m with spin:=true,pl:=4 } by simp[Y.V.pass,h12]]
  exact pass_12 h s.few hl hi h12
 by_cases h19:(v.mach i).pl=19
 ·rw[show v.pass i=(v.spin (-1)).onM i fun m => { m with spin:=false,pl:=21 } by simp[Y.V.pass,h19]]
  exact pass_19 h s.few hl hi h19
 by_cases h16:(v.mach i).pl=16
 ·rw[show v.pass i=v.rise i by simp[Y.V.pass,h16]]
  exact pass_16 h hi h16 (wrise h s.few hl hi)
 by_cases h20:(v.mach i).pl=20
 ·have lc:=(Y.loc_20 h20).1 mo.l
  rw[show v.pass i=(v.see ⟨2,(v.mach i).got,i,(v.mach i).p,0⟩).onM i fun m => { m with g:=m.got,got := -1,pl:=0 } by simp[Y.V.pass,h20]]
  exact pass_20 h s.few hl hi h20 lc.2.2.1 (ev_ok s hi 2 (by simp) _ _ lc.2.2.1 (by omega) (fun _ _=>rfl) (by omega))
 by_cases h21:(v.mach i).pl=21
 ·rw[show v.pass i=({ v with mc:=v.mc+1 }:Y.V).onM i fun m => { m with pl:=if (v.ms.getD v.spn 0 == 0) then 22 else m.back } by simp[Y.V.pass,h21]]
  exact(pass_21 h s.few hl hi h21 _ rfl).mono fun e w' hx=>po_up hx
 by_cases h22:(v.mach i).pl=22
 ·rw[show v.pass i=(v.bothF v.spn fun x=>if x=0 then 1 else x).onM i fun m => { m with pl:=if (decide (v.ms.getD v.spn 0=0)) then 23 else m.back } by simp[Y.V.pass,h22]]
  exact pass_22 h s.few hl hi h22 _ rfl
 by_cases h24:(v.mach i).pl=24
 ·have tg:=mo.l.tg
  rw[if_pos h24]at tg
  obtain⟨q,hq⟩:=nat_of tg.1
  rw[show v.pass i=(v.wake (q:Int)).onM i fun m => { m with tg := -1,pl:=m.back } by simp[Y.V.pass,h24,hq]]
  exact pass_24 h s.few hl hi h24 hq (by omega)
 by_cases h26:(v.mach i).pl=26
 ·have lc:=(Y.loc_26 h26).1 mo.l
  have hpr : -1≤(v.mach i).p∧(v.mach i).p<v.P:=by
   have:=lc.1
   split at this <;> omega
  rw[show v.pass i=(v.see ⟨1,(v.mach i).got,i,(v.mach i).p,0⟩).onM i fun m => { m with back:=25,pl:=27 } by simp[Y.V.pass,h26]]
  exact pass_26 h s.few hl hi h26 lc.2.2.2.1 (ev_ok s hi 1 (by simp) _ _ lc.2.2.2.1 hpr (fun _ _=>rfl) (by omega))
 ·rw[show v.pass i=v by unfold Y.V.pass;dsimp only;rw[if_neg h1,if_neg h5,if_neg h8,if_neg h12,if_neg h19,if_neg h16,if_neg h20,if_neg h21,if_neg h22,if_neg h24,if_neg h26]]
  exact(pass_none h hi ⟨h1,h5,h8,h12,h16,h19,h20,h21,h22,h24,h26⟩).mono fun e w' hx=>po_up hx
end
end Go.Proofs.YtkhigkcmgcafdaaGreatDoor
