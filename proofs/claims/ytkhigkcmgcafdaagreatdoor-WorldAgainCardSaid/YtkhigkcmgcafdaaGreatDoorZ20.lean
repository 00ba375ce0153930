/- Of Vg, Vh, Vq, Vi. -/
import Derived.Test.YtkhigkcmgcafdaaGreatDoorZ19
set_option linter.unusedVariables false
set_option linter.unusedSimpArgs false
set_option maxHeartbeats 16000000
set_option maxRecDepth 20000
namespace Go.Proofs.YtkhigkcmgcafdaaGreatDoor
open Go.RowKit
section
variable {B:Bk}{o o':Nat→Nat}{n n':Nat}{v v':Y.V}{w w' wx:World}{C:Nat→Prop}{i p:Nat}
theorem wrelease(h:WR B o n v w)(hl:v.mm.length=v.M)(hi:i<v.M)(hps:v.id.ps.length=v.P)(hpd:v.id.pd.length≤100000):Calls Tryz.prog 136 #[.pointer (some ⟨B.W,0,none⟩),mp B i] w (Po B o n (.tuple #[]) (v.release i) w):=by
 have I0:(0:Int)≤(i:Int):=by omega
 have I1:(i:Int)<(v.M:Int):=by omega
 have a11:=h.w11
 obtain⟨v3,hv3⟩:∃ v3,v3=v.takeQ.2.onM i (·.getAll v.takeQ.1):=⟨_,rfl⟩
 have ER:=hid (show v.release i=if (v3.mach i).yes then v3 else (v3.putI (v3.id.putP (v3.mach i).p)).onM i fun m => { m with p := -1 } by rw[hv3];rfl)
 have HL:=hid ((⟨hl,hi⟩:(v.takeQ.2).mm.length=(v.takeQ.2).M∧i<(v.takeQ.2).M))
 have HL3:=hid (show (v3.mm.length=v3.M∧i<v3.M)∧v3.id.ps.length=v3.P∧v3.id.pd.length≤100000 by rw[hv3];exact⟨⟨by show (v.mm.set i _).length=v.M;rw[List.length_set];exact hl,hi⟩,hps,hpd⟩)
 have V3:=hid hv3
 have C1:=hid (wqtake h)
 clear h hv3 hps hpd
 go_enter Tryz.func136,Tryz.ntmps136
 go_wp2_with fail
 refine C1.out.mono ?_
 rintro e y ⟨rv,o2,rfl,hr2,h2,e2⟩
 have D:=hid (mgetAll h2 HL.out.1 HL.out.2 rv v.takeQ.1 hr2)
 have E2:=hid e2
 obtain⟨ra,rc2,rfl,_⟩:=hr2.rd
 clear h2 e2 C1 hr2
 go_wp2_with fail
 refine D.out.mono ?_
 rintro e y2 ⟨rfl,o3,h3,e3⟩
 rw[←V3.out]at h3
 have H3:=hid h3
 have E3:=hid (E2.out.trans e3)
 have k18:=h3.m18 HL3.out.1.2
 have k1:=h3.m1 HL3.out.1.2
 have a13:=h3.w13
 obtain⟨b,hb⟩:∃ b,b=(v3.mach i).yes:=⟨_,rfl⟩
 obtain⟨x,hx⟩:∃ x,x=(v3.mach i).p:=⟨_,rfl⟩
 rw[←hb]at k18
 rw[←hx]at k1
 have HB:=hid hb
 have HX:=hid hx
 have PP:=hid (fun(z:World) (hq:Quiet y2 z)=>wputP (h3.quiet hq) HL3.out.2.1 HL3.out.2.2 x)
 clear h3 e3 D hb hx
 rcases b with _|_
 ·go_wp2_with fail
  go_region_with (go_at_call 83;refine(PP.out _ ⟨_,rfl⟩).mono ?_;rintro e y3 ⟨b,rfl,o4,h4,e4⟩;have H4:=hid h4;have E4:=hid (E3.out.trans ((Ek.of_quiet (o:=o3) (w:=y2) ⟨1,rfl⟩).trans e4));have k14:=h4.m1 (i:=i) HL3.out.1.2;have kf4:=h4.mfz;clear h4 e4)
  all_goals
   clear PP
   go_wp2
   go_end0
   refine⟨rfl,_,?_,E4.out.trans (Ek.setM H4.out _ _)⟩
   rw[ER.out,if_neg (by rw[←HB.out];simp), ←HX.out]
   exact(H4.out.self HL3.out.1.1 HL3.out.1.2).v1 HL3.out.1.1 HL3.out.1.2 (-1)
 ·go_wp2
  go_end0
  refine⟨rfl,_,?_,E3.out⟩
  rw[ER.out,if_pos HB.out.symm]
  exact H3.out
theorem wstop(h:WR B o n v w)(hl:v.mm.length=v.M)(hi:i<v.M)(hss:v.id.ss.length≤100000)(hpo:v.id.po = -1∨0≤v.id.po):Calls Tryz.prog 141 #[.pointer (some ⟨B.W,0,none⟩), .int .i64 (i:Int)] w (Po B o n (.tuple #[]) (v.stop i) w):=by
 have I0:(0:Int)≤(i:Int):=by omega
 have I1:(i:Int)<(v.M:Int):=by omega
 have a13:=h.w13
 have a14:=h.w14
 have C1:=hid (wtakePend h)
 have H:=hid h
 have HL:=hid (And.intro hl (And.intro hss hpo))
 rcases hd:v.id.pd with _|⟨x,l⟩
 ·have e1:v.id.takePend=((0,false),v.id):=by unfold Y.IV.takePend;rw[hd]
  have ER:=hid (show v.stop i=(v.putI (v.id.stop v.M i).2).onM i fun m => { m with yes:=(v.id.stop v.M i).1 } by unfold Y.V.stop;rw[e1];rfl)
  rw[e1]at C1
  simp only at C1
  clear h hl hss hpo hd e1
  go_enter Tryz.func141,Tryz.ntmps141
  go_wp2_with fail
  refine C1.out.mono ?_
  rintro e y ⟨rfl,o2,h2,e2⟩
  have C2:=hid (wistop h2 HL.out.2.1 HL.out.2.2 hi)
  have E2:=hid e2
  have a132:=h2.w13
  clear h2 e2 C1
  go_wp2_with fail
  refine C2.out.mono ?_
  rintro e y3 ⟨b,rfl,o3,h3,e3⟩
  have H3:=hid h3
  have E3:=hid (E2.out.trans e3)
  have k18:=h3.m18 (i:=i) hi
  have kf3:=h3.mfz
  clear h3 e3 C2
  go_wp2
  go_end0
  refine⟨rfl,_,?_,E3.out.trans (Ek.setM H3.out _ _)⟩
  rw[ER.out]
  exact(H3.out.self HL.out.1 hi).v18 HL.out.1 hi _
 ·have e1:v.id.takePend=((x,true), { v.id with pd:=l }):=by unfold Y.IV.takePend;rw[hd]
  have ER:=hid (show v.stop i=(v.putI { v.id with pd:=l }).onM i fun m => { m with p:=x,spin:=true } by unfold Y.V.stop;rw[e1];rfl)
  rw[e1]at C1
  simp only at C1
  clear h hl hss hpo hd e1
  go_enter Tryz.func141,Tryz.ntmps141
  go_wp2_with fail
  refine C1.out.mono ?_
  rintro e y ⟨rfl,o2,h2,e2⟩
  have H2:=hid h2
  have E2:=hid e2
  have k1:=h2.m1 (i:=i) hi
  have k7:=h2.m7 (i:=i) hi
  have kf2:=h2.mfz
  clear h2 e2 C1
  go_wp2
  go_end0
  have U:=(H2.out.self HL.out.1 hi).v1 HL.out.1 hi x
  refine⟨rfl,_,?_,E2.out.trans ((Ek.setM H2.out _ _).trans (Ek.setM U _ _))⟩
  rw[ER.out]
  exact U.v7 HL.out.1 hi true
end
section
variable {B:Bk}{o o':Nat→Nat}{n n':Nat}{v v':Y.V}{w w' wx:World}{C:Nat→Prop}{i p:Nat}{tm:Int}
theorem Po.mono{x:Value}{e:Ending}(h:Po B o n x v w e w')(hn:n≤n'):Po B o n' x v w e w':=by
 obtain⟨a,o2,b,c⟩:=h
 exact⟨a,o2,b.mono hn,c⟩
theorem find_more(h:WR B o n v w)(hf:Few n v)(hi:i<v.M)(tm:Int)(ht:0<tm):Calls Tryz.prog 181 #[.pointer (some ⟨B.W,0,none⟩),mp B i, .int .i64 tm] w (Po B o (n+1) (.bool false) (v.spin (-1)) w):=by
 have C1:=hid (wspin h hf (-1))
 have t1:decide (0<tm)=true:=decide_eq_true ht
 clear h hf
 go_enter Tryz.func181,Tryz.ntmps181
 go_wp2_with fail
 refine C1.out.mono ?_
 rintro e y ⟨rfl,o2,h2,e2⟩
 have H2:=hid h2
 have E2:=hid e2
 clear h2 e2 C1
 go_wp2
 go_ret
 exact⟨rfl,_,H2.out,E2.out⟩
theorem find_none(h:WR B o n v w)(hi:i<v.M)(hps:v.id.ps.length=v.P)(ht:tm≤0)(hn:v.id.takeP.1.2=false):Calls Tryz.prog 181 #[.pointer (some ⟨B.W,0,none⟩),mp B i, .int .i64 tm] w (Po B o n (.bool true) v w):=by
 have e1:v.id.takeP=((0,false),v.id):=by
  unfold Y.IV.takeP at hn ⊢
  rcases hq:Y.fst v.id.ps with _|k
  ·rfl
  ·rw[hq]at hn;cases hn
 have C1:=hid (wtakeP h hps)
 rw[e1]at C1
 simp only at C1
 have a13:=h.w13
 have t1:decide (0<tm)=false:=decide_eq_false (by omega)
 clear h hn e1 hps
 go_enter Tryz.func181,Tryz.ntmps181
 go_wp2_with fail
 refine C1.out.mono ?_
 rintro e y ⟨rfl,o2,h2,e2⟩
 have H2:=hid h2
 have E2:=hid e2
 clear h2 e2 C1
 go_wp2
 go_ret
 exact⟨rfl,_,H2.out,E2.out⟩
theorem find_pend(h:WR B o n v w)(hi:i<v.M)(hps:v.id.ps.length=v.P)(hpd:v.id.pd.length≤100000)(hss:v.id.ss.length≤100000)(hpo:v.id.po = -1∨0≤v.id.po)(ht:tm≤0){k:Nat}(hk:Y.fst v.id.ps=some k)(hm:v.id.takeM.1.2=false):Calls Tryz.prog 181 #[.pointer (some ⟨B.W,0,none⟩),mp B i, .int .i64 tm] w (Po B o n (.bool false) (v.putI (v.id.takeP.2.pend (k:Int))) w):=by
 obtain⟨d,hd⟩:∃ d,d=v.id.takeP.2:=⟨_,rfl⟩
 have e1:v.id.takeP=(((k:Int),true),d):=by rw[hd];unfold Y.IV.takeP;rw[hk]
 have e0:d = { v.id with ps:=v.id.ps.set k false }:=by rw[hd];unfold Y.IV.takeP;rw[hk]
 have e2:d.takeM=((0,false),d):=by
  unfold Y.IV.takeM at hm ⊢
  rw[e0]
  simp only
  rcases hq:v.id.ss.getLast? with _|q
  ·rw[hq]at hm
   simp only at hm ⊢
   split at hm
   ·rename_i h1;rw[if_pos h1]
   ·cases hm
  ·rw[hq]at hm;cases hm
 have C1:=hid (wtakeP h hps)
 rw[e1]at C1
 simp only at C1
 have HD:=hid (show d.ps.length=v.P∧d.pd.length≤100000∧d.ss.length≤100000∧(d.po = -1∨0≤d.po) by rw[e0];exact⟨by simpa using hps,hpd,hss,hpo⟩)
 have E0:=hid e2
 rw[←hd]
 have a13:=h.w13
 have t1:decide (0<tm)=false:=decide_eq_false (by omega)
 clear h e1 hps e0 e2 hd hm hk hpd hss hpo
 go_enter Tryz.func181,Tryz.ntmps181
 go_wp2_with fail
 refine C1.out.mono ?_
 rintro e y ⟨rfl,o2,h2,e2⟩
 have C2:=witakeM h2 HD.out.2.2.1 HD.out.2.2.2
 rw[show (v.putI d).id=d from rfl,E0.out]at C2
 have HC2:=hid C2
 have E2:=hid e2
 have a132:=h2.w13
 clear h2 e2 C1 C2
 simp only at HC2
 go_wp2_with fail
 refine HC2.out.mono ?_
 rintro e y3 ⟨rfl,o3,h3,e3⟩
 have C3:=hid (wpend h3 HD.out.1 HD.out.2.1 (k:Int))
 have E3:=hid (E2.out.trans e3)
 have a133:=h3.w13
 clear h3 e3 HC2
 go_wp2_with fail
 refine C3.out.mono ?_
 rintro e y4 ⟨b,rfl,o4,h4,e4⟩
 have H4:=hid h4
 have E4:=hid (E3.out.trans e4)
 clear h4 e4 C3
 go_wp2
 go_ret
 exact⟨rfl,_,H4.out,E4.out⟩
theorem find_give(h:WR B o n v w)(hl:v.mm.length=v.M)(hi:i<v.M)(hps:v.id.ps.length=v.P)(hss:v.id.ss.length≤100000)(hpo:v.id.po = -1∨0≤v.id.po)(ht:tm≤0){k q:Nat}(hk:Y.fst v.id.ps=some k)(hm:v.id.takeP.2.takeM.1=((q:Int),true))(hq:q<v.M):Calls Tryz.prog 181 #[.pointer (some ⟨B.W,0,none⟩),mp B i, .int .i64 tm] w (Po B o n (.bool false) (((v.putI v.id.takeP.2.takeM.2).onM q fun m => { m with nx:=(k:Int) }).onM i fun m => { m with tg:=(q:Int) }) w):=by
 obtain⟨d,hd⟩:∃ d,d=v.id.takeP.2:=⟨_,rfl⟩
 obtain⟨d2,hd2⟩:∃ d2,d2=d.takeM.2:=⟨_,rfl⟩
 have e1:v.id.takeP=(((k:Int),true),d):=by rw[hd];unfold Y.IV.takeP;rw[hk]
 have e0:d = { v.id with ps:=v.id.ps.set k false }:=by rw[hd];unfold Y.IV.takeP;rw[hk]
 rw[←hd]at hm
 have e2:d.takeM=(((q:Int),true),d2):=by rw[hd2, ←hm]
 have C1:=hid (wtakeP h hps)
 rw[e1]at C1
 simp only at C1
 have HD:=hid (show d.ss.length≤100000∧(d.po = -1∨0≤d.po) by rw[e0];exact⟨hss,hpo⟩)
 have E0:=hid e2
 have HL:=hid (show (v.putI d2).mm.length=(v.putI d2).M∧i<(v.putI d2).M∧q<(v.putI d2).M from⟨hl,hi,hq⟩)
 rw[←hd, ←hd2]
 have a13:=h.w13
 have t1:decide (0<tm)=false:=decide_eq_false (by omega)
 have Q0:(0:Int)≤(q:Int):=by omega
 have Q1:(q:Int)<(v.M:Int):=by omega
 clear h e1 hps e0 e2 hd hd2 hm hk hss hpo hl
 go_enter Tryz.func181,Tryz.ntmps181
 go_wp2_with fail
 refine C1.out.mono ?_
 rintro e y ⟨rfl,o2,h2,e2⟩
 have C2:=witakeM h2 HD.out.1 HD.out.2
 rw[show (v.putI d).id=d from rfl,E0.out]at C2
 have HC2:=hid C2
 have E2:=hid e2
 have a132:=h2.w13
 clear h2 e2 C1 C2
 simp only at HC2
 go_wp2_with fail
 refine HC2.out.mono ?_
 rintro e y3 ⟨rfl,o3,h3,e3⟩
 have H3:=hid (show WR B o3 n (v.putI d2) y3 from h3)
 have E3:=hid (E2.out.trans e3)
 have a143:y3.cell? ⟨B.W,14,none⟩=some (.slice (some ⟨B.mb,0,none⟩) v.M v.M):=h3.w14
 have k3:=H3.out.m3 (i:=q) HL.out.2.2
 have kf3:=h3.mfz
 have U:=hid ((H3.out.self HL.out.1 HL.out.2.2).v3 HL.out.1 HL.out.2.2 (k:Int))
 have UL:=hid (putM_len (v.putI d2) q { (v.putI d2).mach q with nx:=(k:Int) } HL.out.1)
 have k5:=U.out.m5 (i:=i) HL.out.2.1
 have k5':=H3.out.m5 (i:=i) HL.out.2.1
 clear h3 e3 HC2
 go_wp2_with fail
 go_ret
 refine⟨rfl,_,(U.out.self UL.out HL.out.2.1).v5 UL.out HL.out.2.1 (q:Int),E3.out.trans ((Ek.setM H3.out _ _).trans (Ek.setM U.out _ _))⟩
end
section
variable {B:Bk}{o o':Nat→Nat}{n n':Nat}{v v':Y.V}{w w' wx:World}{C:Nat→Prop}{i p:Nat}{tm:Int}
theorem with_7(h:WR B o n v w)(hi:i<v.M)(hp:(v.mach i).pl=7){v1:Y.V}
 (HC:Calls Tryz.prog 136 #[.pointer (some ⟨B.W,0,none⟩),mp B i] w (Po B o n' (.tuple #[]) v1 w)):Calls Tryz.prog 99 #[.pointer (some ⟨B.W,0,none⟩), .int .i64 (i:Int), .int .i64 tm] w (Po B o n' (.bool false) v1 w):=by
 have I0:(0:Int)≤(i:Int):=by omega
 have I1:(i:Int)<(v.M:Int):=by omega
 have a14:=h.w14
 have k0:=h.m0 hi
 have C1:=hid HC
 rw[hp]at k0
 clear h hp HC
 go_enter Tryz.func99,Tryz.ntmps99
 go_wp2_with fail
 refine C1.out.mono ?_
 rintro e y ⟨rfl,o2,h2,e2⟩
 have H2:=hid h2
 have E2:=hid e2
 clear h2 e2 C1
 go_wp2
 go_ret
 exact⟨rfl,o2,H2.out,E2.out⟩
theorem with_13(h:WR B o n v w)(hi:i<v.M)(hp:(v.mach i).pl=13){v1:Y.V}
 (HC:Calls Tryz.prog 141 #[.pointer (some ⟨B.W,0,none⟩), .int .i64 (i:Int)] w (Po B o n' (.tuple #[]) v1 w)):Calls Tryz.prog 99 #[.pointer (some ⟨B.W,0,none⟩), .int .i64 (i:Int), .int .i64 tm] w (Po B o n' (.bool false) v1 w):=by
 have I0:(0:Int)≤(i:Int):=by omega
 have I1:(i:Int)<(v.M:Int):=by omega
 have a14:=h.w14
 have k0:=h.m0 hi
 have C1:=hid HC
 rw[hp]at k0
 clear h hp HC
 go_enter Tryz.func99,Tryz.ntmps99
 go_wp2_with fail
 refine C1.out.mono ?_
 rintro e y ⟨rfl,o2,h2,e2⟩
 have H2:=hid h2
 have E2:=hid e2
 clear h2 e2 C1
 go_wp2
 go_ret
 exact⟨rfl,o2,H2.out,E2.out⟩
theorem with_17(h:WR B o n v w)(hi:i<v.M)(hp:(v.mach i).pl=17){v1:Y.V}{r:Bool}
 (HC:Calls Tryz.prog 143 #[.pointer (some ⟨B.W,0,none⟩), .int .i64 (i:Int), .int .i64 tm] w (Po B o n' (.bool r) v1 w)):Calls Tryz.prog 99 #[.pointer (some ⟨B.W,0,none⟩), .int .i64 (i:Int), .int .i64 tm] w (Po B o n' (.bool r) v1 w):=by
 have I0:(0:Int)≤(i:Int):=by omega
 have I1:(i:Int)<(v.M:Int):=by omega
 have a14:=h.w14
 have k0:=h.m0 hi
 have C1:=hid HC
 rw[hp]at k0
 clear h hp HC
 go_enter Tryz.func99,Tryz.ntmps99
 go_wp2_with fail
 refine C1.out.mono ?_
 rintro e y ⟨rfl,o2,h2,e2⟩
 have H2:=hid h2
 have E2:=hid e2
 clear h2 e2 C1
 go_wp2
 go_ret
 exact⟨rfl,o2,H2.out,E2.out⟩
theorem with_18(h:WR B o n v w)(hi:i<v.M)(hp:(v.mach i).pl=18){v1:Y.V}{r:Bool}
 (HC:Calls Tryz.prog 143 #[.pointer (some ⟨B.W,0,none⟩), .int .i64 (i:Int), .int .i64 tm] w (Po B o n' (.bool r) v1 w)):Calls Tryz.prog 99 #[.pointer (some ⟨B.W,0,none⟩), .int .i64 (i:Int), .int .i64 tm] w (Po B o n' (.bool r) v1 w):=by
 have I0:(0:Int)≤(i:Int):=by omega
 have I1:(i:Int)<(v.M:Int):=by omega
 have a14:=h.w14
 have k0:=h.m0 hi
 have C1:=hid HC
 rw[hp]at k0
 clear h hp HC
 go_enter Tryz.func99,Tryz.ntmps99
 go_wp2_with fail
 refine C1.out.mono ?_
 rintro e y ⟨rfl,o2,h2,e2⟩
 have H2:=hid h2
 have E2:=hid e2
 clear h2 e2 C1
 go_wp2
 go_ret
 exact⟨rfl,o2,H2.out,E2.out⟩
theorem with_23(h:WR B o n v w)(hi:i<v.M)(hp:(v.mach i).pl=23){v1:Y.V}{r:Bool}
 (HC:Calls Tryz.prog 143 #[.pointer (some ⟨B.W,0,none⟩), .int .i64 (i:Int), .int .i64 tm] w (Po B o n' (.bool r) v1 w)):Calls Tryz.prog 99 #[.pointer (some ⟨B.W,0,none⟩), .int .i64 (i:Int), .int .i64 tm] w (Po B o n' (.bool r) v1 w):=by
 have I0:(0:Int)≤(i:Int):=by omega
 have I1:(i:Int)<(v.M:Int):=by omega
 have a14:=h.w14
 have k0:=h.m0 hi
 have C1:=hid HC
 rw[hp]at k0
 clear h hp HC
 go_enter Tryz.func99,Tryz.ntmps99
 go_wp2_with fail
 refine C1.out.mono ?_
 rintro e y ⟨rfl,o2,h2,e2⟩
 have H2:=hid h2
 have E2:=hid e2
 clear h2 e2 C1
 go_wp2
 go_ret
 exact⟨rfl,o2,H2.out,E2.out⟩
theorem with_27(h:WR B o n v w)(hi:i<v.M)(hp:(v.mach i).pl=27){v1:Y.V}{r:Bool}
 (HC:Calls Tryz.prog 143 #[.pointer (some ⟨B.W,0,none⟩), .int .i64 (i:Int), .int .i64 tm] w (Po B o n' (.bool r) v1 w)):Calls Tryz.prog 99 #[.pointer (some ⟨B.W,0,none⟩), .int .i64 (i:Int), .int .i64 tm] w (Po B o n' (.bool r) v1 w):=by
 have I0:(0:Int)≤(i:Int):=by omega
 have I1:(i:Int)<(v.M:Int):=by omega
 have a14:=h.w14
 have k0:=h.m0 hi
 have C1:=hid HC
 rw[hp]at k0
 clear h hp HC
 go_enter Tryz.func99,Tryz.ntmps99
 go_wp2_with fail
 refine C1.out.mono ?_
 rintro e y ⟨rfl,o2,h2,e2⟩
 have H2:=hid h2
 have E2:=hid e2
 clear h2 e2 C1
 go_wp2
 go_ret
 exact⟨rfl,o2,H2.out,E2.out⟩
theorem with_28(h:WR B o n v w)(hi:i<v.M)(hp:(v.mach i).pl=28){v1:Y.V}{r:Bool}
 (HC:Calls Tryz.prog 143 #[.pointer (some ⟨B.W,0,none⟩), .int .i64 (i:Int), .int .i64 tm] w (Po B o n' (.bool r) v1 w)):Calls Tryz.prog 99 #[.pointer (some ⟨B.W,0,none⟩), .int .i64 (i:Int), .int .i64 tm] w (Po B o n' (.bool r) v1 w):=by
 have I0:(0:Int)≤(i:Int):=by omega
 have I1:(i:Int)<(v.M:Int):=by omega
 have a14:=h.w14
 have k0:=h.m0 hi
 have C1:=hid HC
 rw[hp]at k0
 clear h hp HC
 go_enter Tryz.func99,Tryz.ntmps99
 go_wp2_with fail
 refine C1.out.mono ?_
 rintro e y ⟨rfl,o2,h2,e2⟩
 have H2:=hid h2
 have E2:=hid e2
 clear h2 e2 C1
 go_wp2
 go_ret
 exact⟨rfl,o2,H2.out,E2.out⟩
theorem with_29(h:WR B o n v w)(hi:i<v.M)(hp:(v.mach i).pl=29){v1:Y.V}{r:Bool}
 (HC:Calls Tryz.prog 143 #[.pointer (some ⟨B.W,0,none⟩), .int .i64 (i:Int), .int .i64 tm] w (Po B o n' (.bool r) v1 w)):Calls Tryz.prog 99 #[.pointer (some ⟨B.W,0,none⟩), .int .i64 (i:Int), .int .i64 tm] w (Po B o n' (.bool r) v1 w):=by
 have I0:(0:Int)≤(i:Int):=by omega
 have I1:(i:Int)<(v.M:Int):=by omega
 have a14:=h.w14
 have k0:=h.m0 hi
 have C1:=hid HC
 rw[hp]at k0
 clear h hp HC
 go_enter Tryz.func99,Tryz.ntmps99
 go_wp2_with fail
 refine C1.out.mono ?_
 rintro e y ⟨rfl,o2,h2,e2⟩
 have H2:=hid h2
 have E2:=hid e2
 clear h2 e2 C1
 go_wp2
 go_ret
 exact⟨rfl,o2,H2.out,E2.out⟩
theorem with_30(h:WR B o n v w)(hi:i<v.M)(hp:(v.mach i).pl=30){v1:Y.V}{r:Bool}
 (HC:Calls Tryz.prog 143 #[.pointer (some ⟨B.W,0,none⟩), .int .i64 (i:Int), .int .i64 tm] w (Po B o n' (.bool r) v1 w)):Calls Tryz.prog 99 #[.pointer (some ⟨B.W,0,none⟩), .int .i64 (i:Int), .int .i64 tm] w (Po B o n' (.bool r) v1 w):=by
 have I0:(0:Int)≤(i:Int):=by omega
 have I1:(i:Int)<(v.M:Int):=by omega
 have a14:=h.w14
 have k0:=h.m0 hi
 have C1:=hid HC
 rw[hp]at k0
 clear h hp HC
 go_enter Tryz.func99,Tryz.ntmps99
 go_wp2_with fail
 refine C1.out.mono ?_
 rintro e y ⟨rfl,o2,h2,e2⟩
 have H2:=hid h2
 have E2:=hid e2
 clear h2 e2 C1
 go_wp2
 go_ret
 exact⟨rfl,o2,H2.out,E2.out⟩
theorem give_23(h:WR B o n v w)(hi:i<v.M)(hp:(v.mach i).pl=23){v1:Y.V}{r:Bool}
 (HC:Calls Tryz.prog 181 #[.pointer (some ⟨B.W,0,none⟩),mp B i, .int .i64 tm] w (Po B o n' (.bool r) v1 w)):Calls Tryz.prog 143 #[.pointer (some ⟨B.W,0,none⟩), .int .i64 (i:Int), .int .i64 tm] w (Po B o n' (.bool r) v1 w):=by
 have I0:(0:Int)≤(i:Int):=by omega
 have I1:(i:Int)<(v.M:Int):=by omega
 have a14:=h.w14
 have k0:=h.m0 hi
 have C1:=hid HC
 rw[hp]at k0
 clear h hp HC
 go_enter Tryz.func143,Tryz.ntmps143
 go_wp2_with fail
 refine C1.out.mono ?_
 rintro e y ⟨rfl,o2,h2,e2⟩
 have H2:=hid h2
 have E2:=hid e2
 clear h2 e2 C1
 go_wp2
 go_ret
 exact⟨rfl,o2,H2.out,E2.out⟩
theorem give_29(h:WR B o n v w)(hi:i<v.M)(hp:(v.mach i).pl=29){v1:Y.V}{r:Bool}
 (HC:Calls Tryz.prog 182 #[.pointer (some ⟨B.W,0,none⟩), .int .i64 (i:Int), .int .i64 tm] w (Po B o n' (.bool r) v1 w)):Calls Tryz.prog 143 #[.pointer (some ⟨B.W,0,none⟩), .int .i64 (i:Int), .int .i64 tm] w (Po B o n' (.bool r) v1 w):=by
 have I0:(0:Int)≤(i:Int):=by omega
 have I1:(i:Int)<(v.M:Int):=by omega
 have a14:=h.w14
 have k0:=h.m0 hi
 have C1:=hid HC
 rw[hp]at k0
 clear h hp HC
 go_enter Tryz.func143,Tryz.ntmps143
 go_wp2_with fail
 refine C1.out.mono ?_
 rintro e y ⟨rfl,o2,h2,e2⟩
 have H2:=hid h2
 have E2:=hid e2
 clear h2 e2 C1
 go_wp2
 go_ret
 exact⟨rfl,o2,H2.out,E2.out⟩
theorem give_30(h:WR B o n v w)(hi:i<v.M)(hp:(v.mach i).pl=30){v1:Y.V}{r:Bool}
 (HC:Calls Tryz.prog 183 #[.pointer (some ⟨B.W,0,none⟩), .int .i64 (i:Int), .int .i64 tm] w (Po B o n' (.bool r) v1 w)):Calls Tryz.prog 143 #[.pointer (some ⟨B.W,0,none⟩), .int .i64 (i:Int), .int .i64 tm] w (Po B o n' (.bool r) v1 w):=by
 have I0:(0:Int)≤(i:Int):=by omega
 have I1:(i:Int)<(v.M:Int):=by omega
 have a14:=h.w14
 have k0:=h.m0 hi
 have C1:=hid HC
 rw[hp]at k0
 clear h hp HC
 go_enter Tryz.func143,Tryz.ntmps143
 go_wp2_with fail
 refine C1.out.mono ?_
 rintro e y ⟨rfl,o2,h2,e2⟩
 have H2:=hid h2
 have E2:=hid e2
 clear h2 e2 C1
 go_wp2
 go_ret
 exact⟨rfl,o2,H2.out,E2.out⟩
end
section
variable {B:Bk}{o o':Nat→Nat}{n n':Nat}{v v':Y.V}{w w' wx:World}{C:Nat→Prop}{i p:Nat}{tm:Int}
theorem wleave(h:WR B o n v w)(hf:Few n v)(hl:v.mm.length=v.M)(hi:i<v.M)(k:Nat)(hk:k<8)(x:Int)(hj:0≤(v.mach i).g∧(v.mach i).g<v.G)(hr:evRight k (v.mach i).g i (v.mach i).p x=true):Calls Tryz.prog 91 #[.pointer (some ⟨B.W,0,none⟩), .int .i64 (i:Int), .int .i64 (k:Int), .int .i64 x] w (Po B o (n+1) (.tuple #[]) (v.leave i k x) w):=by
 have I0:(0:Int)≤(i:Int):=by omega
 have I1:(i:Int)<(v.M:Int):=by omega
 have a14:=h.w14
 have k1:=h.m1 hi
 have k2:=h.m2 hi
 have EQ:=hid (show v.leave i k x=(v.see ⟨k,(v.mach i).g,i,(v.mach i).p,x⟩).onM i fun m => { m with g := -1 } from rfl)
 rw[EQ.out]
 have C1:=hid (fun(y:World) (hq:Quiet w y)=>wsee (h.quiet hq) hf k hk (v.mach i).g i (v.mach i).p x hj hr)
 have HL:=hid (show (v.see ⟨k,(v.mach i).g,i,(v.mach i).p,x⟩).mm.length=(v.see ⟨k,(v.mach i).g,i,(v.mach i).p,x⟩).M∧i<(v.see ⟨k,(v.mach i).g,i,(v.mach i).p,x⟩).M from⟨hl,hi⟩)
 obtain⟨v2,hv2⟩:∃ v2,v2=v.see ⟨k,(v.mach i).g,i,(v.mach i).p,x⟩:=⟨_,rfl⟩
 rw[←hv2]at C1 HL ⊢
 obtain⟨g,hg⟩:∃ g,g=(v.mach i).g:=⟨_,rfl⟩
 obtain⟨q,hq⟩:∃ q,q=(v.mach i).p:=⟨_,rfl⟩
 rw[←hg, ←hq]at C1
 rw[←hg]at k2
 rw[←hq]at k1
 clear h hf hl hj hr EQ hv2 hg hq
 go_enter Tryz.func91,Tryz.ntmps91
 go_wp2_with fail
 go_region_with (go_at_call 86;refine(C1.out _ ⟨_,rfl⟩).mono ?_;rintro e y ⟨rfl,o2,h2,e2⟩;have H2:=hid h2;have E2:=hid ((Ek.of_quiet (o:=o) (w:=w) ⟨1,rfl⟩).trans e2);have k22:=h2.m2 (i:=i) HL.out.2;have kf2:=h2.mfz;clear h2 e2)
 all_goals
  clear C1
  go_wp2
  go_end0
  exact⟨rfl,_,(H2.out.self HL.out.1 HL.out.2).v2 HL.out.1 HL.out.2 (-1),E2.out.trans (Ek.setM H2.out _ _)⟩
end
end Go.Proofs.YtkhigkcmgcafdaaGreatDoor
