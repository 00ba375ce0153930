/- Of Vx. -/
import Derived.Test.YtkhigkcmgcafdaaGreatDoorZ25
set_option linter.unusedVariables false
set_option linter.unusedSimpArgs false
set_option maxHeartbeats 16000000
set_option maxRecDepth 20000
namespace Go.Proofs.YtkhigkcmgcafdaaGreatDoor
open Go.RowKit
section
variable {B:Bk}{o o':Nat→Nat}{n n':Nat}{v v':Y.V}{w w' wx:World}{C:Nat→Prop}{i p:Nat}{tm:Int}
theorem crise1{w:World}{W pw pi b g:Nat}{xs:List Int}{c:Nat}{f now:Int}{sb:Nat}(ac:w.cell? ⟨W,12,none⟩=some (.pointer (some ⟨sb,0,none⟩)))(hs:Cb w W pw pi #[.int .i64 f, .int .i64 9223372036854775807] 214)(hm:Mem w b g xs c)(hc:c<1000000000)(h0:0≤f)(h1:f<xs.length)
 (hN:∀ y,Quiet w y→Calls Tryz.prog 21 #[.pointer (some ⟨sb,0,none⟩)] y fun e w'=>e = .returned (.int .i64 now)∧w'=y) :
 Calls Tryz.prog 150 #[.pointer (some ⟨b,0,none⟩), .pointer (some ⟨pi,0,none⟩), .pointer (some ⟨pw,0,none⟩)] w fun e w'=>e = .returned (.tuple #[])∧Mem w' b g (xs.set f.toNat (if xs.getD f.toNat 0=1 then 0 else xs.getD f.toNat 0)) (c+1)∧Only b g w w':=by
 have p0:w.cell? ⟨pw,0,none⟩=some (.pointer (some ⟨W,0,none⟩)):=blk_cell hs.a rfl
 have p1:w.cell? ⟨pi,0,none⟩=some (.int .i64 f):=blk_cell hs.b rfl
 have p2:w.cell? ⟨pi,1,none⟩=some (.int .i64 9223372036854775807):=blk_cell hs.b rfl
 have SW:=hid (fun(y:World) (hq:Quiet w y)=>(nslept b g xs c f now y (hm.quiet hq) hc h0 h1).mono (R':=fun e w'=>AnI e∧Mem w' b g (xs.set f.toNat (if xs.getD f.toNat 0=1 then 0 else xs.getD f.toNat 0)) (c+1)∧Only b g w w') fun e w' hx=>⟨hx.1,hx.2.1,(Only.of_quiet hq).trans hx.2.2⟩)
 have NW:=hid hN
 generalize xs.set f.toNat (if xs.getD f.toNat 0=1 then 0 else xs.getD f.toNat 0)=zs at SW ⊢
 clear hs hm hc h0 h1 hN
 go_enter Tryz.func150,Tryz.ntmps150
 go_wp2_with fail
 go_region_with (first
  | (go_at_call 21;refine(NW.out _ ⟨_,rfl⟩).mono ?_;rintro e y ⟨rfl,rfl⟩)
  | (go_at_call 151;refine(SW.out _ ⟨_,rfl⟩).mono ?_;rintro e w1 ⟨⟨_,rfl⟩,hm1,ho1⟩))
 all_goals
  have M1:=hid hm1
  have O1:=hid ho1
  clear hm1 ho1 SW
  go_wp2
  go_end0
  exact⟨rfl,M1.out,O1.out⟩
theorem rboth(h:WR B o n v w)(hf:Few n v)(hi:i<v.M){pw pi:Nat}(cb:Cb w B.W pw pi #[.int .i64 ((v.nts+i:Nat):Int), .int .i64 9223372036854775807] 214)(z:o pw=0∧o pi=0) :
 Calls Tryz.prog 110 #[.pointer (some ⟨B.W,0,none⟩), .func (.func 150) #[] #[.pointer (some ⟨pi,0,none⟩), .pointer (some ⟨pw,0,none⟩)]] w (Po B o (n+1) (.tuple #[]) (v.bothF (v.nts+i) fun x=>if x=1 then 0 else x) w):=by
 have hs:v.nts+i<v.wds:=by unfold Y.V.wds Y.V.sts;omega
 have a3:=h.w3
 obtain⟨z1,hz1⟩:∃ z1,z1=v.ms.set (v.nts+i) (if v.ms.getD (v.nts+i) 0=1 then 0 else v.ms.getD (v.nts+i) 0):=⟨_,rfl⟩
 obtain⟨z2,hz2⟩:∃ z2,z2=v.ns.set (v.nts+i) (if v.ns.getD (v.nts+i) 0=1 then 0 else v.ns.getD (v.nts+i) 0):=⟨_,rfl⟩
 have hms:=hf.ms
 have hns:=hf.ns
 have hmc:=hf.mc
 have hn:=hf.n
 have C1:=hid (show Calls Tryz.prog 150 #[.pointer (some ⟨B.b1,0,none⟩), .pointer (some ⟨pi,0,none⟩), .pointer (some ⟨pw,0,none⟩)] w (fun e w'=>e = .returned (.tuple #[])∧WR B o n { v with ms:=z1,mc:=v.mc+1 } w'∧Ek o o w w') by
  refine(crise1 h.w12 cb h.c2.2 (by omega) (by omega) (by omega) (fun y hq=>wsnow (h.quiet hq))).mono ?_
  rintro e y ⟨rfl,y1,y2⟩
  rw[Int.toNat_natCast, ←hz1]at y1
  exact⟨rfl,h.mem1 y1 y2⟩)
 have C2:=hid (fun(y:World) (hy:WR B o n { v with ms:=z1,mc:=v.mc+1 } y) (hk:Ek o o w y)=>(show Calls Tryz.prog 150 #[.pointer (some ⟨B.b2,0,none⟩), .pointer (some ⟨pi,0,none⟩), .pointer (some ⟨pw,0,none⟩)] y (fun e w'=>e = .returned (.tuple #[])∧WR B o (n+1) (v.bothF (v.nts+i) fun x=>if x=1 then 0 else x) w'∧Ek o o y w') by
  obtain⟨_,d,hd,m2⟩:=hy.c3
  have ap:=hy.apart
  refine(crise1 hy.w12 ⟨hk.blk cb.a z.1,hk.blk cb.b z.2⟩ m2 (by omega) (by omega) (by rw[show Y.V.ns ({ v with ms:=z1,mc:=v.mc+1 }:Y.V)=v.ns from rfl];omega) (fun x hq=>wsnow (hy.quiet hq))).mono ?_
  rintro e x ⟨rfl,y1,y2⟩
  rw[Int.toNat_natCast]at y1
  have:=hy.mems (Nat.le_succ n) (hy.c2.2.other y2 ap.1 ap.2.1 ap.2.2.1 ap.2.2.2.1) y1 (by omega) (OnL.of_only y2 (by simp) (by simp))
  rw[show Y.V.ns ({ v with ms:=z1,mc:=v.mc+1 }:Y.V)=v.ns from rfl, ←hz2]at this
  refine⟨rfl,?_,this.2⟩
  unfold Y.V.bothF
  rw[←hz1, ←hz2]
  exact this.1))
 clear h hf hi cb z hs hz1 hz2 hms hns hmc hn
 go_enter Tryz.func110,Tryz.ntmps110
 go_wp2_with fail
 refine C1.out.mono ?_
 rintro e y ⟨rfl,h1,e1⟩
 have E1:=hid e1
 have C3:=hid (C2.out y h1 e1)
 have a4:=h1.w4
 clear h1 e1 C1 C2 a3
 go_wp2_with fail
 refine C3.out.mono ?_
 rintro e y3 ⟨rfl,h2,e2⟩
 have FIN:=hid (And.intro h2 (E1.out.trans e2))
 clear h2 e2
 go_wp2
 go_end0
 exact⟨rfl,o,FIN.out.1,FIN.out.2⟩
theorem wrise(h:WR B o n v w)(hf:Few n v)(hl:v.mm.length=v.M)(hi:i<v.M):Calls Tryz.prog 104 #[.pointer (some ⟨B.W,0,none⟩), .int .i64 (i:Int)] w (Po B o (n+1) (.tuple #[]) (v.rise i) w):=by
 have I0:(0:Int)≤(i:Int):=by omega
 have I1:(i:Int)<(v.M:Int):=by omega
 have hmf:∀(fn:Fn) (first cap:Array Value) (w:World),(Instr.makeFunc fn first cap).run Tryz.prog w = .ok (.func fn first cap) w:=fun _ _ _ _=>rfl
 obtain⟨nz,hnz⟩:∃ nz:Int,nz=((v.nts+i:Nat):Int):=⟨_,rfl⟩
 have ⟨cb,bl⟩:=two_in w B.W #[.int .i64 nz, .int .i64 9223372036854775807] 214
 have HK:=h.below bl
 have BL:=hid bl
 have BT:=hid (rboth HK hf hi (by rw[←hnz];exact cb) ⟨h.fresh (Nat.le_refl _),h.fresh (Nat.le_succ _)⟩)
 have hwd:=hf.wd
 obtain⟨nt,hnt⟩:∃ nt:Int,nt=(v.nts:Nat):=⟨_,rfl⟩
 have hwr:IntKind.i64.wrap (nt+(i:Int))=nz:=by
  rw[hnz,hnt,IntWalk.i64_in _ (by unfold Y.V.wds Y.V.sts at hwd;omega)];omega
 obtain⟨v2,hv2⟩:∃ v2:Y.V,v2=v.bothF (v.nts+i) fun x=>if x=1 then 0 else x:=⟨_,rfl⟩
 have HL:=hid (show v2.mm.length=v2.M∧i<v2.M by rw[hv2];exact⟨hl,hi⟩)
 have EQ:=hid (show v.rise i=v2.onM i fun m=>if m.nx = -1 then m.deliver 13 else { m with p:=m.nx,nx := -1,spin:=true,pl:=4 } by rw[hv2];rfl)
 rw[EQ.out]
 rw[←hv2]at BT
 obtain⟨v3,hv3⟩:∃ v3,v3=v2.onM i fun m=>if m.nx = -1 then m.deliver 13 else { m with p:=m.nx,nx := -1,spin:=true,pl:=4 }:=⟨_,rfl⟩
 have HV3:=hid hv3
 rw[←hv3]
 clear hv3
 have a14:=h.w14
 have a6:=h.w6
 rw[←hnt]at a6
 have b14:=HK.w14
 have hW:=cell_lt a14
 clear h hf hl hi cb bl HK hwd hnt hv2 EQ hnz
 go_enter Tryz.func104,Tryz.ntmps104
 go_wp2_with fail
 refine BT.out.mono ?_
 rintro e y ⟨rfl,o2,h2,e2⟩
 have H2:=hid h2
 have E2:=hid ((Ek.of_below (o:=o) BL.out).trans e2)
 have k3:=h2.m3 (i:=i) HL.out.2
 have k1:=h2.m1 (i:=i) HL.out.2
 have k7:=h2.m7 (i:=i) HL.out.2
 have k0:=h2.m0 (i:=i) HL.out.2
 have kf:=h2.mfz
 obtain⟨nx,hnx⟩:∃ nx,nx=(v2.mach i).nx:=⟨_,rfl⟩
 rw[←hnx]at k3
 have HX:=hid hnx
 have DL:=hid (mdeliver h2 HL.out.1 HL.out.2 13)
 clear h2 e2 BT a14 a6 hwr hnx
 by_cases hx:nx = -1
 ·have EQ:=hid (show (v2.onM i fun m=>if m.nx = -1 then m.deliver 13 else { m with p:=m.nx,nx := -1,spin:=true,pl:=4 })=v2.onM i (·.deliver 13) by
   rw[onM_putM,onM_putM,if_pos (HX.out.symm.trans hx)])
  rw[hx]at k3
  clear hx
  go_wp2_with fail
  refine DL.out.mono ?_
  rintro e y3 ⟨rfl,o3,h3,e3⟩
  have FIN:=hid (And.intro h3 (E2.out.trans e3))
  clear h3 e3 DL
  go_wp2
  go_end0
  exact⟨rfl,o3,by rw[HV3.out,EQ.out];exact FIN.out.1,FIN.out.2⟩
 ·have EQ:=hid (show (v2.onM i fun m=>if m.nx = -1 then m.deliver 13 else { m with p:=m.nx,nx := -1,spin:=true,pl:=4 })=v2.putM i { v2.mach i with p:=nx,nx := -1,spin:=true,pl:=4 } by
   rw[onM_putM,if_neg (fun e=>hx (HX.out.trans e)),HX.out])
  have tx:(nx == -1)=false:=beq_eq_false_iff_ne.2 hx
  clear hx DL
  go_wp2
  go_end0
  have U0:=H2.out.self HL.out.1 HL.out.2
  have U1:=U0.v1 HL.out.1 HL.out.2 nx
  have U2:=U1.v3 HL.out.1 HL.out.2 (-1)
  have U3:=U2.v7 HL.out.1 HL.out.2 true
  exact⟨rfl,o2,by rw[HV3.out,EQ.out];exact U3.v0 HL.out.1 HL.out.2 4,E2.out.trans ((Ek.setM U0 (i*20+1) (.int .i64 nx)).trans ((Ek.setM U1 (i*20+3) (.int .i64 (-1))).trans ((Ek.setM U2 (i*20+7) (.bool true)).trans (Ek.setM U3 (i*20) (.int .i64 4)))))⟩
theorem pass_16(h:WR B o n v w)(hi:i<v.M)(hp:(v.mach i).pl=16){v1:Y.V}(HC:Calls Tryz.prog 104 #[.pointer (some ⟨B.W,0,none⟩), .int .i64 (i:Int)] w (Po B o n' (.tuple #[]) v1 w)):Calls Tryz.prog 62 #[.pointer (some ⟨B.W,0,none⟩), .int .i64 (i:Int)] w (Po B o n' (.tuple #[]) v1 w):=by
 have I0:(0:Int)≤(i:Int):=by omega
 have I1:(i:Int)<(v.M:Int):=by omega
 have a14:=h.w14
 have k0:=h.m0 hi
 have C1:=hid HC
 rw[hp]at k0
 clear h hp HC
 go_enter Tryz.func62,Tryz.ntmps62
 go_wp2_with fail
 refine C1.out.mono ?_
 rintro e y ⟨rfl,o2,h2,e2⟩
 have H2:=hid h2
 have E2:=hid e2
 clear h2 e2 C1
 go_wp2
 go_end0
 exact⟨rfl,o2,H2.out,E2.out⟩
end
end Go.Proofs.YtkhigkcmgcafdaaGreatDoor
