/- Of Vw. -/
import Derived.Test.YtkhigkcmgcafdaaGreatDoorZ25
set_option linter.unusedVariables false
set_option linter.unusedSimpArgs false
set_option maxHeartbeats 16000000
set_option maxRecDepth 20000
namespace Go.Proofs.YtkhigkcmgcafdaaGreatDoor
open Go.RowKit
section
variable {B:Bk}{o o':Nat→Nat}{n n':Nat}{v v':Y.V}{w w' wx:World}{C:Nat→Prop}{i p:Nat}{tm:Int}
theorem wswap1(h:WR B o n v w)(hl:v.ms.length=v.wds)(hm:v.mc<1000000)(k:Nat)(hk:k<v.wds)(q x:Int):Calls Tryz.prog 106 #[.pointer (some ⟨B.b1,0,none⟩), .int .i64 (k:Nat), .int .u64 q, .int .u64 x] w fun e w'=>e = .returned (.bool (decide (v.ms.getD k 0=q)))∧WR B o n { v with ms:=v.ms.set k (if v.ms.getD k 0=q then x else v.ms.getD k 0),mc:=v.mc+1 } w'∧Ek o o w w':=by
 refine(mswap B.b1 B.g1 v.ms v.mc (k:Nat) q x w h.c2.2 (by omega) (by omega) (by omega)).mono ?_
 rintro e y ⟨rfl,y1,y2⟩
 rw[Int.toNat_natCast]at y1
 rw[Int.toNat_natCast]
 exact⟨rfl,h.mem1 y1 y2⟩
theorem wswap2(h:WR B o n v w)(hl:v.ns.length=v.wds)(hm:n<1000000)(k:Nat)(hk:k<v.wds)(q x:Int):Calls Tryz.prog 106 #[.pointer (some ⟨B.b2,0,none⟩), .int .i64 (k:Nat), .int .u64 q, .int .u64 x] w fun e w'=>AnB e∧WR B o (n+1) { v with ns:=v.ns.set k (if v.ns.getD k 0=q then x else v.ns.getD k 0) } w'∧Ek o o w w':=by
 obtain⟨_,d,hd,m2⟩:=h.c3
 have ap:=h.apart
 refine(mswap B.b2 B.g2 v.ns d (k:Nat) q x w m2 (by omega) (by omega) (by omega)).mono ?_
 rintro e y ⟨rfl,y1,y2⟩
 rw[Int.toNat_natCast]at y1
 exact⟨⟨_,rfl⟩,h.mems (Nat.le_succ n) (h.c2.2.other y2 ap.1 ap.2.1 ap.2.2.1 ap.2.2.2.1) y1 (by omega) (OnL.of_only y2 (by simp) (by simp))⟩
theorem pass_22(h:WR B o n v w)(hf:Few n v)(hl:v.mm.length=v.M)(hi:i<v.M)(hp:(v.mach i).pl=22)(b:Bool)(hb:decide (v.ms.getD v.spn 0=0)=b):Calls Tryz.prog 62 #[.pointer (some ⟨B.W,0,none⟩), .int .i64 (i:Int)] w (Po B o (n+1) (.tuple #[]) ((v.bothF v.spn fun x=>if x=0 then 1 else x).onM i fun m => { m with pl:=if b then 23 else m.back }) w):=by
 have I0:(0:Int)≤(i:Int):=by omega
 have I1:(i:Int)<(v.M:Int):=by omega
 have a14:=h.w14
 have a3:=h.w3
 have a5:=h.w5
 have k0:=h.m0 hi
 rw[hp]at k0
 have hs:v.spn<v.wds:=by unfold Y.V.wds Y.V.sts Y.V.nts;omega
 obtain⟨z1,hz1⟩:∃ z1,z1=v.ms.set v.spn (if v.ms.getD v.spn 0=0 then 1 else v.ms.getD v.spn 0):=⟨_,rfl⟩
 obtain⟨z2,hz2⟩:∃ z2,z2=v.ns.set v.spn (if v.ns.getD v.spn 0=0 then 1 else v.ns.getD v.spn 0):=⟨_,rfl⟩
 have C1:=hid (fun(y:World) (hq:Quiet w y)=>wswap1 (h.quiet hq) hf.ms hf.mc v.spn hs 0 1)
 rw[←hz1,hb]at C1
 obtain⟨v1,hv1⟩:∃ v1:Y.V,v1 = { v with ms:=z1,mc:=v.mc+1 }:=⟨_,rfl⟩
 rw[←hv1]at C1
 have C2:=hid (fun(y:World) (hy:WR B o n v1 y)=>wswap2 hy (by rw[hv1];exact hf.ns) hf.n v.spn (by rw[hv1];exact hs) 0 1)
 obtain⟨v2,hv2⟩:∃ v2:Y.V,v2=v.bothF v.spn fun x=>if x=0 then 1 else x:=⟨_,rfl⟩
 have e12:({ v1 with ns:=v1.ns.set v.spn (if v1.ns.getD v.spn 0=0 then 1 else v1.ns.getD v.spn 0) }:Y.V)=v2:=by rw[hv1,hv2,hz1];rfl
 rw[e12]at C2
 rw[←hv2]
 have HL:=hid (show (v1.mm.length=v1.M∧i<v1.M)∧v2.mm.length=v2.M∧i<v2.M by rw[hv1,hv2];exact⟨⟨hl,hi⟩,hl,hi⟩)
 have SP:=hid (show v1.spn=v.spn by rw[hv1];rfl)
 have VM:=hid (show v1.M=v.M by rw[hv1])
 obtain⟨bk,hbk⟩:∃ bk,bk=(v.mach i).back:=⟨_,rfl⟩
 have HBK:=hid (show (v2.mach i).back=bk by rw[hv2,hbk];rfl)
 have EI:=hid (fun(y:World)=>either_any y b 23 bk)
 have VE:=hid (show (v2.onM i fun m => { m with pl:=if b then 23 else m.back })=v2.onM i fun m => { m with pl:=if b then 23 else bk } by rw[onM_putM,onM_putM,HBK.out])
 rw[VE.out]
 clear h hf hl hp hs hbk hz1 hz2 hv1 hv2 e12 VE hb
 rcases b with _|_
 all_goals
  go_enter Tryz.func62,Tryz.ntmps62
  go_wp2_with fail
  go_region_with (go_at_call 106;refine(C1.out _ ⟨_,rfl⟩).mono ?_;rintro e y ⟨rfl,h1,e1⟩;have W1:=hid h1;have E1:=hid ((Ek.of_quiet (o:=o) (w:=w) ⟨1,rfl⟩).trans e1);have b4:=h1.w4;have b5:=h1.w5;rw[SP.out]at b5;have b14:=h1.w14;rw[VM.out]at b14;clear h1 e1)
  all_goals
   clear C1
   go_wp2_with fail
   have C3:=hid (fun(x:World) (hq:Quiet y x)=>C2.out x (W1.out.quiet hq))
   go_region_with (go_at_call 106;refine(C3.out _ ⟨_,rfl⟩).mono ?_;rintro e y2 ⟨⟨_,rfl⟩,h2,e2⟩;have W2:=hid h2;have E2:=hid (E1.out.trans ((Ek.of_quiet (o:=o) (w:=y) ⟨1,rfl⟩).trans e2));have kf2:=h2.mfz;have q0:=h2.m0 (i:=i) HL.out.2.2;have q10:=h2.m10 (i:=i) HL.out.2.2;rw[HBK.out]at q10;clear h2 e2)
   all_goals
    clear C2 C3
    go_wp2_with fail
    refine(EI.out _).mono ?_
    rintro e y3 ⟨rfl,rfl⟩
    go_wp2
    go_end0
    exact⟨rfl,_,(W2.out.self HL.out.2.1 HL.out.2.2).v0 HL.out.2.1 HL.out.2.2 _,E2.out.trans (Ek.setM W2.out (i*20) _)⟩
end
end Go.Proofs.YtkhigkcmgcafdaaGreatDoor
