/- Of Vs. -/
import Derived.Test.YtkhigkcmgcafdaaGreatDoorZ25
set_option linter.unusedVariables false
set_option linter.unusedSimpArgs false
set_option maxHeartbeats 16000000
set_option maxRecDepth 20000
namespace Go.Proofs.YtkhigkcmgcafdaaGreatDoor
open Go.RowKit
section
variable {B:Bk}{o o':Nat→Nat}{n n':Nat}{v v':Y.V}{w w' wx:World}{C:Nat→Prop}{i p:Nat}{tm:Int}
theorem pass_8(h:WR B o n v w)(hf:Few n v)(hl:v.mm.length=v.M)(hi:i<v.M)(hp:(v.mach i).pl=8)  : Calls Tryz.prog 62 #[.pointer (some ⟨B.W,0,none⟩), .int .i64 (i:Int)] w (Po B o (n+1) (.tuple #[]) ((v.spin (-1)).onM i fun m => { m with spin:=false,i:=0,pl:=9 }) w):=by
 have I0:(0:Int)≤(i:Int):=by omega
 have I1:(i:Int)<(v.M:Int):=by omega
 have a14:=h.w14
 have k0:=h.m0 hi
 obtain⟨v1,hv1⟩:∃ v1,v1=(v.spin (-1)).onM i fun m => { m with spin:=false }:=⟨_,rfl⟩
 have C1:=hid (show Calls Tryz.prog 102 #[.pointer (some ⟨B.W,0,none⟩),mp B i, .bool false] w (Po B o (n+1) (.tuple #[]) v1 w) by rw[hv1];exact wsetSpin h hf hl hi false)
 have HL:=hid (show v1.mm.length=v1.M∧i<v1.M by rw[hv1];exact⟨putM_len _ _ _ hl,hi⟩)
 have EQ:=hid (show (v1.onM i fun m => { m with i:=0,pl:=9 })=(v.spin (-1)).onM i fun m => { m with spin:=false,i:=0,pl:=9 } by rw[hv1];exact onM_onM (v.spin (-1)) i hl hi _ _)
 rw[←EQ.out]
 rw[hp]at k0
 clear h hf hl hp hv1 EQ
 go_enter Tryz.func62,Tryz.ntmps62
 go_wp2_with fail
 refine C1.out.mono ?_
 rintro e y ⟨rfl,o2,h2,e2⟩
 have H2:=hid h2
 have E2:=hid e2
 have q6:=h2.m6 (i:=i) HL.out.2
 have q0:=h2.m0 (i:=i) HL.out.2
 have kf2:=h2.mfz
 clear h2 e2 C1
 go_wp2
 go_end0
 have U0:=H2.out.self HL.out.1 HL.out.2
 have U1:=U0.v6 HL.out.1 HL.out.2 (0)
 have U2:=U1.v0 HL.out.1 HL.out.2 (9)
 exact⟨rfl,o2,U2,E2.out.trans ((Ek.setM U0 (i*20+6) (.int .i64 (0))).trans (Ek.setM U1 (i*20) (.int .i64 (9))))⟩
theorem pass_12(h:WR B o n v w)(hf:Few n v)(hl:v.mm.length=v.M)(hi:i<v.M)(hp:(v.mach i).pl=12)  : Calls Tryz.prog 62 #[.pointer (some ⟨B.W,0,none⟩), .int .i64 (i:Int)] w (Po B o (n+1) (.tuple #[]) ((v.spin (1)).onM i fun m => { m with spin:=true,pl:=4 }) w):=by
 have I0:(0:Int)≤(i:Int):=by omega
 have I1:(i:Int)<(v.M:Int):=by omega
 have a14:=h.w14
 have k0:=h.m0 hi
 obtain⟨v1,hv1⟩:∃ v1,v1=(v.spin (1)).onM i fun m => { m with spin:=true }:=⟨_,rfl⟩
 have C1:=hid (show Calls Tryz.prog 102 #[.pointer (some ⟨B.W,0,none⟩),mp B i, .bool true] w (Po B o (n+1) (.tuple #[]) v1 w) by rw[hv1];exact wsetSpin h hf hl hi true)
 have HL:=hid (show v1.mm.length=v1.M∧i<v1.M by rw[hv1];exact⟨putM_len _ _ _ hl,hi⟩)
 have EQ:=hid (show (v1.onM i fun m => { m with pl:=4 })=(v.spin (1)).onM i fun m => { m with spin:=true,pl:=4 } by rw[hv1];exact onM_onM (v.spin (1)) i hl hi _ _)
 rw[←EQ.out]
 rw[hp]at k0
 clear h hf hl hp hv1 EQ
 go_enter Tryz.func62,Tryz.ntmps62
 go_wp2_with fail
 refine C1.out.mono ?_
 rintro e y ⟨rfl,o2,h2,e2⟩
 have H2:=hid h2
 have E2:=hid e2
 have q0:=h2.m0 (i:=i) HL.out.2
 have kf2:=h2.mfz
 clear h2 e2 C1
 go_wp2
 go_end0
 have U0:=H2.out.self HL.out.1 HL.out.2
 have U1:=U0.v0 HL.out.1 HL.out.2 (4)
 exact⟨rfl,o2,U1,E2.out.trans ((Ek.setM U0 (i*20) (.int .i64 (4))))⟩
theorem pass_19(h:WR B o n v w)(hf:Few n v)(hl:v.mm.length=v.M)(hi:i<v.M)(hp:(v.mach i).pl=19)  : Calls Tryz.prog 62 #[.pointer (some ⟨B.W,0,none⟩), .int .i64 (i:Int)] w (Po B o (n+1) (.tuple #[]) ((v.spin (-1)).onM i fun m => { m with spin:=false,pl:=21 }) w):=by
 have I0:(0:Int)≤(i:Int):=by omega
 have I1:(i:Int)<(v.M:Int):=by omega
 have a14:=h.w14
 have k0:=h.m0 hi
 obtain⟨v1,hv1⟩:∃ v1,v1=(v.spin (-1)).onM i fun m => { m with spin:=false }:=⟨_,rfl⟩
 have C1:=hid (show Calls Tryz.prog 102 #[.pointer (some ⟨B.W,0,none⟩),mp B i, .bool false] w (Po B o (n+1) (.tuple #[]) v1 w) by rw[hv1];exact wsetSpin h hf hl hi false)
 have HL:=hid (show v1.mm.length=v1.M∧i<v1.M by rw[hv1];exact⟨putM_len _ _ _ hl,hi⟩)
 have EQ:=hid (show (v1.onM i fun m => { m with pl:=21 })=(v.spin (-1)).onM i fun m => { m with spin:=false,pl:=21 } by rw[hv1];exact onM_onM (v.spin (-1)) i hl hi _ _)
 rw[←EQ.out]
 rw[hp]at k0
 clear h hf hl hp hv1 EQ
 go_enter Tryz.func62,Tryz.ntmps62
 go_wp2_with fail
 refine C1.out.mono ?_
 rintro e y ⟨rfl,o2,h2,e2⟩
 have H2:=hid h2
 have E2:=hid e2
 have q0:=h2.m0 (i:=i) HL.out.2
 have kf2:=h2.mfz
 clear h2 e2 C1
 go_wp2
 go_end0
 have U0:=H2.out.self HL.out.1 HL.out.2
 have U1:=U0.v0 HL.out.1 HL.out.2 (21)
 exact⟨rfl,o2,U1,E2.out.trans ((Ek.setM U0 (i*20) (.int .i64 (21))))⟩
theorem pass_5(h:WR B o n v w)(hf:Few n v)(hl:v.mm.length=v.M)(hi:i<v.M)(hp:(v.mach i).pl=5)  : Calls Tryz.prog 62 #[.pointer (some ⟨B.W,0,none⟩), .int .i64 (i:Int)] w (Po B o (n+1) (.tuple #[]) ((v.spin 1).onM i fun m=>({ m with spin:=true }:Y.Mh).steal v.P 1) w):=by
 have I0:(0:Int)≤(i:Int):=by omega
 have I1:(i:Int)<(v.M:Int):=by omega
 have a14:=h.w14
 have k0:=h.m0 hi
 obtain⟨v1,hv1⟩:∃ v1,v1=(v.spin 1).onM i fun m => { m with spin:=true }:=⟨_,rfl⟩
 have C1:=hid (show Calls Tryz.prog 102 #[.pointer (some ⟨B.W,0,none⟩),mp B i, .bool true] w (Po B o (n+1) (.tuple #[]) v1 w) by rw[hv1];exact wsetSpin h hf hl hi true)
 have HL:=hid (show v1.mm.length=v1.M∧i<v1.M by rw[hv1];exact⟨putM_len _ _ _ hl,hi⟩)
 have EQ:=hid (show (v1.onM i (·.steal v1.P 1))=(v.spin 1).onM i fun m=>({ m with spin:=true }:Y.Mh).steal v.P 1 by rw[hv1];exact onM_onM (v.spin 1) i hl hi _ _)
 rw[←EQ.out]
 rw[hp]at k0
 clear h hf hl hp hv1 EQ
 go_enter Tryz.func62,Tryz.ntmps62
 go_wp2_with fail
 refine C1.out.mono ?_
 rintro e y ⟨rfl,o2,h2,e2⟩
 have C2:=hid (wsteal h2 HL.out.1 HL.out.2 1)
 have E2:=hid e2
 clear h2 e2 C1
 go_wp2_with fail
 refine C2.out.mono ?_
 rintro e y3 ⟨rfl,o3,h3,e3⟩
 have H3:=hid h3
 have E3:=hid (E2.out.trans e3)
 clear h3 e3 C2
 go_wp2
 go_end0
 exact⟨rfl,o3,H3.out,E3.out⟩
end
end Go.Proofs.YtkhigkcmgcafdaaGreatDoor
