/- Of Ve. -/
import Derived.Test.YtkhigkcmgcafdaaGreatDoorZ18
set_option linter.unusedVariables false
set_option linter.unusedSimpArgs false
set_option maxHeartbeats 16000000
set_option maxRecDepth 20000
namespace Go.Proofs.YtkhigkcmgcafdaaGreatDoor
open Go.RowKit
section
variable {B:Bk}{o o':Nat→Nat}{n n':Nat}{v v':Y.V}{w w' wx:World}{C:Nat→Prop}{i p:Nat}
theorem with_6(h:WR B o n v w)(hl:v.mm.length=v.M)(hi:i<v.M)(hp:(v.mach i).pl=6)(hpp:(v.mach i).p=(p:Int))(hpP:p<v.P){q k:Nat}(hqq:(v.mach i).i=(q:Int))(hq:q≤1000)(hP64:v.P≤64)(hk:k=(p+q) % v.P)(hrs:v.rs.length=v.P)(tm:Int):Calls Tryz.prog 99 #[.pointer (some ⟨B.W,0,none⟩), .int .i64 (i:Int), .int .i64 tm] w (Po B o n (.bool false) ((v.putR k (v.ring k).steal.2).onM i (·.getAll (v.ring k).steal.1)) w):=by
 have I0:(0:Int)≤(i:Int):=by omega
 have I1:(i:Int)<(v.M:Int):=by omega
 have a14:=h.w14
 have k0:=h.m0 hi
 have kf:=h.mfz
 have hkP:k<v.P:=by rw[hk];exact Nat.mod_lt _ (by omega)
 have a0:=h.w0
 have a9:=h.w9
 obtain⟨rg,rc,hrv,hrc⟩:=h.rv (Nat.lt_of_le_of_lt (Nat.zero_le _) hpP)
 rw[hrv]at a9
 have kr:=hrc k hkP
 have k1:=h.m1 hi
 rw[hpp]at k1
 have k6:=h.m6 hi
 rw[hqq]at k6
 have P0:(0:Int)≤(k:Int):=by omega
 have P1:(k:Int)<(v.P:Int):=by omega
 obtain⟨PP,hPP⟩:∃ PP:Int,PP=v.P:=⟨_,rfl⟩
 obtain⟨pp,hpp2⟩:∃ pp:Int,pp=p:=⟨_,rfl⟩
 obtain⟨qq,hqq2⟩:∃ qq:Int,qq=q:=⟨_,rfl⟩
 obtain⟨ss,hss⟩:∃ ss:Int,ss=pp+qq:=⟨_,rfl⟩
 have hsum:IntKind.i64.wrap (pp+qq)=ss:=by rw[hss];exact IntWalk.i64_in _ (by omega)
 have htm:ss.tmod PP=(k:Int):=by rw[Int.tmod_eq_emod_of_nonneg (by omega),hk,hss,hpp2,hqq2,hPP,Int.natCast_emod,Int.natCast_add]
 have hz:(PP == 0)=false:=beq_eq_false_iff_ne.2 (by omega)
 have hz2:¬PP=0:=by omega
 have hz3:(PP=0)=False:=eq_false hz2
 have hz4:decide (PP=0)=false:=decide_eq_false hz2
 have hwk:IntKind.i64.wrap (k:Int)=(k:Int):=IntWalk.i64_in _ (by omega)
 rw[←hPP]at a0
 rw[←hpp2]at k1
 rw[←hqq2]at k6
 clear hPP hpp2 hqq2 hss
 have HH:=hid h
 have C1:=hid (fun(x:World) (hq:Quiet w x)=>rsteal (h.quiet hq) hrs hkP)
 have HL:=hid ((⟨hl,hi⟩:(v.putR k (v.ring k).steal.2).mm.length=(v.putR k (v.ring k).steal.2).M∧i<(v.putR k (v.ring k).steal.2).M))
 rw[hp]at k0
 obtain⟨xs,hxs⟩:∃ xs,xs=(v.ring k).steal.1:=⟨_,rfl⟩
 rw[←hxs]at C1 ⊢
 clear h hp hpp hqq hq hk hrc hrv hrs hxs
 go_enter Tryz.func99,Tryz.ntmps99
 go_wp2_with fail
 go_region_with (first
  | (go_at_call 135;refine(C1.out _ ⟨_,rfl⟩).mono ?_;rintro e y ⟨rv,o2,rfl,hr2,h2,e2⟩;obtain⟨ra,rc2,rfl,hrr⟩:=hr2.rd;have HR2:=hid hr2;clear hrr hr2)
  | (go_at_call 133;refine(mgetAll h2 HL.out.1 HL.out.2 _ xs HR2.out).mono ?_;rintro e z ⟨rfl,o3,h3,e3⟩))
 all_goals
  have H3:=hid h3
  have E3:=hid ((Ek.of_quiet (o:=o) (w:=w) ⟨1,rfl⟩).trans (e2.trans e3))
  clear h3 e3 h2 e2 C1
  go_wp2
  go_ret
  exact⟨rfl,o3,H3.out,E3.out⟩
end
end Go.Proofs.YtkhigkcmgcafdaaGreatDoor
