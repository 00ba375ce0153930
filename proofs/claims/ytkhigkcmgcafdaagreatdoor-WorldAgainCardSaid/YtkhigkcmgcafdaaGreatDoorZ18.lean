/- Of Vd. -/
import Derived.Test.YtkhigkcmgcafdaaGreatDoorZ17
set_option linter.unusedVariables false
set_option linter.unusedSimpArgs false
set_option maxHeartbeats 16000000
set_option maxRecDepth 20000
namespace Go.Proofs.YtkhigkcmgcafdaaGreatDoor
open Go.RowKit
section
variable {B:Bk}{o o':Nat→Nat}{n n':Nat}{v v':Y.V}{w w' wx:World}{C:Nat→Prop}{i p:Nat}
theorem one_mm(v:Y.V):v.one.2.mm=v.mm∧v.one.2.M=v.M:=by
 unfold Y.V.one;rcases v.qu with _|⟨x,l⟩ <;> exact⟨rfl,rfl⟩
theorem with_2(h:WR B o n v w)(hl:v.mm.length=v.M)(hi:i<v.M)(hp:(v.mach i).pl=2)  (tm:Int):Calls Tryz.prog 99 #[.pointer (some ⟨B.W,0,none⟩), .int .i64 (i:Int), .int .i64 tm] w (Po B o n (.bool false) (v.one.2.onM i (·.get v.one.1)) w):=by
 have I0:(0:Int)≤(i:Int):=by omega
 have I1:(i:Int)<(v.M:Int):=by omega
 have a14:=h.w14
 have k0:=h.m0 hi
 have kf:=h.mfz
 have a11:=h.w11
 have C1:=hid (wqone h)
 have HL:=hid ((⟨by rw[(one_mm v).1,(one_mm v).2];exact hl,by rw[(one_mm v).2];exact hi⟩:v.one.2.mm.length=v.one.2.M∧i<v.one.2.M))
 rw[hp]at k0
 clear h hp
 go_enter Tryz.func99,Tryz.ntmps99
 go_wp2_with fail
 refine C1.out.mono ?_
 rintro e y ⟨rfl,o2,h2,e2⟩
 have D:=hid (mget h2 HL.out.1 HL.out.2 v.one.1.1 v.one.1.2)
 have E2:=hid e2
 clear h2 e2 C1
 go_wp2_with fail
 refine D.out.mono ?_
 rintro e y2 ⟨rfl,o3,h3,e3⟩
 have H3:=hid h3
 have E3:=hid e3
 clear h3 e3 D
 go_wp2
 go_ret
 exact⟨rfl,o3,H3.out,E2.out.trans E3.out⟩
theorem with_11(h:WR B o n v w)(hl:v.mm.length=v.M)(hi:i<v.M)(hp:(v.mach i).pl=11)(hps:v.id.ps.length=v.P)(tm:Int):Calls Tryz.prog 99 #[.pointer (some ⟨B.W,0,none⟩), .int .i64 (i:Int), .int .i64 tm] w (Po B o n (.bool false) ((v.putI v.id.takeP.2).onM i (·.hold v.id.takeP.1)) w):=by
 have I0:(0:Int)≤(i:Int):=by omega
 have I1:(i:Int)<(v.M:Int):=by omega
 have a14:=h.w14
 have k0:=h.m0 hi
 have kf:=h.mfz
 have a13:=h.w13
 have C1:=hid (wtakeP h hps)
 have HL:=hid ((⟨hl,hi⟩:(v.putI v.id.takeP.2).mm.length=(v.putI v.id.takeP.2).M∧i<(v.putI v.id.takeP.2).M))
 rw[hp]at k0
 clear h hp hps
 go_enter Tryz.func99,Tryz.ntmps99
 go_wp2_with fail
 refine C1.out.mono ?_
 rintro e y ⟨rfl,o2,h2,e2⟩
 have D:=hid (mhold h2 HL.out.1 HL.out.2 v.id.takeP.1.1 v.id.takeP.1.2)
 have E2:=hid e2
 clear h2 e2 C1
 go_wp2_with fail
 refine D.out.mono ?_
 rintro e y2 ⟨rfl,o3,h3,e3⟩
 have H3:=hid h3
 have E3:=hid e3
 clear h3 e3 D
 go_wp2
 go_ret
 exact⟨rfl,o3,H3.out,E2.out.trans E3.out⟩
theorem with_3(h:WR B o n v w)(hl:v.mm.length=v.M)(hi:i<v.M)(hp:(v.mach i).pl=3)(hpp:(v.mach i).p=(p:Int))(hpP:p<v.P)(hrs:v.rs.length=v.P)(tm:Int):Calls Tryz.prog 99 #[.pointer (some ⟨B.W,0,none⟩), .int .i64 (i:Int), .int .i64 tm] w (Po B o n (.bool false) ((v.putR p (v.ring p).get.2).onM i (·.get (v.ring p).get.1)) w):=by
 have I0:(0:Int)≤(i:Int):=by omega
 have I1:(i:Int)<(v.M:Int):=by omega
 have a14:=h.w14
 have k0:=h.m0 hi
 have kf:=h.mfz
 have a9:=h.w9
 obtain⟨rg,rc,hrv,hrc⟩:=h.rv (Nat.lt_of_le_of_lt (Nat.zero_le _) hpP)
 rw[hrv]at a9
 have kr:=hrc p hpP
 have k1:=h.m1 hi
 rw[hpp]at k1
 have P0:(0:Int)≤(p:Int):=by omega
 have P1:(p:Int)<(v.P:Int):=by omega
 have HH:=hid h
 have C1:=hid (fun(x:World) (hq:Quiet w x)=>rget (h.quiet hq) hrs hpP)
 have HL:=hid ((⟨hl,hi⟩:(v.putR p (v.ring p).get.2).mm.length=(v.putR p (v.ring p).get.2).M∧i<(v.putR p (v.ring p).get.2).M))
 rw[hp]at k0
 clear h hp hpp hrc hrv hrs
 go_enter Tryz.func99,Tryz.ntmps99
 go_wp2_with fail
 go_region_with (first
  | (go_at_call 132;refine(C1.out _ ⟨_,rfl⟩).mono ?_;rintro e y ⟨rfl,o2,h2,e2⟩)
  | (go_at_call 130;refine(mget h2 HL.out.1 HL.out.2 _ _).mono ?_;rintro e z ⟨rfl,o3,h3,e3⟩))
 all_goals
  have H3:=hid h3
  have E3:=hid ((Ek.of_quiet (o:=o) (w:=w) ⟨1,rfl⟩).trans (e2.trans e3))
  clear h3 e3 h2 e2 C1
  go_wp2
  go_ret
  exact⟨rfl,o3,H3.out,E3.out⟩
theorem with_25(h:WR B o n v w)(hl:v.mm.length=v.M)(hi:i<v.M)(hp:(v.mach i).pl=25)(hfs:Fes v.sr)(hnd:(v.sr.W.map Prod.fst).Nodup)(tm:Int):Calls Tryz.prog 99 #[.pointer (some ⟨B.W,0,none⟩), .int .i64 (i:Int), .int .i64 tm] w (Po B o n (.bool false) ((v.putS v.sr.take.2).onM i (·.get v.sr.take.1)) w):=by
 have I0:(0:Int)≤(i:Int):=by omega
 have I1:(i:Int)<(v.M:Int):=by omega
 have a14:=h.w14
 have k0:=h.m0 hi
 have kf:=h.mfz
 have a12:=h.w12
 have C1:=hid (wstake h hfs hnd)
 have HL:=hid ((⟨hl,hi⟩:(v.putS v.sr.take.2).mm.length=(v.putS v.sr.take.2).M∧i<(v.putS v.sr.take.2).M))
 rw[hp]at k0
 clear h hp hfs hnd
 go_enter Tryz.func99,Tryz.ntmps99
 go_wp2_with fail
 refine C1.out.mono ?_
 rintro e y ⟨rfl,o2,h2,e2⟩
 have D:=hid (mget h2 HL.out.1 HL.out.2 v.sr.take.1.1 v.sr.take.1.2)
 have E2:=hid e2
 clear h2 e2 C1
 go_wp2_with fail
 refine D.out.mono ?_
 rintro e y2 ⟨rfl,o3,h3,e3⟩
 have H3:=hid h3
 have E3:=hid e3
 clear h3 e3 D
 go_wp2
 go_ret
 exact⟨rfl,o3,H3.out,E2.out.trans E3.out⟩
theorem with_4(h:WR B o n v w)(hl:v.mm.length=v.M)(hi:i<v.M)(hp:(v.mach i).pl=4)  (tm:Int):Calls Tryz.prog 99 #[.pointer (some ⟨B.W,0,none⟩), .int .i64 (i:Int), .int .i64 tm] w (Po B o n (.bool false) (v.takeQ.2.onM i (·.getAll v.takeQ.1)) w):=by
 have I0:(0:Int)≤(i:Int):=by omega
 have I1:(i:Int)<(v.M:Int):=by omega
 have a14:=h.w14
 have k0:=h.m0 hi
 have kf:=h.mfz
 have a11:=h.w11
 have C1:=hid (wqtake h)
 have HL:=hid ((⟨hl,hi⟩:(v.takeQ.2).mm.length=(v.takeQ.2).M∧i<(v.takeQ.2).M))
 rw[hp]at k0
 clear h hp
 go_enter Tryz.func99,Tryz.ntmps99
 go_wp2_with fail
 refine C1.out.mono ?_
 rintro e y ⟨rv,o2,rfl,hr2,h2,e2⟩
 have D:=hid (mgetAll h2 HL.out.1 HL.out.2 rv v.takeQ.1 hr2)
 have E2:=hid e2
 obtain⟨ra,rc2,rfl,_⟩:=hr2.rd
 clear h2 e2 C1 hr2
 go_wp2_with fail
 refine D.out.mono ?_
 rintro e y2 ⟨rfl,o3,h3,e3⟩
 have H3:=hid h3
 have E3:=hid e3
 clear h3 e3 D
 go_wp2
 go_ret
 exact⟨rfl,o3,H3.out,E2.out.trans E3.out⟩
theorem with_14(h:WR B o n v w)(hl:v.mm.length=v.M)(hi:i<v.M)(hp:(v.mach i).pl=14)  (tm:Int):Calls Tryz.prog 99 #[.pointer (some ⟨B.W,0,none⟩), .int .i64 (i:Int), .int .i64 tm] w (Po B o n (.bool false) (v.onM i fun m => { m with yes:=v.sr.due }) w):=by
 have I0:(0:Int)≤(i:Int):=by omega
 have I1:(i:Int)<(v.M:Int):=by omega
 have a14:=h.w14
 have k0:=h.m0 hi
 have kf:=h.mfz
 have a12:=h.w12
 have C1:=hid (wsdue h)
 have HL:=hid ((⟨hl,hi⟩:(v).mm.length=(v).M∧i<(v).M))
 have HH:=hid h
 rw[hp]at k0
 clear h hp
 go_enter Tryz.func99,Tryz.ntmps99
 go_wp2_with fail
 refine C1.out.mono ?_
 rintro e y ⟨rfl,hb⟩
 have H2:=hid (HH.out.below hb)
 have E2:=hid (Ek.of_below (o:=o) hb)
 have k18:=H2.out.m18 HL.out.2
 have kf2:=H2.out.mfz
 clear C1 HH
 go_wp2
 go_ret
 exact⟨rfl,_,(H2.out.self HL.out.1 HL.out.2).v18 HL.out.1 HL.out.2 _,E2.out.trans (Ek.setM H2.out _ _)⟩
theorem with_15(h:WR B o n v w)(hl:v.mm.length=v.M)(hi:i<v.M)(hp:(v.mach i).pl=15)(hpo:v.id.po = -1∨0≤v.id.po)(tm:Int):Calls Tryz.prog 99 #[.pointer (some ⟨B.W,0,none⟩), .int .i64 (i:Int), .int .i64 tm] w (Po B o n (.bool false) ((v.putI (v.id.leave i).2).onM i fun m => { m with yes:=(v.id.leave i).1 }) w):=by
 have I0:(0:Int)≤(i:Int):=by omega
 have I1:(i:Int)<(v.M:Int):=by omega
 have a14:=h.w14
 have k0:=h.m0 hi
 have kf:=h.mfz
 have a13:=h.w13
 have C1:=hid (wileave h hpo (i:Int))
 have HL:=hid ((⟨hl,hi⟩:(v.putI (v.id.leave i).2).mm.length=(v.putI (v.id.leave i).2).M∧i<(v.putI (v.id.leave i).2).M))
 have HH:=hid h
 rw[hp]at k0
 clear h hp hpo
 go_enter Tryz.func99,Tryz.ntmps99
 go_wp2_with fail
 refine C1.out.mono ?_
 rintro e y ⟨rfl,o2,h2,e2⟩
 have H2:=hid (h2)
 have E2:=hid (e2)
 have k18:=H2.out.m18 HL.out.2
 have kf2:=H2.out.mfz
 clear C1 HH
 go_wp2
 go_ret
 exact⟨rfl,_,(H2.out.self HL.out.1 HL.out.2).v18 HL.out.1 HL.out.2 _,E2.out.trans (Ek.setM H2.out _ _)⟩
theorem with_10(h:WR B o n v w)(hl:v.mm.length=v.M)(hi:i<v.M)(hp:(v.mach i).pl=10)  (tm:Int):Calls Tryz.prog 99 #[.pointer (some ⟨B.W,0,none⟩), .int .i64 (i:Int), .int .i64 tm] w (Po B o n (.bool false) (v.onM i fun m => { m with yes:=decide (0<v.qu.length) }) w):=by
 have I0:(0:Int)≤(i:Int):=by omega
 have I1:(i:Int)<(v.M:Int):=by omega
 have a14:=h.w14
 have k0:=h.m0 hi
 have kf:=h.mfz
 have a11:=h.w11
 obtain⟨ql,hql⟩:∃ ql,ql=v.qu.length:=⟨_,rfl⟩
 have C1:=hid (hql ▸ wqlen h)
 have HL:=hid ((⟨hl,hi⟩:(v).mm.length=(v).M∧i<(v).M))
 have HH:=hid h
 rw[hp]at k0
 clear h hp
 go_enter Tryz.func99,Tryz.ntmps99
 go_wp2_with fail
 refine C1.out.mono ?_
 rintro e y ⟨rfl,hb⟩
 have H2:=hid (HH.out.quiet hb)
 have E2:=hid (Ek.of_quiet (o:=o) hb)
 have k18:=H2.out.m18 HL.out.2
 have kf2:=H2.out.mfz
 clear C1 HH
 go_wp2
 go_ret
 exact⟨rfl,_,(H2.out.self HL.out.1 HL.out.2).v18 HL.out.1 HL.out.2 _,E2.out.trans (Ek.setM H2.out _ _)⟩
theorem with_9(h:WR B o n v w)(hl:v.mm.length=v.M)(hi:i<v.M)(hp:(v.mach i).pl=9)(hpp:(v.mach i).i=(p:Int))(hpP:p<v.P)(tm:Int):Calls Tryz.prog 99 #[.pointer (some ⟨B.W,0,none⟩), .int .i64 (i:Int), .int .i64 tm] w (Po B o n (.bool false) (v.onM i fun m => { m with yes:=decide (0<(v.ring p).list.length) }) w):=by
 have I0:(0:Int)≤(i:Int):=by omega
 have I1:(i:Int)<(v.M:Int):=by omega
 have a14:=h.w14
 have k0:=h.m0 hi
 have kf:=h.mfz
 have a9:=h.w9
 obtain⟨rg,rc,hrv,hrc⟩:=h.rv (Nat.lt_of_le_of_lt (Nat.zero_le _) hpP)
 rw[hrv]at a9
 have kr:=hrc p hpP
 have k1:=h.m6 hi
 rw[hpp]at k1
 have P0:(0:Int)≤(p:Int):=by omega
 have P1:(p:Int)<(v.P:Int):=by omega
 have HH:=hid h
 obtain⟨ql,hql⟩:∃ ql,ql=(v.ring p).list.length:=⟨_,rfl⟩
 have C1:=hid (fun(x:World) (hq:Quiet w x)=>hql ▸ rlen (h.quiet hq) hpP)
 have HL:=hid (And.intro hl hi)
 have k18:=h.m18 hi
 rw[hp]at k0
 rw[←hql]
 clear h hp hpp hrc hrv hql
 go_enter Tryz.func99,Tryz.ntmps99
 go_wp2_with fail
 go_region_with (go_at_call 137;refine(C1.out _ ⟨_,rfl⟩).mono ?_;rintro e y ⟨rfl,rfl⟩)
 all_goals
  go_wp2
  go_ret
  have H:=HH.out.quiet (w':=w.drewN 1) ⟨1,rfl⟩
  exact⟨rfl,_,by
   have U:WR B o n (v.onM i fun m => { m with yes:=decide (0<ql) }) _:=(H.self HL.out.1 HL.out.2).v18 HL.out.1 HL.out.2 (decide (0<ql))
   simpa using U,(Ek.of_quiet (o:=o) (w:=w) (w':=w.drewN 1) ⟨1,rfl⟩).trans (Ek.setM H (i*20+18) _)⟩
end
end Go.Proofs.YtkhigkcmgcafdaaGreatDoor
