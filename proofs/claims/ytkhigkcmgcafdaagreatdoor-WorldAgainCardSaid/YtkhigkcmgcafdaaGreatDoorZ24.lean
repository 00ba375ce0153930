/- Of Vp. -/
import Derived.Test.YtkhigkcmgcafdaaGreatDoorZ23
set_option linter.unusedVariables false
set_option linter.unusedSimpArgs false
set_option maxHeartbeats 16000000
set_option maxRecDepth 20000
namespace Go.Proofs.YtkhigkcmgcafdaaGreatDoor
open Go.RowKit
section
variable {B:Bk}{o o':Nat→Nat}{n n':Nat}{v v':Y.V}{w w' wx:World}{C:Nat→Prop}{i:Nat}{tm:Int}
theorem wlocked_first(h:WR B o n v w)(hl:v.mm.length=v.M)(hi:i<v.M)(hin:(v.mach i).inn=false)(k L:Nat)(hpl:(v.mach i).pl=(k:Int))(hk:k<31)(hP1:1≤v.P)(hP:v.P≤64)(hlk:lk (maPlace1 k) (v.mach i).p (v.mach i).i (v.P:Int)=L)(hL:L≤100)(h63:(v.mach i).i≤9223372036854775807){v2:Y.V}
 (HS:∀ y pw pi,WR B o n (v.onM i fun m=>m.into L) y→Cb y B.W pw pi #[.int .i64 (i:Int)] 3→Calls Tryz.prog 97 #[.pointer (some ⟨B.mb,i*20+13,none⟩), .pointer (some ⟨B.b1,0,none⟩),cloV pw pi] y (Po B o n' (.bool false) v2 y)) :
 Calls Tryz.prog 61 #[.pointer (some ⟨B.W,0,none⟩), .int .i64 (i:Int)] w (Po B o n' (.tuple #[]) v2 w):=by
 have I0:(0:Int)≤(i:Int):=by omega
 have I1:(i:Int)<(v.M:Int):=by omega
 have hmf:∀(fn:Fn) (first cap:Array Value) (w:World),(Instr.makeFunc fn first cap).run Tryz.prog w = .ok (.func fn first cap) w:=fun _ _ _ _=>rfl
 have ⟨cb,bl⟩:=two_in w B.W #[.int .i64 (i:Int)] 3
 obtain⟨w2,hw2⟩:∃ w2,w2=(w.alloc (.cells #[.pointer (some ⟨B.W,0,none⟩)] 24)).alloc (.cells #[.int .i64 (i:Int)] 3):=⟨_,rfl⟩
 rw[←hw2]at cb bl
 have H2:=hid (h.below bl)
 have CB:=hid cb
 have BL:=hid bl
 have F0:=hid (And.intro (h.fresh (Nat.le_refl w.heap.size)) (h.fresh (Nat.le_succ w.heap.size)))
 have HH:=hid HS
 have HL:=hid (And.intro hl hi)
 obtain⟨PP,hPP⟩:∃ PP:Int,PP=v.P:=⟨_,rfl⟩
 obtain⟨ra,rcc,k9,_⟩:=H2.out.m9 hi
 have k0:=H2.out.m0 hi
 have k1:=H2.out.m1 hi
 have k2:=H2.out.m2 hi
 have k3:=H2.out.m3 hi
 have k4:=H2.out.m4 hi
 have k5:=H2.out.m5 hi
 have k6:=H2.out.m6 hi
 have k7:=H2.out.m7 hi
 have k8:=H2.out.m8 hi
 have k10:=H2.out.m10 hi
 have k11:=H2.out.m11 hi
 have k12:=H2.out.m12 hi
 have k13:=H2.out.m13 hi
 have k14:=H2.out.m14 hi
 have k15:=H2.out.m15 hi
 have k16:=H2.out.m16 hi
 have k17:=H2.out.m17 hi
 rw[hpl]at k0
 rw[hin]at k8
 obtain⟨p,hp⟩:∃ p,p=(v.mach i).p:=⟨_,rfl⟩
 rw[←hp]at k1
 obtain⟨g,hg⟩:∃ g,g=(v.mach i).g:=⟨_,rfl⟩
 rw[←hg]at k2
 obtain⟨nx,hnx⟩:∃ nx,nx=(v.mach i).nx:=⟨_,rfl⟩
 rw[←hnx]at k3
 obtain⟨got,hgot⟩:∃ got,got=(v.mach i).got:=⟨_,rfl⟩
 rw[←hgot]at k4
 obtain⟨tg,htg⟩:∃ tg,tg=(v.mach i).tg:=⟨_,rfl⟩
 rw[←htg]at k5
 obtain⟨ii,hii⟩:∃ ii,ii=(v.mach i).i:=⟨_,rfl⟩
 rw[←hii]at k6
 obtain⟨sp,hsp⟩:∃ sp,sp=(v.mach i).spin:=⟨_,rfl⟩
 rw[←hsp]at k7
 obtain⟨bk,hbk⟩:∃ bk,bk=(v.mach i).back:=⟨_,rfl⟩
 rw[←hbk]at k10
 obtain⟨af,haf⟩:∃ af,af=(v.mach i).after:=⟨_,rfl⟩
 rw[←haf]at k11
 obtain⟨ag,hag⟩:∃ ag,ag=(v.mach i).arg:=⟨_,rfl⟩
 rw[←hag]at k12
 obtain⟨s0,hs0⟩:∃ s0,s0=(v.mach i).sn:=⟨_,rfl⟩
 rw[←hs0]at k13
 obtain⟨s1,hs1⟩:∃ s1,s1=(v.mach i).sv:=⟨_,rfl⟩
 rw[←hs1]at k14
 obtain⟨s2,hs2⟩:∃ s2,s2=(v.mach i).st:=⟨_,rfl⟩
 rw[←hs2]at k15
 obtain⟨s3,hs3⟩:∃ s3,s3=(v.mach i).tk:=⟨_,rfl⟩
 rw[←hs3]at k16
 obtain⟨s4,hs4⟩:∃ s4,s4=(v.mach i).tm:=⟨_,rfl⟩
 rw[←hs4]at k17
 obtain⟨rn,hrn⟩:∃ rn,rn=(v.mach i).rest.length:=⟨_,rfl⟩
 rw[←hrn]at k9
 rw[←hp, ←hii, ←hPP]at hlk
 rw[←hii]at h63
 have a0:=H2.out.w0
 rw[←hPP]at a0
 have T2:=hid (H2.out.c0.T1)
 have LKK:=hid (fun w T=>mlock_g k p g nx got tg ii sp false ra rn rcc bk af ag s0 s1 s2 s3 s4 PP w T hk (by omega) (by omega) h63)
 rw[hlk]at LKK
 have hmb:=blk_lt (show w2.heap[B.mb]? = _ from H2.out.c6.2.choose_spec.choose_spec.1)
 have hWb:=cell_lt a0
 have SX:=hid (fun(y:World) (hb:Below w2.heap.size w2 y)=>(show (fun w':World=>w'.cell? ⟨B.mb,i*20,none⟩=some (.int .i64 k)∧w'.cell? ⟨B.mb,i*20+1,none⟩=some (.int .i64 p)∧w'.cell? ⟨B.mb,i*20+2,none⟩=some (.int .i64 g)∧w'.cell? ⟨B.mb,i*20+3,none⟩=some (.int .i64 nx)∧w'.cell? ⟨B.mb,i*20+4,none⟩=some (.int .i64 got)∧w'.cell? ⟨B.mb,i*20+5,none⟩=some (.int .i64 tg)∧w'.cell? ⟨B.mb,i*20+6,none⟩=some (.int .i64 ii)∧w'.cell? ⟨B.mb,i*20+7,none⟩=some (.bool sp)∧w'.cell? ⟨B.mb,i*20+8,none⟩=some (.bool false)∧w'.cell? ⟨B.mb,i*20+9,none⟩=some (.slice ra rn rcc)∧w'.cell? ⟨B.mb,i*20+10,none⟩=some (.int .i64 bk)∧w'.cell? ⟨B.mb,i*20+11,none⟩=some (.int .i64 af)∧w'.cell? ⟨B.mb,i*20+12,none⟩=some (.int .i64 ag)∧w'.cell? ⟨B.mb,i*20+13,none⟩=some (.int .i64 s0)∧w'.cell? ⟨B.mb,i*20+14,none⟩=some (.int .i64 s1)∧w'.cell? ⟨B.mb,i*20+15,none⟩=some (.int .i64 s2)∧w'.cell? ⟨B.mb,i*20+16,none⟩=some (.int .u64 s3)∧w'.cell? ⟨B.mb,i*20+17,none⟩=some (.int .i64 s4)∧w'.cell? ⟨B.W,0,none⟩=some (.int .i64 PP)∧w'.cell? ⟨w.heap.size,0,none⟩=some (.pointer (some ⟨B.W,0,none⟩))) y from
  have M:∀ {j:Nat} {x:Value},w2.cell? ⟨B.mb,j,none⟩=some x→y.cell? ⟨B.mb,j,none⟩=some x:=fun {j x} hc=>(World.cell?_of_block (a:=⟨B.mb,j,none⟩) (hb.block B.mb hmb)).trans hc
  ⟨M k0,M k1,M k2,M k3,M k4,M k5,M k6,M k7,M k8,M k9,M k10,M k11,M k12,M k13,M k14,M k15,M k16,M k17,(World.cell?_of_block (a:=⟨B.W,0,none⟩) (hb.block B.W hWb)).trans a0,blk_cell ((hb.block _ (blk_lt cb.a)).trans cb.a) rfl⟩))
 have hL0:0≤(L:Int):=by omega
 have hL1:(L:Int)≤100:=by omega
 have b14:=H2.out.w14
 have b8:=k8
 clear h HS cb bl hlk hk k0 k1 k2 k3 k4 k5 k6 k7 k8 k9 k10 k11 k12 k13 k14 k15 k16 k17 a0 hl hP1 hP hPP hL h63 hpl hin hmb hWb hp hg hnx hgot htg hii hsp hbk haf hag hs0 hs1 hs2 hs3 hs4 hrn
 go_enter Tryz.func61,Tryz.ntmps61
 go_upto_region 1 with (fail)
 rw[←hw2]
 clear hw2
 have d0:w2.cell? ⟨w.heap.size,0,none⟩=some (.pointer (some ⟨B.W,0,none⟩)):=blk_cell CB.out.a rfl
 have d1:w2.cell? ⟨w.heap.size+1,0,none⟩=some (.int .i64 (i:Int)):=blk_cell CB.out.b rfl
 go_wp2_with fail
 go_quiet (fail)
 all_goals
  go_wp2_with fail
  generalize hw3:w2.drewN _=w3
  have HD:=hid (show Below w2.heap.size w2 w3.drew from by rw[←hw3];exact (((Quiet.refl w2).drewN _).drewN 1).below _)
  clear d0 d1 b14 b8 hw3
  go_region_held3 (fun w'=>w'.cell? ⟨B.mb,i*20,none⟩=some (.int .i64 k)∧w'.cell? ⟨B.mb,i*20+1,none⟩=some (.int .i64 p)∧w'.cell? ⟨B.mb,i*20+2,none⟩=some (.int .i64 g)∧w'.cell? ⟨B.mb,i*20+3,none⟩=some (.int .i64 nx)∧w'.cell? ⟨B.mb,i*20+4,none⟩=some (.int .i64 got)∧w'.cell? ⟨B.mb,i*20+5,none⟩=some (.int .i64 tg)∧w'.cell? ⟨B.mb,i*20+6,none⟩=some (.int .i64 ii)∧w'.cell? ⟨B.mb,i*20+7,none⟩=some (.bool sp)∧w'.cell? ⟨B.mb,i*20+8,none⟩=some (.bool false)∧w'.cell? ⟨B.mb,i*20+9,none⟩=some (.slice ra rn rcc)∧w'.cell? ⟨B.mb,i*20+10,none⟩=some (.int .i64 bk)∧w'.cell? ⟨B.mb,i*20+11,none⟩=some (.int .i64 af)∧w'.cell? ⟨B.mb,i*20+12,none⟩=some (.int .i64 ag)∧w'.cell? ⟨B.mb,i*20+13,none⟩=some (.int .i64 s0)∧w'.cell? ⟨B.mb,i*20+14,none⟩=some (.int .i64 s1)∧w'.cell? ⟨B.mb,i*20+15,none⟩=some (.int .i64 s2)∧w'.cell? ⟨B.mb,i*20+16,none⟩=some (.int .u64 s3)∧w'.cell? ⟨B.mb,i*20+17,none⟩=some (.int .i64 s4)∧w'.cell? ⟨B.W,0,none⟩=some (.int .i64 PP)∧w'.cell? ⟨w.heap.size,0,none⟩=some (.pointer (some ⟨B.W,0,none⟩)))
   (first
    | assumption
    | (exact SX.out _ HD.out)
    | (exact SX.out _ (HD.out.trans (Below.mono (by assumption) HD.out.size))))
   (first
    | (go_at_call 60;refine(LKK.out _ (T2.out.at HD.out)).mono ?_;rintro e y ⟨rfl,hy⟩))
  all_goals
   have B4:=hid (HD.out.trans (Below.mono (by assumption) HD.out.size))
   go_wp2_with fail
   refine(begin_any (2*(L:Int)) (2*(L:Int)+1) _).mono ?_
   rintro e w5 ⟨rfl,hb5⟩
   have h5:=H2.out.below (B4.out.trans (hb5.mono B4.out.size))
   have bw:=BL.out.trans ((B4.out.trans (hb5.mono B4.out.size)).mono BL.out.size)
   have kb5:=fun q (hq:q<w2.heap.size)=>(B4.out.trans (hb5.mono B4.out.size)).block q hq
   have c5:Cb w5 B.W w.heap.size (w.heap.size+1) #[.int .i64 (i:Int)] 3:=⟨(kb5 _ (blk_lt CB.out.a)).trans CB.out.a,(kb5 _ (blk_lt CB.out.b)).trans CB.out.b⟩
   have C5:=hid c5
   have a3:=h5.w3
   have a14:=h5.w14
   have d0:w5.cell? ⟨w.heap.size,0,none⟩=some (.pointer (some ⟨B.W,0,none⟩)):=blk_cell c5.a rfl
   have d1:w5.cell? ⟨w.heap.size+1,0,none⟩=some (.int .i64 (i:Int)):=blk_cell c5.b rfl
   have m8:=h5.m8 HL.out.2
   have m13:=h5.m13 HL.out.2
   have m14:=h5.m14 HL.out.2
   have m15:=h5.m15 HL.out.2
   have m16:=h5.m16 HL.out.2
   have m17:=h5.m17 HL.out.2
   have mf:=h5.mfz
   have U8:=(h5.self HL.out.1 HL.out.2).v8 HL.out.1 HL.out.2 true
   have U13:=U8.v13 HL.out.1 HL.out.2 (2*(L:Int))
   have U14:=U13.v14 HL.out.1 HL.out.2 (2*(L:Int)+1)
   have U15:=U14.v15 HL.out.1 HL.out.2 0
   have U16:=U15.v16 HL.out.1 HL.out.2 0
   have U17:=U16.v17 HL.out.1 HL.out.2 0
   have EE:=(Ek.of_below (o:=o) bw).trans ((Ek.setM h5 (i*20+8) (.bool true)).trans ((Ek.setM U8 (i*20+13) (.int .i64 (2*(L:Int)))).trans ((Ek.setM U13 (i*20+14) (.int .i64 (2*(L:Int)+1))).trans ((Ek.setM U14 (i*20+15) (.int .i64 0)).trans ((Ek.setM U15 (i*20+16) (.int .u64 0)).trans (Ek.setM U16 (i*20+17) (.int .i64 0)))))))
   have a32:=U17.w3
   have e5w:=((Ek.setM h5 (i*20+8) (.bool true)).trans ((Ek.setM U8 (i*20+13) (.int .i64 (2*(L:Int)))).trans ((Ek.setM U13 (i*20+14) (.int .i64 (2*(L:Int)+1))).trans ((Ek.setM U14 (i*20+15) (.int .i64 0)).trans ((Ek.setM U15 (i*20+16) (.int .u64 0)).trans (Ek.setM U16 (i*20+17) (.int .i64 0)))))))
   have C7:Cb ((((((w5.setCell ⟨B.mb,i*20+8,none⟩ (.bool true)).setCell ⟨B.mb,i*20+13,none⟩ (.int .i64 (2*(L:Int)))).setCell ⟨B.mb,i*20+14,none⟩ (.int .i64 (2*(L:Int)+1))).setCell ⟨B.mb,i*20+15,none⟩ (.int .i64 0)).setCell ⟨B.mb,i*20+16,none⟩ (.int .u64 0)).setCell ⟨B.mb,i*20+17,none⟩ (.int .i64 0)) B.W w.heap.size (w.heap.size+1) #[.int .i64 (i:Int)] 3:=⟨e5w.blk c5.a F0.out.1,e5w.blk c5.b F0.out.2⟩
   have d07:=blk_cell C7.a (i:=0) rfl
   have d17:=blk_cell C7.b (i:=0) rfl
   have ST:=hid (fun z (hq:Quiet ((((((w5.setCell ⟨B.mb,i*20+8,none⟩ (.bool true)).setCell ⟨B.mb,i*20+13,none⟩ (.int .i64 (2*(L:Int)))).setCell ⟨B.mb,i*20+14,none⟩ (.int .i64 (2*(L:Int)+1))).setCell ⟨B.mb,i*20+15,none⟩ (.int .i64 0)).setCell ⟨B.mb,i*20+16,none⟩ (.int .u64 0)).setCell ⟨B.mb,i*20+17,none⟩ (.int .i64 0)) z)=>(HH.out z w.heap.size (w.heap.size+1) (U17.quiet hq) ⟨by rw[hq.heap];exact C7.a,by rw[hq.heap];exact C7.b⟩).mono (R':=Po B o n' (.bool false) v2 w) fun e w' hx=>hx.behind (EE.trans (.of_quiet hq)))
   clear h5 bw kb5 c5 U8 U13 U14 U15 U16 U17 EE e5w C7 hb5
   go_wp2_with fail
   go_region_with (go_at_call 97;refine(ST.out _ ⟨_,rfl⟩).mono ?_;rintro e w7 ⟨rfl,o7,h7,e7⟩)
   all_goals
    have H7:=hid h7
    have E7:=hid e7
    clear h7 e7
    go_wp2
    go_end0
    exact⟨rfl,o7,H7.out,E7.out⟩
end
end Go.Proofs.YtkhigkcmgcafdaaGreatDoor
