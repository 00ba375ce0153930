/- Of Ur. -/
import Derived.Test.YtkhigkcmgcafdaaGreatDoorZ32
set_option linter.unusedVariables false
set_option linter.unusedSimpArgs false
set_option maxHeartbeats 16000000
set_option maxRecDepth 20000
namespace Go.Proofs.YtkhigkcmgcafdaaGreatDoor
open Go.RowKit
section
variable {B:Bk}{o o':Nat→Nat}{N n n' r g:Nat}{v v':Y.V}{w w' wx:World}{C:Nat→Prop}{i p:Nat}{tm:Int}
theorem pick_else(h:WR B o n v w)(hf:Few n v)(hi:i<v.M)(kd act x d:Int)(k:Nat)(hpl:(v.mach i).pl=(k:Int))(hk:k<31)(hk0:k≠0)(hP1:1≤v.P)(hP:v.P≤64)(ha:v.asleep i=false)(hin:(v.mach i).inn=false)(L:Int)(hlk:lk (maPlace1 k) (v.mach i).p (v.mach i).i (v.P:Int)=L)(h63:(v.mach i).i≤9223372036854775807){v1:Y.V}
 (HC:∀ o2 y,WR B o2 (n+1) v y→Calls Tryz.prog (if decide (0≤L) then 61 else 62) #[.pointer (some ⟨B.W,0,none⟩), .int .i64 (i:Int)] y (Po B o2 n' (.tuple #[]) v1 y)) :
 Calls Tryz.prog 29 #[.pointer (some ⟨B.W,0,none⟩),stV ⟨kd,act,(i:Int),x,d⟩] w (Po B o n' (.bool true) v1 w):=by
 have I0:(0:Int)≤(i:Int):=by omega
 have I1:(i:Int)<(v.M:Int):=by omega
 have t0:decide ((i:Int)<0)=false:=decide_eq_false (by omega)
 have t1:decide ((v.M:Int)≤(i:Int))=false:=decide_eq_false (by omega)
 have hb:Below w.heap.size w (w.alloc (.cells (stR ⟨kd,act,(i:Int),x,d⟩) 27)):=(Below.refl _ _).alloc (Nat.le_refl _) _
 have EB:=hid (Ek.of_below (o:=o) hb)
 have h1:=h.below hb
 have a14:=h1.w14
 have AS:=hid (wasleep h1 hf hi)
 rw[ha]at AS
 have HC1:=hid HC
 obtain⟨PP,hPP⟩:∃ PP:Int,PP=v.P:=⟨_,rfl⟩
 obtain⟨p,hp⟩:∃ p,p=(v.mach i).p:=⟨_,rfl⟩
 obtain⟨g,hg⟩:∃ g,g=(v.mach i).g:=⟨_,rfl⟩
 obtain⟨nx,hnx⟩:∃ nx,nx=(v.mach i).nx:=⟨_,rfl⟩
 obtain⟨got,hgot⟩:∃ got,got=(v.mach i).got:=⟨_,rfl⟩
 obtain⟨tg,htg⟩:∃ tg,tg=(v.mach i).tg:=⟨_,rfl⟩
 obtain⟨ii,hii⟩:∃ ii,ii=(v.mach i).i:=⟨_,rfl⟩
 obtain⟨sp,hsp⟩:∃ sp,sp=(v.mach i).spin:=⟨_,rfl⟩
 obtain⟨bk,hbk⟩:∃ bk,bk=(v.mach i).back:=⟨_,rfl⟩
 obtain⟨af,haf⟩:∃ af,af=(v.mach i).after:=⟨_,rfl⟩
 obtain⟨ag,hag⟩:∃ ag,ag=(v.mach i).arg:=⟨_,rfl⟩
 obtain⟨s0,hs0⟩:∃ s0,s0=(v.mach i).sn:=⟨_,rfl⟩
 obtain⟨s1,hs1⟩:∃ s1,s1=(v.mach i).sv:=⟨_,rfl⟩
 obtain⟨s2,hs2⟩:∃ s2,s2=(v.mach i).st:=⟨_,rfl⟩
 obtain⟨s3,hs3⟩:∃ s3,s3=(v.mach i).tk:=⟨_,rfl⟩
 obtain⟨s4,hs4⟩:∃ s4,s4=(v.mach i).tm:=⟨_,rfl⟩
 obtain⟨rn,hrn⟩:∃ rn,rn=(v.mach i).rest.length:=⟨_,rfl⟩
 rw[←hp, ←hii, ←hPP]at hlk
 rw[←hii]at h63
 have tp:((k:Int) == 0)=false:=beq_eq_false_iff_ne.2 (by omega)
 clear h hb h1 HC hf ha
 go_enter Tryz.func29,Tryz.ntmps29
 go_wp2_with fail
 refine AS.out.mono ?_
 rintro e y ⟨rfl,o2,h2,e2⟩
 have E1:=hid (EB.out.trans e2)
 have b14:=h2.w14
 have H2:=hid h2
 obtain⟨ra,rcc,k9,_⟩:=h2.m9 hi
 have k0:=h2.m0 hi
 have k1:=h2.m1 hi
 have k2:=h2.m2 hi
 have k3:=h2.m3 hi
 have k4:=h2.m4 hi
 have k5:=h2.m5 hi
 have k6:=h2.m6 hi
 have k7:=h2.m7 hi
 have k8:=h2.m8 hi
 have k10:=h2.m10 hi
 have k11:=h2.m11 hi
 have k12:=h2.m12 hi
 have k13:=h2.m13 hi
 have k14:=h2.m14 hi
 have k15:=h2.m15 hi
 have k16:=h2.m16 hi
 have k17:=h2.m17 hi
 have b0:=h2.w0
 rw[hpl]at k0
 rw[hin]at k8
 rw[←hrn]at k9
 rw[←hPP]at b0
 rw[←hp]at k1
 rw[←hg]at k2
 rw[←hnx]at k3
 rw[←hgot]at k4
 rw[←htg]at k5
 rw[←hii]at k6
 rw[←hsp]at k7
 rw[←hbk]at k10
 rw[←haf]at k11
 rw[←hag]at k12
 rw[←hs0]at k13
 rw[←hs1]at k14
 rw[←hs2]at k15
 rw[←hs3]at k16
 rw[←hs4]at k17
 have T2:=hid (h2.c0.T1)
 have LKK:=hid (fun(ra:Option Addr) (rcc:Nat) w T=>mlock_g k p g nx got tg ii sp false ra rn rcc bk af ag s0 s1 s2 s3 s4 PP w T hk (by omega) (by omega) h63)
 rw[hlk]at LKK
 have hmb:=cell_lt k0
 have hWb:=cell_lt b0
 have SX:=hid (fun(z:World) (hb:Below y.heap.size y z)=>(show (fun w':World=>w'.cell? ⟨B.mb,i*20,none⟩=some (.int .i64 k)∧w'.cell? ⟨B.mb,i*20+1,none⟩=some (.int .i64 p)∧w'.cell? ⟨B.mb,i*20+2,none⟩=some (.int .i64 g)∧w'.cell? ⟨B.mb,i*20+3,none⟩=some (.int .i64 nx)∧w'.cell? ⟨B.mb,i*20+4,none⟩=some (.int .i64 got)∧w'.cell? ⟨B.mb,i*20+5,none⟩=some (.int .i64 tg)∧w'.cell? ⟨B.mb,i*20+6,none⟩=some (.int .i64 ii)∧w'.cell? ⟨B.mb,i*20+7,none⟩=some (.bool sp)∧w'.cell? ⟨B.mb,i*20+8,none⟩=some (.bool false)∧w'.cell? ⟨B.mb,i*20+9,none⟩=some (.slice ra rn rcc)∧w'.cell? ⟨B.mb,i*20+10,none⟩=some (.int .i64 bk)∧w'.cell? ⟨B.mb,i*20+11,none⟩=some (.int .i64 af)∧w'.cell? ⟨B.mb,i*20+12,none⟩=some (.int .i64 ag)∧w'.cell? ⟨B.mb,i*20+13,none⟩=some (.int .i64 s0)∧w'.cell? ⟨B.mb,i*20+14,none⟩=some (.int .i64 s1)∧w'.cell? ⟨B.mb,i*20+15,none⟩=some (.int .i64 s2)∧w'.cell? ⟨B.mb,i*20+16,none⟩=some (.int .u64 s3)∧w'.cell? ⟨B.mb,i*20+17,none⟩=some (.int .i64 s4)∧w'.cell? ⟨B.W,0,none⟩=some (.int .i64 PP)) z from
  have M:∀ {j:Nat} {x:Value},y.cell? ⟨B.mb,j,none⟩=some x→z.cell? ⟨B.mb,j,none⟩=some x:=fun {j x} hc=>(World.cell?_of_block (a:=⟨B.mb,j,none⟩) (hb.block B.mb hmb)).trans hc
  ⟨M k0,M k1,M k2,M k3,M k4,M k5,M k6,M k7,M k8,M k9,M k10,M k11,M k12,M k13,M k14,M k15,M k16,M k17,(World.cell?_of_block (a:=⟨B.W,0,none⟩) (hb.block B.W hWb)).trans b0⟩))
 have C2:=hid (fun(z:World) (hb:Below y.heap.size y z)=>(HC1.out o2 z (h2.below hb)).mono (R':=Po B o n' (.tuple #[]) v1 w) fun e w' hx=>hx.behind (E1.out.trans (.of_below hb)))
 clear h2 e2 AS a14 HC1 hpl hin hlk hk hP1 hP hPP h63 hmb hWb hrn hp hg hnx hgot htg hii hsp hbk haf hag hs0 hs1 hs2 hs3 hs4 hk0
 clear k1 k2 k3 k4 k5 k6 k7 k9 k10 k11 k12 k13 k14 k15 k16 k17 b0
 go_wp2_with fail
 clear b14 k0 k8
 have HD:=hid (show Below y.heap.size y y.drew from Quiet.below ⟨1,rfl⟩ _)
 as_aux_lemma=>
  go_region_held3 (fun w'=>w'.cell? ⟨B.mb,i*20,none⟩=some (.int .i64 k)∧w'.cell? ⟨B.mb,i*20+1,none⟩=some (.int .i64 p)∧w'.cell? ⟨B.mb,i*20+2,none⟩=some (.int .i64 g)∧w'.cell? ⟨B.mb,i*20+3,none⟩=some (.int .i64 nx)∧w'.cell? ⟨B.mb,i*20+4,none⟩=some (.int .i64 got)∧w'.cell? ⟨B.mb,i*20+5,none⟩=some (.int .i64 tg)∧w'.cell? ⟨B.mb,i*20+6,none⟩=some (.int .i64 ii)∧w'.cell? ⟨B.mb,i*20+7,none⟩=some (.bool sp)∧w'.cell? ⟨B.mb,i*20+8,none⟩=some (.bool false)∧w'.cell? ⟨B.mb,i*20+9,none⟩=some (.slice ra rn rcc)∧w'.cell? ⟨B.mb,i*20+10,none⟩=some (.int .i64 bk)∧w'.cell? ⟨B.mb,i*20+11,none⟩=some (.int .i64 af)∧w'.cell? ⟨B.mb,i*20+12,none⟩=some (.int .i64 ag)∧w'.cell? ⟨B.mb,i*20+13,none⟩=some (.int .i64 s0)∧w'.cell? ⟨B.mb,i*20+14,none⟩=some (.int .i64 s1)∧w'.cell? ⟨B.mb,i*20+15,none⟩=some (.int .i64 s2)∧w'.cell? ⟨B.mb,i*20+16,none⟩=some (.int .u64 s3)∧w'.cell? ⟨B.mb,i*20+17,none⟩=some (.int .i64 s4)∧w'.cell? ⟨B.W,0,none⟩=some (.int .i64 PP))
   (first
    | assumption
    | (exact SX.out _ HD.out)
    | (exact SX.out _ (HD.out.trans (by assumption))))
   (first
    | (go_at_call 60;refine(LKK.out _ _ _ (T2.out.at HD.out)).mono ?_;rintro e y ⟨rfl,hy⟩))
  all_goals as_aux_lemma=>
   have B3:=hid (HD.out.trans (by assumption))
   have C3:=hid (C2.out _ B3.out)
   rcases hL:decide (0≤L) with _|_
   all_goals
    rw[hL]at C3
    simp only[Bool.false_eq_true,if_false,if_true]at C3
    go_wp2_with fail
    refine C3.out.mono ?_
    rintro e y3 ⟨rfl,o3,h3,e3⟩
    have H3:=hid h3
    have E3:=hid e3
    clear h3 e3 C3 C2
    go_wp2
    go_ret
    exact⟨rfl,o3,H3.out,E3.out⟩
end
end Go.Proofs.YtkhigkcmgcafdaaGreatDoor
