/- Of Uq. -/
import Derived.Test.YtkhigkcmgcafdaaGreatDoorZ27
set_option linter.unusedVariables false
set_option linter.unusedSimpArgs false
set_option maxHeartbeats 16000000
set_option maxRecDepth 20000
namespace Go.Proofs.YtkhigkcmgcafdaaGreatDoor
open Go.RowKit
section
variable {B:Bk}{o o':Nat→Nat}{N n n' r g:Nat}{v v':Y.V}{w w' wx:World}{C:Nat→Prop}{i p:Nat}{tm:Int}
theorem asleep_not(h:WR B o n v w)(hi:i<v.M)(hp:(v.mach i).pl≠16):Calls Tryz.prog 58 #[.pointer (some ⟨B.W,0,none⟩), .int .i64 (i:Int)] w fun e w'=>e = .returned (.bool false)∧Quiet w w':=by
 have I0:(0:Int)≤(i:Int):=by omega
 have I1:(i:Int)<(v.M:Int):=by omega
 have t0:decide ((0:Int)≤(i:Int))=true:=decide_eq_true I0
 have t1:decide ((i:Int)<(v.M:Int))=true:=decide_eq_true I1
 have a4:=h.w4
 have a6:=h.w6
 have a14:=h.w14
 have k0:=h.m0 hi
 obtain⟨pl,hpl⟩:∃ pl,pl=(v.mach i).pl:=⟨_,rfl⟩
 rw[←hpl]at k0 hp
 have t:(pl == 16)=false:=beq_eq_false_iff_ne.2 hp
 clear h hp hpl
 go_enter Tryz.func58,Tryz.ntmps58
 go_wp2_with fail
 go_quiet (fail)
 all_goals
  go_wp2
  go_ret
  exact⟨rfl,(Quiet.refl _).drewN _⟩
theorem asleep_16(h:WR B o n v w)(hf:Few n v)(hi:i<v.M)(hp:(v.mach i).pl=16)(b:Bool)(hb:decide (v.ns.getD (v.nts+i) 0=1)=b):Calls Tryz.prog 58 #[.pointer (some ⟨B.W,0,none⟩), .int .i64 (i:Int)] w (Po B o (n+1) (.bool (!b)) v w):=by
 have I0:(0:Int)≤(i:Int):=by omega
 have I1:(i:Int)<(v.M:Int):=by omega
 have t0:decide ((0:Int)≤(i:Int))=true:=decide_eq_true I0
 have t1:decide ((i:Int)<(v.M:Int))=true:=decide_eq_true I1
 have a4:=h.w4
 have a6:=h.w6
 have a14:=h.w14
 have k0:=h.m0 hi
 rw[hp]at k0
 obtain⟨_,d,hd,m2⟩:=h.c3
 have hw:v.nts+i<v.wds:=by unfold Y.V.wds Y.V.sts;omega
 have hns:=hf.ns
 have hwd:=hf.wd
 have hn:=hf.n
 obtain⟨nt,hnt⟩:∃ nt:Int,nt=(v.nts:Nat):=⟨_,rfl⟩
 rw[←hnt]at a6
 have hwr:IntKind.i64.wrap (nt+(i:Int))=nt+(i:Int):=IntWalk.i64_in _ (by omega)
 have IS:=hid (fun(y:World) (hq:Quiet w y)=>(nis B.b2 B.g2 v.ns d (nt+(i:Int)) y (m2.quiet hq) (by omega) (by omega) (by omega)).mono (R':=Po B o (n+1) (.bool b) v w) fun e w' hx=>⟨by
  rw[hx.1, ←hb,show (nt+(i:Int)).toNat=v.nts+i by omega],o,h.mem2 (Nat.le_succ n) (by omega) hx.2.1 ((Only.of_quiet hq).trans hx.2.2)⟩)
 have NT:=hid hnt
 have HP:=hid hp
 clear h hf hp m2 hw hns hwd hn hb hd hnt
 have SX:=hid (fun(o5:Nat→Nat) (y:World) (h5:WR B o5 (n+1) v y)=>(show y.cell? ⟨B.W,14,none⟩=some (.slice (some ⟨B.mb,0,none⟩) v.M v.M)∧y.cell? ⟨B.W,4,none⟩=some (.pointer (some ⟨B.b2,0,none⟩))∧y.cell? ⟨B.W,6,none⟩=some (.int .i64 nt)∧y.cell? ⟨B.mb,i*20,none⟩=some (.int .i64 16) from
  ⟨h5.w14,h5.w4,by rw[NT.out];exact h5.w6,by rw[←HP.out];exact h5.m0 hi⟩))
 clear NT HP
 rcases b with _|_
 all_goals
  go_enter Tryz.func58,Tryz.ntmps58
  go_wp2_with fail
  go_region_held3 (fun y=>y.cell? ⟨B.W,14,none⟩=some (.slice (some ⟨B.mb,0,none⟩) v.M v.M)∧y.cell? ⟨B.W,4,none⟩=some (.pointer (some ⟨B.b2,0,none⟩))∧y.cell? ⟨B.W,6,none⟩=some (.int .i64 nt)∧y.cell? ⟨B.mb,i*20,none⟩=some (.int .i64 16))
   (first
    | exact S5
    | exact⟨a14,a4,a6,k0⟩)
   (first
    | (go_at_call 90;refine(IS.out _ ⟨_,rfl⟩).mono ?_;rintro e w5 ⟨rfl,o5,h5,e5⟩;have S5:=SX.out o5 w5 h5))
  all_goals
   have H5:=hid h5
   have E5:=hid e5
   clear h5 e5
   go_wp2
   go_ret
   exact⟨rfl,o5,H5.out,E5.out⟩
theorem wasleep(h:WR B o n v w)(hf:Few n v)(hi:i<v.M):Calls Tryz.prog 58 #[.pointer (some ⟨B.W,0,none⟩), .int .i64 (i:Int)] w (Po B o (n+1) (.bool (v.asleep i)) v w):=by
 by_cases hp:(v.mach i).pl=16
 ·rw[show v.asleep i = !(decide (v.ns.getD (v.nts+i) 0=1)) by unfold Y.V.asleep;rw[decide_eq_true hp];rfl]
  exact asleep_16 h hf hi hp _ rfl
 ·rw[show v.asleep i=false by unfold Y.V.asleep;rw[decide_eq_false hp];rfl]
  refine(asleep_not h hi hp).mono ?_
  rintro e y ⟨rfl,hq⟩
  exact⟨rfl,o,(h.quiet hq).mono (Nat.le_succ n), .of_quiet hq⟩
theorem pick_out(h:WR B o n v w)(st:Y.St)(hx:st.a<0∨(v.M:Int)≤st.a):Calls Tryz.prog 29 #[.pointer (some ⟨B.W,0,none⟩),stV st] w (Po B o n (.bool false) v w):=by
 obtain⟨kd,act,a,x,d⟩:=st
 simp only at hx
 have hb:Below w.heap.size w (w.alloc (.cells (stR ⟨kd,act,a,x,d⟩) 27)):=(Below.refl _ _).alloc (Nat.le_refl _) _
 have EB:=hid (Ek.of_below (o:=o) hb)
 have a14:=(h.below hb).w14
 have H:=hid (h.below hb)
 generalize hM:((v.M:Nat):Int)=M at hx
 have hcap:=hM
 clear h hb
 by_cases h0:a<0
 ·have t0:decide (a<0)=true:=decide_eq_true h0
  clear hx
  go_enter Tryz.func29,Tryz.ntmps29
  go_wp2
  go_ret
  exact⟨rfl,o,H.out,EB.out⟩
 ·have t0:decide (a<0)=false:=decide_eq_false h0
  have h1:(v.M:Int)≤a:=by omega
  have t1:decide ((v.M:Int)≤a)=true:=decide_eq_true h1
  clear hx hM hcap
  go_enter Tryz.func29,Tryz.ntmps29
  go_wp2
  go_ret
  exact⟨rfl,o,H.out,EB.out⟩
theorem pick_sleeps(h:WR B o n v w)(hf:Few n v)(hi:i<v.M)(kd act x d:Int)(ha:v.asleep i=true):Calls Tryz.prog 29 #[.pointer (some ⟨B.W,0,none⟩),stV ⟨kd,act,(i:Int),x,d⟩] w (Po B o (n+1) (.bool false) v w):=by
 have I0:(0:Int)≤(i:Int):=by omega
 have I1:(i:Int)<(v.M:Int):=by omega
 have t0:decide ((i:Int)<0)=false:=decide_eq_false (by omega)
 have t1:decide ((v.M:Int)≤(i:Int))=false:=decide_eq_false (by omega)
 have hb:Below w.heap.size w (w.alloc (.cells (stR ⟨kd,act,(i:Int),x,d⟩) 27)):=(Below.refl _ _).alloc (Nat.le_refl _) _
 have EB:=hid (Ek.of_below (o:=o) hb)
 have a14:=(h.below hb).w14
 have AS:=hid (wasleep (h.below hb) hf hi)
 rw[ha]at AS
 clear h hb hf ha
 go_enter Tryz.func29,Tryz.ntmps29
 go_wp2_with fail
 refine AS.out.mono ?_
 rintro e y ⟨rfl,o2,h2,e2⟩
 have H2:=hid h2
 have E2:=hid e2
 clear h2 e2 AS
 go_wp2
 go_ret
 exact⟨rfl,o2,H2.out,EB.out.trans E2.out⟩
theorem pick_act(h:WR B o n v w)(hi:i<v.M)(kd act x d:Int)(hp:(v.mach i).pl=0){b:Bool}{v1:Y.V}(HC:∀ y,WR B o n v y→Calls Tryz.prog 59 #[.pointer (some ⟨B.W,0,none⟩), .int .i64 (i:Int),stV ⟨kd,act,(i:Int),x,d⟩] y (Po B o n' (.bool b) v1 y)):Calls Tryz.prog 29 #[.pointer (some ⟨B.W,0,none⟩),stV ⟨kd,act,(i:Int),x,d⟩] w (Po B o n' (.bool b) v1 w):=by
 have I0:(0:Int)≤(i:Int):=by omega
 have I1:(i:Int)<(v.M:Int):=by omega
 have t0:decide ((i:Int)<0)=false:=decide_eq_false (by omega)
 have t1:decide ((v.M:Int)≤(i:Int))=false:=decide_eq_false (by omega)
 have hb:Below w.heap.size w (w.alloc (.cells (stR ⟨kd,act,(i:Int),x,d⟩) 27)):=(Below.refl _ _).alloc (Nat.le_refl _) _
 have hbx:=heap_alloc_new w (.cells (stR ⟨kd,act,(i:Int),x,d⟩) 27)
 have EB:=hid (Ek.of_below (o:=o) hb)
 have h1:=h.below hb
 have a14:=h1.w14
 have AS:=hid (asleep_not h1 hi (by rw[hp];decide))
 have H1:=hid h1
 have HC1:=hid HC
 have HBX:=hid hbx
 clear h hb h1 HC hbx
 go_enter Tryz.func29,Tryz.ntmps29
 go_wp2_with fail
 refine AS.out.mono ?_
 rintro e y ⟨rfl,hq⟩
 have E1:=hid (EB.out.trans (Ek.of_quiet (o:=o) hq))
 have h2:=H1.out.quiet hq
 have b14:=h2.w14
 have k0:=h2.m0 hi
 rw[hp]at k0
 have hx:y.heap[w.heap.size]? = some (.cells (stR ⟨kd,act,(i:Int),x,d⟩) 27 (0,0)):=by rw[hq.heap];exact HBX.out
 have s0:y.cell? ⟨w.heap.size,0,none⟩=some (.int .u8 kd):=blk_cell hx rfl
 have s1:y.cell? ⟨w.heap.size,1,none⟩=some (.int .u8 act):=blk_cell hx rfl
 have s2:y.cell? ⟨w.heap.size,2,none⟩=some (.int .i64 (i:Int)):=blk_cell hx rfl
 have s3:y.cell? ⟨w.heap.size,3,none⟩=some (.int .i64 x):=blk_cell hx rfl
 have s4:y.cell? ⟨w.heap.size,4,none⟩=some (.int .i64 d):=blk_cell hx rfl
 have C2:=hid (HC1.out y h2)
 clear hq h2 hx AS a14 HC1
 go_wp2_with fail
 refine C2.out.mono ?_
 rintro e y3 ⟨rfl,o3,h3,e3⟩
 have H3:=hid h3
 have E3:=hid (E1.out.trans e3)
 clear h3 e3 C2
 go_wp2
 go_ret
 exact⟨rfl,o3,H3.out,E3.out⟩
theorem pick_inn(h:WR B o n v w)(hf:Few n v)(hi:i<v.M)(kd act x d:Int)(hp:(v.mach i).pl≠0)(ha:v.asleep i=false)(hin:(v.mach i).inn=true){v1:Y.V}(HC:∀ o2 y,WR B o2 (n+1) v y→Calls Tryz.prog 61 #[.pointer (some ⟨B.W,0,none⟩), .int .i64 (i:Int)] y (Po B o2 n' (.tuple #[]) v1 y)):Calls Tryz.prog 29 #[.pointer (some ⟨B.W,0,none⟩),stV ⟨kd,act,(i:Int),x,d⟩] w (Po B o n' (.bool true) v1 w):=by
 have I0:(0:Int)≤(i:Int):=by omega
 have I1:(i:Int)<(v.M:Int):=by omega
 have t0:decide ((i:Int)<0)=false:=decide_eq_false (by omega)
 have t1:decide ((v.M:Int)≤(i:Int))=false:=decide_eq_false (by omega)
 have hb:Below w.heap.size w (w.alloc (.cells (stR ⟨kd,act,(i:Int),x,d⟩) 27)):=(Below.refl _ _).alloc (Nat.le_refl _) _
 have EB:=hid (Ek.of_below (o:=o) hb)
 have h1:=h.below hb
 have a14:=h1.w14
 have AS:=hid (wasleep h1 hf hi)
 rw[ha]at AS
 have HC1:=hid HC
 obtain⟨pl,hpl⟩:∃ pl,pl=(v.mach i).pl:=⟨_,rfl⟩
 rw[←hpl]at hp
 have tp:(pl == 0)=false:=beq_eq_false_iff_ne.2 hp
 clear h hb h1 HC hf hp ha
 go_enter Tryz.func29,Tryz.ntmps29
 go_wp2_with fail
 refine AS.out.mono ?_
 rintro e y ⟨rfl,o2,h2,e2⟩
 have E1:=hid (EB.out.trans e2)
 have b14:=h2.w14
 have b0:=h2.w0
 have k0:=h2.m0 hi
 rw[←hpl]at k0
 have k8:=h2.m8 hi
 rw[hin]at k8
 have H2:=hid h2
 have C2:=hid (fun(z:World) (hq:Quiet y z)=>(HC1.out o2 z (h2.quiet hq)).mono (R':=Po B o n' (.tuple #[]) v1 w) fun e w' hx=>hx.behind (E1.out.trans (.of_quiet hq)))
 clear h2 e2 AS a14 HC1 hpl hin
 go_wp2_with fail
 go_quiet (fail)
 all_goals
  go_wp2_with fail
  refine(C2.out _ ⟨_,rfl⟩).mono ?_
  rintro e y3 ⟨rfl,o3,h3,e3⟩
  have H3:=hid h3
  have E3:=hid e3
  clear h3 e3 C2
  go_wp2
  go_ret
  exact⟨rfl,o3,H3.out,E3.out⟩
end
end Go.Proofs.YtkhigkcmgcafdaaGreatDoor
