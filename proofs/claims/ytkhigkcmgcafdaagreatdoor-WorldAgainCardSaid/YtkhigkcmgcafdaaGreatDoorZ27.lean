/- Of Uc, Ud, Vv. -/
import Derived.Test.YtkhigkcmgcafdaaGreatDoorZ25
import Derived.Test.YtkhigkcmgcafdaaGreatDoorZ26
set_option linter.unusedVariables false
set_option linter.unusedSimpArgs false
set_option maxHeartbeats 16000000
set_option maxRecDepth 20000
namespace Go.Proofs.YtkhigkcmgcafdaaGreatDoor
open Go.RowKit
section
variable {B:Bk}{o o':Nat→Nat}{N n n' r g:Nat}{v v':Y.V}{w w' wx:World}{C:Nat→Prop}{i p:Nat}{tm:Int}
@[reducible] def stV (s:Y.St):Value := .agg #[.int .u8 s.kd, .int .u8 s.act, .int .i64 s.a, .int .i64 s.x, .int .i64 s.d]
@[reducible] def stR (s:Y.St):Array Value := #[.int .u8 s.kd, .int .u8 s.act, .int .i64 s.a, .int .i64 s.x, .int .i64 s.d]
theorem bring_out(h:WR B o n v w)(hi:i<v.M)(k f x:Int)(hx:x<0∨(v.G:Int)≤x):Calls Tryz.prog 92 #[.pointer (some ⟨B.W,0,none⟩), .int .i64 (i:Int), .int .i64 k, .int .i64 x, .int .u64 f] w (Po B o n (.bool false) v w):=by
 have a2:=h.w2
 have H:=hid h
 generalize hG:((v.G:Nat):Int)=G at a2 hx
 clear h hG
 by_cases h0:x<0
 ·have t0:decide (x<0)=true:=decide_eq_true h0
  clear hx
  go_enter Tryz.func92,Tryz.ntmps92
  go_wp2
  go_ret
  exact⟨rfl,o,H.out, .refl _ _⟩
 ·have t0:decide (x<0)=false:=decide_eq_false h0
  have h1:G≤x:=by omega
  have t1:decide (G≤x)=true:=decide_eq_true h1
  clear hx
  go_enter Tryz.func92,Tryz.ntmps92
  go_wp2
  go_ret
  exact⟨rfl,o,H.out, .refl _ _⟩
theorem bring_not(h:WR B o n v w)(hf:Few n v)(hi:i<v.M)(k f x:Int)(x0:0≤x)(x1:x<v.G)(h7:v.stat x<7)(hs:v.stat x≠f):Calls Tryz.prog 92 #[.pointer (some ⟨B.W,0,none⟩), .int .i64 (i:Int), .int .i64 k, .int .i64 x, .int .u64 f] w (Po B o (n+1) (.bool false) v w):=by
 have a2:=h.w2
 have C1:=hid (fun(y:World) (hq:Quiet w y)=>wstatus (h.quiet hq) hf x0 x1 h7)
 have E1:=hid (fun(y:World) (hq:Quiet w y)=>Ek.of_quiet (o:=o) hq)
 have t0:decide (x<0)=false:=decide_eq_false (by omega)
 have t1:decide ((v.G:Int)≤x)=false:=decide_eq_false (by omega)
 have tn:(v.stat x != f)=true:=by simpa using hs
 generalize ((v.G:Nat):Int)=G at a2 t1
 generalize v.stat x=z at C1 tn
 clear h hf x0 x1 h7 hs
 go_enter Tryz.func92,Tryz.ntmps92
 go_wp2_with fail
 refine(C1.out _ (Quiet.refl _)).mono ?_
 rintro e y ⟨rfl,o2,h2,e2⟩
 have H2:=hid h2
 have E2:=hid e2
 clear h2 e2 C1
 go_wp2
 go_ret
 exact⟨rfl,o2,H2.out,E2.out⟩
theorem bring_yes(h:WR B o n v w)(hf:Few n v)(hn1:n+1<1000000)(hl:v.mm.length=v.M)(hi:i<v.M)(k:Nat)(hk:k<8)(f x:Int)(x0:0≤x)(x1:x<v.G)(h7:v.stat x<7)(hs:v.stat x=f)(hr:evRight k x i (v.mach i).p 0=true):Calls Tryz.prog 92 #[.pointer (some ⟨B.W,0,none⟩), .int .i64 (i:Int), .int .i64 (k:Int), .int .i64 x, .int .u64 f] w (Po B o (n+2) (.bool true) ((v.see ⟨k,x,i,(v.mach i).p,0⟩).onM i fun m => { m with got:=x,pl:=28 }) w):=by
 have a2:=h.w2
 have I0:(0:Int)≤(i:Int):=by omega
 have I1:(i:Int)<(v.M:Int):=by omega
 have C1:=hid (fun(y:World) (hq:Quiet w y)=>wstatus (h.quiet hq) hf x0 x1 h7)
 have C2:=hid (fun(o2:Nat→Nat) (y:World) (h2:WR B o2 (n+1) v y)=>wsee h2 ⟨hf.ms,hf.ns,hf.mc,hf.lg,hn1,hf.wd⟩ k hk x i (v.mach i).p 0 ⟨x0,x1⟩ hr)
 have t0:decide (x<0)=false:=decide_eq_false (by omega)
 have t1:decide ((v.G:Int)≤x)=false:=decide_eq_false (by omega)
 have tn:(f != f)=false:=by simp
 rw[hs]at C1
 have HL:=hid (show (v.see ⟨k,x,i,(v.mach i).p,0⟩).mm.length=(v.see ⟨k,x,i,(v.mach i).p,0⟩).M∧i<(v.see ⟨k,x,i,(v.mach i).p,0⟩).M from⟨hl,hi⟩)
 obtain⟨v2,hv2⟩:∃ v2,v2=v.see ⟨k,x,i,(v.mach i).p,0⟩:=⟨_,rfl⟩
 rw[←hv2]at C2 HL ⊢
 obtain⟨q,hq⟩:∃ q,q=(v.mach i).p:=⟨_,rfl⟩
 rw[←hq]at C2
 have K1:=hid (fun(o2:Nat→Nat) (y:World) (h2:WR B o2 (n+1) v y)=>(show y.cell? ⟨B.mb,i*20+1,none⟩=some (.int .i64 q) by rw[hq];exact h2.m1 hi))
 generalize ((v.G:Nat):Int)=G at a2 t1
 clear h hf x0 x1 h7 hs hr hl hv2 hq hn1
 go_enter Tryz.func92,Tryz.ntmps92
 go_wp2_with fail
 refine(C1.out _ (Quiet.refl _)).mono ?_
 rintro e y ⟨rfl,o2,h2,e2⟩
 have H2:=hid h2
 have E2:=hid e2
 have k1:=K1.out o2 y h2
 have b14:=h2.w14
 clear h2 e2 C1 a2
 go_wp2_with fail
 have C3:=hid (fun(x:World) (hq:Quiet y x)=>C2.out o2 x (H2.out.quiet hq))
 first
 | (refine(C3.out _ (Quiet.refl _)).mono ?_
    rintro e y3 ⟨rfl,o3,h3,e3⟩
    have H3:=hid h3
    have E3:=hid (E2.out.trans e3)
    have k4:=h3.m4 (i:=i) HL.out.2
    have k0:=h3.m0 (i:=i) HL.out.2
    have kf:=h3.mfz
    clear h3 e3 C2 C3
    go_wp2
    go_ret
    have U0:=H3.out.self HL.out.1 HL.out.2
    have U1:=U0.v4 HL.out.1 HL.out.2 x
    exact⟨rfl,o3,U1.v0 HL.out.1 HL.out.2 28,E3.out.trans ((Ek.setM U0 (i*20+4) (.int .i64 x)).trans (Ek.setM U1 (i*20) (.int .i64 28)))⟩)
theorem wbring(h:WR B o n v w)(s:Sm N n r g v)(hi:i<v.M)(hp:0≤(v.mach i).p∧(v.mach i).p<v.P)(k:Nat)(hk:k=0∨k=1)(x f:Int):Calls Tryz.prog 92 #[.pointer (some ⟨B.W,0,none⟩), .int .i64 (i:Int), .int .i64 (k:Int), .int .i64 x, .int .u64 f] w (Po B o (n+2) (.bool (v.bring i k x f).2) (v.bring i k x f).1 w):=by
 have hn:=s.n
 by_cases hx:x<0∨(v.G:Int)≤x
 ·rw[show v.bring i k x f=(v,false) by unfold Y.V.bring;rw[if_pos (by omega)]]
  exact(bring_out h hi k f x hx).mono fun e w' hx=>hx.mono (by omega)
 ·have x0:0≤x:=by omega
  have x1:x<v.G:=by omega
  have h7:=(s.i.go x x0 x1).s7.2
  by_cases hs:v.stat x=f
  ·rw[show v.bring i k x f=((v.see ⟨k,x,i,(v.mach i).p,0⟩).onM i fun m => { m with got:=x,pl:=28 },true) by
    unfold Y.V.bring
    rw[if_neg]
    rintro (hc|hc|hc)
    ·omega
    ·omega
    ·exact hc hs]
   exact bring_yes h s.few (by omega) s.i.ln.1 hi k (by omega) f x x0 x1 h7 hs (ev_ok s hi k (by omega) x 0 ⟨x0,x1⟩ (by omega) (fun _ _=>rfl) (by omega))
  ·rw[show v.bring i k x f=(v,false) by unfold Y.V.bring;rw[if_pos (.inr (.inr hs))]]
   exact(bring_not h s.few hi k f x x0 x1 h7 hs).mono fun e w' hx=>hx.mono (by omega)
end
section
variable {B:Bk}{o o':Nat→Nat}{N n n' r g:Nat}{v v':Y.V}{w w' wx:World}{C:Nat→Prop}{i p:Nat}{tm:Int}
theorem act_0(h:WR B o n v w)(hi:i<v.M)(kd sa x d:Int):Calls Tryz.prog 59 #[.pointer (some ⟨B.W,0,none⟩), .int .i64 (i:Int),stV ⟨kd,0,sa,x,d⟩] w (Po B o n (.bool true) (v) w):=by
 have I0:(0:Int)≤(i:Int):=by omega
 have I1:(i:Int)<(v.M:Int):=by omega
 have hb:Below w.heap.size w (w.alloc (.cells (stR ⟨kd,0,sa,x,d⟩) 27)):=(Below.refl _ _).alloc (Nat.le_refl _) _
 have EB:=hid (Ek.of_below (o:=o) hb)
 have h1:=h.below hb
 have a14:=h1.w14
 have H1:=hid h1
 clear h hb h1
 go_enter Tryz.func59,Tryz.ntmps59
 go_wp2
 go_ret
 exact⟨rfl,o,H1.out,EB.out⟩
theorem act_no(h:WR B o n v w)(c:Int)(hc:8≤c)(hi:i<v.M)(kd sa x d:Int):Calls Tryz.prog 59 #[.pointer (some ⟨B.W,0,none⟩), .int .i64 (i:Int),stV ⟨kd,c,sa,x,d⟩] w (Po B o n (.bool false) (v) w):=by
 have I0:(0:Int)≤(i:Int):=by omega
 have I1:(i:Int)<(v.M:Int):=by omega
 have hb:Below w.heap.size w (w.alloc (.cells (stR ⟨kd,c,sa,x,d⟩) 27)):=(Below.refl _ _).alloc (Nat.le_refl _) _
 have EB:=hid (Ek.of_below (o:=o) hb)
 have h1:=h.below hb
 have a14:=h1.w14
 have t0:(c == 0)=false:=beq_eq_false_iff_ne.2 (by omega)
 have t1:(c == 1)=false:=beq_eq_false_iff_ne.2 (by omega)
 have t2:(c == 2)=false:=beq_eq_false_iff_ne.2 (by omega)
 have t3:(c == 3)=false:=beq_eq_false_iff_ne.2 (by omega)
 have t4:(c == 4)=false:=beq_eq_false_iff_ne.2 (by omega)
 have t5:(c == 5)=false:=beq_eq_false_iff_ne.2 (by omega)
 have t6:(c == 6)=false:=beq_eq_false_iff_ne.2 (by omega)
 have t7:(c == 7)=false:=beq_eq_false_iff_ne.2 (by omega)
 have H1:=hid h1
 clear h hb h1 hc
 go_enter Tryz.func59,Tryz.ntmps59
 go_wp2
 go_ret
 exact⟨rfl,o,H1.out,EB.out⟩
theorem act_2(h:WR B o n v w)(hf:Few n v)(hl:v.mm.length=v.M)(hj:0≤(v.mach i).g∧(v.mach i).g<v.G)(hr:evRight 4 (v.mach i).g i (v.mach i).p 0=true)(hi:i<v.M)(kd sa x d:Int):Calls Tryz.prog 59 #[.pointer (some ⟨B.W,0,none⟩), .int .i64 (i:Int),stV ⟨kd,2,sa,x,d⟩] w (Po B o (n+1) (.bool true) ((v.leave i 4 0).onM i fun m => { m with pl:=1 }) w):=by
 have I0:(0:Int)≤(i:Int):=by omega
 have I1:(i:Int)<(v.M:Int):=by omega
 have hb:Below w.heap.size w (w.alloc (.cells (stR ⟨kd,2,sa,x,d⟩) 27)):=(Below.refl _ _).alloc (Nat.le_refl _) _
 have EB:=hid (Ek.of_below (o:=o) hb)
 have h1:=h.below hb
 have a14:=h1.w14
 have C1:=hid (fun(y:World) (hq:Quiet (w.alloc (.cells (stR ⟨kd,2,sa,x,d⟩) 27)) y)=>wleave (h1.quiet hq) hf hl hi 4 (by decide) 0 hj hr)
 rw[show (((4:Nat):Int))=4 from rfl]at C1
 have HL:=hid (show (v.leave i 4 0).mm.length=(v.leave i 4 0).M∧i<(v.leave i 4 0).M from⟨putM_len (v.see _) i _ hl,hi⟩)
 generalize v.leave i 4 0=v2 at C1 HL ⊢
 clear h hb h1 hf hl hj hr
 go_enter Tryz.func59,Tryz.ntmps59
 go_wp2_with fail
 refine(C1.out _ (Quiet.refl _)).mono ?_
 rintro e y ⟨rfl,o2,h2,e2⟩
 have H2:=hid h2
 have E2:=hid e2
 have k0:=h2.m0 (i:=i) HL.out.2
 have kf:=h2.mfz
 clear h2 e2 C1
 go_wp2
 go_ret
 exact⟨rfl,o2,(H2.out.self HL.out.1 HL.out.2).v0 HL.out.1 HL.out.2 1,EB.out.trans (E2.out.trans (Ek.setM H2.out (i*20) (.int .i64 1)))⟩
theorem act_3(h:WR B o n v w)(hf:Few n v)(hl:v.mm.length=v.M)(hj:0≤(v.mach i).g∧(v.mach i).g<v.G)(hr:evRight 7 (v.mach i).g i (v.mach i).p 0=true)(hi:i<v.M)(kd sa x d:Int):Calls Tryz.prog 59 #[.pointer (some ⟨B.W,0,none⟩), .int .i64 (i:Int),stV ⟨kd,3,sa,x,d⟩] w (Po B o (n+1) (.bool true) ((v.leave i 7 0).onM i fun m => { m with pl:=1 }) w):=by
 have I0:(0:Int)≤(i:Int):=by omega
 have I1:(i:Int)<(v.M:Int):=by omega
 have hb:Below w.heap.size w (w.alloc (.cells (stR ⟨kd,3,sa,x,d⟩) 27)):=(Below.refl _ _).alloc (Nat.le_refl _) _
 have EB:=hid (Ek.of_below (o:=o) hb)
 have h1:=h.below hb
 have a14:=h1.w14
 have C1:=hid (fun(y:World) (hq:Quiet (w.alloc (.cells (stR ⟨kd,3,sa,x,d⟩) 27)) y)=>wleave (h1.quiet hq) hf hl hi 7 (by decide) 0 hj hr)
 rw[show (((7:Nat):Int))=7 from rfl]at C1
 have HL:=hid (show (v.leave i 7 0).mm.length=(v.leave i 7 0).M∧i<(v.leave i 7 0).M from⟨putM_len (v.see _) i _ hl,hi⟩)
 generalize v.leave i 7 0=v2 at C1 HL ⊢
 clear h hb h1 hf hl hj hr
 go_enter Tryz.func59,Tryz.ntmps59
 go_wp2_with fail
 refine(C1.out _ (Quiet.refl _)).mono ?_
 rintro e y ⟨rfl,o2,h2,e2⟩
 have H2:=hid h2
 have E2:=hid e2
 have k0:=h2.m0 (i:=i) HL.out.2
 have kf:=h2.mfz
 clear h2 e2 C1
 go_wp2
 go_ret
 exact⟨rfl,o2,(H2.out.self HL.out.1 HL.out.2).v0 HL.out.1 HL.out.2 1,EB.out.trans (E2.out.trans (Ek.setM H2.out (i*20) (.int .i64 1)))⟩
theorem act_1(h:WR B o n v w)(hf:Few n v)(hl:v.mm.length=v.M)(hj:0≤(v.mach i).g∧(v.mach i).g<v.G)(hr:evRight 3 (v.mach i).g i (v.mach i).p 0=true)(hi:i<v.M)(kd sa x d:Int):Calls Tryz.prog 59 #[.pointer (some ⟨B.W,0,none⟩), .int .i64 (i:Int),stV ⟨kd,1,sa,x,d⟩] w (Po B o (n+1) (.bool true) (((v.onM i fun m => { m with got:=m.g }).leave i 3 0).onM i fun m => { m with back:=1,pl:=27 }) w):=by
 have I0:(0:Int)≤(i:Int):=by omega
 have I1:(i:Int)<(v.M:Int):=by omega
 have hb:Below w.heap.size w (w.alloc (.cells (stR ⟨kd,1,sa,x,d⟩) 27)):=(Below.refl _ _).alloc (Nat.le_refl _) _
 have EB:=hid (Ek.of_below (o:=o) hb)
 have h1:=h.below hb
 have a14:=h1.w14
 have q2:=h1.m2 hi
 have q4:=h1.m4 hi
 have qf:=h1.mfz
 obtain⟨gg,hgg⟩:∃ gg,gg=(v.mach i).g:=⟨_,rfl⟩
 rw[←hgg]at q2
 obtain⟨v1,hv1⟩:∃ v1,v1=v.onM i fun m => { m with got:=m.g }:=⟨_,rfl⟩
 have U:=(h1.self hl hi).v4 hl hi gg
 rw[show v.putM i { v.mach i with got:=gg } = v1 by rw[hv1,hgg];rfl]at U
 have em:v1.mach i = { v.mach i with got:=(v.mach i).g }:=by rw[hv1,onM_putM,mach_putM _ _ _ hl hi]
 have hl1:v1.mm.length=v1.M:=by rw[hv1];exact putM_len _ _ _ hl
 have hi1:i<v1.M:=by rw[hv1];exact hi
 have E1:=hid (EB.out.trans (Ek.setM h1 (i*20+4) (.int .i64 gg)))
 have C1:=hid (fun(y:World) (hq:Quiet ((w.alloc (.cells (stR ⟨kd,1,sa,x,d⟩) 27)).setCell ⟨B.mb,i*20+4,none⟩ (.int .i64 gg)) y)=>wleave (U.quiet hq) (by rw[hv1];exact⟨hf.ms,hf.ns,hf.mc,hf.lg,hf.n,hf.wd⟩) hl1 hi1 3 (by decide) 0 (by rw[em,hv1];exact hj) (by rw[em];exact hr))
 rw[show (((3:Nat):Int))=3 from rfl]at C1
 have HL:=hid (show (v1.leave i 3 0).mm.length=(v1.leave i 3 0).M∧i<(v1.leave i 3 0).M from⟨putM_len (v1.see _) i _ hl1,hi1⟩)
 rw[←hv1]
 generalize v1.leave i 3 0=v2 at C1 HL ⊢
 clear h hb h1 hf hl hj hr hv1 em U hl1 hi1 hgg
 go_enter Tryz.func59,Tryz.ntmps59
 go_wp2_with fail
 refine(C1.out _ (Quiet.refl _)).mono ?_
 rintro e y ⟨rfl,o2,h2,e2⟩
 have H2:=hid h2
 have E2:=hid e2
 have k0:=h2.m0 (i:=i) HL.out.2
 have k10:=h2.m10 (i:=i) HL.out.2
 have kf:=h2.mfz
 clear h2 e2 C1
 go_wp2
 go_ret
 have U0:=H2.out.self HL.out.1 HL.out.2
 have U1:=U0.v10 HL.out.1 HL.out.2 1
 exact⟨rfl,o2,U1.v0 HL.out.1 HL.out.2 27,E1.out.trans (E2.out.trans ((Ek.setM U0 (i*20+10) (.int .i64 1)).trans (Ek.setM U1 (i*20) (.int .i64 27))))⟩
theorem act_4(h:WR B o n v w)(s:Sm N n r g v)(hp:0≤(v.mach i).p∧(v.mach i).p<v.P)(hi:i<v.M)(kd sa x d:Int):Calls Tryz.prog 59 #[.pointer (some ⟨B.W,0,none⟩), .int .i64 (i:Int),stV ⟨kd,4,sa,x,d⟩] w (Po B o (n+2) (.bool (v.bring i 0 x 0).2) ((v.bring i 0 x 0).1) w):=by
 have I0:(0:Int)≤(i:Int):=by omega
 have I1:(i:Int)<(v.M:Int):=by omega
 have hb:Below w.heap.size w (w.alloc (.cells (stR ⟨kd,4,sa,x,d⟩) 27)):=(Below.refl _ _).alloc (Nat.le_refl _) _
 have EB:=hid (Ek.of_below (o:=o) hb)
 have h1:=h.below hb
 have a14:=h1.w14
 have C1:=hid (wbring h1 s hi hp 0 (by decide) x 0)
 rw[show (((0:Nat):Int))=0 from rfl]at C1
 generalize v.bring i 0 x 0=rr at C1 ⊢
 clear h hb h1 s hp
 go_enter Tryz.func59,Tryz.ntmps59
 go_wp2_with fail
 refine C1.out.mono ?_
 rintro e y ⟨rfl,o2,h2,e2⟩
 have H2:=hid h2
 have E2:=hid (EB.out.trans e2)
 clear h2 e2 C1
 go_wp2
 go_ret
 exact⟨rfl,o2,H2.out,E2.out⟩
theorem act_5(h:WR B o n v w)(s:Sm N n r g v)(hp:0≤(v.mach i).p∧(v.mach i).p<v.P)(hi:i<v.M)(kd sa x d:Int):Calls Tryz.prog 59 #[.pointer (some ⟨B.W,0,none⟩), .int .i64 (i:Int),stV ⟨kd,5,sa,x,d⟩] w (Po B o (n+2) (.bool (v.bring i 1 x 3).2) ((v.bring i 1 x 3).1) w):=by
 have I0:(0:Int)≤(i:Int):=by omega
 have I1:(i:Int)<(v.M:Int):=by omega
 have hb:Below w.heap.size w (w.alloc (.cells (stR ⟨kd,5,sa,x,d⟩) 27)):=(Below.refl _ _).alloc (Nat.le_refl _) _
 have EB:=hid (Ek.of_below (o:=o) hb)
 have h1:=h.below hb
 have a14:=h1.w14
 have C1:=hid (wbring h1 s hi hp 1 (by decide) x 3)
 rw[show (((1:Nat):Int))=1 from rfl]at C1
 generalize v.bring i 1 x 3=rr at C1 ⊢
 clear h hb h1 s hp
 go_enter Tryz.func59,Tryz.ntmps59
 go_wp2_with fail
 refine C1.out.mono ?_
 rintro e y ⟨rfl,o2,h2,e2⟩
 have H2:=hid h2
 have E2:=hid (EB.out.trans e2)
 clear h2 e2 C1
 go_wp2
 go_ret
 exact⟨rfl,o2,H2.out,E2.out⟩
theorem act_6(h:WR B o n v w)(hl:v.mm.length=v.M)(hi:i<v.M)(kd sa x d:Int):Calls Tryz.prog 59 #[.pointer (some ⟨B.W,0,none⟩), .int .i64 (i:Int),stV ⟨kd,6,sa,x,d⟩] w (Po B o n (.bool true) (v.onM i fun m => { m with arg:=d,pl:=29 }) w):=by
 have I0:(0:Int)≤(i:Int):=by omega
 have I1:(i:Int)<(v.M:Int):=by omega
 have hb:Below w.heap.size w (w.alloc (.cells (stR ⟨kd,6,sa,x,d⟩) 27)):=(Below.refl _ _).alloc (Nat.le_refl _) _
 have EB:=hid (Ek.of_below (o:=o) hb)
 have h1:=h.below hb
 have a14:=h1.w14
 have k0:=h1.m0 hi
 have k12:=h1.m12 hi
 have kf:=h1.mfz
 have H1:=hid h1
 have HL:=hid hl
 clear h hb h1 hl
 go_enter Tryz.func59,Tryz.ntmps59
 go_wp2
 go_ret
 have U0:=H1.out.self HL.out hi
 have U1:=U0.v12 HL.out hi d
 exact⟨rfl,o,U1.v0 HL.out hi 29,EB.out.trans ((Ek.setM U0 (i*20+12) (.int .i64 d)).trans (Ek.setM U1 (i*20) (.int .i64 29)))⟩
theorem isDes(x:Int)(w:World):Calls Tryz.prog 68 #[.int .i64 x] w fun e w'=>e = .returned (.bool (decide (0≤x∧x≤65535)))∧w'=w:=by
 by_cases h0:0≤x
 ·have t0:decide (0≤x)=true:=decide_eq_true h0
  by_cases h1:x≤65535
  ·rw[decide_eq_true (show 0≤x∧x≤65535 from⟨h0,h1⟩)]
   have t1:decide (x≤65535)=true:=decide_eq_true h1
   go_enter Tryz.func68,Tryz.ntmps68
   go_wp2
   go_ret
   exact⟨rfl,rfl⟩
  ·rw[decide_eq_false (show ¬(0≤x∧x≤65535) by omega)]
   have t1:decide (x≤65535)=false:=decide_eq_false h1
   go_enter Tryz.func68,Tryz.ntmps68
   go_wp2
   go_ret
   exact⟨rfl,rfl⟩
 ·rw[decide_eq_false (show ¬(0≤x∧x≤65535) by omega)]
  have t0:decide (0≤x)=false:=decide_eq_false h0
  go_enter Tryz.func68,Tryz.ntmps68
  go_wp2
  go_ret
  exact⟨rfl,rfl⟩
theorem act_7n(h:WR B o n v w)(hl:v.mm.length=v.M)(hi:i<v.M)(kd sa x d:Int)(hx:¬(0≤x∧x≤65535)):Calls Tryz.prog 59 #[.pointer (some ⟨B.W,0,none⟩), .int .i64 (i:Int),stV ⟨kd,7,sa,x,d⟩] w (Po B o n (.bool false) (v) w):=by
 have I0:(0:Int)≤(i:Int):=by omega
 have I1:(i:Int)<(v.M:Int):=by omega
 have hb:Below w.heap.size w (w.alloc (.cells (stR ⟨kd,7,sa,x,d⟩) 27)):=(Below.refl _ _).alloc (Nat.le_refl _) _
 have EB:=hid (Ek.of_below (o:=o) hb)
 have h1:=h.below hb
 have a14:=h1.w14
 have k0:=h1.m0 hi
 have k12:=h1.m12 hi
 have kf:=h1.mfz
 have H1:=hid h1
 have HL:=hid hl
 have DS:=hid (fun y:World=>isDes x y)
 rw[decide_eq_false hx]at DS
 clear h hb h1 hl hx
 go_enter Tryz.func59,Tryz.ntmps59
 go_wp2_with fail
 refine(DS.out _).mono ?_
 rintro e y ⟨rfl,rfl⟩
 go_wp2
 go_ret
 exact⟨rfl,o,H1.out,EB.out⟩
theorem act_7y(h:WR B o n v w)(hl:v.mm.length=v.M)(hi:i<v.M)(kd sa x d:Int)(hx:0≤x∧x≤65535):Calls Tryz.prog 59 #[.pointer (some ⟨B.W,0,none⟩), .int .i64 (i:Int),stV ⟨kd,7,sa,x,d⟩] w (Po B o n (.bool true) (v.onM i fun m => { m with arg:=x,pl:=30 }) w):=by
 have I0:(0:Int)≤(i:Int):=by omega
 have I1:(i:Int)<(v.M:Int):=by omega
 have hb:Below w.heap.size w (w.alloc (.cells (stR ⟨kd,7,sa,x,d⟩) 27)):=(Below.refl _ _).alloc (Nat.le_refl _) _
 have EB:=hid (Ek.of_below (o:=o) hb)
 have h1:=h.below hb
 have a14:=h1.w14
 have k0:=h1.m0 hi
 have k12:=h1.m12 hi
 have kf:=h1.mfz
 have H1:=hid h1
 have HL:=hid hl
 have DS:=hid (fun y:World=>isDes x y)
 rw[decide_eq_true hx]at DS
 clear h hb h1 hl hx
 go_enter Tryz.func59,Tryz.ntmps59
 go_wp2_with fail
 refine(DS.out _).mono ?_
 rintro e y ⟨rfl,rfl⟩
 go_wp2
 go_ret
 have U0:=H1.out.self HL.out hi
 have U1:=U0.v12 HL.out hi x
 exact⟨rfl,o,U1.v0 HL.out hi 30,EB.out.trans ((Ek.setM U0 (i*20+12) (.int .i64 x)).trans (Ek.setM U1 (i*20) (.int .i64 30)))⟩
theorem wact(h:WR B o n v w)(s:Sm N n r g v)(hi:i<v.M)(hp:(v.mach i).pl=0)(st:Y.St)(hs:Y.Sok st):Calls Tryz.prog 59 #[.pointer (some ⟨B.W,0,none⟩), .int .i64 (i:Int),stV st] w (Po B o (n+2) (.bool (v.act i st).2) (v.act i st).1 w):=by
 have lc:=(Y.loc_0 hp).1 (s.i.mo i hi).l
 have hl:=s.i.ln.1
 have hact:=hs.2.1
 obtain⟨kd,act,sa,x,d⟩:=st
 simp only at hact
 have up:∀ {n1:Nat} {x:Value} {f:Y.V} {e:Ending} {w':World},n1≤n+2→Po B o n1 x f w e w'→Po B o (n+2) x f w e w':=fun hn hx=>hx.mono hn
 by_cases c0:act=0
 ·subst c0
  exact(act_0 h hi kd sa x d).mono fun e w' hx=>up (by omega) hx
 by_cases c1:act=1
 ·subst c1
  exact(act_1 h s.few hl lc.2.1 (ev_ok s hi 3 (by simp) _ _ lc.2.1 (by omega) (fun _ _=>rfl) (by omega)) hi kd sa x d).mono fun e w' hx=>up (by omega) hx
 by_cases c2:act=2
 ·subst c2
  exact(act_2 h s.few hl lc.2.1 (ev_ok s hi 4 (by simp) _ _ lc.2.1 (by omega) (fun _ _=>rfl) (by omega)) hi kd sa x d).mono fun e w' hx=>up (by omega) hx
 by_cases c3:act=3
 ·subst c3
  exact(act_3 h s.few hl lc.2.1 (ev_ok s hi 7 (by simp) _ _ lc.2.1 (by omega) (fun _ _=>rfl) (by omega)) hi kd sa x d).mono fun e w' hx=>up (by omega) hx
 by_cases c4:act=4
 ·subst c4
  exact act_4 h s lc.1 hi kd sa x d
 by_cases c5:act=5
 ·subst c5
  exact act_5 h s lc.1 hi kd sa x d
 by_cases c6:act=6
 ·subst c6
  exact(act_6 h hl hi kd sa x d).mono fun e w' hx=>up (by omega) hx
 by_cases c7:act=7
 ·subst c7
  by_cases hx:0≤x∧x≤65535
  ·rw[show v.act i ⟨kd,7,sa,x,d⟩=(v.onM i fun m => { m with arg:=x,pl:=30 },true) by simp[Y.V.act,hx]]
   exact(act_7y h hl hi kd sa x d hx).mono fun e w' hx=>up (by omega) hx
  ·rw[show v.act i ⟨kd,7,sa,x,d⟩=(v,false) by unfold Y.V.act;dsimp only;simp only[hx,if_false];simp]
   exact(act_7n h hl hi kd sa x d hx).mono fun e w' hx=>up (by omega) hx
 ·rw[show v.act i ⟨kd,act,sa,x,d⟩=(v,false) by simp[Y.V.act,c0,c1,c2,c3,c4,c5,c6,c7]]
  exact(act_no h act (by omega) hi kd sa x d).mono fun e w' hx=>up (by omega) hx
end
section
variable {B:Bk}{o o':Nat→Nat}{n n':Nat}{v v':Y.V}{w w' wx:World}{C:Nat→Prop}{i p:Nat}{tm:Int}
theorem tuC_set(l:List Int)(p:Nat)(x:Int):(tuC l).setIfInBounds p (.int .i64 x)=tuC (l.set p x):=by
 unfold tuC
 rw[List.setIfInBounds_toArray,List.map_set]
theorem WR.setT(h:WR B o n v w)(x:Int):WR B o n { v with tu:=v.tu.set p x } (w.setCell ⟨B.tb,p,none⟩ (.int .i64 x))∧Ek o o w (w.setCell ⟨B.tb,p,none⟩ (.int .i64 x)):=by
 have hf:Fm o (fun k=>k=4) w (w.setCell ⟨B.tb,p,none⟩ (.int .i64 x)):=Fm.set _ _ _ _ h.c4.1
 have hx:Ox o o (fun k=>k=4) w (w.setCell ⟨B.tb,p,none⟩ (.int .i64 x)) := .refl h hf.size
 refine⟨h.upd (Nat.le_refl _) hf hx (by decide) (.inr ⟨by decide,rfl,rfl,rfl,rfl⟩) (.inr ⟨by decide,rfl,rfl⟩) (.inr ⟨by decide,rfl⟩) (.inl ⟨h.c4.1,?_⟩) (.inr ⟨by decide,rfl,rfl⟩) (.inr ⟨⟨by decide,by decide⟩,rfl,rfl⟩) (.inr ⟨⟨by decide,by decide⟩,rfl,rfl⟩) (.inr ⟨by decide,rfl,rfl⟩) (.inr ⟨by decide,rfl,rfl,rfl⟩), .of hf hx (by decide)⟩
 have:=h.c4.2
 simp[World.setCell,Array.getElem?_modify,this,tuC_set]
theorem WR.t(h:WR B o n v w)(hl:v.tu.length=v.P)(hp:p<v.P):w.cell? ⟨B.tb,p,none⟩=some (.int .i64 (v.tu.getD p 0)):=by
 refine blk_cell h.c4.2 ?_
 have:p<v.tu.length:=by omega
 simp[tuC,this]
theorem WR.tfz(h:WR B o n v w)(j:Nat):w.frozen? ⟨B.tb,j,none⟩=false:=blk_free h.c4.2
theorem WR.tbb(h:WR B o n v w):B.tb≠B.mb∧B.tb≠B.W∧B.mb≠B.W:=by
 have a:=h.c6.1
 have b:=h.c4.1
 have c:=h.oW
 exact⟨fun e=>by have:=congrArg o e;omega,fun e=>by have:=congrArg o e;omega,fun e=>by have:=congrArg o e;omega⟩
theorem wturn(h:WR B o n v w)(hl:v.mm.length=v.M)(hi:i<v.M)(htl:v.tu.length=v.P)(hpp:(v.mach i).p=(p:Int))(hpP:p<v.P)(ht:0≤v.tu.getD p 0∧v.tu.getD p 0≤1000000):Calls Tryz.prog 101 #[.pointer (some ⟨B.W,0,none⟩),mp B i] w (Po B o n (.tuple #[]) (v.turn i) w):=by
 have k1:=h.m1 hi
 have kf:=h.mfz
 have a10:=h.w10
 have tf:=h.tfz
 have kt:=h.t htl hpP
 have I0:(0:Int)≤(p:Int):=by omega
 have I1:(p:Int)<(v.P:Int):=by omega
 obtain⟨t,hte⟩:∃ t,t=v.tu.getD p 0:=⟨_,rfl⟩
 rw[←hte]at kt ht
 rw[hpp]at k1
 have hwr:IntKind.i64.wrap (t+1)=t+1:=IntWalk.i64_in _ (by omega)
 obtain⟨v1,hv1⟩:∃ v1:Y.V,v1 = { v with tu:=v.tu.set p (t+1) }:=⟨_,rfl⟩
 have U:=h.setT (p:=p) (t+1)
 rw[←hv1]at U
 have UU:=hid U
 have HL:=hid (show v1.mm.length=v1.M∧i<v1.M by rw[hv1];exact⟨hl,hi⟩)
 have EQ:=hid (show v.turn i=v1.onM i fun m=>if (t+1) % 61=0 then m.deliver 2 else { m with pl:=3 } by
  have e:(v.tu.set p (t+1)).getD p 0=t+1:=by
   have:p<v.tu.length:=by omega
   simp[this]
  unfold Y.V.turn
  simp only[hpp,Int.toNat_natCast, ←hte]
  rw[hv1]
  simp only[e])
 rw[EQ.out]
 have hmod:(t+1).tmod 61=(t+1) % 61:=Int.tmod_eq_emod_of_nonneg (by omega)
 have nb:=h.tbb
 have n1:=nb.1
 have n2:=nb.2.1
 have n3:=nb.2.2
 have k0:=h.m0 hi
 have b1:=U.1.m1 (i:=i) HL.out.2
 have b10:=U.1.w10
 have bt:=U.1.t (p:=p) (by rw[hv1];show (v.tu.set p (t+1)).length=v.P;rw[List.length_set];exact htl) (by rw[hv1];exact hpP)
 have DL:=hid (fun(y:World) (hy:WR B o n (v1.putM i { v1.mach i with pl:=3 }) y)=>mdeliver hy (putM_len _ _ _ HL.out.1) (show i<(v1.putM i { v1.mach i with pl:=3 }).M from HL.out.2) 2)
 have V0:=hid ((U.1.self HL.out.1 HL.out.2).v0 HL.out.1 HL.out.2 3)
 have E0:=hid (U.2.trans (Ek.setM U.1 (i*20) (.int .i64 3)))
 clear h hl hi htl hpp hpP hte hv1 U EQ nb b1 b10 bt
 rcases hb:decide ((t+1) % 61=0) with _|_
 ·have h61:¬(t+1) % 61=0:=of_decide_eq_false hb
  rw[show (v1.onM i fun m=>if (t+1) % 61=0 then m.deliver 2 else { m with pl:=3 })=v1.putM i { v1.mach i with pl:=3 } by rw[onM_putM,if_neg h61]]
  clear hb
  go_enter Tryz.func101,Tryz.ntmps101
  go_wp2_with fail
  go_region
  all_goals
   go_wp2_with fail
   go_region
   all_goals
    go_wp2
    go_end0
    exact⟨rfl,o,V0.out.quiet ⟨2,rfl⟩,E0.out.trans (.of_quiet ⟨2,rfl⟩)⟩
 ·have h61:(t+1) % 61=0:=of_decide_eq_true hb
  have EE:=hid (show (v1.putM i { v1.mach i with pl:=3 }).onM i (·.deliver 2)=v1.onM i fun m=>if (t+1) % 61=0 then m.deliver 2 else { m with pl:=3 } by
   rw[onM_putM,mach_putM _ _ _ HL.out.1 HL.out.2,putM2,onM_putM,if_pos h61];rfl)
  rw[←EE.out]
  have D2:=hid (fun(y:World) (hq:Quiet ((w.setCell ⟨B.tb,p,none⟩ (.int .i64 (t+1))).setCell ⟨B.mb,i*20,none⟩ (.int .i64 3)) y)=>(DL.out y (V0.out.quiet hq)).mono (R':=Po B o n (.tuple #[]) ((v1.putM i { v1.mach i with pl:=3 }).onM i (·.deliver 2)) w) fun e w' hx=>hx.behind (E0.out.trans (.of_quiet hq)))
  clear hb DL EE
  go_enter Tryz.func101,Tryz.ntmps101
  go_wp2_with fail
  go_region
  all_goals
   go_wp2_with fail
   go_region
   all_goals
    go_wp2_with fail
    refine(D2.out _ ⟨2,rfl⟩).mono ?_
    rintro e y ⟨rfl,o2,h2,e2⟩
    have H2:=hid h2
    have E2:=hid e2
    clear h2 e2
    go_wp2
    go_end0
    exact⟨rfl,o2,H2.out,E2.out⟩
theorem pass_1(h:WR B o n v w)(hi:i<v.M)(hp:(v.mach i).pl=1){v1:Y.V}(HC:Calls Tryz.prog 101 #[.pointer (some ⟨B.W,0,none⟩),mp B i] w (Po B o n (.tuple #[]) v1 w)):Calls Tryz.prog 62 #[.pointer (some ⟨B.W,0,none⟩), .int .i64 (i:Int)] w (Po B o n (.tuple #[]) v1 w):=by
 have I0:(0:Int)≤(i:Int):=by omega
 have I1:(i:Int)<(v.M:Int):=by omega
 have a14:=h.w14
 have k0:=h.m0 hi
 have C1:=hid HC
 rw[hp]at k0
 clear h hp HC
 go_enter Tryz.func62,Tryz.ntmps62
 go_wp2_with fail
 refine C1.out.mono ?_
 rintro e y ⟨rfl,o2,h2,e2⟩
 have H2:=hid h2
 have E2:=hid e2
 clear h2 e2 C1
 go_wp2
 go_end0
 exact⟨rfl,o2,H2.out,E2.out⟩
theorem pass_none(h:WR B o n v w)(hi:i<v.M)(hp:(v.mach i).pl≠1∧(v.mach i).pl≠5∧(v.mach i).pl≠8∧(v.mach i).pl≠12∧(v.mach i).pl≠16∧(v.mach i).pl≠19∧(v.mach i).pl≠20∧(v.mach i).pl≠21∧(v.mach i).pl≠22∧(v.mach i).pl≠24∧(v.mach i).pl≠26):Calls Tryz.prog 62 #[.pointer (some ⟨B.W,0,none⟩), .int .i64 (i:Int)] w (Po B o n (.tuple #[]) v w):=by
 have I0:(0:Int)≤(i:Int):=by omega
 have I1:(i:Int)<(v.M:Int):=by omega
 have a14:=h.w14
 have k0:=h.m0 hi
 obtain⟨c,hc⟩:∃ c,c=(v.mach i).pl:=⟨_,rfl⟩
 rw[←hc]at k0 hp
 obtain⟨p1,p5,p8,p12,p16,p19,p20,p21,p22,p24,p26⟩:=hp
 have t1:(c == 1)=false:=beq_eq_false_iff_ne.2 p1
 have t5:(c == 5)=false:=beq_eq_false_iff_ne.2 p5
 have t8:(c == 8)=false:=beq_eq_false_iff_ne.2 p8
 have t12:(c == 12)=false:=beq_eq_false_iff_ne.2 p12
 have t16:(c == 16)=false:=beq_eq_false_iff_ne.2 p16
 have t19:(c == 19)=false:=beq_eq_false_iff_ne.2 p19
 have t20:(c == 20)=false:=beq_eq_false_iff_ne.2 p20
 have t21:(c == 21)=false:=beq_eq_false_iff_ne.2 p21
 have t22:(c == 22)=false:=beq_eq_false_iff_ne.2 p22
 have t24:(c == 24)=false:=beq_eq_false_iff_ne.2 p24
 have t26:(c == 26)=false:=beq_eq_false_iff_ne.2 p26
 have H:=hid h
 clear h hc p1 p5 p8 p12 p16 p19 p20 p21 p22 p24 p26
 go_enter Tryz.func62,Tryz.ntmps62
 go_wp2
 go_end0
 exact⟨rfl,o,H.out, .refl _ _⟩
end
end Go.Proofs.YtkhigkcmgcafdaaGreatDoor
