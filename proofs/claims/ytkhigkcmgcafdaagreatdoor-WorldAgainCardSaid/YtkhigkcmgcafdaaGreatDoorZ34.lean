/- Of Ue, Uo, Uf. -/
import Derived.Test.YtkhigkcmgcafdaaGreatDoorZ31
import Derived.Test.YtkhigkcmgcafdaaGreatDoorZ33
set_option linter.unusedVariables false
set_option linter.unusedSimpArgs false
set_option maxHeartbeats 16000000
set_option maxRecDepth 20000
namespace Go.Proofs.YtkhigkcmgcafdaaGreatDoor
open Go.RowKit
section
variable {B:Bk}{o o':Nat→Nat}{N n n' r g:Nat}{v v':Y.V}{w w' wx:World}{C:Nat→Prop}{i p:Nat}{tm:Int}
theorem wpick(h:WR B o n v w)(s:Sm N n r g v)(s1:Sm N (n+1) r g v)(st:Y.St)(hs:Y.Sok st):Calls Tryz.prog 29 #[.pointer (some ⟨B.W,0,none⟩),stV st] w (Po B o (n+2) (.bool (v.pick st).2) (v.pick st).1 w):=by
 have up:∀ {n1:Nat} {x:Value} {f:Y.V} {e:Ending} {w':World},n1≤n+2→Po B o n1 x f w e w'→Po B o (n+2) x f w e w':=fun hn hx=>hx.mono hn
 have cf:=s.i.cf
 by_cases hx:st.a<0∨(v.M:Int)≤st.a
 ·rw[show v.pick st=(v,false) by unfold Y.V.pick;rw[if_pos (by omega)]]
  exact(pick_out h st hx).mono fun e w' hx=>up (by omega) hx
 obtain⟨kd,act,a,x,d⟩:=st
 simp only at hx
 obtain⟨i,rfl⟩:=nat_of (show 0≤a by omega)
 have hi:i<v.M:=by omega
 have mo:=s.i.mo i hi
 have hii:=(s.x.mi i hi).1
 rcases ha:v.asleep i with _|_
 ·have e0:v.pick ⟨kd,act,(i:Int),x,d⟩=v.pickAt i ⟨kd,act,(i:Int),x,d⟩:=by
   unfold Y.V.pick
   rw[if_neg]
   ·simp
   ·simp only[Int.toNat_natCast]
    rw[ha];simp;omega
  rw[e0]
  by_cases hp:(v.mach i).pl=0
  ·rw[show v.pickAt i ⟨kd,act,(i:Int),x,d⟩=v.act i ⟨kd,act,(i:Int),x,d⟩ by unfold Y.V.pickAt;rw[if_pos hp]]
   exact pick_act h hi kd act x d hp fun y hy=>wact hy s hi hp _ hs
  ·rcases hin:(v.mach i).inn with _|_
   ·obtain⟨k,hpl⟩:=nat_of mo.s.pl.1
    have hpl31:=mo.s.pl.2
    have hkk:k<31:=by omega
    by_cases hl:0≤(v.mach i).lock v.P
    ·rw[show v.pickAt i ⟨kd,act,(i:Int),x,d⟩=(v.locked i,true) by unfold Y.V.pickAt;rw[if_neg hp,if_pos (.inr hl)]]
     refine pick_else h s.few hi kd act x d k hpl hkk (by omega) cf.1 cf.2.1 ha hin _ (mlk_is k hkk _ hpl _).symm (by omega) fun o2 y hy => ?_
     rw[decide_eq_true hl]
     simp only[if_true]
     exact wlocked hy s1 hi (.inr hl)
    ·rw[show v.pickAt i ⟨kd,act,(i:Int),x,d⟩=(v.pass i,true) by unfold Y.V.pickAt;rw[if_neg hp,if_neg (by rw[hin];simp;omega)]]
     refine pick_else h s.few hi kd act x d k hpl hkk (by omega) cf.1 cf.2.1 ha hin _ (mlk_is k hkk _ hpl _).symm (by omega) fun o2 y hy => ?_
     rw[decide_eq_false hl]
     simp only[Bool.false_eq_true,if_false]
     exact wpass hy s1 hi hin
   ·rw[show v.pickAt i ⟨kd,act,(i:Int),x,d⟩=(v.locked i,true) by unfold Y.V.pickAt;rw[if_neg hp,if_pos (.inl hin)]]
    exact pick_inn h s.few hi kd act x d hp ha hin fun o2 y hy=>wlocked hy s1 hi (.inl hin)
 ·rw[show v.pick ⟨kd,act,(i:Int),x,d⟩=(v,false) by
   unfold Y.V.pick
   rw[if_pos]
   simp only[Int.toNat_natCast]
   exact .inr (.inr ha)]
  exact(pick_sleeps h s.few hi kd act x d ha).mono fun e w' hx=>up (by omega) hx
end
section
variable {B:Bk}{o o':Nat→Nat}{N n n' r g:Nat}{v v':Y.V}{w w' wx:World}{C:Nat→Prop}{i p:Nat}{tm:Int}
theorem tell_not(h:WR B o n v w)(hd:v.sr.due=false):Calls Tryz.prog 31 #[.pointer (some ⟨B.W,0,none⟩)] w (Po B o n (.tuple #[]) v w):=by
 have a12:=h.w12
 have C1:=hid (wsdue h)
 rw[hd]at C1
 have H:=hid h
 clear h hd
 go_enter Tryz.func31,Tryz.ntmps31
 go_wp2_with fail
 refine C1.out.mono ?_
 rintro e y ⟨rfl,hb⟩
 have FIN:=hid (And.intro (H.out.below hb) (Ek.of_below (o:=o) hb))
 clear hb C1
 go_wp2
 go_end0
 exact⟨rfl,o,FIN.out.1,FIN.out.2⟩
theorem tell_none(h:WR B o n v w)(hd:v.sr.due=true)(hp:v.id.po = -1):Calls Tryz.prog 31 #[.pointer (some ⟨B.W,0,none⟩)] w (Po B o n (.tuple #[]) v w):=by
 have a12:=h.w12
 have C1:=hid (wsdue h)
 rw[hd]at C1
 have C2:=hid (fun(y:World) (hb:Below w.heap.size w y)=>wpoller (h.below hb) (.inl hp))
 rw[if_pos hp,decide_eq_false (show ¬v.id.po ≠ -1 by rw[hp];simp)]at C2
 have H:=hid h
 clear h hd hp
 go_enter Tryz.func31,Tryz.ntmps31
 go_wp2_with fail
 refine C1.out.mono ?_
 rintro e y ⟨rfl,hb⟩
 have H1:=hid (And.intro (H.out.below hb) (Ek.of_below (o:=o) hb))
 have a13:=H1.out.1.w13
 have C3:=hid (C2.out y hb)
 clear hb C1 C2 a12
 go_wp2_with fail
 refine C3.out.mono ?_
 rintro e y3 ⟨rfl,rfl⟩
 go_wp2
 go_end0
 exact⟨rfl,o,H1.out.1,H1.out.2⟩
theorem tell_po(h:WR B o n v w)(hf:Few n v)(hd:v.sr.due=true){q:Nat}(hp:v.id.po=(q:Int))(hq:q<v.M):Calls Tryz.prog 31 #[.pointer (some ⟨B.W,0,none⟩)] w (Po B o (n+1) (.tuple #[]) ((v.putI { v.id with po := -1 }).wake (q:Int)) w):=by
 have a12:=h.w12
 have C1:=hid (wsdue h)
 rw[hd]at C1
 have C2:=hid (fun(y:World) (hb:Below w.heap.size w y)=>wpoller (h.below hb) (.inr (by omega)))
 rw[if_neg (show ¬v.id.po = -1 by omega),decide_eq_true (show v.id.po ≠ -1 by omega),hp]at C2
 have C3:=hid (fun(y:World) (hb:Below w.heap.size w y)=>wileave (h.below hb) (.inr (by omega)) (q:Int))
 rw[show v.id.leave (q:Int)=(true, { v.id with po := -1 }) by unfold Y.IV.leave;rw[if_neg (by omega)]]at C3
 have C4:=hid (fun(o2:Nat→Nat) (y:World) (h2:WR B o2 n (v.putI { v.id with po := -1 }) y)=>wwake h2 ⟨hf.ms,hf.ns,hf.mc,hf.lg,hf.n,hf.wd⟩ hq)
 generalize (v.putI { v.id with po := -1 }).wake (q:Int)=v3 at C4 ⊢
 generalize v.putI { v.id with po := -1 } = v2 at C3 C4
 have H:=hid h
 clear h hd hp hf hq
 go_enter Tryz.func31,Tryz.ntmps31
 go_wp2_with fail
 refine C1.out.mono ?_
 rintro e y ⟨rfl,hb⟩
 have H1:=hid (And.intro (H.out.below hb) (Ek.of_below (o:=o) hb))
 have a13:=H1.out.1.w13
 have C5:=hid (C2.out y hb)
 have C6:=hid (C3.out y hb)
 clear hb C1 C2 C3 a12
 go_wp2_with fail
 refine C5.out.mono ?_
 rintro e y3 ⟨rfl,rfl⟩
 clear C5
 go_wp2_with fail
 refine C6.out.mono ?_
 rintro e y4 ⟨rfl,o4,h4,e4⟩
 have E4:=hid (H1.out.2.trans e4)
 have C7:=hid (C4.out o4 y4 h4)
 clear h4 e4 C6 C4
 go_wp2_with fail
 refine C7.out.mono ?_
 rintro e y5 ⟨rfl,o5,h5,e5⟩
 have H5:=hid h5
 have E5:=hid (E4.out.trans e5)
 clear h5 e5 C7
 go_wp2
 go_end0
 exact⟨rfl,o5,H5.out,E5.out⟩
theorem wtell(h:WR B o n v w)(hf:Few n v)(hpo:v.id.po = -1∨(0≤v.id.po∧v.id.po<v.M)):Calls Tryz.prog 31 #[.pointer (some ⟨B.W,0,none⟩)] w (Po B o (n+1) (.tuple #[]) v.tell w):=by
 rcases hd:v.sr.due with _|_
 ·rw[show v.tell=v by unfold Y.V.tell;rw[if_neg];rintro⟨h1,_⟩;rw[hd]at h1;cases h1]
  exact(tell_not h hd).mono fun e w' hx=>hx.mono (Nat.le_succ n)
 ·by_cases hp:v.id.po = -1
  ·rw[show v.tell=v by unfold Y.V.tell;rw[if_neg];rintro⟨_,h1⟩;exact h1 hp]
   exact(tell_none h hd hp).mono fun e w' hx=>hx.mono (Nat.le_succ n)
  ·obtain⟨q,hq⟩:=nat_of (show 0≤v.id.po by omega)
   rw[show v.tell=(v.putI { v.id with po := -1 }).wake (q:Int) by unfold Y.V.tell;rw[if_pos ⟨hd,hp⟩,hq]]
   exact tell_po h hf hd hq (by omega)
theorem wready_out(h:WR B o n v w)(x:Int)(hx:¬(0≤x∧x≤65535)):Calls Tryz.prog 32 #[.pointer (some ⟨B.W,0,none⟩), .int .i64 x] w (Po B o n (.bool false) v w):=by
 have DS:=hid (fun y:World=>isDes x y)
 rw[decide_eq_false hx]at DS
 have H:=hid h
 clear h hx
 go_enter Tryz.func32,Tryz.ntmps32
 go_wp2_with fail
 refine(DS.out _).mono ?_
 rintro e y ⟨rfl,rfl⟩
 go_wp2
 go_ret
 exact⟨rfl,o,H.out, .refl _ _⟩
theorem wready_full(h:WR B o n v w)(hf:Fes v.sr)(x:Int)(hx:0≤x∧x≤65535)(hr:v.sr.ready x=none):Calls Tryz.prog 32 #[.pointer (some ⟨B.W,0,none⟩), .int .i64 x] w (Po B o n (.bool false) v w):=by
 have DS:=hid (fun y:World=>isDes x y)
 rw[decide_eq_true hx]at DS
 have a12:=h.w12
 have C1:=hid (wsready h hf x)
 rw[hr]at C1
 dsimp only at C1
 have hwr:IntKind.u16.wrap x=x:=by simp[IntKind.wrap,IntKind.bits,IntKind.signed];omega
 have H:=hid h
 clear h hx hf hr
 go_enter Tryz.func32,Tryz.ntmps32
 go_wp2_with fail
 refine(DS.out _).mono ?_
 rintro e y ⟨rfl,rfl⟩
 go_wp2_with fail
 refine C1.out.mono ?_
 rintro e y2 ⟨rfl,hb⟩
 have FIN:=hid (And.intro (H.out.below hb) (Ek.of_below (o:=o) hb))
 clear hb C1
 go_wp2
 go_ret
 exact⟨rfl,o,FIN.out.1,FIN.out.2⟩
theorem wready_yes(h:WR B o n v w)(hw:Few n v)(hf:Fes v.sr)(hpo:v.id.po = -1∨(0≤v.id.po∧v.id.po<v.M))(x:Int)(hx:0≤x∧x≤65535){t:Y.SV}(hr:v.sr.ready x=some t):Calls Tryz.prog 32 #[.pointer (some ⟨B.W,0,none⟩), .int .i64 x] w (Po B o (n+1) (.bool true) (v.putS t).tell w):=by
 have DS:=hid (fun y:World=>isDes x y)
 rw[decide_eq_true hx]at DS
 have a12:=h.w12
 have C1:=hid (wsready h hf x)
 rw[hr]at C1
 dsimp only at C1
 have hwr:IntKind.u16.wrap x=x:=by simp[IntKind.wrap,IntKind.bits,IntKind.signed];omega
 have C2:=hid (fun(o2:Nat→Nat) (y:World) (h2:WR B o2 n (v.putS t) y)=>wtell h2 ⟨hw.ms,hw.ns,hw.mc,hw.lg,hw.n,hw.wd⟩ hpo)
 generalize (v.putS t).tell=v3 at C2 ⊢
 generalize v.putS t=v2 at C1 C2
 have H:=hid h
 clear h hx hf hr hw hpo
 go_enter Tryz.func32,Tryz.ntmps32
 go_wp2_with fail
 refine(DS.out _).mono ?_
 rintro e y ⟨rfl,rfl⟩
 go_wp2_with fail
 refine C1.out.mono ?_
 rintro e y2 ⟨rfl,o2,h2,e2⟩
 have C3:=hid (C2.out o2 y2 h2)
 have E2:=hid e2
 clear h2 e2 C1 C2
 go_wp2_with fail
 refine C3.out.mono ?_
 rintro e y3 ⟨rfl,o3,h3,e3⟩
 have H3:=hid h3
 have E3:=hid (E2.out.trans e3)
 clear h3 e3 C3
 go_wp2
 go_ret
 exact⟨rfl,o3,H3.out,E3.out⟩
theorem stp_box(h:WR B o n v w)(st:Y.St):Below w.heap.size w (w.alloc (.cells (stR st) 27)):=(Below.refl _ _).alloc (Nat.le_refl _) _
theorem step_0(h:WR B o n v w)(act a x d:Int){b:Bool}{v1:Y.V}(HC:∀ y,WR B o n v y→Calls Tryz.prog 29 #[.pointer (some ⟨B.W,0,none⟩),stV ⟨0,act,a,x,d⟩] y (Po B o n' (.bool b) v1 y)):Calls Tryz.prog 8 #[.pointer (some ⟨B.W,0,none⟩),stV ⟨0,act,a,x,d⟩] w (Po B o n' (.bool b) v1 w):=by
 have hb:=stp_box h ⟨0,act,a,x,d⟩
 have EB:=hid (Ek.of_below (o:=o) hb)
 have C1:=hid (HC _ (h.below hb))
 clear h hb HC
 go_enter Tryz.func8,Tryz.ntmps8
 go_wp2_with fail
 refine C1.out.mono ?_
 rintro e y ⟨rfl,o2,h2,e2⟩
 have H2:=hid h2
 have E2:=hid (EB.out.trans e2)
 clear h2 e2 C1
 go_wp2
 go_ret
 exact⟨rfl,o2,H2.out,E2.out⟩
theorem step_1(h:WR B o n v w)(hw:Few n v)(hpo:v.id.po = -1∨(0≤v.id.po∧v.id.po<v.M))(act a x d:Int)(hd:inI d):Calls Tryz.prog 8 #[.pointer (some ⟨B.W,0,none⟩),stV ⟨1,act,a,x,d⟩] w (Po B o (n+1) (.bool true) (v.putS (v.sr.tick d)).tell w):=by
 have hb:=stp_box h ⟨1,act,a,x,d⟩
 have EB:=hid (Ek.of_below (o:=o) hb)
 have h1:=h.below hb
 have a12:=h1.w12
 have C1:=hid (fun(y:World) (hq:Quiet (w.alloc (.cells (stR ⟨1,act,a,x,d⟩) 27)) y)=>(wstick (h1.quiet hq) d hd).mono (R':=Po B o n (.bool (v.sr.tick d).due) (v.putS (v.sr.tick d)) w) fun e w' hx=>hx.behind (EB.out.trans (.of_quiet hq)))
 have C2:=hid (fun(o2:Nat→Nat) (y:World) (h2:WR B o2 n (v.putS (v.sr.tick d)) y)=>wtell h2 ⟨hw.ms,hw.ns,hw.mc,hw.lg,hw.n,hw.wd⟩ hpo)
 generalize (v.putS (v.sr.tick d)).tell=v3 at C2 ⊢
 generalize v.putS (v.sr.tick d)=v2 at C1 C2
 generalize (v.sr.tick d).due=bb at C1
 clear h hb hw hpo hd h1
 go_enter Tryz.func8,Tryz.ntmps8
 go_wp2_with fail
 go_region_with (go_at_call 30;refine(C1.out _ ⟨_,rfl⟩).mono ?_;rintro e y ⟨rfl,o2,h2,e2⟩)
 all_goals
  have C3:=hid (C2.out o2 y h2)
  have E2:=hid e2
  clear h2 e2 C1 C2
  go_wp2_with fail
  refine C3.out.mono ?_
  rintro e y3 ⟨rfl,o3,h3,e3⟩
  have H3:=hid h3
  have E3:=hid (E2.out.trans e3)
  clear h3 e3 C3
  go_wp2
  go_ret
  exact⟨rfl,o3,H3.out,E3.out⟩
theorem step_2(h:WR B o n v w)(act a x d:Int){b:Bool}{v1:Y.V}(HC:∀ y,WR B o n v y→Calls Tryz.prog 32 #[.pointer (some ⟨B.W,0,none⟩), .int .i64 a] y (Po B o n' (.bool b) v1 y)):Calls Tryz.prog 8 #[.pointer (some ⟨B.W,0,none⟩),stV ⟨2,act,a,x,d⟩] w (Po B o n' (.bool b) v1 w):=by
 have hb:=stp_box h ⟨2,act,a,x,d⟩
 have EB:=hid (Ek.of_below (o:=o) hb)
 have C1:=hid (HC _ (h.below hb))
 clear h hb HC
 go_enter Tryz.func8,Tryz.ntmps8
 go_wp2_with fail
 refine C1.out.mono ?_
 rintro e y ⟨rfl,o2,h2,e2⟩
 have H2:=hid h2
 have E2:=hid (EB.out.trans e2)
 clear h2 e2 C1
 go_wp2
 go_ret
 exact⟨rfl,o2,H2.out,E2.out⟩
theorem step_3(h:WR B o n v w)(c:Int)(hc:c≠0∧c≠1∧c≠2)(act a x d:Int):Calls Tryz.prog 8 #[.pointer (some ⟨B.W,0,none⟩),stV ⟨c,act,a,x,d⟩] w (Po B o n (.bool false) v w):=by
 have hb:=stp_box h ⟨c,act,a,x,d⟩
 have EB:=hid (Ek.of_below (o:=o) hb)
 have H:=hid (h.below hb)
 obtain⟨c0,c1,c2⟩:=hc
 have t0:(c == 0)=false:=beq_eq_false_iff_ne.2 c0
 have t1:(c == 1)=false:=beq_eq_false_iff_ne.2 c1
 have t2:(c == 2)=false:=beq_eq_false_iff_ne.2 c2
 clear h hb c0 c1 c2
 go_enter Tryz.func8,Tryz.ntmps8
 go_wp2
 go_ret
 exact⟨rfl,o,H.out,EB.out⟩
end
section
variable {B:Bk}{o o':Nat→Nat}{N n n' r g:Nat}{v v':Y.V}{w w' wx:World}{C:Nat→Prop}{i p:Nat}{tm:Int}
theorem wstep(h:WR B o n v w)(a:Y.All N v)(x:Y.Xt r g v)(hN:N<1000000)(hn:n+4<1000000)(hr:r<1000000)(hg:g<1000)(st:Y.St)(hs:Y.Sok st):Calls Tryz.prog 8 #[.pointer (some ⟨B.W,0,none⟩),stV st] w (Po B o (n+2) (.bool (v.step st).2) (v.step st).1 w):=by
 have s:Sm N n r g v:=⟨a.i,x,hN,by omega,hr,hg⟩
 have s1:Sm N (n+1) r g v:=⟨a.i,x,hN,by omega,hr,hg⟩
 have up:∀ {n1:Nat} {x:Value} {f:Y.V} {e:Ending} {w':World},n1≤n+2→Po B o n1 x f w e w'→Po B o (n+2) x f w e w':=fun hn hx=>hx.mono hn
 obtain⟨kd,act,sa,sx,d⟩:=st
 by_cases k0:kd=0
 ·subst k0
  rw[show v.step ⟨0,act,sa,sx,d⟩=v.pick ⟨0,act,sa,sx,d⟩ by unfold Y.V.step;rw[if_pos rfl]]
  exact step_0 h act sa sx d fun y hy=>wpick hy s s1 _ hs
 by_cases k1:kd=1
 ·subst k1
  rw[show v.step ⟨1,act,sa,sx,d⟩=((v.putS (v.sr.tick d)).tell,true) by unfold Y.V.step;rw[if_neg (show ¬(1:Int)=0 by decide),if_pos rfl]]
  exact(step_1 h s.few a.i.id.po act sa sx d hs.2.2.2.2).mono fun e w' hx=>up (by omega) hx
 by_cases k2:kd=2
 ·subst k2
  by_cases hx:0≤sa∧sa≤65535
  ·rcases hq:v.sr.ready sa with _|t
   ·rw[show v.step ⟨2,act,sa,sx,d⟩=(v,false) by unfold Y.V.step;rw[if_neg (show ¬(2:Int)=0 by decide),if_neg (show ¬(2:Int)=1 by decide),if_pos rfl,if_pos hx];dsimp only;rw[hq]]
    exact(step_2 h act sa sx d fun y hy=>wready_full hy s.fes sa hx hq).mono fun e w' hx=>up (by omega) hx
   ·rw[show v.step ⟨2,act,sa,sx,d⟩=((v.putS t).tell,true) by unfold Y.V.step;rw[if_neg (show ¬(2:Int)=0 by decide),if_neg (show ¬(2:Int)=1 by decide),if_pos rfl,if_pos hx];dsimp only;rw[hq]]
    exact(step_2 h act sa sx d fun y hy=>wready_yes hy s.few s.fes a.i.id.po sa hx hq).mono fun e w' hx=>up (by omega) hx
  ·rw[show v.step ⟨2,act,sa,sx,d⟩=(v,false) by unfold Y.V.step;rw[if_neg (show ¬(2:Int)=0 by decide),if_neg (show ¬(2:Int)=1 by decide),if_pos rfl,if_neg hx]]
   exact(step_2 h act sa sx d fun y hy=>wready_out hy sa hx).mono fun e w' hx=>up (by omega) hx
 ·rw[show v.step ⟨kd,act,sa,sx,d⟩=(v,false) by unfold Y.V.step;rw[if_neg k0,if_neg k1,if_neg k2]]
  exact(step_3 h kd ⟨k0,k1,k2⟩ act sa sx d).mono fun e w' hx=>up (by omega) hx
end
end Go.Proofs.YtkhigkcmgcafdaaGreatDoor
