/- Of Vr, Yu, Ub. -/
import Derived.Test.YtkhigkcmgcafdaaGreatDoorZ24
set_option linter.unusedVariables false
set_option linter.unusedSimpArgs false
set_option maxHeartbeats 16000000
set_option maxRecDepth 20000
namespace Go.Proofs.YtkhigkcmgcafdaaGreatDoor
open Go.RowKit
section
variable {B:Bk}{o o':Nat→Nat}{n n':Nat}{v v':Y.V}{w w' wx:World}{C:Nat→Prop}{i p:Nat}{tm:Int}
theorem onM_onM(v:Y.V)(i:Nat)(hl:v.mm.length=v.M)(hi:i<v.M)(f g:Y.Mh→Y.Mh):(v.onM i f).onM i g=v.onM i fun m=>g (f m):=by
 show (v.putM i (f (v.mach i))).putM i (g ((v.putM i (f (v.mach i))).mach i))=v.putM i (g (f (v.mach i)))
 rw[mach_putM _ _ _ hl hi,putM2]
theorem wsetSpin(h:WR B o n v w)(hf:Few n v)(hl:v.mm.length=v.M)(hi:i<v.M)(b:Bool):Calls Tryz.prog 102 #[.pointer (some ⟨B.W,0,none⟩),mp B i, .bool b] w (Po B o (n+1) (.tuple #[]) ((v.spin (if b then 1 else -1)).onM i fun m => { m with spin:=b }) w):=by
 have k7:=h.m7 hi
 have kf:=h.mfz
 have U:=(h.self hl hi).v7 hl hi b
 have E1:=hid (Ek.setM h (i*20+7) (.bool b))
 have C1:=hid (wspin U ⟨hf.ms,hf.ns,hf.mc,hf.lg,hf.n,hf.wd⟩ (if b then 1 else -1))
 have EQ:=hid (show (v.putM i { v.mach i with spin:=b }).spin (if b then 1 else -1)=(v.spin (if b then 1 else -1)).onM i fun m => { m with spin:=b } from rfl)
 rw[EQ.out]at C1
 clear h hf hl U EQ
 obtain⟨d,hd⟩:∃ d:Int,d=if b then 1 else -1:=⟨_,rfl⟩
 rw[←hd]at C1 ⊢
 rcases b with _|_
 all_goals
  simp at hd
  subst hd
  go_enter Tryz.func102,Tryz.ntmps102
  go_wp2_with fail
  refine C1.out.mono ?_
  rintro e y ⟨rfl,o2,h2,e2⟩
  have H2:=hid h2
  have E2:=hid (E1.out.trans e2)
  clear h2 e2 C1
  go_wp2
  go_end0
  exact⟨rfl,o2,H2.out,E2.out⟩
end
end Go.Proofs.YtkhigkcmgcafdaaGreatDoor
namespace Go.Proofs.YtkhigkcmgcafdaaGreatDoor.Y
structure Ks(i:Nat)(v v':V):Prop where
 P:v'.P=v.P
 M:v'.M=v.M
 G:v'.G=v.G
 ln:v'.mm.length=v.mm.length
 st:(v'.mach i).st=(v.mach i).st
 tm:(v'.mach i).tm=(v.mach i).tm
section
variable {i:Nat}{v v' v2:V}
theorem Ks.refl(v:V):Ks i v v:=⟨rfl,rfl,rfl,rfl,rfl,rfl⟩
theorem Ks.putM(h:Ks i v v')(j:Nat){m:Mh}(hm:j=i→m.st=(v'.mach i).st∧m.tm=(v'.mach i).tm):Ks i v (v'.putM j m):=by
 have e:((v'.putM j m).mach i).st=(v'.mach i).st∧((v'.putM j m).mach i).tm=(v'.mach i).tm:=by
  by_cases hj:j<v'.mm.length
  ·have:=mach_set (v:=v') (v':=v'.putM j m) rfl hj i
   rw[this]
   split
   ·rename_i e;exact hm e.symm
   ·exact⟨rfl,rfl⟩
  ·have:(v'.putM j m).mach i=v'.mach i:=by
    unfold V.mach V.putM
    rw[List.set_eq_of_length_le (by omega)]
   rw[this];exact⟨rfl,rfl⟩
 exact⟨h.P,h.M,h.G,by show (v'.mm.set j m).length=_;rw[List.length_set];exact h.ln,e.1.trans h.st,e.2.trans h.tm⟩
theorem Ks.onM(h:Ks i v v')(j:Nat){f:Mh→Mh}(hf:∀ m,(f m).st=m.st∧(f m).tm=m.tm):Ks i v (v'.onM j f):=h.putM j fun e=>by subst e;exact hf _
theorem Ks.same(h:Ks i v v')(e1:v2.P=v'.P)(e2:v2.M=v'.M)(e3:v2.G=v'.G)(e4:v2.mm=v'.mm):Ks i v v2:=by
 have:v2.mach i=v'.mach i:=by unfold V.mach;rw[e4]
 exact⟨e1.trans h.P,e2.trans h.M,e3.trans h.G,by rw[e4];exact h.ln,by rw[this];exact h.st,by rw[this];exact h.tm⟩
theorem ks1{c:Prop}[Decidable c]{a b:V × Bool}(h1:c→Ks i v a.1)(h2:¬c→Ks i v b.1):Ks i v (if c then a else b).1:=by
 split
 ·rename_i hc;exact h1 hc
 ·rename_i hc;exact h2 hc
theorem ks2{c:Prop}[Decidable c]{a b:V}(h1:c→Ks i v a)(h2:¬c→Ks i v b):Ks i v (if c then a else b):=by
 split
 ·rename_i hc;exact h1 hc
 ·rename_i hc;exact h2 hc
theorem fx_get(x:Int × Bool)(m:Mh):(m.get x).st=m.st∧(m.get x).tm=m.tm:=by unfold Mh.get;split <;> exact⟨rfl,rfl⟩
theorem fx_getAll(l:List Int)(m:Mh):(m.getAll l).st=m.st∧(m.getAll l).tm=m.tm:=by unfold Mh.getAll;split <;> exact⟨rfl,rfl⟩
theorem fx_hold(x:Int × Bool)(m:Mh):(m.hold x).st=m.st∧(m.hold x).tm=m.tm:=by unfold Mh.hold;split <;> exact⟨rfl,rfl⟩
theorem Ks.leave(h:Ks i v v')(k x:Int):Ks i v (v'.leave i k x):=by
 unfold V.leave
 dsimp only
 refine Ks.onM ?_ i fun m=>⟨rfl,rfl⟩
 exact h.same rfl rfl rfl rfl
theorem ks_release:Ks i v (v.release i):=by
 have h1:Ks i v (v.takeQ.2.onM i (·.getAll v.takeQ.1)):=by
  refine Ks.onM ?_ i (fx_getAll _)
  exact(Ks.refl v).same rfl rfl rfl rfl
 unfold V.release
 refine ks2 (fun _=>h1) fun _ => ?_
 refine Ks.onM ?_ i fun m=>⟨rfl,rfl⟩
 exact h1.same rfl rfl rfl rfl
theorem ks_stop:Ks i v (v.stop i):=by
 unfold V.stop
 refine ks2 (fun _ => ?_) fun _ => ?_
 · (try dsimp only);refine Ks.onM ?_ i fun m=>⟨rfl,rfl⟩
   exact(Ks.refl v).same rfl rfl rfl rfl
 · (try dsimp only);refine Ks.onM ?_ i fun m=>⟨rfl,rfl⟩
   exact(Ks.refl v).same rfl rfl rfl rfl
theorem ks_find(tm:Int):Ks i v (v.find i tm).1:=by
 unfold V.find
 refine ks1 (fun _ => ?_) fun _ => ?_
 ·exact(Ks.refl v).same rfl rfl rfl rfl
 refine ks1 (fun _ => ?_) fun _ => ?_
 ·refine ks1 (fun _ => ?_) fun _ => ?_
  · (try dsimp only);refine Ks.onM ?_ i fun m=>⟨rfl,rfl⟩
    refine Ks.onM ?_ _ fun m=>⟨rfl,rfl⟩
    exact(Ks.refl v).same rfl rfl rfl rfl
  ·exact(Ks.refl v).same rfl rfl rfl rfl
 ·exact Ks.refl v
theorem ks_give(tm:Int):Ks i v (v.give i tm).1:=by
 unfold V.give
 refine ks1 (fun _ => ?_) fun _ => ?_
 · (try dsimp only);refine Ks.onM ?_ i fun m=>⟨rfl,rfl⟩
   exact(Ks.refl v).same rfl rfl rfl rfl
 refine ks1 (fun _ => ?_) fun _ => ?_
 · (try dsimp only);refine Ks.onM ?_ i fun m=>⟨rfl,rfl⟩
   exact(Ks.refl v).same rfl rfl rfl rfl
 refine ks1 (fun _ => ?_) fun _ => ?_
 · (try dsimp only);refine Ks.onM ?_ i fun m=>⟨rfl,rfl⟩
   exact(Ks.refl v).same rfl rfl rfl rfl
 refine ks1 (fun _ => ?_) fun _ => ?_
 · (try dsimp only);refine Ks.onM ?_ i fun m=>⟨rfl,rfl⟩
   exact(Ks.refl v).same rfl rfl rfl rfl
 refine ks1 (fun _=>ks_find tm) fun _ => ?_
 refine ks1 (fun _ => ?_) fun _ => ?_
 ·unfold V.park
  refine ks1 (fun _=>(Ks.refl v).leave _ _) fun _ => ?_
  (try dsimp only);refine Ks.onM ?_ i fun m=>⟨rfl,rfl⟩
  exact(Ks.refl v).same rfl rfl rfl rfl
 refine ks1 (fun _ => ?_) fun _ => ?_
 ·unfold V.await
  refine ks1 (fun _=>(Ks.refl v).leave _ _) fun _ => ?_
  (try dsimp only);refine Ks.onM ?_ i fun m=>⟨rfl,rfl⟩
  exact(Ks.refl v).same rfl rfl rfl rfl
 ·exact Ks.refl v
theorem ks_one:Ks i v v.one.2:=by
 unfold V.one
 split
 ·exact Ks.refl v
 ·exact(Ks.refl v).same rfl rfl rfl rfl
theorem ks_with(tm:Int):Ks i v (v.with' i tm).1:=by
 have S:∀ {v2:V} {f:Mh→Mh},(v2.P=v.P∧v2.M=v.M∧v2.G=v.G∧v2.mm=v.mm)→(∀ m,(f m).st=m.st∧(f m).tm=m.tm)→Ks i v (v2.onM i f):=fun e hf=>Ks.onM ((Ks.refl v).same e.1 e.2.1 e.2.2.1 e.2.2.2) i hf
 unfold V.with'
 refine ks1 (fun _=>ks_one.onM i (fx_get _)) fun _ => ?_
 refine ks1 (fun _=>by dsimp only;exact S ⟨rfl,rfl,rfl,rfl⟩ (fx_get _)) fun _ => ?_
 refine ks1 (fun _=>by dsimp only;exact S ⟨rfl,rfl,rfl,rfl⟩ (fx_getAll _)) fun _ => ?_
 refine ks1 (fun _=>by dsimp only;exact S ⟨rfl,rfl,rfl,rfl⟩ (fx_getAll _)) fun _ => ?_
 refine ks1 (fun _=>ks_release) fun _ => ?_
 refine ks1 (fun _ => ?_) fun _ => ?_
 ·dsimp only;exact S ⟨rfl,rfl,rfl,rfl⟩ fun m=>⟨rfl,rfl⟩
 refine ks1 (fun _ => ?_) fun _ => ?_
 ·dsimp only;exact S ⟨rfl,rfl,rfl,rfl⟩ fun m=>⟨rfl,rfl⟩
 refine ks1 (fun _=>by dsimp only;exact S ⟨rfl,rfl,rfl,rfl⟩ (fx_hold _)) fun _ => ?_
 refine ks1 (fun _=>ks_stop) fun _ => ?_
 refine ks1 (fun _ => ?_) fun _ => ?_
 ·dsimp only;exact S ⟨rfl,rfl,rfl,rfl⟩ fun m=>⟨rfl,rfl⟩
 refine ks1 (fun _ => ?_) fun _ => ?_
 ·dsimp only;exact S ⟨rfl,rfl,rfl,rfl⟩ fun m=>⟨rfl,rfl⟩
 refine ks1 (fun _=>by dsimp only;exact S ⟨rfl,rfl,rfl,rfl⟩ (fx_get _)) fun _ => ?_
 exact ks_give tm
end
end Go.Proofs.YtkhigkcmgcafdaaGreatDoor.Y
namespace Go.Proofs.YtkhigkcmgcafdaaGreatDoor
open Go.RowKit
section
variable {B:Bk}{o o':Nat→Nat}{N n n' r g:Nat}{v v':Y.V}{w w' wx:World}{C:Nat→Prop}{i p:Nat}{tm:Int}
theorem mlk_is(k:Nat)(hk:k<31)(m:Y.Mh)(hp:m.pl=(k:Int))(P:Int):m.lock P=lk (maPlace1 k) m.p m.i P:=by
 have e:Y.Mh.cls (k:Int)=maPlace1 k:=by
  rcases k with _|_|_|_|_|_|_|_|_|_|_|_|_|_|_|_|_|_|_|_|_|_|_|_|_|_|_|_|_|_|_|k <;> first|rfl|omega
 unfold Y.Mh.lock lk
 rw[hp,e]
 rfl
theorem sect_1(hs:(v.mach i).st=1)(b:Bool)(hb:decide ((v.mach i).tk=v.ms.getD (v.mach i).sv.toNat 0)=b):v.sect i=({ v with mc:=v.mc+1 }:Y.V).onM i fun m => { m with st:=if b then 2 else 1 }:=by
 unfold Y.V.sect
 dsimp only
 rw[if_neg (by omega),if_pos hs]
 rw[onM_putM,onM_putM]
 have e:Y.V.mach ({ v with mc:=v.mc+1 }:Y.V) i=v.mach i:=rfl
 rw[e, ←hb]
 simp
theorem sect_2(hs:(v.mach i).st=2):v.sect i=(v.with' i (v.mach i).tm).1.onM i fun m => { m with st:=if (v.with' i (v.mach i).tm).2 then 2 else 3,tm:=m.tm+1 }:=by
 unfold Y.V.sect
 dsimp only
 rw[if_neg (by omega),if_neg (by omega),if_pos hs]
theorem sect_0(hs:(v.mach i).st=0):v.sect i=({ v with ms:=v.ms.set (v.mach i).sn.toNat (Y.w64 (v.ms.getD (v.mach i).sn.toNat 0+1)),mc:=v.mc+1 }:Y.V).onM i fun m => { m with tk:=v.ms.getD (v.mach i).sn.toNat 0,st:=1 }:=by
 unfold Y.V.sect
 dsimp only
 rw[if_pos hs]
 rfl
theorem wlocked(h:WR B o n v w)(s:Sm N n r g v)(hi:i<v.M)(hk:(v.mach i).inn=true∨0≤(v.mach i).lock v.P):Calls Tryz.prog 61 #[.pointer (some ⟨B.W,0,none⟩), .int .i64 (i:Int)] w (Po B o (n+1) (.tuple #[]) (v.locked i) w):=by
 have mo:=s.i.mo i hi
 have hl:=s.i.ln.1
 have cf:=s.i.cf
 have hmc:=s.few.mc
 have hN:=s.N
 have h31:=mo.s.pl
 have hii:=(s.x.mi i hi).1
 rcases hin:(v.mach i).inn with _|_
 ·have hk':0≤(v.mach i).lock v.P:=by
   rcases hk with hk|hk
   ·rw[hin]at hk;cases hk
   ·exact hk
  obtain⟨k,hpl⟩:=nat_of h31.1
  have hkk:k<31:=by omega
  have hle:=Y.lock_le (v.mach i) v.P cf.1
  obtain⟨L,hL⟩:=nat_of hk'
  have hlk:lk (maPlace1 k) (v.mach i).p (v.mach i).i (v.P:Int)=L:=by rw[←mlk_is k hkk _ hpl,hL]
  obtain⟨v1,hv1⟩:∃ v1,v1=v.onM i fun m=>m.into L:=⟨_,rfl⟩
  have em:v1.mach i=(v.mach i).into L:=by rw[hv1,onM_putM,mach_putM _ _ _ hl hi]
  have hl1:v1.mm.length=v1.M:=by rw[hv1];exact putM_len _ _ _ hl
  have hi1:i<v1.M:=by rw[hv1];exact hi
  have e0:v.locked i=v1.sect i:=by
   unfold Y.V.locked
   rw[if_neg (by rw[hin];simp),hv1]
   rw[onM_putM,onM_putM,hL]
  have z0:(v1.mach i).st=0:=by rw[em];rfl
  have zn:(v1.mach i).sn=((2*L:Nat):Int):=by rw[em];show 2*(L:Int)=_;omega
  have ems:v1.ms=v.ms:=by rw[hv1];rfl
  have emc:v1.mc=v.mc:=by rw[hv1];rfl
  have hwl:2*L<v.ms.length:=by
   rw[s.i.ln.2.2.2.1]
   unfold Y.V.wds Y.V.sts Y.V.nts Y.V.spn
   omega
  have lw:=(s.i.lk L (by omega)).le
  rw[e0,sect_0 z0]
  refine(wlocked_first (n':=n) h hl hi hin k L hpl hkk cf.1 cf.2.1 hlk (by omega) (by omega) fun y pw pi hy hcb => ?_).mono fun e w' hx=>po_up hx
  rw[←hv1]at hy
  exact sect_take (cloV pw pi) hy hl1 hi1 z0 (by rw[emc];omega) (by rw[zn];omega) (by rw[zn,ems];omega) (by rw[zn,ems,Int.toNat_natCast];unfold inU;omega)
 ·have e0:v.locked i=v.sect i:=by unfold Y.V.locked;rw[if_pos hin]
  rw[e0]
  obtain⟨k,hkP,zn,zv,hwl,lw,lt⟩:=Y.lock_words s.i hi hin
  have tv:(v.mach i).sv.toNat=2*k+1:=by omega
  rcases (mo.s.si hin).1 with hs|hs|hs
  ·rw[sect_1 hs _ rfl]
   refine(wlocked_in (n':=n) h hi hin fun y pw pi hy hcb => ?_).mono fun e w' hx=>po_up hx
   exact sect_wait (cloV pw pi) hy hl hi hs (by omega) (by omega) (by omega) (by rw[tv];unfold inU;omega) (by unfold inU;omega) _ rfl
  ·rw[sect_2 hs]
   have ks:=Y.ks_with (i:=i) (v:=v) (v.mach i).tm
   have t2:=mo.s.t2 hin hs
   refine wlocked_in h hi hin fun y pw pi hy hcb => ?_
   exact sect_do (cloV pw pi) hy hi hs (wgoes hy _ hcb fun z hz=>wwith hz s hi hin hs) (by rw[ks.ln,ks.M];exact hl) (by rw[ks.M];exact hi) (ks.st.trans hs) ks.tm (by omega)
  ·have tk:(v.mach i).tk=v.ms.getD (2*k+1) 0:=by
    rcases lt with lt|lt
    ·omega
    ·exact lt
   obtain⟨v1,hv1⟩:∃ v1,v1=(({ v with ms:=v.ms.set (v.mach i).sv.toNat (Y.w64 ((v.mach i).tk+1)),mc:=v.mc+2 }:Y.V).onM i fun m => { m with st:=4 }):=⟨_,rfl⟩
   have hl1:v1.mm.length=v1.M:=by rw[hv1];exact putM_len _ _ _ hl
   have hi1:i<v1.M:=by rw[hv1];exact hi
   obtain⟨v3,hv3⟩:∃ v3,v3=(({ v with ms:=v.ms.set (v.mach i).sv.toNat (Y.w64 ((v.mach i).tk+1)),mc:=v.mc+2 }:Y.V).onM i Y.Mh.out):=⟨_,rfl⟩
   have e13:v1.onM i Y.Mh.out=v3:=by
    rw[hv1,hv3]
    have:=onM_onM ({ v with ms:=v.ms.set (v.mach i).sv.toNat (Y.w64 ((v.mach i).tk+1)),mc:=v.mc+2 }:Y.V) i hl hi (fun m => { m with st:=4 }) Y.Mh.out
    rw[this];rfl
   have e3:v.sect i=v3.goOn i:=by
    unfold Y.V.sect
    dsimp only
    rw[if_neg (by omega),if_neg (by omega),if_neg (by omega),if_pos hs,hv3]
   have em3:v3.mach i=(v.mach i).out:=by
    have:=mach_putM ({ v with ms:=v.ms.set (v.mach i).sv.toNat (Y.w64 ((v.mach i).tk+1)),mc:=v.mc+2 }:Y.V) i (v.mach i).out hl hi
    rw[hv3];exact this
   rw[e3]
   have hp:=Y.in_place s.i hi hin
   refine(wlocked_over (n':=n) h hi hin hl1 hi1 (fun y pw pi hy hcb => ?_) (fun o2 y hy => ?_)).mono fun e w' hx=>po_up hx
   ·rw[hv1]
    exact sect_free (cloV pw pi) hy hl hi hs (by omega) (by omega) (by omega) (by rw[tv];exact tk.symm) (by unfold inU;omega)
   ·rw[e13]at hy
    refine wgoOn hy (by rw[hv3];exact putM_len _ _ _ hl) (by rw[hv3];exact hi) (by rw[em3];exact hp) (by rw[em3];show -1000000≤(v.mach i).i∧(v.mach i).i≤1000000;omega)
end
end Go.Proofs.YtkhigkcmgcafdaaGreatDoor
