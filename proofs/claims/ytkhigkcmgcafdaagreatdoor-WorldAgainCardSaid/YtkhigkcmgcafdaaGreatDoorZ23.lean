/- Of Vj, Vk, Yr, Ys, Um, Ua, Vm, Vn, Vo. -/
import Derived.Test.YtkhigkcmgcafdaaGreatDoorZ21
import Derived.Test.YtkhigkcmgcafdaaGreatDoorZ22
set_option linter.unusedVariables false
set_option linter.unusedSimpArgs false
set_option maxHeartbeats 16000000
set_option maxRecDepth 20000
namespace Go.Proofs.YtkhigkcmgcafdaaGreatDoor
open Go.RowKit
section
variable {B:Bk}{o o':Nat→Nat}{n n':Nat}{v v':Y.V}{w w' wx:World}{C:Nat→Prop}{i p:Nat}{tm:Int}
theorem park_more(h:WR B o n v w)(hf:Few n v)(hl:v.mm.length=v.M)(hi:i<v.M)(ht:0<tm)(hj:0≤(v.mach i).g∧(v.mach i).g<v.G)(hr:evRight 5 (v.mach i).g i (v.mach i).p (v.mach i).til=true):Calls Tryz.prog 182 #[.pointer (some ⟨B.W,0,none⟩), .int .i64 (i:Int), .int .i64 tm] w (Po B o (n+1) (.bool false) (v.leave i 5 (v.mach i).til) w):=by
 have I0:(0:Int)≤(i:Int):=by omega
 have I1:(i:Int)<(v.M:Int):=by omega
 have a14:=h.w14
 have k19:=h.m19 hi
 have t1:decide (0<tm)=true:=decide_eq_true ht
 have C1:=hid (fun(y:World) (hq:Quiet w y)=>wleave (h.quiet hq) hf hl hi 5 (by decide) (v.mach i).til hj hr)
 obtain⟨x,hx⟩:∃ x,x=(v.mach i).til:=⟨_,rfl⟩
 rw[←hx]at C1 k19 ⊢
 clear h hf hl hj hr hx
 go_enter Tryz.func182,Tryz.ntmps182
 go_wp2_with fail
 refine(C1.out _ (Quiet.refl _)).mono ?_
 rintro e y ⟨rfl,o2,h2,e2⟩
 have H2:=hid h2
 have E2:=hid e2
 clear C1 h2 e2
 go_wp2
 go_ret
 exact⟨rfl,_,H2.out,E2.out⟩
theorem await_more(h:WR B o n v w)(hf:Few n v)(hl:v.mm.length=v.M)(hi:i<v.M)(ht:0<tm)(hj:0≤(v.mach i).g∧(v.mach i).g<v.G)(hr:evRight 6 (v.mach i).g i (v.mach i).p (v.mach i).arg=true):Calls Tryz.prog 183 #[.pointer (some ⟨B.W,0,none⟩), .int .i64 (i:Int), .int .i64 tm] w (Po B o (n+1) (.bool false) (v.leave i 6 (v.mach i).arg) w):=by
 have I0:(0:Int)≤(i:Int):=by omega
 have I1:(i:Int)<(v.M:Int):=by omega
 have a14:=h.w14
 have k12:=h.m12 hi
 have t1:decide (0<tm)=true:=decide_eq_true ht
 have C1:=hid (fun(y:World) (hq:Quiet w y)=>wleave (h.quiet hq) hf hl hi 6 (by decide) (v.mach i).arg hj hr)
 obtain⟨x,hx⟩:∃ x,x=(v.mach i).arg:=⟨_,rfl⟩
 rw[←hx]at C1 k12 ⊢
 clear h hf hl hj hr hx
 go_enter Tryz.func183,Tryz.ntmps183
 go_wp2_with fail
 refine(C1.out _ (Quiet.refl _)).mono ?_
 rintro e y ⟨rfl,o2,h2,e2⟩
 have H2:=hid h2
 have E2:=hid e2
 clear C1 h2 e2
 go_wp2
 go_ret
 exact⟨rfl,_,H2.out,E2.out⟩
end
section
variable {B:Bk}{o o':Nat→Nat}{n n':Nat}{v v':Y.V}{w w' wx:World}{C:Nat→Prop}{i p:Nat}{tm:Int}
theorem await_first(h:WR B o n v w)(hfs:Fes v.sr)(hl:v.mm.length=v.M)(hi:i<v.M)(ht:tm≤0)(hg:0≤(v.mach i).g∧(v.mach i).g<4096)(ha:0≤(v.mach i).arg∧(v.mach i).arg≤65535)(h1:v.sr.hasW (v.mach i).g=false)(h2:v.sr.hasL (v.mach i).g=false):Calls Tryz.prog 183 #[.pointer (some ⟨B.W,0,none⟩), .int .i64 (i:Int), .int .i64 tm] w (Po B o n (.bool (v.sr.wait (v.mach i).arg (v.mach i).g).1.2) ((v.putS (v.sr.wait (v.mach i).arg (v.mach i).g).2).onM i fun m => { m with yes:=(v.sr.wait (v.mach i).arg (v.mach i).g).1.1 }) w):=by
 have I0:(0:Int)≤(i:Int):=by omega
 have I1:(i:Int)<(v.M:Int):=by omega
 have a14:=h.w14
 have a12:=h.w12
 have k2:=h.m2 hi
 have k12:=h.m12 hi
 have t1:decide (0<tm)=false:=decide_eq_false (by omega)
 have C1:=hid (fun(y:World) (hq:Quiet w y)=>wswait (h.quiet hq) hfs (v.mach i).arg (v.mach i).g hg h1 h2)
 have HL:=hid (show (v.putS (v.sr.wait (v.mach i).arg (v.mach i).g).2).mm.length=(v.putS (v.sr.wait (v.mach i).arg (v.mach i).g).2).M∧i<(v.putS (v.sr.wait (v.mach i).arg (v.mach i).g).2).M from⟨hl,hi⟩)
 obtain⟨x,hx⟩:∃ x,x=(v.mach i).arg:=⟨_,rfl⟩
 obtain⟨g,hg'⟩:∃ g,g=(v.mach i).g:=⟨_,rfl⟩
 rw[←hx, ←hg']at C1 HL ⊢
 rw[←hx]at k12 ha
 rw[←hg']at k2
 obtain⟨⟨⟨r1,r2⟩,s⟩,hs⟩:∃ r,r=v.sr.wait x g:=⟨_,rfl⟩
 rw[←hs]at C1 HL ⊢
 simp only at C1 HL ⊢
 have hwr:IntKind.u16.wrap x=x:=by simp[IntKind.wrap,IntKind.bits,IntKind.signed];omega
 clear h hfs hl hg ha h1 h2 hx hg' hs
 go_enter Tryz.func183,Tryz.ntmps183
 go_wp2_with fail
 go_region_with (go_at_call 202;refine(C1.out _ ⟨_,rfl⟩).mono ?_;rintro e y ⟨c,hc,rfl,o2,h2,e2⟩;have H2:=hid h2;have HC:=hid hc;have E2:=hid ((Ek.of_quiet (o:=o) (w:=w) ⟨1,rfl⟩).trans e2);have k18:=h2.m18 (i:=i) HL.out.2;have kf2:=h2.mfz;clear h2 e2 hc)
 all_goals
  clear C1
  go_wp2
  go_ret
  exact⟨bool_ret (by have:=HC.out;by_cases hc:c=0 <;> cases r2 <;> simp_all),_,(H2.out.self HL.out.1 HL.out.2).v18 HL.out.1 HL.out.2 r1,E2.out.trans (Ek.setM H2.out _ _)⟩
end
end Go.Proofs.YtkhigkcmgcafdaaGreatDoor
namespace Go.Proofs.YtkhigkcmgcafdaaGreatDoor.Y
def i64 (x:Int):Prop := -9223372036854775808≤x∧x≤9223372036854775807
def Mi (P:Nat)(m:Mh):Prop:=(0≤m.i∧m.i≤P)∧i64 m.arg∧i64 m.til
structure Xt(r g:Nat)(v:V):Prop where
 ln:v.mm.length=v.M
 p1:1≤v.P
 mi:∀ i,i<v.M→Mi v.P (v.mach i)
 rr:v.sr.R.length≤r
 lg:v.lg.length≤g
section
variable {r g:Nat}{v:V}{i:Nat}{m:Mh}{P:Nat}
theorem Xt.mono{r' g':Nat}(h:Xt r g v)(h1:r≤r')(h2:g≤g'):Xt r' g' v:=⟨h.ln,h.p1,h.mi,Nat.le_trans h.rr h1,Nat.le_trans h.lg h2⟩
theorem Xt.putM(h:Xt r g v)(hf:i<v.M→Mi v.P m):Xt r g (v.putM i m):=by
 refine⟨by show (v.mm.set i m).length=v.M;rw[List.length_set];exact h.ln,h.p1,fun j hj => ?_,h.rr,h.lg⟩
 have hj':j<v.M:=hj
 by_cases hi:i<v.M
 ·have:=mach_set (v:=v) (v':=v.putM i m) rfl (by rw[h.ln];exact hi) j
  rw[this]
  split
  ·exact hf hi
  ·exact h.mi j hj'
 ·have:(v.putM i m).mach j=v.mach j:=by
   unfold V.mach V.putM
   rw[List.set_eq_of_length_le (by rw[h.ln];omega)]
  rw[this];exact h.mi j hj'
theorem Xt.onM(h:Xt r g v){f:Mh→Mh}(hf:∀ m,Mi v.P m→Mi v.P (f m)):Xt r g (v.onM i f):=h.putM fun hi=>hf _ (h.mi i hi)
theorem Xt.putQ(h:Xt r g v)(q:List Int):Xt r g (v.putQ q):=⟨h.ln,h.p1,h.mi,h.rr,h.lg⟩
theorem Xt.putR(h:Xt r g v)(p:Nat)(x:RV):Xt r g (v.putR p x):=⟨h.ln,h.p1,h.mi,h.rr,h.lg⟩
theorem Xt.putI(h:Xt r g v)(x:IV):Xt r g (v.putI x):=⟨h.ln,h.p1,h.mi,h.rr,h.lg⟩
theorem Xt.putS(h:Xt r g v){s:SV}{r':Nat}(hr:s.R.length≤r'):Xt r' g (v.putS s):=⟨h.ln,h.p1,h.mi,hr,h.lg⟩
theorem Xt.mem1(h:Xt r g v)(ms:List Int)(mc:Nat):Xt r g { v with ms:=ms,mc:=mc }:=⟨h.ln,h.p1,h.mi,h.rr,h.lg⟩
theorem Xt.cnt(h:Xt r g v)(mc:Nat):Xt r g { v with mc:=mc }:=⟨h.ln,h.p1,h.mi,h.rr,h.lg⟩
theorem Xt.trn(h:Xt r g v)(tu:List Int):Xt r g { v with tu:=tu }:=⟨h.ln,h.p1,h.mi,h.rr,h.lg⟩
theorem Xt.bothF(h:Xt r g v)(k:Nat)(f:Int→Int):Xt r g (v.bothF k f):=⟨h.ln,h.p1,h.mi,h.rr,h.lg⟩
theorem Xt.spin(h:Xt r g v)(d:Int):Xt r g (v.spin d):=h.bothF _ _
theorem Xt.wake(h:Xt r g v)(d:Int):Xt r g (v.wake d):=h.bothF _ _
theorem Xt.see(h:Xt r g v)(e:Ev):Xt r (g+1) (v.see e):=⟨h.ln,h.p1,h.mi,h.rr,by show (v.lg ++ [e]).length≤g+1;rw[List.length_append];have:=h.lg;simp;omega⟩
theorem ite1{c:Prop}[Decidable c]{a b:V × Bool}(h1:c→Xt r g a.1)(h2:¬c→Xt r g b.1):Xt r g (if c then a else b).1:=by
 split
 ·rename_i hc;exact h1 hc
 ·rename_i hc;exact h2 hc
theorem ite2{c:Prop}[Decidable c]{a b:V}(h1:c→Xt r g a)(h2:¬c→Xt r g b):Xt r g (if c then a else b):=by
 split
 ·rename_i hc;exact h1 hc
 ·rename_i hc;exact h2 hc
theorem mi_get(h:Mi P m)(x:Int × Bool):Mi P (m.get x):=by unfold Mh.get;split <;> exact h
theorem mi_getAll(h:Mi P m)(l:List Int):Mi P (m.getAll l):=by unfold Mh.getAll;split <;> exact h
theorem mi_hold(h:Mi P m)(x:Int × Bool):Mi P (m.hold x):=by unfold Mh.hold;split <;> exact h
theorem mi_out(h:Mi P m):Mi P m.out:=h
theorem mi_parked(h:Mi P m):Mi P m.parked:=by unfold Mh.parked;split <;> exact h
theorem mi_steal(h:Mi P m){x:Int}(h0:0≤x)(h1:x≤P):Mi P (m.steal P x):=⟨⟨h0,h1⟩,h.2⟩
theorem mi_look(h:Mi P m)(h1:m.i<P):Mi P (m.look P):=by
 unfold Mh.look
 split
 ·exact h
 ·exact⟨⟨by show 0≤m.i+1;have:=h.1.1;omega,by show m.i+1≤(P:Int);omega⟩,h.2⟩
theorem mi_found(h:Mi P m)(hP:1≤P)(h6:m.pl=6→m.i<P):Mi P (m.found P):=by
 unfold Mh.found
 split
 ·exact h
 split
 ·exact h
 split
 ·exact h
 split
 ·split
  ·exact mi_steal h (by decide) (by omega)
  ·exact h
 split
 ·rename_i h6'
  exact mi_steal h (by have:=h.1.1;omega) (by have:=h6 h6';omega)
 ·exact h
theorem mi_restOn(h:Mi P m)(h9:m.pl=9→m.i<P):Mi P (m.restOn P):=by
 unfold Mh.restOn
 split
 ·rename_i h9'
  exact mi_look h (h9 h9')
 split
 ·exact h
 split
 ·exact h
 split
 ·exact h
 split
 ·exact h
 split
 ·exact h
 ·exact h
theorem mi_goOn(h:Mi P m)(hP:1≤P)(h6:m.pl=6∨m.pl=9→m.i<P):Mi P (m.goOn P):=by
 unfold Mh.goOn
 split
 ·exact mi_found h hP (fun e=>h6 (.inl e))
 split
 ·exact mi_restOn h (fun e=>h6 (.inr e))
 split
 ·exact h
 split
 ·exact h
 split
 ·exact h
 split
 ·exact h
 split
 ·exact h
 split
 ·split
  ·exact mi_parked h
  ·exact h
 split
 ·exact mi_parked h
 ·exact h
theorem Xt.leave(h:Xt r g v)(k x:Int):Xt r (g+1) (v.leave i k x):=by
 unfold V.leave
 dsimp only
 exact(h.see _).onM fun m hm=>hm
theorem Xt.stop(h:Xt r g v):Xt r g (v.stop i):=by
 unfold V.stop
 dsimp only
 split
 · (try dsimp only);exact(h.putI _).onM fun m hm=>hm
 · (try dsimp only);exact(h.putI _).onM fun m hm=>hm
theorem Xt.release(h:Xt r g v):Xt r g (v.release i):=by
 have h1:Xt r g (v.takeQ.2.onM i (·.getAll v.takeQ.1)):=(h.putQ _).onM fun m hm=>mi_getAll hm _
 unfold V.release
 dsimp only
 split
 ·exact h1
 · (try dsimp only);exact(h1.putI _).onM fun m hm=>hm
theorem Xt.find(h:Xt r g v)(tm:Int):Xt r g (v.find i tm).1:=by
 unfold V.find
 dsimp only
 split
 ·exact h.spin _
 split
 ·split
  · (try dsimp only);refine Xt.onM ?_ fun m hm=>hm;refine Xt.onM ?_ fun m hm=>hm;exact h.putI _
  ·exact h.putI _
 ·exact h
theorem sat_in(a b:Int):i64 (sat a b):=by unfold i64 sat;omega
theorem sleep_R(s:SV)(a b:Int):(s.sleep a b).2.R=s.R:=by unfold SV.sleep;split <;> rfl
theorem wait_R(s:SV)(a b:Int):(s.wait a b).2.R=s.R:=by unfold SV.wait;split <;> rfl
theorem take_R(s:SV):s.take.2.R.length≤s.R.length:=by
 unfold SV.take
 split
 ·split <;> exact Nat.le_refl _
 ·split
  ·exact Nat.le_refl _
  ·exact List.length_filter_le _ _
theorem Xt.park(h:Xt r g v)(tm:Int):Xt r (g+1) (v.park i tm).1:=by
 unfold V.park
 dsimp only
 split
 ·exact h.leave _ _
 · (try dsimp only);refine Xt.mono ?_ (Nat.le_refl r) (Nat.le_succ g);refine Xt.onM ?_ fun m hm=>⟨hm.1,hm.2.1,sat_in _ _⟩;exact h.putS (Nat.le_trans (Nat.le_of_eq (congrArg List.length (sleep_R _ _ _))) h.rr)
theorem Xt.await(h:Xt r g v)(tm:Int):Xt r (g+1) (v.await i tm).1:=by
 unfold V.await
 dsimp only
 split
 ·exact h.leave _ _
 · (try dsimp only);refine Xt.mono ?_ (Nat.le_refl r) (Nat.le_succ g);refine Xt.onM ?_ fun m hm=>hm;exact h.putS (Nat.le_trans (Nat.le_of_eq (congrArg List.length (wait_R _ _ _))) h.rr)
theorem Xt.give(h:Xt r g v)(tm:Int):Xt r (g+1) (v.give i tm).1:=by
 have h0:=h.mono (Nat.le_refl r) (Nat.le_succ g)
 unfold V.give
 dsimp only
 refine ite1 (fun _ => ?_) (fun _ => ?_)
 · (try dsimp only);exact(h0.putR _ _).onM fun m hm=>hm
 refine ite1 (fun _ => ?_) (fun _ => ?_)
 · (try dsimp only);exact(h0.putQ _).onM fun m hm=>hm
 refine ite1 (fun _ => ?_) (fun _ => ?_)
 · (try dsimp only);exact(h0.putQ _).onM fun m hm=>hm
 refine ite1 (fun _ => ?_) (fun _ => ?_)
 · (try dsimp only);exact(h0.putR _ _).onM fun m hm=>hm
 refine ite1 (fun _ => ?_) (fun _ => ?_)
 ·exact h0.find _
 refine ite1 (fun _ => ?_) (fun _ => ?_)
 ·exact h.park _
 refine ite1 (fun _ => ?_) (fun _ => ?_)
 ·exact h.await _
 ·exact h0
theorem one_X(h:Xt r g v):Xt r g v.one.2:=by
 unfold V.one
 split
 ·exact h
 ·exact h.putQ _
theorem Xt.with(h:Xt r g v)(tm:Int):Xt r (g+1) (v.with' i tm).1:=by
 have h0:=h.mono (Nat.le_refl r) (Nat.le_succ g)
 unfold V.with'
 extract_lets m
 refine ite1 (fun _ => ?_) (fun _ => ?_)
 · (try dsimp only);exact(one_X h0).onM fun m hm=>mi_get hm _
 refine ite1 (fun _ => ?_) (fun _ => ?_)
 · (try dsimp only);exact(h0.putR _ _).onM fun m hm=>mi_get hm _
 refine ite1 (fun _ => ?_) (fun _ => ?_)
 · (try dsimp only);exact(h0.putQ _).onM fun m hm=>mi_getAll hm _
 refine ite1 (fun _ => ?_) (fun _ => ?_)
 · (try dsimp only);exact(h0.putR _ _).onM fun m hm=>mi_getAll hm _
 refine ite1 (fun _ => ?_) (fun _ => ?_)
 ·exact h0.release
 refine ite1 (fun _ => ?_) (fun _ => ?_)
 · (try dsimp only);exact h0.onM fun m hm=>hm
 refine ite1 (fun _ => ?_) (fun _ => ?_)
 · (try dsimp only);exact h0.onM fun m hm=>hm
 refine ite1 (fun _ => ?_) (fun _ => ?_)
 · (try dsimp only);exact(h0.putI _).onM fun m hm=>mi_hold hm _
 refine ite1 (fun _ => ?_) (fun _ => ?_)
 ·exact h0.stop
 refine ite1 (fun _ => ?_) (fun _ => ?_)
 · (try dsimp only);exact h0.onM fun m hm=>hm
 refine ite1 (fun _ => ?_) (fun _ => ?_)
 · (try dsimp only);exact(h0.putI _).onM fun m hm=>hm
 refine ite1 (fun _ => ?_) (fun _ => ?_)
 · (try dsimp only);exact(h0.putS (r':=r) (Nat.le_trans (take_R _) h0.rr)).onM fun m hm=>mi_get hm _
 ·exact h.give _
theorem Xt.goOn(h:Xt r g v)(h6:i<v.M→(v.mach i).pl=6∨(v.mach i).pl=9→(v.mach i).i<v.P):Xt r g (v.goOn i):=
 h.putM fun hi=>mi_goOn (h.mi i hi) h.p1 (h6 hi)
theorem Xt.sect(h:Xt r g v)(h6:i<v.M→(v.mach i).pl=6∨(v.mach i).pl=9→(v.mach i).i<v.P):Xt r (g+1) (v.sect i):=by
 have h0:=h.mono (Nat.le_refl r) (Nat.le_succ g)
 unfold V.sect
 dsimp only
 split
 · (try dsimp only);exact(h0.mem1 _ _).onM fun m hm=>hm
 split
 · (try dsimp only);exact(h0.cnt _).onM fun m hm=>hm
 split
 · (try dsimp only);exact(h.with _).onM fun m hm=>hm
 split
 ·refine ((h0.mem1 _ _).onM fun m hm=>mi_out hm).goOn fun hi => ?_
  have hi':i<v.M:=hi
  have e:((({ v with ms:=v.ms.set (v.mach i).sv.toNat (w64 ((v.mach i).tk+1)),mc:=v.mc+2 }:V).onM i Mh.out).mach i)=(v.mach i).out:=by
   have:=mach_set (v:=v) (v':=(({ v with ms:=v.ms.set (v.mach i).sv.toNat (w64 ((v.mach i).tk+1)),mc:=v.mc+2 }:V).onM i Mh.out)) (i:=i) (m':=(v.mach i).out) rfl (by rw[h.ln];exact hi') i
   rw[if_pos rfl]at this;exact this
  rw[e]
  exact h6 hi'
 ·exact h0
theorem Xt.locked(h:Xt r g v)(h6:i<v.M→(v.mach i).pl=6∨(v.mach i).pl=9→(v.mach i).i<v.P):Xt r (g+1) (v.locked i):=by
 unfold V.locked
 split
 ·exact h.sect h6
 ·refine(h.onM (f:=fun m=>m.into (m.lock v.P)) fun m hm=>hm).sect fun hi => ?_
  have hi':i<v.M:=hi
  have e:(v.onM i fun m=>m.into (m.lock v.P)).mach i=(v.mach i).into ((v.mach i).lock v.P):=by
   have:=mach_set (v:=v) (v':=v.onM i fun m=>m.into (m.lock v.P)) (i:=i) (m':=(v.mach i).into ((v.mach i).lock v.P)) rfl (by rw[h.ln];exact hi') i
   rw[if_pos rfl]at this;exact this
  rw[e]
  exact h6 hi'
theorem Xt.pass(h:Xt r g v):Xt r (g+1) (v.pass i):=by
 have h0:=h.mono (Nat.le_refl r) (Nat.le_succ g)
 unfold V.pass
 extract_lets m
 refine ite2 (fun _ => ?_) (fun _ => ?_)
 ·unfold V.turn
  exact(h0.trn _).onM fun m hm=>by dsimp only;split <;> exact hm
 refine ite2 (fun _ => ?_) (fun _ => ?_)
 · (try dsimp only);exact(h0.spin _).onM fun m hm=>mi_steal (show Mi v.P _ from hm) (by decide) (by have:=h.p1;omega)
 refine ite2 (fun _ => ?_) (fun _ => ?_)
 · (try dsimp only);exact(h0.spin _).onM fun m hm=>⟨⟨Int.le_refl _,by show (0:Int)≤(v.P:Int);omega⟩,hm.2⟩
 refine ite2 (fun _ => ?_) (fun _ => ?_)
 · (try dsimp only);exact(h0.spin _).onM fun m hm=>hm
 refine ite2 (fun _ => ?_) (fun _ => ?_)
 · (try dsimp only);exact(h0.spin _).onM fun m hm=>hm
 refine ite2 (fun _ => ?_) (fun _ => ?_)
 ·unfold V.rise
  exact(h0.bothF _ _).onM fun m hm=>by split <;> exact hm
 refine ite2 (fun _ => ?_) (fun _ => ?_)
 · (try dsimp only);exact(h.see _).onM fun m hm=>hm
 refine ite2 (fun _ => ?_) (fun _ => ?_)
 · (try dsimp only);exact(h0.cnt _).onM fun m hm=>hm
 refine ite2 (fun _ => ?_) (fun _ => ?_)
 · (try dsimp only);exact(h0.bothF _ _).onM fun m hm=>hm
 refine ite2 (fun _ => ?_) (fun _ => ?_)
 · (try dsimp only);exact(h0.wake _).onM fun m hm=>hm
 refine ite2 (fun _ => ?_) (fun _ => ?_)
 · (try dsimp only);exact(h.see _).onM fun m hm=>hm
 ·exact h0
theorem Xt.bring(h:Xt r g v)(k x f:Int):Xt r (g+1) (v.bring i k x f).1:=by
 unfold V.bring
 split
 ·exact h.mono (Nat.le_refl r) (Nat.le_succ g)
 · (try dsimp only);exact(h.see _).onM fun m hm=>hm
theorem Xt.act(h:Xt r g v)(s:St)(hd:i64 s.d):Xt r (g+1) (v.act i s).1:=by
 have h0:=h.mono (Nat.le_refl r) (Nat.le_succ g)
 unfold V.act
 refine ite1 (fun _ => ?_) (fun _ => ?_)
 ·exact h0
 refine ite1 (fun _ => ?_) (fun _ => ?_)
 ·dsimp only
  have h1:Xt r g (v.onM i fun m => { m with got:=m.g }):=Xt.onM h fun m hm=>hm
  have h2:=h1.leave (i:=i) 3 0
  generalize (v.onM i fun m => { m with got:=m.g }).leave i 3 0=v2 at h2 ⊢
  exact Xt.onM h2 fun m hm=>hm
 refine ite1 (fun _ => ?_) (fun _ => ?_)
 · (try dsimp only);exact(h.leave _ _).onM fun m hm=>hm
 refine ite1 (fun _ => ?_) (fun _ => ?_)
 · (try dsimp only);exact(h.leave _ _).onM fun m hm=>hm
 refine ite1 (fun _ => ?_) (fun _ => ?_)
 ·exact h.bring _ _ _
 refine ite1 (fun _ => ?_) (fun _ => ?_)
 ·exact h.bring _ _ _
 refine ite1 (fun _ => ?_) (fun _ => ?_)
 · (try dsimp only);exact h0.onM fun m hm=>⟨hm.1,hd,hm.2.2⟩
 refine ite1 (fun _ => ?_) (fun _ => ?_)
 ·split
  ·rename_i hx
   dsimp only
   refine Xt.onM ?_ fun m hm=>⟨hm.1,(⟨by omega,by omega⟩:i64 s.x),hm.2.2⟩
   exact h0
  ·exact h0
 ·exact h0
theorem Xt.tell(h:Xt r g v):Xt r g v.tell:=by
 unfold V.tell
 split
 ·exact(h.putI _).wake _
 ·exact h
theorem tick_R(s:SV)(d:Int):(s.tick d).R=s.R:=rfl
theorem ready_R{s t:SV}{fd:Int}(h:s.ready fd=some t):t.R.length≤s.R.length+1:=by
 unfold SV.ready at h
 split at h
 ·cases h
 ·cases h
  dsimp only
  split
  ·omega
  ·simp
def Sok (s:St):Prop:=(0≤s.kd∧s.kd≤255)∧(0≤s.act∧s.act≤255)∧i64 s.a∧i64 s.x∧i64 s.d
theorem Xt.step{n:Nat}(a:Inv n v)(h:Xt r g v)(s:St)(hd:Sok s):Xt (r+1) (g+1) (v.step s).1:=by
 have h0:=h.mono (Nat.le_succ r) (Nat.le_succ g)
 have hr1:=h.mono (Nat.le_succ r) (Nat.le_refl g)
 unfold V.step
 split
 ·unfold V.pick
  split
  ·exact h0
  ·unfold V.pickAt
   split
   ·exact hr1.act s hd.2.2.2.2
   split
   ·exact hr1.locked fun hi e=>((a.mo _ hi).l.ii e).2
   ·exact hr1.pass
 split
 ·exact(h0.putS (s:=v.sr.tick s.d) (by rw[tick_R];exact h0.rr)).tell
 split
 ·split
  ·split
   ·exact h0
   ·rename_i t ht
    exact(h0.putS (s:=t) (Nat.le_trans (ready_R ht) (Nat.succ_le_succ h.rr))).tell
  ·exact h0
 ·exact h0
theorem new_xt{M G:Nat}(h:Cfg P M G):Xt 0 1 (V.new P M G):=by
 refine⟨(all_new h).i.ln.1,h.1,fun i hi => ?_,Nat.le_refl _,Nat.le_refl _⟩
 have h2:=h.2.2.1
 have h1:=h.1
 rw[new_mach (P:=P) (G:=G) (show 1≤M by omega) hi]
 have z:∀ pl p,Mi P (Mh.fresh pl p):=fun pl p=>⟨⟨Int.le_refl _,by show (0:Int)≤P;omega⟩,⟨by show _≤(0:Int);decide,by show (0:Int)≤_;decide⟩,⟨by show _≤(0:Int);decide,by show (0:Int)≤_;decide⟩⟩
 split
 ·exact z _ _
 ·exact z _ _
theorem len_le:∀(G:Nat) (l:List Int),(∀ x ∈ l,0≤x∧x<G)→(∀ x:Int,0≤x→x<G→l.count x≤1)→l.length≤G
 | 0,l,h,_=>by
   rcases l with _|⟨x,l⟩
   ·simp
   ·have:=h x (by simp);omega
 | G + 1,l,h,hc=>by
   have ih:=len_le G (l.filter fun x => !(x == (G:Int))) (fun x hx=>by
    obtain⟨h1,h2⟩:=List.mem_filter.1 hx
    have:=h x h1
    have:x≠(G:Int):=by simpa using h2
    omega) (fun x h0 h1=>Nat.le_trans (List.filter_sublist.count_le x) (hc x h0 (by omega)))
   have e:l.length=l.count (G:Int)+(l.filter fun x => !(x == (G:Int))).length:=by
    rw[List.count_eq_countP, ←List.countP_eq_length_filter]
    have:=List.length_eq_countP_add_countP (fun x=>x == (G:Int)) (l:=l)
    rw[this]
    congr 1
    apply List.countP_congr
    intro a _
    by_cases ha:a=(G:Int) <;> simp[ha]
   have:=hc (G:Int) (by omega) (by omega)
   omega
end
section
variable {n:Nat}{v:V}{i:Nat}
theorem cR_le(h:Inv n v)(x:Int)(h0:0≤x)(h1:x<v.G):v.cR x≤1:=by
 have:=(h.go x h0 h1).r
 split at this <;> omega
theorem fG_le1(h:Inv n v)(x:Int)(h0:0≤x)(h1:x<v.G):v.sm (fG x)≤1:=by
 have:=(h.go x h0 h1).n
 split at this <;> omega
theorem fK_le1(h:Inv n v)(x:Int)(h0:0≤x)(h1:x<v.G):v.sm (fK 29 x)≤1∧v.sm (fK 30 x)≤1:=by
 have a:=fG_le1 h x h0 h1
 have b:=sum_two (fK 29 x) (fK 30 x) (fG x) (fK_le x) v.mm
 unfold V.sm at a ⊢
 omega
theorem qu_len(h:Inv n v):v.qu.length≤4096:=by
 have:=len_le v.G v.qu h.rg.qu (fun x h0 h1=>by have:=cR_le h x h0 h1;unfold V.cR at this;omega)
 have:=h.cf.2.2.2.2.2
 omega
theorem rest_len(h:Inv n v)(hi:i<v.M):(v.mach i).rest.length≤4096:=by
 have:=len_le v.G (v.mach i).rest ((h.mo i hi).l.hri) (fun x h0 h1=>by
  have r:=cR_le h x h0 h1
  have a:=fR_le (v:=v) (i:=i) (by rw[h.ln.1];exact hi) x
  have b:(v.mach i).rest.count x≤fR x (v.mach i):=by unfold fR hol;rw[List.count_append];omega
  unfold V.cR at r
  omega)
 have:=h.cf.2.2.2.2.2
 omega
theorem L_len(h:Inv n v):v.sr.L.length≤4096:=by
 have:=len_le v.G (v.sr.L.map fun e=>e.2.2) (fun x hx=>by obtain⟨e,he,rfl⟩:=List.mem_map.1 hx;exact h.rg.sl e he) (fun x h0 h1=>by
  have o:=(h.go x h0 h1).o
  have k:=fK_le1 h x h0 h1
  show v.cL x≤1
  split at o
  ·omega
  ·split at o <;> omega)
 rw[List.length_map]at this
 have:=h.cf.2.2.2.2.2
 omega
theorem W_len(h:Inv n v):v.sr.W.length≤4096:=by
 have:=len_le v.G (v.sr.W.map Prod.snd) (fun x hx=>by obtain⟨e,he,rfl⟩:=List.mem_map.1 hx;exact(h.rg.sw e he).1) (fun x h0 h1=>by
  have o:=(h.go x h0 h1).o
  have k:=fK_le1 h x h0 h1
  show v.cW x≤1
  split at o
  ·omega
  ·split at o <;> omega)
 rw[List.length_map]at this
 have:=h.cf.2.2.2.2.2
 omega
theorem not_out(h:Inv n v)(hi:i<v.M)(hin:(v.mach i).inn=true)(hs:(v.mach i).st=2)(hk:(v.mach i).pl=29∨(v.mach i).pl=30)(ht:(v.mach i).tm=0):(0≤(v.mach i).g∧(v.mach i).g<v.G)∧v.sr.hasW (v.mach i).g=false∧v.sr.hasL (v.mach i).g=false:=by
 have af:(v.mach i).aft=false:=by simp[Mh.aft,hs]
 have hg:0≤(v.mach i).g∧(v.mach i).g<v.G:=by
  rcases hk with hk|hk
  ·have:=((loc_29 hk).1 (h.mo i hi).l).2.1
   rw[af]at this;simpa using this
  ·have:=((loc_30 hk).1 (h.mo i hi).l).2.1
   rw[af]at this;simpa using this
 have c5:Mh.cls (v.mach i).pl=5:=by rcases hk with hk|hk <;> rw[hk] <;> rfl
 have z:∀ k,fK k (v.mach i).g (v.mach i)=0:=fun k=>by unfold fK;rw[if_neg];rintro⟨_,_,_,_,e⟩;omega
 have n29:=nopark h hi hin (by omega) c5 29 (.inl rfl) (v.mach i).g (z 29)
 have n30:=nopark h hi hin (by omega) c5 30 (.inr rfl) (v.mach i).g (z 30)
 obtain⟨_,_,_,_,r5,r6⟩:=runs h hi hg.1 hg.2
 refine⟨hg,decide_eq_false (fun h=>by have:=List.count_pos_iff.2 h;unfold V.cW at r6;omega),decide_eq_false (fun h=>by have:=List.count_pos_iff.2 h;unfold V.cL at r5;omega)⟩
theorem in_place(h:Inv n v)(hi:i<v.M)(hin:(v.mach i).inn=true):(v.mach i).pl=2∨(v.mach i).pl=3∨(v.mach i).pl=4∨(v.mach i).pl=6∨(v.mach i).pl=7∨(v.mach i).pl=9∨(v.mach i).pl=10∨(v.mach i).pl=11∨(v.mach i).pl=13∨(v.mach i).pl=14∨(v.mach i).pl=15∨(v.mach i).pl=17∨(v.mach i).pl=18∨(v.mach i).pl=23∨(v.mach i).pl=25∨(v.mach i).pl=27∨(v.mach i).pl=28∨(v.mach i).pl=29∨(v.mach i).pl=30:=by
 have s:=(h.mo i hi).s
 have l:=(s.si hin).2.1
 have p:=s.pl
 unfold Mh.lock Mh.cls at l
 grind
theorem lock_words(h:Inv n v)(hi:i<v.M)(hin:(v.mach i).inn=true):∃ k:Nat,k<v.P+2∧(v.mach i).sn=((2*k:Nat):Int)∧(v.mach i).sv=((2*k+1:Nat):Int)∧2*k+1<v.ms.length∧(0≤v.ms.getD (2*k+1) 0∧v.ms.getD (2*k+1) 0≤(v.mach i).tk∧(v.mach i).tk<v.ms.getD (2*k) 0∧v.ms.getD (2*k) 0≤n)∧((v.mach i).st=1∨(v.mach i).tk=v.ms.getD (2*k+1) 0):=by
 obtain⟨k,hk,_,h1,h2⟩:=lock_of h hi hin
 have a:=(h.lk k hk).le
 have b:=(h.lk k hk).tk i hi hin h1
 refine⟨k,hk,by omega,by omega,?_,⟨a.1,b.1,b.2.1,a.2.2⟩,b.2.2⟩
 rw[h.ln.2.2.2.1]
 unfold V.wds V.sts V.nts V.spn
 omega
end
end Go.Proofs.YtkhigkcmgcafdaaGreatDoor.Y
namespace Go.Proofs.YtkhigkcmgcafdaaGreatDoor
open Go.RowKit
structure Sm(N n r g:Nat)(v:Y.V):Prop where
 i:Y.Inv N v
 x:Y.Xt r g v
 N:N<1000000
 n:n+3<1000000
 r:r<1000000
 g:g<1000
section
variable {B:Bk}{o o':Nat→Nat}{N n n' r g:Nat}{v v':Y.V}{w w' wx:World}{C:Nat→Prop}{i p:Nat}{tm:Int}
theorem Sm.few(s:Sm N n r g v):Few n v:=by
 have c:=s.i.cf
 refine⟨s.i.ln.2.2.2.1,s.i.ln.2.2.2.2.1,?_,?_,by have:=s.n;omega,?_⟩
 ·have:=s.i.cn.1;have:=s.N;omega
 ·have:=s.x.lg;have:=s.g;omega
 ·unfold Y.V.wds Y.V.sts Y.V.nts Y.V.spn;omega
theorem Sm.fes(s:Sm N n r g v):Fes v.sr:=by
 refine⟨?_,?_,?_,?_⟩
 ·have:=Y.L_len s.i;omega
 ·have:=Y.W_len s.i;omega
 ·have:=s.x.rr;have:=s.r;omega
 ·have:=s.i.cn.2.2.2;have:=s.N;omega
theorem Sm.po(s:Sm N n r g v):v.id.po = -1∨0≤v.id.po:=by
 rcases s.i.id.po with h|h
 ·exact .inl h
 ·exact .inr h.1
theorem Sm.pd(s:Sm N n r g v):v.id.pd.length≤100000:=by have:=Y.pd_len s.i;have:=s.i.cf;omega
theorem Sm.ss(s:Sm N n r g v):v.id.ss.length≤100000:=by have:=Y.ss_len s.i;have:=s.i.cf;omega
theorem nat_of{x:Int}(h:0≤x):∃ k:Nat,x=(k:Int):=⟨x.toNat,by omega⟩
theorem po_up{x:Value}{f:Y.V}{e:Ending}(h:Po B o n x f w e w'):Po B o (n+1) x f w e w':=h.mono (Nat.le_succ n)
theorem ev_ok(s:Sm N n r g v)(hi:i<v.M)(k:Int)(hk:k=0∨k=1∨k=2∨k=3∨k=4∨k=5∨k=6∨k=7)(j x:Int)(h0:0≤j∧j<v.G)(hp : -1≤(v.mach i).p∧(v.mach i).p<v.P)(hx:k≠5→k≠6→x=0)(hx6:k=6→0≤x∧x≤65535):evRight k j i (v.mach i).p x=true:=by
 have c:=s.i.cf
 unfold evRight
 simp only[Bool.and_eq_true,decide_eq_true_eq]
 refine⟨by omega,by omega,by omega,by omega,?_⟩
 split
 ·rfl
 ·split
  ·rename_i h6
   have:=hx6 h6
   simp;omega
  ·simp;exact hx (by assumption) (by assumption)
end
section
variable {B:Bk}{o o':Nat→Nat}{N n n' r g:Nat}{v v':Y.V}{w w' wx:World}{C:Nat→Prop}{i p:Nat}{tm:Int}
theorem wwith(h:WR B o n v w)(s:Sm N n r g v)(hi:i<v.M)(hin:(v.mach i).inn=true)(hs:(v.mach i).st=2):Calls Tryz.prog 99 #[.pointer (some ⟨B.W,0,none⟩), .int .i64 (i:Int), .int .i64 (v.mach i).tm] w (Po B o (n+1) (.bool (v.with' i (v.mach i).tm).2) (v.with' i (v.mach i).tm).1 w):=by
 have mo:=s.i.mo i hi
 have hl:=s.i.ln.1
 have hrs:=s.i.ln.2.1
 have hps:=s.i.ln.2.2.2.2.2
 have cf:=s.i.cf
 have af:(v.mach i).aft=false:=by simp[Y.Mh.aft,hs]
 have tk:=mo.s.t2 hin hs
 have ri:=Y.rest_len s.i hi
 have qi:=Y.qu_len s.i
 rcases Y.in_place s.i hi hin with hp|hp|hp|hp|hp|hp|hp|hp|hp|hp|hp|hp|hp|hp|hp|hp|hp|hp|hp
 ·rw[show v.with' i (v.mach i).tm=(v.one.2.onM i (·.get v.one.1),false) by simp[Y.V.with',hp]]
  exact(with_2 h hl hi hp _).mono fun e w' hx=>po_up hx
 ·have lc:=((Y.loc_3 hp).1 mo.l).1
  obtain⟨p,hpp⟩:=nat_of lc.1
  rw[show v.with' i (v.mach i).tm=((v.putR p (v.ring p).get.2).onM i (·.get (v.ring p).get.1),false) by simp[Y.V.with',hp,hpp]]
  exact(with_3 h hl hi hp hpp (by omega) hrs _).mono fun e w' hx=>po_up hx
 ·rw[show v.with' i (v.mach i).tm=(v.takeQ.2.onM i (·.getAll v.takeQ.1),false) by simp[Y.V.with',hp]]
  exact(with_4 h hl hi hp _).mono fun e w' hx=>po_up hx
 ·have lc:=(Y.loc_6 hp).1 mo.l
  obtain⟨p,hpp⟩:=nat_of lc.1.1
  have li:=lc.2.2.2.2.2.2.1
  obtain⟨q,hqq⟩:=nat_of li.1
  have ek:(((p:Int)+(q:Int)) % (v.P:Int)).toNat=(p+q) % v.P:=by
   rw[show ((p:Int)+(q:Int)) % (v.P:Int)=(((p+q) % v.P:Nat):Int) by simp]
   exact Int.toNat_natCast _
  rw[show v.with' i (v.mach i).tm=((v.putR ((p+q) % v.P) (v.ring ((p+q) % v.P)).steal.2).onM i (·.getAll (v.ring ((p+q) % v.P)).steal.1),false) by
   rw[←ek];simp[Y.V.with',hp,hpp,hqq]]
  exact(with_6 h hl hi hp hpp (by omega) hqq (by omega) cf.2.1 rfl hrs _).mono fun e w' hx=>po_up hx
 ·rw[show v.with' i (v.mach i).tm=(v.release i,false) by simp[Y.V.with',hp]]
  exact(with_7 h hi hp (wrelease h hl hi hps s.pd)).mono fun e w' hx=>po_up hx
 ·have lc:=((Y.loc_9 hp).1 mo.l).2.2.2.2.2.1
  obtain⟨p,hpp⟩:=nat_of lc.1
  rw[show v.with' i (v.mach i).tm=(v.onM i fun m => { m with yes:=decide (0<(v.ring p).list.length) },false) by
   have e:(v.mach i).i.toNat=p:=by omega
   simp[Y.V.with',hp,e,Y.V.onM]]
  exact(with_9 h hl hi hp hpp (by omega) _).mono fun e w' hx=>po_up hx
 ·rw[show v.with' i (v.mach i).tm=(v.onM i fun m => { m with yes:=decide (0<v.qu.length) },false) by simp[Y.V.with',hp]]
  exact(with_10 h hl hi hp _).mono fun e w' hx=>po_up hx
 ·rw[show v.with' i (v.mach i).tm=((v.putI v.id.takeP.2).onM i (·.hold v.id.takeP.1),false) by simp[Y.V.with',hp]]
  exact(with_11 h hl hi hp hps _).mono fun e w' hx=>po_up hx
 ·rw[show v.with' i (v.mach i).tm=(v.stop i,false) by simp[Y.V.with',hp]]
  exact(with_13 h hi hp (wstop h hl hi s.ss s.po)).mono fun e w' hx=>po_up hx
 ·rw[show v.with' i (v.mach i).tm=(v.onM i fun m => { m with yes:=v.sr.due },false) by simp[Y.V.with',hp]]
  exact(with_14 h hl hi hp _).mono fun e w' hx=>po_up hx
 ·rw[show v.with' i (v.mach i).tm=((v.putI (v.id.leave i).2).onM i fun m => { m with yes:=(v.id.leave i).1 },false) by simp[Y.V.with',hp]]
  exact(with_15 h hl hi hp s.po _).mono fun e w' hx=>po_up hx
 ·have lc:=(Y.loc_17 hp).1 mo.l
  obtain⟨p,hpp⟩:=nat_of lc.1.1
  rw[show v.with' i (v.mach i).tm=((v.putR p ((v.ring p).putAll (v.mach i).rest).2).onM i fun m => { m with rest:=((v.ring p).putAll (v.mach i).rest).1 },false) by simp[Y.V.with',Y.V.give,hp,hpp]]
  exact(with_17 h hi hp (give_17 h hl hi hp hpp (by omega) hrs (by omega) _)).mono fun e w' hx=>po_up hx
 ·rw[show v.with' i (v.mach i).tm=((v.putQ (v.qu ++ (v.mach i).rest)).onM i fun m => { m with rest := [] },false) by simp[Y.V.with',Y.V.give,hp]]
  exact(with_18 h hi hp (give_18 h hl hi hp (by rw[List.length_append];omega) _)).mono fun e w' hx=>po_up hx
 ·rw[show v.with' i (v.mach i).tm=v.find i (v.mach i).tm by simp[Y.V.with',Y.V.give,hp]]
  refine with_23 h hi hp (give_23 h hi hp ?_)
  by_cases ht:0<(v.mach i).tm
  ·rw[show v.find i (v.mach i).tm=(v.spin (-1),false) by simp[Y.V.find,ht]]
   exact find_more h s.few hi _ ht
  ·rcases hk : Y.fst v.id.ps with _|k
   ·have e1:v.id.takeP=((0,false),v.id):=by unfold Y.IV.takeP;rw[hk]
    rw[show v.find i (v.mach i).tm=(v,true) by simp[Y.V.find,ht,e1]]
    exact(find_none h hi hps (by omega) (by rw[e1])).mono fun e w' hx=>po_up hx
   ·have e1 : v.id.takeP=(((k:Int),true), { v.id with ps:=v.id.ps.set k false }):=by unfold Y.IV.takeP;rw[hk]
    rcases hm:v.id.takeP.2.takeM with⟨⟨t,b⟩,y⟩
    rcases b with _|_
    ·have e2:v.id.takeM.1.2=false:=by
      rw[e1]at hm
      unfold Y.IV.takeM at hm ⊢
      dsimp only at hm
      split at hm
      ·cases hm
      ·split at hm
       ·rename_i hl' hpo
        rw[if_pos hpo]
       ·cases hm
     rw[show v.find i (v.mach i).tm=(v.putI (v.id.takeP.2.pend (k:Int)),false) by
      unfold Y.V.find;rw[if_neg ht];dsimp only;rw[hm];rw[e1];rfl]
     exact(find_pend h hi hps s.pd s.ss s.po (by omega) hk e2).mono fun e w' hx=>po_up hx
    ·have ts:=Y.takeM_some hm
     have tr:0≤t∧t<v.M:=by
      rcases ts.1 with h1|h1
      ·rw[e1]at h1;exact s.i.id.sr t h1
      ·rw[e1]at h1
       rcases s.i.id.po with h2|h2
       ·exact absurd h2 h1.2
       ·rw[h1.1];exact h2
     obtain⟨q,rfl⟩:=nat_of tr.1
     rw[show v.find i (v.mach i).tm=(((v.putI v.id.takeP.2.takeM.2).onM q fun m => { m with nx:=(k:Int) }).onM i fun m => { m with tg:=(q:Int) },false) by
      unfold Y.V.find;rw[if_neg ht];dsimp only;rw[hm];rw[e1];rfl]
     exact(find_give h hl hi hps s.ss s.po (by omega) hk (by rw[hm]) (by omega)).mono fun e w' hx=>po_up hx
 ·rw[show v.with' i (v.mach i).tm=((v.putS v.sr.take.2).onM i (·.get v.sr.take.1),false) by simp[Y.V.with',hp]]
  exact(with_25 h hl hi hp s.fes s.i.rg.wn _).mono fun e w' hx=>po_up hx
 ·rw[show v.with' i (v.mach i).tm=((v.putQ (v.qu ++ [(v.mach i).got])).onM i fun m => { m with got := -1 },false) by simp[Y.V.with',Y.V.give,hp]]
  exact(with_27 h hi hp (give_27 h hl hi hp (by omega) _)).mono fun e w' hx=>po_up hx
 ·have lc:=(Y.loc_28 hp).1 mo.l
  obtain⟨p,hpp⟩:=nat_of lc.1.1
  rw[show v.with' i (v.mach i).tm=((v.putR p ((v.ring p).ready (v.mach i).got).2).onM i fun m => { m with rest:=((v.ring p).ready (v.mach i).got).1,got := -1 },false) by simp[Y.V.with',Y.V.give,hp,hpp]]
  exact(with_28 h hi hp (give_28 h hl hi hp hpp (by omega) hrs _)).mono fun e w' hx=>po_up hx
 ·have lc:=(Y.loc_29 hp).1 mo.l
  rw[af]at lc
  simp only[Bool.false_eq_true,if_false]at lc
  rw[show v.with' i (v.mach i).tm=v.park i (v.mach i).tm by simp[Y.V.with',Y.V.give,hp]]
  refine with_29 h hi hp (give_29 h hi hp ?_)
  by_cases ht:0<(v.mach i).tm
  ·rw[show v.park i (v.mach i).tm=(v.leave i 5 (v.mach i).til,false) by simp[Y.V.park,ht]]
   exact park_more h s.few hl hi ht lc.2.1 (ev_ok s hi 5 (by simp) _ _ lc.2.1 (by omega) (by omega) (by omega))
  ·have no:=Y.not_out s.i hi hin hs (.inl hp) (by omega)
   rw[show v.park i (v.mach i).tm=((v.putS (v.sr.sleep (v.mach i).g (v.mach i).arg).2).onM i fun m => { m with til:=Y.sat v.sr.now (max m.arg 0),yes:=(v.sr.sleep (v.mach i).g (v.mach i).arg).1 },true) by simp[Y.V.park,ht]]
   exact(park_first h s.fes hl hi (by omega) (by omega) (by omega) (s.x.mi i hi).2.1 no.2.1 no.2.2).mono fun e w' hx=>po_up hx
 ·have lc:=(Y.loc_30 hp).1 mo.l
  rw[af]at lc
  simp only[Bool.false_eq_true,false_and,if_false]at lc
  rw[show v.with' i (v.mach i).tm=v.await i (v.mach i).tm by simp[Y.V.with',Y.V.give,hp]]
  refine with_30 h hi hp (give_30 h hi hp ?_)
  have ag:=lc.2.2.2.2.2.1
  by_cases ht:0<(v.mach i).tm
  ·rw[show v.await i (v.mach i).tm=(v.leave i 6 (v.mach i).arg,false) by simp[Y.V.await,ht]]
   exact await_more h s.few hl hi ht lc.2.1 (ev_ok s hi 6 (by simp) _ _ lc.2.1 (by omega) (by omega) (by omega))
  ·have no:=Y.not_out s.i hi hin hs (.inr hp) (by omega)
   rw[show v.await i (v.mach i).tm=((v.putS (v.sr.wait (v.mach i).arg (v.mach i).g).2).onM i fun m => { m with yes:=(v.sr.wait (v.mach i).arg (v.mach i).g).1.1 },(v.sr.wait (v.mach i).arg (v.mach i).g).1.2) by simp[Y.V.await,ht]]
   exact(await_first h s.fes hl hi (by omega) (by omega) (by omega) no.2.1 no.2.2).mono fun e w' hx=>po_up hx
end
section
variable {B:Bk}{o o':Nat→Nat}{n n':Nat}{v v':Y.V}{w w' wx:World}{C:Nat→Prop}{i p:Nat}{tm:Int}
theorem U_is(x:Int):U x=Y.w64 x:=by unfold U Y.w64;rw[u64_wrap]
theorem WR.sct(h:WR B o n v w)(hi:i<v.M):Sct w B.mb (i*20+13) (v.mach i).sn (v.mach i).sv (v.mach i).st (v.mach i).tk (v.mach i).tm:=⟨h.m13 hi,h.m14 hi,h.m15 hi,h.m16 hi,h.m17 hi,h.mfz⟩
theorem sect_take(dv:Value)(h:WR B o n v w)(hl:v.mm.length=v.M)(hi:i<v.M)(hs:(v.mach i).st=0)(hc:v.mc<1000000)(h3:0≤(v.mach i).sn)(h4:(v.mach i).sn<v.ms.length)(hu:inU (v.ms.getD (v.mach i).sn.toNat 0)) :
 Calls Tryz.prog 97 #[.pointer (some ⟨B.mb,i*20+13,none⟩), .pointer (some ⟨B.b1,0,none⟩),dv] w (Po B o n (.bool false) (({ v with ms:=v.ms.set (v.mach i).sn.toNat (Y.w64 (v.ms.getD (v.mach i).sn.toNat 0+1)),mc:=v.mc+1 }:Y.V).onM i fun m => { m with tk:=v.ms.getD (v.mach i).sn.toNat 0,st:=1 }) w):=by
 have S:=h.sct hi
 have h2:=h.c2.2
 obtain⟨t,ht⟩:∃ t,t=v.ms.getD (v.mach i).sn.toNat 0:=⟨_,rfl⟩
 rw[←ht]at hu ⊢
 have TK:=hid (take_in B.b1 B.g1 v.ms v.mc (v.mach i).sn (v.mach i).sv w h2 (by omega) h3 h4 t ht.symm hu)
 rw[U_is]at TK
 obtain⟨zs,hz⟩:∃ zs,zs=v.ms.set (v.mach i).sn.toNat (Y.w64 (t+1)):=⟨_,rfl⟩
 rw[←hz]at TK ⊢
 have H:=hid h
 have HL:=hid (And.intro hl hi)
 obtain⟨s5,h5⟩:∃ s5,s5=i*20+13:=⟨_,rfl⟩
 have H5:=hid h5
 rw[←h5]at S ⊢
 have c0:=S.c0
 have c1:=S.c1
 have c2:=S.c2
 rw[hs]at c2
 generalize (v.mach i).sn=nx at TK c0
 generalize (v.mach i).sv=sv at TK c1
 clear h S h2 hs hc h3 h4 hu ht hz h5
 go_enter Tryz.func97,Tryz.ntmps97
 go_wp2_with fail
 refine TK.out.mono ?_
 rintro e w2 ⟨rfl,hm2,ho2⟩
 have WM:=hid (H.out.mem1 hm2 ho2)
 have S2:=WM.out.1.sct HL.out.2
 rw[←H5.out]at S2
 have d2:=S2.c2
 have d3:=S2.c3
 have df:=S2.fz
 clear hm2 ho2 c0 c1 c2 S2
 go_wp2
 go_ret
 have e5:=H5.out
 subst e5
 have U1:=(WM.out.1.self HL.out.1 HL.out.2).v16 HL.out.1 HL.out.2 t
 exact⟨rfl,_,U1.v15 HL.out.1 HL.out.2 1,WM.out.2.trans ((Ek.setM WM.out.1 _ _).trans (Ek.setM U1 _ _))⟩
theorem st_same(v:Y.V)(i:Nat)(hl:v.mm.length=v.M)(hi:i<v.M)(x:Int)(h:(v.mach i).st=x):(v.onM i fun m => { m with st:=x })=v:=by
 have e:({ v.mach i with st:=x }:Y.Mh)=v.mach i:=by rw[←h]
 show v.putM i { v.mach i with st:=x } = v
 rw[e];exact putM_self v i hl hi
theorem sect_wait(dv:Value)(h:WR B o n v w)(hl:v.mm.length=v.M)(hi:i<v.M)(hs:(v.mach i).st=1)(hc:v.mc<1000000)(h3:0≤(v.mach i).sv)(h4:(v.mach i).sv<v.ms.length)(hu:inU (v.ms.getD (v.mach i).sv.toNat 0))(ut:inU (v.mach i).tk)(b:Bool)(hb:decide ((v.mach i).tk=v.ms.getD (v.mach i).sv.toNat 0)=b) :
 Calls Tryz.prog 97 #[.pointer (some ⟨B.mb,i*20+13,none⟩), .pointer (some ⟨B.b1,0,none⟩),dv] w (Po B o n (.bool false) (({ v with mc:=v.mc+1 }:Y.V).onM i fun m => { m with st:=if b then 2 else 1 }) w):=by
 have S:=h.sct hi
 have h2:=h.c2.2
 have HH:=hid (fun(y:World) (hy:Mem y B.b1 B.g1 v.ms v.mc)=>held_in B.b1 B.g1 v.ms v.mc (v.mach i).sn (v.mach i).sv (v.mach i).tk y hy (by omega) h3 h4 _ rfl b hb ut hu)
 have W1:=hid (h.quiet (w':=w.drew) ⟨1,rfl⟩)
 have E1:=hid (Ek.of_quiet (o:=o) (w:=w) (w':=w.drew) ⟨1,rfl⟩)
 have HL:=hid (And.intro hl (And.intro hi hs))
 obtain⟨s5,h5⟩:∃ s5,s5=i*20+13:=⟨_,rfl⟩
 have H5:=hid h5
 rw[←h5]at S ⊢
 have c0:=S.c0
 have c1:=S.c1
 have c2:=S.c2
 have c3:=S.c3
 rw[hs]at c2
 generalize (v.mach i).sn=nx at HH c0
 generalize (v.mach i).sv=sv at HH c1
 generalize (v.mach i).tk=tk at HH c3
 clear h S h2 hs hc h3 h4 hu ut hb h5
 rcases b with _|_
 all_goals
  go_enter Tryz.func97,Tryz.ntmps97
  go_wp2_with fail
  go_still_tail 9,(by kernel_rfl)
  change wpList _ _ _ _ _ w.drew
  clear c0 c1 c2 c3
  generalize w.drew=w2 at W1 E1 ⊢
  go_wp2_with fail
  refine(HH.out w2 W1.out.c2.2).mono ?_
  rintro e w3 ⟨rfl,hm3,ho3⟩
  have WM:=hid (W1.out.mem1 hm3 ho3)
  have S2:=WM.out.1.sct HL.out.2.1
  rw[←H5.out]at S2
  have d2:w3.cell? ⟨B.mb,s5+2,none⟩=some (.int .i64 1):=by
   have:=S2.c2
   rw[show (Y.V.mach ({ v with mc:=v.mc+1 }:Y.V) i).st=1 from HL.out.2.2]at this
   exact this
  have df:=S2.fz
  clear hm3 ho3 S2
  go_wp2
  go_ret
 ·rw[st_same ({ v with mc:=v.mc+1 }:Y.V) i HL.out.1 HL.out.2.1 1 HL.out.2.2]
  exact⟨rfl,_,WM.out.1,E1.out.trans WM.out.2⟩
 ·have e5:=H5.out
  subst e5
  exact⟨rfl,_,(WM.out.1.self HL.out.1 HL.out.2.1).v15 HL.out.1 HL.out.2.1 2,E1.out.trans (WM.out.2.trans (Ek.setM WM.out.1 _ _))⟩
theorem sect_free(dv:Value)(h:WR B o n v w)(hl:v.mm.length=v.M)(hi:i<v.M)(hs:(v.mach i).st=3)(hc:v.mc<1000000)(h3:0≤(v.mach i).sv)(h4:(v.mach i).sv<v.ms.length)(hx:v.ms.getD (v.mach i).sv.toNat 0=(v.mach i).tk)(ut:inU (v.mach i).tk) :
 Calls Tryz.prog 97 #[.pointer (some ⟨B.mb,i*20+13,none⟩), .pointer (some ⟨B.b1,0,none⟩),dv] w (Po B o n (.bool true) (({ v with ms:=v.ms.set (v.mach i).sv.toNat (Y.w64 ((v.mach i).tk+1)),mc:=v.mc+2 }:Y.V).onM i fun m => { m with st:=4 }) w):=by
 have S:=h.sct hi
 have h2:=h.c2.2
 have HH:=hid (fun(y:World) (hy:Mem y B.b1 B.g1 v.ms v.mc)=>free_yes B.b1 B.g1 v.ms v.mc (v.mach i).sn (v.mach i).sv (v.mach i).tk y hy (by omega) h3 h4 hx ut)
 rw[U_is]at HH
 obtain⟨zs,hz⟩:∃ zs,zs=v.ms.set (v.mach i).sv.toNat (Y.w64 ((v.mach i).tk+1)):=⟨_,rfl⟩
 rw[←hz]at HH ⊢
 have W1:=hid (h.quiet (w':=w.drew) ⟨1,rfl⟩)
 have E1:=hid (Ek.of_quiet (o:=o) (w:=w) (w':=w.drew) ⟨1,rfl⟩)
 have HL:=hid (And.intro hl hi)
 obtain⟨s5,h5⟩:∃ s5,s5=i*20+13:=⟨_,rfl⟩
 have H5:=hid h5
 rw[←h5]at S ⊢
 have c0:=S.c0
 have c1:=S.c1
 have c2:=S.c2
 have c3:=S.c3
 rw[hs]at c2
 clear hz
 generalize (v.mach i).sn=nx at HH c0
 generalize (v.mach i).sv=sv at HH c1
 generalize (v.mach i).tk=tk at HH c3
 clear h S h2 hs hc h3 h4 hx ut h5
 go_enter Tryz.func97,Tryz.ntmps97
 go_wp2_with fail
 go_still_tail 9,(by kernel_rfl)
 change wpList _ _ _ _ _ w.drew
 clear c0 c1 c2 c3
 generalize w.drew=w2 at W1 E1 ⊢
 go_wp2_with fail
 refine(HH.out w2 W1.out.c2.2).mono ?_
 rintro e w3 ⟨rfl,hm3,ho3⟩
 have WM:=hid (W1.out.mem1 hm3 ho3)
 have S2:=WM.out.1.sct HL.out.2
 rw[←H5.out]at S2
 have d2:=S2.c2
 have df:=S2.fz
 clear hm3 ho3 S2
 go_wp2
 go_ret
 have e5:=H5.out
 subst e5
 exact⟨rfl,_,(WM.out.1.self HL.out.1 HL.out.2).v15 HL.out.1 HL.out.2 4,E1.out.trans (WM.out.2.trans (Ek.setM WM.out.1 _ _))⟩
theorem sect_do(dv:Value)(h:WR B o n v w)(hi:i<v.M)(hs:(v.mach i).st=2){v1:Y.V}{r:Bool}(hD:Calls Tryz.prog 128 #[dv, .int .i64 (v.mach i).tm] w (Po B o n' (.bool r) v1 w))(hl1:v1.mm.length=v1.M)(hi1:i<v1.M)(hs1:(v1.mach i).st=2)(ht1:(v1.mach i).tm=(v.mach i).tm)(htm:0≤(v.mach i).tm∧(v.mach i).tm≤1000000) :
 Calls Tryz.prog 97 #[.pointer (some ⟨B.mb,i*20+13,none⟩), .pointer (some ⟨B.b1,0,none⟩),dv] w (Po B o n' (.bool false) (v1.onM i fun m => { m with st:=if r then 2 else 3,tm:=m.tm+1 }) w):=by
 have S:=h.sct hi
 have D:=hid hD
 have HL:=hid (And.intro hl1 (And.intro hi1 (And.intro hs1 ht1)))
 obtain⟨s5,h5⟩:∃ s5,s5=i*20+13:=⟨_,rfl⟩
 have H5:=hid h5
 rw[←h5]at S ⊢
 have c2:=S.c2
 have c4:=S.c4
 rw[hs]at c2
 obtain⟨u,hu⟩:∃ u,u=(v.mach i).tm:=⟨_,rfl⟩
 rw[←hu]at D c4 htm HL
 have hwu:IntKind.i64.wrap (u+1)=u+1:=IntWalk.i64_in _ (by omega)
 have VE:=hid (show (v1.onM i fun m => { m with st:=if r then 2 else 3,tm:=m.tm+1 })=v1.putM i { v1.mach i with st:=if r then 2 else 3,tm:=u+1 } by rw[onM_putM,HL.out.2.2.2])
 rw[VE.out]
 clear h S hD hl1 hi1 hs1 ht1 htm hs h5 hu VE
 rcases r with _|_
 all_goals
  go_enter Tryz.func97,Tryz.ntmps97
  go_wp2_with fail
  refine D.out.mono ?_
  rintro e w2 ⟨rfl,o2,h2,e2⟩
  have S2:=h2.sct (i:=i) HL.out.2.1
  rw[←H5.out,HL.out.2.2.1,HL.out.2.2.2]at S2
  have d2:=S2.c2
  have d4:=S2.c4
  have df:=S2.fz
  have H2:=hid h2
  have E2:=hid e2
  clear c2 c4 h2 e2 S2 D
  go_wp2
  go_ret
  have e5:=H5.out
  subst e5
 ·have U1:=(H2.out.self HL.out.1 HL.out.2.1).v15 HL.out.1 HL.out.2.1 3
  exact⟨rfl,_,U1.v17 HL.out.1 HL.out.2.1 (u+1),E2.out.trans ((Ek.setM H2.out _ _).trans (Ek.setM U1 _ _))⟩
 ·have U1:=(H2.out.self HL.out.1 HL.out.2.1).v17 HL.out.1 HL.out.2.1 (u+1)
  refine⟨rfl,_,?_,E2.out.trans (Ek.setM H2.out _ _)⟩
  have e:({ v1.mach i with st:=2,tm:=u+1 }:Y.Mh) = { v1.mach i with tm:=u+1 }:=by
   rw[show (2:Int)=(v1.mach i).st from HL.out.2.2.1.symm]
  show WR B o2 n' (v1.putM i ({ v1.mach i with st:=2,tm:=u+1 }:Y.Mh)) _
  exact e ▸ U1
end
section
variable {B:Bk}{o o':Nat→Nat}{n n':Nat}{v v':Y.V}{w w' wx:World}{C:Nat→Prop}{i p:Nat}{tm:Int}
theorem WR.mine(h:WR B o n v w){k:Nat}(h0:o k=0)(hN:B.N0≤k)(hk:k<w.heap.size):WR B (Oq o (some k) 13) n v w:=by
 have ne:∀ x c,o x=c→c≠0→Oq o (some k) 13 x=c:=fun x c hx hc=>by
  rw[Oq.no (fun e=>hc (by cases e;omega))];exact hx
 have z:∀ c,c≠0→c≠13→Zo (Oq o (some k) 13) c w=Zo o c w:=fun c hc hc2=>by
  funext x
  unfold Zo
  by_cases e:some k=some x
  ·cases e
   rw[Oq.at rfl,h0]
   simp[Ne.symm hc,Ne.symm hc2]
  ·rw[Oq.no e]
 refine⟨⟨fun x hx => ?_,h.c0.T1,h.c0.T2,h.c0.T3,h.c0.U1,h.c0.U2,h.c0.U3,h.c0.U4⟩,?_,⟨⟨ne _ _ h.c2.1.1 (by decide),ne _ _ h.c2.1.2 (by decide)⟩,h.c2.2⟩,⟨⟨ne _ _ h.c3.1.1 (by decide),ne _ _ h.c3.1.2 (by decide)⟩,h.c3.2⟩,⟨ne _ _ h.c4.1 (by decide),h.c4.2⟩,?_,?_,?_,?_,?_⟩
 ·by_cases e:some k=some x
  ·cases e;exact⟨hN,hk⟩
  ·rw[Oq.no e]at hx;exact h.c0.ow x hx
 ·obtain⟨a,lg,b,c,d⟩:=h.c1
  exact⟨ne _ _ a (by decide),lg,b,c,fun q hq=>⟨ne _ _ (d q hq).1 (by decide),(d q hq).2⟩⟩
 ·obtain⟨a,r,b,c⟩:=h.c5
  exact⟨⟨ne _ _ a.1 (by decide),ne _ _ a.2 (by decide)⟩,r,fun q hq=>ne _ _ (b q hq) (by decide),c⟩
 ·obtain⟨a,cs,rs,b,c,d⟩:=h.c6
  exact⟨ne _ _ a (by decide),cs,rs,b,c,fun j hj=>⟨(d j hj).1,⟨(d j hj).2.rd,fun q hq=>⟨ne _ _ ((d j hj).2.ow q hq).1 (by decide),((d j hj).2.ow q hq).2⟩⟩⟩⟩
 ·obtain⟨⟨a1,a2⟩,a3,a4,a5⟩:=h.c8
  exact⟨⟨fun q hq=>ne _ _ (a1 q hq) (by decide),a2⟩,a3,a4,fun j hj=>⟨ne _ _ (a5 j hj).1 (by decide),(a5 j hj).2⟩⟩
 ·obtain⟨a,t,q,b1,b2,b3,es,b⟩:=h.c10
  exact⟨a,t,q,b1,b2,b3,es,by rw[z 10 (by decide) (by decide)];exact b⟩
 ·have:=h.c11
  unfold C11 at this ⊢
  rw[z 11 (by decide) (by decide)]
  exact this
theorem WR.note(h:WR B o n v w){k:Nat}(h0:o k=0)(hN:B.N0≤k)(hk:k<w.heap.size)(j:Nat)(x:Value):WR B (Oq o (some k) 13) n v (w.setCell ⟨k,j,none⟩ x):=by
 have h':=h.mine h0 hN hk
 have hf:Fm (Oq o (some k) 13) (· = 13) w (w.setCell ⟨k,j,none⟩ x):=Fm.set _ _ _ _ (Oq.at rfl)
 exact h'.upd (Nat.le_refl _) hf (.refl h' hf.size) (by decide) (.inr ⟨by decide,rfl,rfl,rfl,rfl⟩) (.inr ⟨by decide,rfl,rfl⟩) (.inr ⟨by decide,rfl⟩) (.inr ⟨by decide,rfl⟩) (.inr ⟨by decide,rfl,rfl⟩) (.inr ⟨⟨by decide,by decide⟩,rfl,rfl⟩) (.inr ⟨⟨by decide,by decide⟩,rfl,rfl⟩) (.inr ⟨by decide,rfl,rfl⟩) (.inr ⟨by decide,rfl,rfl,rfl⟩)
theorem clo_any{W pw pi:Nat}(u x:Int)(w:World)(r:Bool)(Φ:World→Prop)(ha:w.cell? ⟨pw,0,none⟩=some (.pointer (some ⟨W,0,none⟩)))(hb:w.cell? ⟨pi,0,none⟩=some (.int .i64 x))
 (HW:Calls Tryz.prog 99 #[.pointer (some ⟨W,0,none⟩), .int .i64 x, .int .i64 u] w fun e w'=>e = .returned (.bool r) ∧ Φ w') :
 Calls Tryz.prog 98 #[.int .i64 u, .pointer (some ⟨pw,0,none⟩), .pointer (some ⟨pi,0,none⟩)] w fun e w'=>e = .returned (.bool r) ∧ Φ w':=by
 have H:=hid HW
 clear HW
 go_enter Tryz.func98,Tryz.ntmps98
 go_wp2_with fail
 refine H.out.mono ?_
 rintro e w2 ⟨rfl,h⟩
 have H2:=hid h
 clear h
 go_wp2
 go_ret
 exact⟨rfl,H2.out⟩
theorem wgoes(h:WR B o n v w){pw pi:Nat}(u:Int)(hcb:Cb w B.W pw pi #[.int .i64 (i:Int)] 3){r:Bool}{v1:Y.V}(HW:∀ y:World,WR B o n v y→Calls Tryz.prog 99 #[.pointer (some ⟨B.W,0,none⟩), .int .i64 (i:Int), .int .i64 u] y (Po B o n' (.bool r) v1 y)) :
 Calls Tryz.prog 128 #[cloV pw pi, .int .i64 u] w (Po B o n' (.bool r) v1 w):=by
 have hmf:∀(fn:Fn) (first cap:Array Value) (w:World),(Instr.makeFunc fn first cap).run Tryz.prog w = .ok (.func fn first cap) w:=fun _ _ _ _=>rfl
 have hnn:=fun fn first cap w=>func_neq fn first cap w
 have bl:Below w.heap.size w (w.alloc (.cells #[.bool false] 4)):=(Below.refl _ _).alloc (Nat.le_refl _) _
 have gn:=heap_alloc_new w (.cells #[.bool false] 4)
 have h1:(w.alloc (.cells #[.bool false] 4)).cell? ⟨pw,0,none⟩=some (.pointer (some ⟨B.W,0,none⟩)):=blk_cell ((bl.block _ (blk_lt hcb.a)).trans hcb.a) rfl
 have h2:(w.alloc (.cells #[.bool false] 4)).cell? ⟨pi,0,none⟩=some (.int .i64 (i:Int)):=blk_cell ((bl.block _ (blk_lt hcb.b)).trans hcb.b) rfl
 have CL:=hid (clo_any u (i:Int) (w.alloc (.cells #[.bool false] 4)) r (fun w'=>Po B o n' (.bool r) v1 (w.alloc (.cells #[.bool false] 4)) (.returned (.bool r)) w') h1 h2 ((HW _ (h.below bl)).mono fun e w' hp=>⟨hp.1,rfl,hp.2⟩))
 have FR:=hid (h.fresh (Nat.le_refl w.heap.size))
 have HN:=hid h.N0
 have BL:=hid bl
 have GN:=hid gn
 clear h1 h2 HW hcb h bl gn
 go_enter_defers Tryz.func128,Tryz.ntmps128
 go_wp2_with fail
 refine CL.out.mono ?_
 rintro e w1 ⟨rfl,_,o2,h2,e2⟩
 have hgk:=e2.blk GN.out FR.out
 have og:o2 w.heap.size=0:=(e2.old _ (by simp)).trans FR.out
 have g1:w1.cell? ⟨w.heap.size,0,none⟩=some (.bool false):=blk_cell hgk rfl
 have g2:w1.frozen? ⟨w.heap.size,0,none⟩=false:=blk_free hgk
 have g3:(w1.setCell ⟨w.heap.size,0,none⟩ (.bool r)).cell? ⟨w.heap.size,0,none⟩=some (.bool r):=World.cell?_setCell_same _ _ _ g1
 have FIN:=hid (show Po B o n' (.bool r) v1 w (.returned (.bool r)) (w1.setCell ⟨w.heap.size,0,none⟩ (.bool r)) from by
  refine⟨rfl,_,h2.note og HN.out (blk_lt hgk) 0 (.bool r),e2.os,e2.tape,e2.output,?_,fun k hk => ?_,fun k hk h0 => ?_⟩
  ·have:=e2.size;simp[World.setCell]at this ⊢;omega
  ·rw[Oq.no (fun e=>by cases e;omega)];exact e2.old k (by simp;omega)
  ·exact(Below.heap_setCell _ _ _ _ (by show k≠w.heap.size;omega)).trans ((e2.keep k (by simp;omega) h0).trans (BL.out.block k hk)))
 clear hgk og h2 e2 CL
 go_wp2
 refine leaves_cons (f:=165) (args := #[.pointer (some ⟨w.heap.size,0,none⟩)]) (by simp) (by simp[go_sem]) ?_
 refine(catch_idle ⟨w.heap.size,0,none⟩ _).mono ?_
 rintro e u' w'' ⟨rfl,rfl,rfl⟩
 simp[Leaves,settle,results,Tryz.results128,go_sem,g3]
 exact FIN.out
end
section
variable {B:Bk}{o o':Nat→Nat}{n n':Nat}{v v':Y.V}{w w' wx:World}{C:Nat→Prop}{i p:Nat}{tm:Int}
theorem wlocked_in(h:WR B o n v w)(hi:i<v.M)(hin:(v.mach i).inn=true){v1:Y.V}
 (HS:∀ y pw pi,WR B o n v y→Cb y B.W pw pi #[.int .i64 (i:Int)] 3→Calls Tryz.prog 97 #[.pointer (some ⟨B.mb,i*20+13,none⟩), .pointer (some ⟨B.b1,0,none⟩),cloV pw pi] y (Po B o n' (.bool false) v1 y)) :
 Calls Tryz.prog 61 #[.pointer (some ⟨B.W,0,none⟩), .int .i64 (i:Int)] w (Po B o n' (.tuple #[]) v1 w):=by
 have I0:(0:Int)≤(i:Int):=by omega
 have I1:(i:Int)<(v.M:Int):=by omega
 have hmf:∀(fn:Fn) (first cap:Array Value) (w:World),(Instr.makeFunc fn first cap).run Tryz.prog w = .ok (.func fn first cap) w:=fun _ _ _ _=>rfl
 have ⟨cb,bl⟩:=two_in w B.W #[.int .i64 (i:Int)] 3
 obtain⟨w2,hw2⟩:∃ w2,w2=(w.alloc (.cells #[.pointer (some ⟨B.W,0,none⟩)] 24)).alloc (.cells #[.int .i64 (i:Int)] 3):=⟨_,rfl⟩
 rw[←hw2]at cb bl
 have H2:=hid (h.below bl)
 have CB:=hid cb
 have BL:=hid bl
 have ST:=hid (fun y (hq:Quiet w2 y)=>(HS y w.heap.size (w.heap.size+1) (H2.out.quiet hq) ⟨by rw[hq.heap];exact cb.a,by rw[hq.heap];exact cb.b⟩).mono (R':=Po B o n' (.bool false) v1 w) fun e w' hx=>hx.behind ((Ek.of_below bl).trans (.of_quiet hq)))
 clear h HS cb bl
 go_enter Tryz.func61,Tryz.ntmps61
 go_upto_region 1 with (fail)
 rw[←hw2]
 have d0:w2.cell? ⟨w.heap.size,0,none⟩=some (.pointer (some ⟨B.W,0,none⟩)):=blk_cell CB.out.a rfl
 have d1:w2.cell? ⟨w.heap.size+1,0,none⟩=some (.int .i64 (i:Int)):=blk_cell CB.out.b rfl
 have a3:=H2.out.w3
 have a14:=H2.out.w14
 have k8:=H2.out.m8 hi
 rw[hin]at k8
 clear hw2 hin
 go_wp2_with fail
 go_quiet (fail)
 all_goals
  go_wp2_with fail
  go_region_with (go_at_call 97;refine(ST.out _ ⟨_,rfl⟩).mono ?_;rintro e w5 ⟨rfl,o5,h5,e5⟩)
  all_goals
   have H5:=hid h5
   have E5:=hid e5
   clear h5 e5
   go_wp2
   go_end0
   exact⟨rfl,o5,H5.out,E5.out⟩
theorem wlocked_over(h:WR B o n v w)(hi:i<v.M)(hin:(v.mach i).inn=true){v1 v2:Y.V}(hl1:v1.mm.length=v1.M)(hi1:i<v1.M)
 (HS:∀ y pw pi,WR B o n v y→Cb y B.W pw pi #[.int .i64 (i:Int)] 3→Calls Tryz.prog 97 #[.pointer (some ⟨B.mb,i*20+13,none⟩), .pointer (some ⟨B.b1,0,none⟩),cloV pw pi] y (Po B o n' (.bool true) v1 y))
 (HG:∀ o2 y,WR B o2 n' (v1.onM i Y.Mh.out) y→Calls Tryz.prog 100 #[.pointer (some ⟨B.W,0,none⟩), .int .i64 (i:Int)] y (Po B o2 n' (.tuple #[]) v2 y)) :
 Calls Tryz.prog 61 #[.pointer (some ⟨B.W,0,none⟩), .int .i64 (i:Int)] w (Po B o n' (.tuple #[]) v2 w):=by
 have I0:(0:Int)≤(i:Int):=by omega
 have I1:(i:Int)<(v.M:Int):=by omega
 have hmf:∀(fn:Fn) (first cap:Array Value) (w:World),(Instr.makeFunc fn first cap).run Tryz.prog w = .ok (.func fn first cap) w:=fun _ _ _ _=>rfl
 have ⟨cb,bl⟩:=two_in w B.W #[.int .i64 (i:Int)] 3
 obtain⟨w2,hw2⟩:∃ w2,w2=(w.alloc (.cells #[.pointer (some ⟨B.W,0,none⟩)] 24)).alloc (.cells #[.int .i64 (i:Int)] 3):=⟨_,rfl⟩
 rw[←hw2]at cb bl
 have H2:=hid (h.below bl)
 have CB:=hid cb
 have F0:=hid (And.intro (h.fresh (Nat.le_refl w.heap.size)) (h.fresh (Nat.le_succ w.heap.size)))
 have hmb:=blk_lt (show w.heap[B.mb]? = _ from h.c6.2.choose_spec.choose_spec.1)
 have n1:w.heap.size≠B.mb:=by omega
 have n2:w.heap.size+1≠B.mb:=by omega
 have ST:=hid (fun y (hq:Quiet w2 y)=>(HS y w.heap.size (w.heap.size+1) (H2.out.quiet hq) ⟨by rw[hq.heap];exact cb.a,by rw[hq.heap];exact cb.b⟩).mono (R':=fun e w'=>e = .returned (.bool true)∧(w'.cell? ⟨w.heap.size,0,none⟩=some (.pointer (some ⟨B.W,0,none⟩))∧w'.cell? ⟨w.heap.size+1,0,none⟩=some (.int .i64 (i:Int))) ∧ ∃ o5,WR B o5 n' v1 w'∧Ek o o5 w w') fun e w' hx=>by
  obtain⟨he,o5,h5,e5⟩:=hx
  exact⟨he,⟨blk_cell (e5.blk (by rw[hq.heap];exact cb.a) F0.out.1) rfl,blk_cell (e5.blk (by rw[hq.heap];exact cb.b) F0.out.2) rfl⟩,o5,h5,((Ek.of_below bl).trans (.of_quiet hq)).trans e5⟩)
 have HGG:=hid HG
 have HL:=hid (And.intro hl1 hi1)
 clear h HS cb bl HG hmb
 go_enter Tryz.func61,Tryz.ntmps61
 go_upto_region 1 with (fail)
 rw[←hw2]
 have d0:w2.cell? ⟨w.heap.size,0,none⟩=some (.pointer (some ⟨B.W,0,none⟩)):=blk_cell CB.out.a rfl
 have d1:w2.cell? ⟨w.heap.size+1,0,none⟩=some (.int .i64 (i:Int)):=blk_cell CB.out.b rfl
 have a3:=H2.out.w3
 have a14:=H2.out.w14
 have k8:=H2.out.m8 hi
 rw[hin]at k8
 clear hw2 hin hl1 hi1
 go_wp2_with fail
 go_quiet (fail)
 all_goals
  go_wp2_with fail
  go_region_with (go_at_call 97;refine(ST.out _ ⟨_,rfl⟩).mono ?_;rintro e w5 ⟨rfl,⟨e0,e1⟩,o5,h5,e5⟩)
  all_goals
   have H5:=hid h5
   have E5:=hid e5
   have m8:=h5.m8 (i:=i) HL.out.2
   have m13:=h5.m13 (i:=i) HL.out.2
   have m14:=h5.m14 (i:=i) HL.out.2
   have m15:=h5.m15 (i:=i) HL.out.2
   have m16:=h5.m16 (i:=i) HL.out.2
   have m17:=h5.m17 (i:=i) HL.out.2
   have mf:=h5.mfz
   have U8:=(h5.self HL.out.1 HL.out.2).v8 HL.out.1 HL.out.2 false
   have U13:=U8.v13 HL.out.1 HL.out.2 0
   have U14:=U13.v14 HL.out.1 HL.out.2 0
   have U15:=U14.v15 HL.out.1 HL.out.2 0
   have U16:=U15.v16 HL.out.1 HL.out.2 0
   have U17:=U16.v17 HL.out.1 HL.out.2 0
   have GO:=hid (HGG.out o5 _ U17)
   have EE:=hid (e5.trans ((Ek.setM h5 (i*20+8) (.bool false)).trans ((Ek.setM U8 (i*20+13) (.int .i64 0)).trans ((Ek.setM U13 (i*20+14) (.int .i64 0)).trans ((Ek.setM U14 (i*20+15) (.int .i64 0)).trans ((Ek.setM U15 (i*20+16) (.int .u64 0)).trans (Ek.setM U16 (i*20+17) (.int .i64 0))))))))
   clear h5 e5 d0 d1 a3 a14 k8 U8 U13 U14 U15 U16 U17
   go_wp2_with fail
   refine(GO.out).mono ?_
   rintro e w6 ⟨rfl,o6,h6,e6⟩
   have H6:=hid h6
   have E6:=hid (EE.out.trans e6)
   clear h6 e6
   go_wp2
   go_end0
   exact⟨rfl,o6,H6.out,E6.out⟩
end
end Go.Proofs.YtkhigkcmgcafdaaGreatDoor
