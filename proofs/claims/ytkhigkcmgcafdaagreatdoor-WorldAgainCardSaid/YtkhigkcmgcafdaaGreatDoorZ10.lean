/- Of Yg, Yh, Yk, Yl, Ym, Yn, Yo, Yp, Yq. -/
import Derived.Test.YtkhigkcmgcafdaaGreatDoorZ9
set_option linter.unusedVariables false
set_option linter.unusedSimpArgs false
set_option maxHeartbeats 16000000
namespace Go.Proofs.YtkhigkcmgcafdaaGreatDoor.Y
section
variable {n n':Nat}{v v':V}{i:Nat}{m':Mh}
theorem sum_zero{α:Type}(f : α → Nat)(l:List α)(h:∀ x ∈ l,f x=0):(l.map f).sum=0:=by
 induction l with
 | nil=>rfl
 | cons x l ih=>
   simp only[List.map_cons,List.sum_cons]
   rw[h x (by simp),ih (fun y hy=>h y (by simp[hy]))]
theorem sm_zero(f:Mh→Nat)(h:∀ j,j<v.mm.length→f (v.mach j)=0):v.sm f=0:=by
 refine sum_zero f v.mm fun x hx => ?_
 obtain⟨j,hj,rfl⟩:=List.getElem_of_mem hx
 have:=h j hj
 unfold V.mach at this
 simpa[hj] using this
theorem sum_two{α:Type}(f g h : α → Nat)(e:∀ x,f x+g x≤h x)(l:List α):(l.map f).sum+(l.map g).sum≤(l.map h).sum:=by
 induction l with
 | nil=>simp
 | cons x l ih=>
   have:=e x
   simp only[List.map_cons,List.sum_cons]
   omega
theorem fK_le(g:Int)(m:Mh):fK 29 g m+fK 30 g m≤fG g m:=by
 unfold fK fG
 by_cases h:m.g=g
 ·rw[if_pos h]
  split <;> split <;> omega
 ·rw[if_neg h,if_neg (fun e=>h e.1),if_neg (fun e=>h e.1)];omega
theorem sources(h:Inv n v)(hi:i<v.M)(hin:(v.mach i).inn=true)(hs:(v.mach i).st≠1)(hc:Mh.cls (v.mach i).pl=5){j:Nat}(hj:j<v.M)(hne:j≠i):¬((v.mach j).inn=true∧(v.mach j).st≠1∧Mh.cls (v.mach j).pl=5):=by
 rintro⟨j1,j2,j3⟩
 have e1:∀ a,a<v.M→(v.mach a).inn=true→Mh.cls (v.mach a).pl=5→(v.mach a).sn=2*((v.P+1:Nat):Int):=fun a ha h1 h2=>by
  have:=((h.mo a ha).s.si h1).2.2.1
  rw[this]
  unfold Mh.lock
  rw[h2]
  simp
 have l:=h.lk (v.P+1) (by omega)
 have a1:=e1 i hi hin hc
 have a2:=e1 j hj j1 j3
 have b1:=(l.tk i hi hin a1).2.2.resolve_left hs
 have b2:=(l.tk j hj j1 a2).2.2.resolve_left j2
 exact l.ne j i hj hi hne j1 a2 hin a1 (b2.trans b1.symm)
theorem nopark(h:Inv n v)(hi:i<v.M)(hin:(v.mach i).inn=true)(hs:(v.mach i).st≠1)(hc:Mh.cls (v.mach i).pl=5)(k:Int)(hk:k=29∨k=30)(g:Int)(h0:fK k g (v.mach i)=0):v.sm (fK k g)=0:=by
 refine sm_zero _ fun j hj => ?_
 rw[h.ln.1]at hj
 by_cases hji:j=i
 ·rw[hji];exact h0
 ·unfold fK
  rw[if_neg]
  rintro⟨_,h2,h3,h4,_⟩
  refine sources h hi hin hs hc hj hji ⟨h3,by omega,?_⟩
  rw[h2]
  rcases hk with rfl|rfl <;> decide
theorem onepark(h:Inv n v)(hi:i<v.M)(hin:(v.mach i).inn=true)(hs:(v.mach i).st≠1)(hc:Mh.cls (v.mach i).pl=5)(k:Int)(hk:k=29∨k=30)(g:Int):v.sm (fK k g)=fK k g (v.mach i):=by
 have hl:i<v.mm.length:=by rw[h.ln.1];exact hi
 have s:=sm_set (v:=v) (v':=v.putM i (Mh.fresh 0 (-1))) rfl hl (fK k g)
 have z:(v.putM i (Mh.fresh 0 (-1))).sm (fK k g)=0:=by
  refine sm_zero _ fun j hj => ?_
  have hj':j<v.M:=by rw[show (v.putM i (Mh.fresh 0 (-1))).mm=v.mm.set i (Mh.fresh 0 (-1)) from rfl,List.length_set,h.ln.1]at hj;exact hj
  rw[mach_set (v:=v) (v':=v.putM i (Mh.fresh 0 (-1))) rfl hl j]
  by_cases hji:j=i
  ·rw[if_pos hji];unfold fK;rw[if_neg];rintro⟨_,_,h3,_⟩;cases h3
  ·rw[if_neg hji]
   unfold fK
   rw[if_neg]
   rintro⟨_,h2,h3,h4,_⟩
   refine sources h hi hin hs hc hj' hji ⟨h3,by omega,?_⟩
   rw[h2]
   rcases hk with rfl|rfl <;> decide
 have f0:fK k g (Mh.fresh 0 (-1))=0:=by unfold fK;rw[if_neg];rintro⟨_,_,h3,_⟩;cases h3
 omega
theorem runs(h:Inv n v)(hi:i<v.M)(h0:0≤(v.mach i).g)(h1:(v.mach i).g<v.G):v.stat (v.mach i).g=2∧v.sm (fG (v.mach i).g)=1∧v.cR (v.mach i).g=0∧v.sm (fD (v.mach i).g)=0∧v.cL (v.mach i).g=v.sm (fK 29 (v.mach i).g)∧v.cW (v.mach i).g=v.sm (fK 30 (v.mach i).g):=by
 have o:=h.go _ h0 h1
 have hl:i<v.mm.length:=by rw[h.ln.1];exact hi
 have s:=sm_set (v:=v) (v':=v.putM i (Mh.fresh 0 (-1))) rfl hl (fG (v.mach i).g)
 have f1:fG (v.mach i).g (v.mach i)=1:=by unfold fG;rw[if_pos rfl]
 have f0:fG (v.mach i).g (Mh.fresh 0 (-1))=0:=by unfold fG;rw[if_neg (show ¬(Mh.fresh 0 (-1)).g=(v.mach i).g by show ¬(-1:Int)=_;omega)]
 have hn:=o.n
 have hst:v.stat (v.mach i).g=2:=by
  by_cases h2:v.stat (v.mach i).g=2
  ·exact h2
  ·rw[if_neg h2]at hn;omega
 have r:=o.r
 have oo:=o.o
 rw[hst]at hn r oo
 simp at hn r oo
 exact⟨hst,hn,r,oo⟩
theorem ins_count(e:Int × Int × Int)(l:List (Int × Int × Int))(g:Int):((ins e l).map fun e=>e.2.2).count g=(l.map fun e=>e.2.2).count g+if e.2.2=g then 1 else 0:=by
 induction l with
 | nil=>simp[ins,List.count_cons]
 | cons x l ih=>
   simp only[ins]
   split
   ·simp only[List.map_cons,List.count_cons,beq_iff_eq]
   ·simp only[List.map_cons,List.count_cons,beq_iff_eq,ih];omega
theorem mem_insE{e x:Int × Int × Int}{l:List (Int × Int × Int)}(h:x ∈ ins e l):x=e∨x ∈ l:=by
 induction l with
 | nil=>simpa[ins] using h
 | cons y l ih=>
   simp only[ins]at h
   split at h
   ·simpa using h
   ·rcases List.mem_cons.1 h with h|h
    ·exact .inr (by simp[h])
    ·rcases ih h with h|h
     ·exact .inl h
     ·exact .inr (by simp[h])
theorem flt_count{l:List (Int × Int)}{e:Int × Int}(hn:(l.map Prod.fst).Nodup)(he:e ∈ l)(g:Int):((l.filter fun x => !(x.1 == e.1)).map Prod.snd).count g+(if e.2=g then 1 else 0)=(l.map Prod.snd).count g:=by
 induction l with
 | nil=>simp at he
 | cons x l ih=>
   simp only[List.map_cons,List.nodup_cons]at hn
   rcases List.mem_cons.1 he with rfl|he
   ·have hf:(l.filter fun x => !(x.1 == e.1))=l:=List.filter_eq_self.2 fun y hy=>by
     have:y.1≠e.1:=fun h=>hn.1 (List.mem_map.2 ⟨y,hy,h⟩)
     simpa using this
    rw[List.filter_cons_of_neg (by simp),hf,List.map_cons,List.count_cons]
    simp only[beq_iff_eq]
   ·have hx:x.1≠e.1:=fun h=>hn.1 (h ▸ List.mem_map.2 ⟨e,he,rfl⟩)
    have:=ih hn.2 he
    rw[List.filter_cons_of_pos (by simpa using hx)]
    simp only[List.map_cons,List.count_cons]
    omega
theorem lst_mem{l:List (Int × Int)}{e:Int × Int}(h:lst l=some e):e ∈ l:=by
 induction l generalizing e with
 | nil=>simp[lst]at h
 | cons x l ih=>
   simp only[lst]at h
   rcases hl:lst l with _|y
   ·rw[hl]at h;simp only[Option.some.injEq]at h;simp[h]
   ·rw[hl]at h
    simp only at h
    split at h
    ·simp only[Option.some.injEq]at h;simp[h]
    ·simp only[Option.some.injEq]at h;subst h;simp[ih hl]
theorem Rgo.src(h:Rgo v)(e1:v'.P=v.P)(e3:v'.G=v.G)(e5:v'.rs=v.rs)(eq:v'.qu=v.qu)(hL:∀ e ∈ v'.sr.L,0≤e.2.2∧e.2.2<v.G)(hW:∀ e ∈ v'.sr.W,(0≤e.2∧e.2<v.G)∧0≤e.1∧e.1≤65535)(hn:(v'.sr.W.map Prod.fst).Nodup):Rgo v':=by
 obtain⟨a1,a2,a3,a4,a5,a6⟩:=h
 have er:∀ p,v'.ring p=v.ring p:=fun p=>by unfold V.ring;rw[e5]
 exact⟨by rw[e3,eq];exact a1,by simp only[e1,e3,er];exact a2,by simp only[e1,er];exact a3,by rw[e3];exact hL,by rw[e3];exact hW,hn⟩
theorem inv_D(a:At n v i 25)(hn:n≤n')(s:SV)(x:Int)(hx:0≤x∧x<v.G)(ha:s.ad=v.sr.ad)(hL:∀ e ∈ s.L,0≤e.2.2∧e.2.2<v.G)(hW:∀ e ∈ s.W,(0≤e.2∧e.2<v.G)∧0≤e.1∧e.1≤65535)(hnd:(s.W.map Prod.fst).Nodup)
 (hc:(∀ g,(s.L.map fun e=>e.2.2).count g+(if x=g then 1 else 0)=v.cL g)∧(∀ g,(s.W.map Prod.snd).count g=v.cW g)∨(∀ g,(s.L.map fun e=>e.2.2).count g=v.cL g)∧(∀ g,(s.W.map Prod.snd).count g+(if x=g then 1 else 0)=v.cW g)):Inv n' ((v.putS s).onM i fun m=>fin (m.get (x,true)) false):=by
 have hp:=a.pl
 have lc:=(loc_25 hp).1 a.mo.l
 simp only[a.af,Bool.false_and,Bool.false_eq_true,if_false]at lc
 have em:((v.putS s).onM i fun m=>fin (m.get (x,true)) false).mm=v.mm.set i (fin ((v.mach i).get (x,true)) false):=rfl
 generalize hv:((v.putS s).onM i fun m=>fin (m.get (x,true)) false)=v2 at em ⊢
 have es:v2.sr=s:=by rw[←hv];rfl
 refine a.h.mv hn a.hi (do_25 a.mo a.inn a.st hp (x,true) (fun _=>hx)) em (by rw[←hv];exact⟨rfl,rfl,rfl,rfl,rfl,rfl,rfl,rfl,rfl⟩) (by rw[←hv];rfl) (by rw[es,ha];exact Nat.le_trans a.h.cn.2.2.2 hn) rfl rfl rfl (fun _ => .inl a.st) (fun p _=>rfl) (by simp[fS,Mh.get,Mh.claim,hp]) (fun hb=>absurd hb (a.nm (by decide)))
  (a.h.rg.src (by rw[←hv];rfl) (by rw[←hv];rfl) (by rw[←hv];rfl) (by rw[←hv];rfl) (by rw[es];exact hL) (by rw[es];exact hW) (by rw[es];exact hnd)) fun g g0 g1 => ?_
 have o:=a.h.go g g0 g1
 have np:∀ k,(k=29∨k=30)→v.sm (fK k g)=0:=fun k hk=>nopark a.h a.hi a.inn (by rw[a.st];decide) (by rw[hp];decide) k hk g (by unfold fK;rw[if_neg];rintro⟨_,h2,_⟩;omega)
 have n29:=np 29 (.inl rfl)
 have n30:=np 30 (.inr rfl)
 have fr:fR g (fin ((v.mach i).get (x,true)) false)=fR g (v.mach i):=by
  unfold fR hol fin
  simp[Mh.get,Mh.dlv,hp]
 have sR:=sm_same em a.hl fr
 have sG:=sm_same em a.hl (show fG g (fin ((v.mach i).get (x,true)) false)=fG g (v.mach i) from rfl)
 have sD:=sm_set em a.hl (fD g)
 have d0:fD g (v.mach i)=0:=by unfold fD;rw[if_neg];rintro⟨h1,_⟩;omega
 have d1:fD g (fin ((v.mach i).get (x,true)) false)=if x=g then 1 else 0:=by simp[fD,fin,Mh.get,Mh.dlv,hp]
 have s29:=sm_same em a.hl (show fK 29 g (fin ((v.mach i).get (x,true)) false)=fK 29 g (v.mach i) by simp[fK,fin,Mh.get,hp])
 have s30:=sm_same em a.hl (show fK 30 g (fin ((v.mach i).get (x,true)) false)=fK 30 g (v.mach i) by simp[fK,fin,Mh.get,hp])
 have est:v2.stat g=v.stat g:=by rw[←hv];rfl
 have eR:v2.cR g=v.cR g:=by unfold V.cR;rw[sR, ←hv];rfl
 have eL:v2.cL g=(s.L.map fun e=>e.2.2).count g:=by unfold V.cL;rw[es]
 have eW:v2.cW g=(s.W.map Prod.snd).count g:=by unfold V.cW;rw[es]
 obtain⟨o1,o2,o3,o4⟩:=o
 refine⟨by rw[est];exact o1,by rw[est,eR];exact o2,by rw[est,sG];exact o3,?_⟩
 rw[est,eL,eW,s29,s30]
 rw[n29,n30]at o4 ⊢
 have c:((s.L.map fun e=>e.2.2).count g+(if x=g then 1 else 0)=v.cL g∧(s.W.map Prod.snd).count g=v.cW g)∨((s.L.map fun e=>e.2.2).count g=v.cL g∧(s.W.map Prod.snd).count g+(if x=g then 1 else 0)=v.cW g):=by
  rcases hc with⟨h1,h2⟩|⟨h1,h2⟩
  ·exact .inl ⟨h1 g,h2 g⟩
  ·exact .inr ⟨h1 g,h2 g⟩
 by_cases h4:v.stat g=4
 ·rw[if_pos h4]at o4 ⊢
  by_cases hxg:x=g
  ·rw[if_pos hxg]at c d1;omega
  ·rw[if_neg hxg]at c d1;omega
 ·rw[if_neg h4]at o4 ⊢
  by_cases h5:v.stat g=5
  ·rw[if_pos h5]at o4 ⊢
   by_cases hxg:x=g
   ·rw[if_pos hxg]at c d1;omega
   ·rw[if_neg hxg]at c d1;omega
  ·rw[if_neg h5]at o4 ⊢
   by_cases hxg:x=g
   ·rw[if_pos hxg]at c d1;omega
   ·rw[if_neg hxg]at c d1;omega
theorem inv_25(a:At n v i 25)(hn:n≤n'):Inv n' ((v.with' i (v.mach i).tm).1.onM i fun m=>fin m (v.with' i (v.mach i).tm).2):=by
 have hp:=a.pl
 have lc:=(loc_25 hp).1 a.mo.l
 have e0:v.with' i (v.mach i).tm=((v.putS v.sr.take.2).onM i (·.get v.sr.take.1),false):=by simp[V.with',hp]
 rw[e0,onM2 (v:=v.putS v.sr.take.2) a.hl]
 dsimp only
 have none_:v.sr.take=((0,false),v.sr)→Inv n' ((v.putS v.sr.take.2).onM i fun m=>fin (m.get v.sr.take.1) false):=fun e=>by
  rw[e]
  exact a.h.put hn a.hi (m':=fin ((v.mach i).get (0,false)) false) (do_25 a.mo a.inn a.st hp (0,false) (by simp)) rfl rfl rfl (fun _ => .inl a.st) (fun g _=>rfl) (fun g _=>rfl) (fun g _=>rfl) (fun g=>by simp[fK,fin,Mh.get,hp]) (fun p _=>rfl) (by simp[fS,fin,Mh.get,Mh.claim,hp]) (fun hb=>absurd hb (a.nm (by decide)))
 rcases hd:v.sr.dueL with _|_
 ·rcases hl:lst v.sr.dueW with _|e
  ·exact none_ (by simp[SV.take,hd,hl])
  ·have et:v.sr.take=((e.2,true), { v.sr with W:=v.sr.W.filter fun x => !(x.1 == e.1),R:=v.sr.R.filter fun a => !(a == e.1) }):=by simp[SV.take,hd,hl]
   rw[et]
   have hm:e ∈ v.sr.W:=(List.mem_filter.1 (lst_mem hl)).1
   exact inv_D a hn _ e.2 (a.h.rg.sw e hm).1 rfl a.h.rg.sl (fun x hx=>a.h.rg.sw x (List.mem_filter.1 hx).1) (a.h.rg.wn.sublist (List.Sublist.map _ List.filter_sublist)) (.inr ⟨fun g=>rfl,fun g=>flt_count a.h.rg.wn hm g⟩)
 ·rcases hL:v.sr.L with _|⟨e,l⟩
  ·simp[SV.dueL,hL]at hd
  ·have et:v.sr.take=((e.2.2,true), { v.sr with L:=l }):=by simp[SV.take,hd,hL]
   rw[et]
   exact inv_D a hn _ e.2.2 (a.h.rg.sl e (by rw[hL];simp)) rfl (fun x hx=>a.h.rg.sl x (by rw[hL];exact List.mem_cons_of_mem _ hx)) a.h.rg.sw a.h.rg.wn (.inl ⟨fun g=>by unfold V.cL;rw[hL,List.map_cons,List.count_cons];simp only[beq_iff_eq],fun g=>rfl⟩)
end
section
variable {n n':Nat}{v v':V}{i:Nat}{m':Mh}
theorem sts_lt(h:Inv n v){g:Int}(h0:0≤g)(h1:g<v.G):v.sts+g.toNat<v.ms.length∧v.sts+g.toNat<v.ns.length:=by
 rw[h.ln.2.2.2.1,h.ln.2.2.2.2.1]
 unfold V.wds
 omega
theorem stat_set{g0 x:Int}(h:Inv n v)(e1:v'.P=v.P)(e2:v'.M=v.M)(e3:v'.G=v.G)(e5:v'.ns=v.ns.set (v.sts+g0.toNat) x)(h0:0≤g0)(h1:g0<v.G){g:Int}(g0':0≤g)(g1:g<v.G):v'.stat g=if g=g0 then x else v.stat g:=by
 have hl:=(sts_lt h h0 h1).2
 unfold V.stat
 rw[e3,show v'.sts=v.sts by unfold V.sts V.nts V.spn;rw[e1,e2]]
 simp only[g0',g1,and_self,if_true]
 rw[e5,getD_set]
 by_cases hg:g=g0
 ·rw[if_pos hg,if_pos ⟨by rw[hg],hl⟩]
 ·rw[if_neg hg,if_neg (by omega)]
theorem inv_see(h:Inv n v)(hn:n+1≤n')(hi:i<v.M)(g0 x:Int)(h0:0≤g0)(h1:g0<v.G)(hm:Mok v.P v.M v.G m')(e:v'.mm=v.mm.set i m')(ee:v'.P=v.P∧v'.M=v.M∧v'.G=v.G∧v'.tu=v.tu∧v'.rs=v.rs∧v'.sr=v.sr∧v'.id=v.id∧v'.qu=v.qu)(e4:v'.ms=v.ms.set (v.sts+g0.toNat) x)(e5:v'.ns=v.ns.set (v.sts+g0.toNat) x)(em:v'.mc=v.mc+1)(eg:v'.lg.length=v.lg.length+1)
 (b1:m'.inn=(v.mach i).inn)(b2:m'.sn=(v.mach i).sn)(b3:m'.tk=(v.mach i).tk)(b4:(v.mach i).inn=true→(v.mach i).st=2∨m'.st=(v.mach i).st)
 (eR:∀ g:Int,0≤g→g≠g0→fR g m'=fR g (v.mach i))(eG:∀ g:Int,0≤g→g≠g0→fG g m'=fG g (v.mach i))(eD:∀ g:Int,0≤g→g≠g0→fD g m'=fD g (v.mach i))(eK:∀ g:Int,0≤g→g≠g0→fK 29 g m'=fK 29 g (v.mach i)∧fK 30 g m'=fK 30 g (v.mach i))(eP:∀ p:Int,0≤p→fP p m'=fP p (v.mach i))(eS:fS m'=fS (v.mach i))(hb:memb v i→m'.nx = -1∧m'.idl=true)(go:v'.stat g0=x→Gok v' g0):Inv n' v':=by
 have hl:i<v.mm.length:=by rw[h.ln.1];exact hi
 obtain⟨c1,c2,c3,c4,c5,c6,c7,c8⟩:=ee
 obtain⟨l1,l2⟩:=sts_lt h h0 h1
 have sgt:v.spn<v.sts+g0.toNat:=by unfold V.sts V.nts;omega
 refine h.mvB (by omega) ⟨c1,c2,c3,c4⟩ (by rw[e,List.length_set]) (mo_put h e hi hm) (lkm_put h e hi b1 b2 b3 b4) (by rw[c5]) (by rw[c6];exact Nat.le_trans h.cn.2.2.2 (by omega)) (by rw[c7]) (by rw[e4,List.length_set]) (by rw[e5,List.length_set]) (nt_set h e4 e5) (ew_set (by omega) e4) (by rw[em];have:=h.cn.1;omega) (by rw[eg];have:=h.cn.2.1;omega)
  (h.rg.same c1 c3 c5 c6 (by rw[c8];exact h.rg.qu)) (fun g g0' g1 => ?_) (id_put h e hi c2 c1 c7 hb) (fun p p0 p1 => ?_) ?_ (fun j hj=>by rw[e5,getD_set,if_neg (by unfold V.sts;omega)];exact h.nb j hj)
 ·have st:=stat_set h c1 c2 c3 e5 h0 h1 g0' g1
  by_cases hg:g=g0
  ·subst hg
   rw[if_pos rfl]at st
   exact go st
  ·rw[if_neg hg]at st
   refine(h.go g g0' g1).of st ?_ (sm_same e hl (eG g g0' hg)) (sm_same e hl (eD g g0' hg)) (by unfold V.cL;rw[c6]) (by unfold V.cW;rw[c6]) (sm_same e hl (eK g g0' hg).1) (sm_same e hl (eK g g0' hg).2)
   unfold V.cR
   rw[sm_same e hl (eR g g0' hg),c5,c8]
 ·rw[sm_same e hl (eP p p0),c7];exact h.pr p p0 p1
 ·rw[sm_same e hl eS,e4,getD_set,if_neg (by omega),c7];exact h.sp
theorem fG_m(m:Mh)(g:Int):fG g m=if m.g=g then 1 else 0:=rfl
theorem fG_none{m:Mh}{g:Int}(h:m.g = -1)(h0:0≤g):fG g m=0:=by unfold fG;rw[if_neg (by omega)]
theorem inv_go{k:Int}(a:At n v i k)(hk:k=29∨k=30)(ht:(v.mach i).tm=1)(hn:n+1≤n')(x:Int):Inv n' (((v.leave i (if k=29 then 5 else 6) x)).onM i fun m=>fin m false):=by
 have hp:=a.pl
 have hg:0≤(v.mach i).g∧(v.mach i).g<v.G:=by
  rcases hk with rfl|rfl
  ·have:=(loc_29 hp).1 a.mo.l;simp only[a.af,Bool.false_eq_true,if_false]at this;exact this.2.1
  ·have:=(loc_30 hp).1 a.mo.l;simp only[a.af,Bool.false_eq_true,false_and,if_false]at this;exact this.2.1
 have hgr:(v.mach i).got = -1∧(v.mach i).rest = []∧(v.mach i).spin=false:=by
  rcases hk with rfl|rfl
  ·have:=(loc_29 hp).1 a.mo.l;exact⟨this.2.2.1,this.2.2.2.1,this.2.2.2.2.1⟩
  ·have:=(loc_30 hp).1 a.mo.l;exact⟨this.2.2.1,this.2.2.2.1,this.2.2.2.2.1⟩
 have hm:Mok v.P v.M v.G (fin { v.mach i with g := -1 } false):=by
  rcases hk with rfl|rfl
  ·exact do_29b (m:=v.mach i) a.mo a.inn a.st hp
  ·exact do_30c (m:=v.mach i) a.mo a.inn a.st hp
 have nm:¬memb v i:=a.nm (by rcases hk with rfl|rfl <;> decide)
 obtain⟨r1,r2,r3,r4,r5,r6⟩:=runs a.h a.hi hg.1 hg.2
 have hc:Mh.cls (v.mach i).pl=5:=by rw[hp];rcases hk with rfl|rfl <;> decide
 have p29:=onepark a.h a.hi a.inn (by rw[a.st];decide) hc 29 (.inl rfl) (v.mach i).g
 have p30:=onepark a.h a.hi a.inn (by rw[a.st];decide) hc 30 (.inr rfl) (v.mach i).g
 have ev:((v.leave i (if k=29 then 5 else 6) x)).onM i (fun m=>fin m false)=(v.see ⟨if k=29 then 5 else 6,(v.mach i).g,i,(v.mach i).p,x⟩).putM i (fin { v.mach i with g := -1 } false):=by
  unfold V.leave
  rw[onM2 (v:=v.see _) (by show i<v.mm.length;exact a.hl)]
  rfl
 rw[ev]
 have ht':evTo (if k=29 then 5 else 6)=if k=29 then 4 else 5:=by rcases hk with rfl|rfl <;> decide
 have em:((v.see ⟨if k=29 then 5 else 6,(v.mach i).g,i,(v.mach i).p,x⟩).putM i (fin { v.mach i with g := -1 } false)).mm=v.mm.set i (fin { v.mach i with g := -1 } false):=rfl
 have hdl:(v.mach i).dlv=false:=by unfold Mh.dlv;rw[hp];rcases hk with rfl|rfl <;> decide
 have ns:(fin { v.mach i with g := -1 } false).st≠2:=by show (3:Int)≠2;decide
 have hfin:fS (fin { v.mach i with g := -1 } false)=fS (v.mach i):=by
  have c1:(v.mach i).claim=false:=by unfold Mh.claim;rw[hp];rcases hk with rfl|rfl <;> simp
  have c2:(fin { v.mach i with g := -1 } false).claim=false:=by unfold Mh.claim fin;simp only;rw[hp];rcases hk with rfl|rfl <;> simp
  unfold fS
  rw[c1,c2];rfl
 generalize hv:(v.see ⟨if k=29 then 5 else 6,(v.mach i).g,i,(v.mach i).p,x⟩).putM i (fin { v.mach i with g := -1 } false)=v2 at em ⊢
 refine inv_see a.h hn a.hi (v.mach i).g (evTo (if k=29 then 5 else 6)) hg.1 hg.2 hm em (by rw[←hv];exact⟨rfl,rfl,rfl,rfl,rfl,rfl,rfl,rfl⟩) (by rw[←hv];rfl) (by rw[←hv];rfl) (by rw[←hv];rfl) (by rw[←hv];exact List.length_append) rfl rfl rfl (fun _ => .inl a.st) (fun g _ _=>rfl) (fun g h0 h1 => ?_) (fun g _ _=>rfl) (fun g h0 h1 => ?_) (fun p _=>rfl) hfin (fun hb=>absurd hb nm) (fun st => ?_)
 ·rw[fG_none (m:=fin { v.mach i with g := -1 } false) rfl h0,fG_m,if_neg (Ne.symm h1)]
 ·constructor
  ·unfold fK;rw[if_neg (fun e=>ns e.2.2.2.1),if_neg (fun e=>h1 e.1.symm)]
  ·unfold fK;rw[if_neg (fun e=>ns e.2.2.2.1),if_neg (fun e=>h1 e.1.symm)]
 ·have sR:v2.cR (v.mach i).g=0:=by
   rw[←r3]
   unfold V.cR
   rw[sm_same em a.hl (show fR (v.mach i).g (fin { v.mach i with g := -1 } false)=fR (v.mach i).g (v.mach i) from rfl), ←hv]
   rfl
  have sG:v2.sm (fG (v.mach i).g)=0:=by
   have s:=sm_set em a.hl (fG (v.mach i).g)
   rw[r2,fG_m (v.mach i),if_pos rfl,fG_none (m:=fin { v.mach i with g := -1 } false) rfl hg.1]at s
   omega
  have sD:v2.sm (fD (v.mach i).g)=0:=by rw[sm_same em a.hl (show fD (v.mach i).g (fin { v.mach i with g := -1 } false)=fD (v.mach i).g (v.mach i) from rfl)];exact r4
  have eL:v2.cL (v.mach i).g=v.cL (v.mach i).g:=by rw[←hv];rfl
  have eW:v2.cW (v.mach i).g=v.cW (v.mach i).g:=by rw[←hv];rfl
  have st':v2.stat (v.mach i).g=if k=29 then 4 else 5:=st.trans ht'
  refine⟨by rw[st'];split <;> omega,by rw[st',sR,if_neg (by split <;> omega)],by rw[st',sG,if_neg (by split <;> omega)],?_⟩
  have f:∀ j:Int,fK j (v.mach i).g (v.mach i)=if k=j then 1 else 0:=fun j=>by
   unfold fK
   by_cases h:k=j
   ·rw[if_pos h,if_pos ⟨rfl,hp.trans h,a.inn,a.st,ht⟩]
   ·rw[if_neg h,if_neg (fun e=>h (hp.symm.trans e.2.1))]
  rw[st',eL,eW,sD,r5,r6,p29,p30,f,f]
  rcases hk with rfl|rfl <;> simp
theorem inv_out{k:Int}(a:At n v i k)(hk:k=29∨k=30)(ht:(v.mach i).tm=0)(hn:n+1≤n')(s:SV)(f:Mh→Mh)(hf:∃ u b,f (v.mach i) = { v.mach i with til:=u,yes:=b })(ha:s.ad≤n')(hL:∀ e ∈ s.L,0≤e.2.2∧e.2.2<v.G)(hW:∀ e ∈ s.W,(0≤e.2∧e.2<v.G)∧0≤e.1∧e.1≤65535)(hnd:(s.W.map Prod.fst).Nodup)
 (cL:∀ g,(s.L.map fun e=>e.2.2).count g=v.cL g+if k=29∧(v.mach i).g=g then 1 else 0)(cW:∀ g,(s.W.map Prod.snd).count g=v.cW g+if k=30∧(v.mach i).g=g then 1 else 0):Inv n' ((v.putS s).onM i fun m=>fin (f m) true):=by
 have hp:=a.pl
 obtain⟨u,b,hf⟩:=hf
 have hg:0≤(v.mach i).g∧(v.mach i).g<v.G:=by
  rcases hk with rfl|rfl
  ·have:=(loc_29 hp).1 a.mo.l;simp only[a.af,Bool.false_eq_true,if_false]at this;exact this.2.1
  ·have:=(loc_30 hp).1 a.mo.l;simp only[a.af,Bool.false_eq_true,false_and,if_false]at this;exact this.2.1
 have hm:Mok v.P v.M v.G (fin { v.mach i with til:=u,yes:=b } true):=by
  rcases hk with rfl|rfl
  ·exact do_29a (m:=v.mach i) a.mo a.inn a.st hp ht u b
  ·have:=do_30a (m:=v.mach i) a.mo a.inn a.st hp ht b
   obtain⟨⟨a1,a2,a3,a4,a5,a6,a7,a8,a9,a10,a11,a12⟩,hs⟩:=this
   exact⟨⟨a1,a2,a3,a4,a5,a6,a7,a8,a9,a10,a11,a12⟩,hs.pl,hs.si,hs.so,hs.t1,hs.t2⟩
 have nm:¬memb v i:=a.nm (by rcases hk with rfl|rfl <;> decide)
 have em:((v.putS s).onM i fun m=>fin (f m) true).mm=v.mm.set i (fin { v.mach i with til:=u,yes:=b } true):=by
  show v.mm.set i (fin (f (v.mach i)) true)=_
  rw[hf]
 have hfin:fS (fin { v.mach i with til:=u,yes:=b } true)=fS (v.mach i):=by
  have c1:(v.mach i).claim=false:=by unfold Mh.claim;rw[hp];rcases hk with rfl|rfl <;> simp
  have c2:(fin { v.mach i with til:=u,yes:=b } true).claim=false:=by unfold Mh.claim fin;simp only;rw[hp];rcases hk with rfl|rfl <;> simp
  unfold fS
  rw[c1,c2];rfl
 generalize hv:((v.putS s).onM i fun m=>fin (f m) true)=v2 at em ⊢
 have es:v2.sr=s:=by rw[←hv];rfl
 refine a.h.mv (by omega) a.hi hm em (by rw[←hv];exact⟨rfl,rfl,rfl,rfl,rfl,rfl,rfl,rfl,rfl⟩) (by rw[←hv];rfl) (by rw[es];exact ha) rfl rfl rfl (fun _ => .inl a.st) (fun p _=>rfl) hfin (fun hb=>absurd hb nm)
  (a.h.rg.src (by rw[←hv];rfl) (by rw[←hv];rfl) (by rw[←hv];rfl) (by rw[←hv];rfl) (by rw[es];exact hL) (by rw[es];exact hW) (by rw[es];exact hnd)) fun g g0 g1 => ?_
 have o:=a.h.go g g0 g1
 have sR:=sm_same em a.hl (show fR g (fin { v.mach i with til:=u,yes:=b } true)=fR g (v.mach i) from rfl)
 have sG:=sm_same em a.hl (show fG g (fin { v.mach i with til:=u,yes:=b } true)=fG g (v.mach i) from rfl)
 have sD:=sm_same em a.hl (show fD g (fin { v.mach i with til:=u,yes:=b } true)=fD g (v.mach i) from rfl)
 have s29:=sm_set em a.hl (fK 29 g)
 have s30:=sm_set em a.hl (fK 30 g)
 have z:∀ j:Int,fK j g (v.mach i)=0:=fun j=>by unfold fK;rw[if_neg];rintro⟨_,_,_,_,h5⟩;omega
 have z':∀ j:Int,fK j g (fin { v.mach i with til:=u,yes:=b } true)=if k=j∧(v.mach i).g=g then 1 else 0:=fun j=>by
  unfold fK fin
  simp only[hp,a.inn,ht,if_true,and_true]
  by_cases h1:k=j
  ·by_cases h2:(v.mach i).g=g
   ·rw[if_pos ⟨h2,h1,by decide⟩,if_pos ⟨h1,h2⟩]
   ·rw[if_neg (fun e=>h2 e.1),if_neg (fun e=>h2 e.2)]
  ·rw[if_neg (fun e=>h1 e.2.1),if_neg (fun e=>h1 e.1)]
 rw[z,z']at s29 s30
 have est:v2.stat g=v.stat g:=by rw[←hv];rfl
 have eR:v2.cR g=v.cR g:=by unfold V.cR;rw[sR, ←hv];rfl
 have eL:v2.cL g=v.cL g+if k=29∧(v.mach i).g=g then 1 else 0:=by rw[←cL];unfold V.cL;rw[es]
 have eW:v2.cW g=v.cW g+if k=30∧(v.mach i).g=g then 1 else 0:=by rw[←cW];unfold V.cW;rw[es]
 obtain⟨o1,o2,o3,o4⟩:=o
 refine⟨by rw[est];exact o1,by rw[est,eR];exact o2,by rw[est,sG];exact o3,?_⟩
 rw[est,eL,eW,sD]
 by_cases hgg:(v.mach i).g=g
 ·have r1:=(runs a.h a.hi hg.1 hg.2).1
  rw[hgg]at r1
  rw[if_neg (by omega),if_neg (by omega)]at o4 ⊢
  omega
 ·have c:∀ j:Int,(if k=j∧(v.mach i).g=g then 1 else 0)=0:=fun j=>if_neg (fun e=>hgg e.2)
  rw[c]at s29 s30
  rw[c,c]
  rw[show v2.sm (fK 29 g)=v.sm (fK 29 g) by omega,show v2.sm (fK 30 g)=v.sm (fK 30 g) by omega]
  exact o4
theorem inv_29(a:At n v i 29)(ht:(v.mach i).tm=0∨(v.mach i).tm=1)(hn:n+1≤n'):Inv n' ((v.with' i (v.mach i).tm).1.onM i fun m=>fin m (v.with' i (v.mach i).tm).2):=by
 have hp:=a.pl
 have lc:=(loc_29 hp).1 a.mo.l
 simp only[a.af,Bool.false_eq_true,if_false]at lc
 have e0:v.with' i (v.mach i).tm=v.park i (v.mach i).tm:=by simp[V.with',V.give,hp]
 rw[e0]
 rcases ht with ht|ht
 ·obtain⟨r1,r2,r3,r4,r5,r6⟩:=runs a.h a.hi lc.2.1.1 lc.2.1.2
  have hc:Mh.cls (v.mach i).pl=5:=by rw[hp];decide
  have zz:∀ k,fK k (v.mach i).g (v.mach i)=0:=fun k=>by unfold fK;rw[if_neg];rintro⟨_,_,_,_,h5⟩;omega
  have p29:=nopark a.h a.hi a.inn (by rw[a.st];decide) hc 29 (.inl rfl) (v.mach i).g (zz 29)
  have p30:=nopark a.h a.hi a.inn (by rw[a.st];decide) hc 30 (.inr rfl) (v.mach i).g (zz 30)
  rw[p29]at r5
  rw[p30]at r6
  have hL:v.sr.hasL (v.mach i).g=false:=decide_eq_false (fun h=>by have:=List.count_pos_iff.2 h;unfold V.cL at r5;omega)
  have hW:v.sr.hasW (v.mach i).g=false:=decide_eq_false (fun h=>by have:=List.count_pos_iff.2 h;unfold V.cW at r6;omega)
  have e:v.park i (v.mach i).tm=((v.putS (v.sr.sleep (v.mach i).g (v.mach i).arg).2).onM i fun m => { m with til:=sat v.sr.now (max m.arg 0),yes:=(v.sr.sleep (v.mach i).g (v.mach i).arg).1 },true):=by simp[V.park,ht]
  rw[e,onM2 (v:=v.putS (v.sr.sleep (v.mach i).g (v.mach i).arg).2) a.hl]
  dsimp only
  have es:(v.sr.sleep (v.mach i).g (v.mach i).arg).2 = { v.sr with L:=ins (sat v.sr.now (max (v.mach i).arg 0),(v.sr.ad:Int),(v.mach i).g) v.sr.L,ad:=v.sr.ad+1 }:=by simp[SV.sleep,hL,hW]
  refine inv_out a (.inl rfl) ht hn _ _ ⟨_,_,rfl⟩ (by rw[es];have:=a.h.cn.2.2.2;show v.sr.ad+1≤n';omega) ?_ (by rw[es];exact a.h.rg.sw) (by rw[es];exact a.h.rg.wn) (fun g => ?_) (fun g => ?_)
  ·rw[es]
   intro x hx
   rcases mem_insE hx with h|h
   ·rw[h];exact lc.2.1
   ·exact a.h.rg.sl x h
  ·rw[es]
   show ((ins _ _).map fun e=>e.2.2).count g=_
   rw[ins_count];simp[V.cL]
  ·rw[es];simp[V.cW]
 ·have e:v.park i (v.mach i).tm=(v.leave i 5 (v.mach i).til,false):=by unfold V.park;rw[if_pos (by omega)]
  rw[e]
  exact inv_go a (.inl rfl) ht hn _
theorem inv_30(a:At n v i 30)(ht:(v.mach i).tm=0∨(v.mach i).tm=1)(hn:n+1≤n'):Inv n' ((v.with' i (v.mach i).tm).1.onM i fun m=>fin m (v.with' i (v.mach i).tm).2):=by
 have hp:=a.pl
 have lc:=(loc_30 hp).1 a.mo.l
 simp only[a.af,Bool.false_eq_true,false_and,if_false]at lc
 have e0:v.with' i (v.mach i).tm=v.await i (v.mach i).tm:=by simp[V.with',V.give,hp]
 rw[e0]
 rcases ht with ht|ht
 ·have e:v.await i (v.mach i).tm=((v.putS (v.sr.wait (v.mach i).arg (v.mach i).g).2).onM i fun m => { m with yes:=(v.sr.wait (v.mach i).arg (v.mach i).g).1.1 },(v.sr.wait (v.mach i).arg (v.mach i).g).1.2):=by simp[V.await,ht]
  rw[e,onM2 (v:=v.putS (v.sr.wait (v.mach i).arg (v.mach i).g).2) a.hl]
  dsimp only
  by_cases hb:(v.sr.hasL (v.mach i).g || v.sr.fdW (v.mach i).arg || v.sr.hasW (v.mach i).g || v.sr.full (v.mach i).arg)=true
  ·have es:v.sr.wait (v.mach i).arg (v.mach i).g=((false,false),v.sr):=by unfold SV.wait;rw[if_pos hb]
   rw[es]
   exact a.h.put (by omega) a.hi (m':=fin { v.mach i with yes:=false } false) (do_30b (m:=v.mach i) a.mo a.inn a.st hp false) rfl rfl rfl (fun _ => .inl a.st) (fun g _=>rfl) (fun g _=>rfl) (fun g _=>rfl) (fun g=>by
    constructor
    ·simp[fK,fin,hp]
    ·unfold fK;rw[if_neg (by rintro⟨_,_,_,h4,_⟩;exact absurd h4 (by show ¬(3:Int)=2;decide)),if_neg (by rintro⟨_,_,_,_,h5⟩;omega)]) (fun p _=>rfl) (by simp[fS,fin,Mh.claim,hp]) (fun hb=>absurd hb (a.nm (by decide)))
  ·have es:v.sr.wait (v.mach i).arg (v.mach i).g=((({ v.sr with W:=((v.mach i).arg,(v.mach i).g) :: v.sr.W }:SV).due,true), { v.sr with W:=((v.mach i).arg,(v.mach i).g) :: v.sr.W }):=by unfold SV.wait;rw[if_neg hb]
   rw[es]
   simp only[Bool.or_eq_true,not_or,Bool.not_eq_true]at hb
   have hfd:(v.mach i).arg ∉ v.sr.W.map Prod.fst:=of_decide_eq_false hb.1.1.2
   refine inv_out a (.inr rfl) ht hn _ _ ⟨(v.mach i).til,_,rfl⟩ (by have:=a.h.cn.2.2.2;show v.sr.ad≤n';omega) a.h.rg.sl ?_ (by rw[List.map_cons,List.nodup_cons];exact⟨hfd,a.h.rg.wn⟩) (fun g=>by simp[V.cL]) (fun g => ?_)
   ·intro x hx
    rcases List.mem_cons.1 hx with h|h
    ·rw[h];exact⟨lc.2.1,by simp only;omega⟩
    ·exact a.h.rg.sw x h
   ·simp[V.cW,List.count_cons]
 ·have e:v.await i (v.mach i).tm=(v.leave i 6 (v.mach i).arg,false):=by unfold V.await;rw[if_pos (by omega)]
  rw[e]
  exact inv_go a (.inr rfl) ht hn _
end
section
variable {n n':Nat}{v v':V}{i:Nat}{m m':Mh}{P M G:Nat}
def Gs (m m':Mh):Prop:=m'.g=m.g∧m'.p=m.p∧m'.nx=m.nx∧m'.got=m.got∧m'.rest=m.rest∧m'.spin=m.spin∧m'.inn=m.inn∧m'.sn=m.sn∧m'.tk=m.tk∧m'.st=m.st
theorem Gs.r(m:Mh):Gs m m:=⟨rfl,rfl,rfl,rfl,rfl,rfl,rfl,rfl,rfl,rfl⟩
theorem goOn_same(m:Mh)(P:Int):Gs m (m.goOn P):=by
 have s1:∀ x,Gs m (m.steal P x):=fun x=>⟨rfl,rfl,rfl,rfl,rfl,rfl,rfl,rfl,rfl,rfl⟩
 have s2:∀ x,Gs m (m.deliver x):=fun x=>⟨rfl,rfl,rfl,rfl,rfl,rfl,rfl,rfl,rfl,rfl⟩
 have s3:Gs m m.parked:=by unfold Mh.parked;split;exact s2 1;exact⟨rfl,rfl,rfl,rfl,rfl,rfl,rfl,rfl,rfl,rfl⟩
 have s4:Gs m m.settle:=⟨rfl,rfl,rfl,rfl,rfl,rfl,rfl,rfl,rfl,rfl⟩
 have s5:Gs m (m.found P):=by
  unfold Mh.found
  split;exact⟨rfl,rfl,rfl,rfl,rfl,rfl,rfl,rfl,rfl,rfl⟩
  split;exact⟨rfl,rfl,rfl,rfl,rfl,rfl,rfl,rfl,rfl,rfl⟩
  split;exact⟨rfl,rfl,rfl,rfl,rfl,rfl,rfl,rfl,rfl,rfl⟩
  split
  ·split;exact s1 _;exact⟨rfl,rfl,rfl,rfl,rfl,rfl,rfl,rfl,rfl,rfl⟩
  split;exact s1 _;exact⟨rfl,rfl,rfl,rfl,rfl,rfl,rfl,rfl,rfl,rfl⟩
 have s6:Gs m (m.restOn P):=by
  unfold Mh.restOn
  split
  ·unfold Mh.look;split <;> exact⟨rfl,rfl,rfl,rfl,rfl,rfl,rfl,rfl,rfl,rfl⟩
  split;exact⟨rfl,rfl,rfl,rfl,rfl,rfl,rfl,rfl,rfl,rfl⟩
  split;exact⟨rfl,rfl,rfl,rfl,rfl,rfl,rfl,rfl,rfl,rfl⟩
  split;exact⟨rfl,rfl,rfl,rfl,rfl,rfl,rfl,rfl,rfl,rfl⟩
  split;exact⟨rfl,rfl,rfl,rfl,rfl,rfl,rfl,rfl,rfl,rfl⟩
  split;exact s2 _;exact⟨rfl,rfl,rfl,rfl,rfl,rfl,rfl,rfl,rfl,rfl⟩
 unfold Mh.goOn
 split;exact s5
 split;exact s6
 split;exact⟨rfl,rfl,rfl,rfl,rfl,rfl,rfl,rfl,rfl,rfl⟩
 split;exact s4
 split;exact⟨rfl,rfl,rfl,rfl,rfl,rfl,rfl,rfl,rfl,rfl⟩
 split;exact⟨rfl,rfl,rfl,rfl,rfl,rfl,rfl,rfl,rfl,rfl⟩
 split;exact⟨rfl,rfl,rfl,rfl,rfl,rfl,rfl,rfl,rfl,rfl⟩
 split
 ·split;exact s3;exact⟨rfl,rfl,rfl,rfl,rfl,rfl,rfl,rfl,rfl,rfl⟩
 split;exact s3
 exact Gs.r m
structure Gon(P M G:Nat)(m m':Mh):Prop where
 ok:Mok P M G m'
 dl:m.got = -1∨m'.dlv=m.dlv
 nf:m'.pl≠23
 id:m.idl=true→m'.pl=14∨m'.pl=15∨m'.pl=16
theorem goOn_ok(h:Mok P M G m)(hi:m.inn=true)(hs:m.st=3):Gon P M G m (m.out.goOn P):=by
 have ha:m.aft=true:=by simp[Mh.aft,hi,hs]
 have hlk:=(h.s.si hi).2.1
 have hpl:=h.s.pl
 have hk:m.pl=2∨m.pl=3∨m.pl=4∨m.pl=6∨m.pl=7∨m.pl=9∨m.pl=10∨m.pl=11∨m.pl=13∨m.pl=14∨m.pl=15∨m.pl=17∨m.pl=18∨m.pl=23∨m.pl=25∨m.pl=27∨m.pl=28∨m.pl=29∨m.pl=30:=by
  by_cases hc:Mh.cls m.pl=0
  ·unfold Mh.lock at hlk;rw[hc]at hlk;simp at hlk
  ·unfold Mh.cls at hc;grind
 rcases hk with hp|hp|hp|hp|hp|hp|hp|hp|hp|hp|hp|hp|hp|hp|hp|hp|hp|hp|hp
 ·have hl:=(loc_2 hp).1 h.l
  rcases hy:m.yes with _|_
  ·have hq:(m.out.goOn P).pl=3:=by simp[Mh.out,Mh.goOn,Mh.found,Mh.restOn,Mh.steal,Mh.look,Mh.settle,Mh.deliver,Mh.parked,hp,hy]
   exact⟨go_2n h hi hs hp hy, .inr (by unfold Mh.dlv;rw[hq,hp];decide),by rw[hq];decide,fun e=>by simp[Mh.idl,hp,ha,hy]at e⟩
  ·have hq:(m.out.goOn P).pl=20:=by simp[Mh.out,Mh.goOn,Mh.found,Mh.restOn,Mh.steal,Mh.look,Mh.settle,Mh.deliver,Mh.parked,hp,hy,hl.2.2.2.1,hl.2.2.2.2.1]
   exact⟨go_2y h hi hs hp hy hl.2.2.2.1 hl.2.2.2.2.1, .inr (by unfold Mh.dlv;rw[hq,hp];decide),by rw[hq];decide,fun e=>by simp[Mh.idl,hp,ha,hy,hl.2.2.2.1,hl.2.2.2.2.1]at e⟩
 ·have hl:=(loc_3 hp).1 h.l
  rcases hy:m.yes with _|_
  ·have hq:(m.out.goOn P).pl=4:=by simp[Mh.out,Mh.goOn,Mh.found,Mh.restOn,Mh.steal,Mh.look,Mh.settle,Mh.deliver,Mh.parked,hp,hy]
   exact⟨go_3n h hi hs hp hy, .inr (by unfold Mh.dlv;rw[hq,hp];decide),by rw[hq];decide,fun e=>by simp[Mh.idl,hp,ha,hy]at e⟩
  ·have hq:(m.out.goOn P).pl=20:=by simp[Mh.out,Mh.goOn,Mh.found,Mh.restOn,Mh.steal,Mh.look,Mh.settle,Mh.deliver,Mh.parked,hp,hy,hl.2.2.2.1,hl.2.2.2.2.1]
   exact⟨go_3y h hi hs hp hy hl.2.2.2.1 hl.2.2.2.2.1, .inr (by unfold Mh.dlv;rw[hq,hp];decide),by rw[hq];decide,fun e=>by simp[Mh.idl,hp,ha,hy,hl.2.2.2.1,hl.2.2.2.2.1]at e⟩
 ·have hl:=(loc_4 hp).1 h.l
  rcases hy:m.yes with _|_
  ·rcases hz:m.spin with _|_
   ·have hq:(m.out.goOn P).pl=5:=by simp[Mh.out,Mh.goOn,Mh.found,Mh.restOn,Mh.steal,Mh.look,Mh.settle,Mh.deliver,Mh.parked,hp,hy,hz]
    exact⟨go_4u h hi hs hp hy hz, .inr (by unfold Mh.dlv;rw[hq,hp];decide),by rw[hq];decide,fun e=>by simp[Mh.idl,hp,ha,hy,hz]at e⟩
   ·by_cases h2:(1:Int)<P
    ·have hq:(m.out.goOn P).pl=6:=by simp[Mh.out,Mh.goOn,Mh.found,Mh.restOn,Mh.steal,Mh.look,Mh.settle,Mh.deliver,Mh.parked,hp,hy,hz,h2]
     exact⟨go_4t h hi hs hp hy hz h2, .inr (by unfold Mh.dlv;rw[hq,hp];decide),by rw[hq];decide,fun e=>by simp[Mh.idl,hp,ha,hy,hz,h2]at e⟩
    ·have hq:(m.out.goOn P).pl=7:=by simp[Mh.out,Mh.goOn,Mh.found,Mh.restOn,Mh.steal,Mh.look,Mh.settle,Mh.deliver,Mh.parked,hp,hy,hz,h2]
     exact⟨go_4z h hi hs hp hy hz h2, .inr (by unfold Mh.dlv;rw[hq,hp];decide),by rw[hq];decide,fun e=>by simp[Mh.idl,hp,ha,hy,hz,h2]at e⟩
  ·by_cases h1:m.rest = []
   ·rcases hz:m.spin with _|_
    ·have hq:(m.out.goOn P).pl=20:=by simp[Mh.out,Mh.goOn,Mh.found,Mh.restOn,Mh.steal,Mh.look,Mh.settle,Mh.deliver,Mh.parked,hp,hy,h1,hz]
     exact⟨go_4y h hi hs hp hy h1 hz, .inr (by unfold Mh.dlv;rw[hq,hp];decide),by rw[hq];decide,fun e=>by simp[Mh.idl,hp,ha,hy,h1,hz]at e⟩
    ·have hq:(m.out.goOn P).pl=19:=by simp[Mh.out,Mh.goOn,Mh.found,Mh.restOn,Mh.steal,Mh.look,Mh.settle,Mh.deliver,Mh.parked,hp,hy,h1,hz]
     exact⟨go_4s h hi hs hp hy h1 hz, .inr (by unfold Mh.dlv;rw[hq,hp];decide),by rw[hq];decide,fun e=>by simp[Mh.idl,hp,ha,hy,h1,hz]at e⟩
   ·have hq:(m.out.goOn P).pl=17:=by simp[Mh.out,Mh.goOn,Mh.found,Mh.restOn,Mh.steal,Mh.look,Mh.settle,Mh.deliver,Mh.parked,hp,hy,h1]
    exact⟨go_4r h hi hs hp hy h1, .inr (by unfold Mh.dlv;rw[hq,hp];decide),by rw[hq];decide,fun e=>by simp[Mh.idl,hp,ha,hy,h1]at e⟩
 ·have hl:=(loc_6 hp).1 h.l
  rcases hy:m.yes with _|_
  ·by_cases h2:m.i+1<P
   ·have hq:(m.out.goOn P).pl=6:=by simp[Mh.out,Mh.goOn,Mh.found,Mh.restOn,Mh.steal,Mh.look,Mh.settle,Mh.deliver,Mh.parked,hp,hy,h2]
    exact⟨go_6t h hi hs hp hy h2, .inr (by unfold Mh.dlv;rw[hq,hp]),by rw[hq];decide,fun e=>by simp[Mh.idl,hp,ha,hy,h2]at e⟩
   ·have hq:(m.out.goOn P).pl=7:=by simp[Mh.out,Mh.goOn,Mh.found,Mh.restOn,Mh.steal,Mh.look,Mh.settle,Mh.deliver,Mh.parked,hp,hy,h2]
    exact⟨go_6z h hi hs hp hy h2, .inr (by unfold Mh.dlv;rw[hq,hp];decide),by rw[hq];decide,fun e=>by simp[Mh.idl,hp,ha,hy,h2]at e⟩
  ·by_cases h2:m.rest = []
   ·have hq:(m.out.goOn P).pl=19:=by simp[Mh.out,Mh.goOn,Mh.found,Mh.restOn,Mh.steal,Mh.look,Mh.settle,Mh.deliver,Mh.parked,hp,hy,h2,hl.2.2.2.2.2.1]
    exact⟨go_6s h hi hs hp hy h2 hl.2.2.2.2.2.1, .inr (by unfold Mh.dlv;rw[hq,hp];decide),by rw[hq];decide,fun e=>by simp[Mh.idl,hp,ha,hy,h2,hl.2.2.2.2.2.1]at e⟩
   ·have hq:(m.out.goOn P).pl=17:=by simp[Mh.out,Mh.goOn,Mh.found,Mh.restOn,Mh.steal,Mh.look,Mh.settle,Mh.deliver,Mh.parked,hp,hy,h2]
    exact⟨go_6r h hi hs hp hy h2, .inr (by unfold Mh.dlv;rw[hq,hp];decide),by rw[hq];decide,fun e=>by simp[Mh.idl,hp,ha,hy,h2]at e⟩
 ·have hl:=(loc_7 hp).1 h.l
  rcases hy:m.yes with _|_
  ·have hq:(m.out.goOn P).pl=8:=by simp[Mh.out,Mh.goOn,Mh.found,Mh.restOn,Mh.steal,Mh.look,Mh.settle,Mh.deliver,Mh.parked,hp,hy]
   exact⟨go_7n h hi hs hp hy, .inr (by unfold Mh.dlv;rw[hq,hp];decide),by rw[hq];decide,fun e=>by simp[Mh.idl,hp,ha,hy]at e⟩
  ·by_cases h2:m.rest = []
   ·have hq:(m.out.goOn P).pl=19:=by simp[Mh.out,Mh.goOn,Mh.found,Mh.restOn,Mh.steal,Mh.look,Mh.settle,Mh.deliver,Mh.parked,hp,hy,h2,hl.2.2.2.2.2.1]
    exact⟨go_7s h hi hs hp hy h2 hl.2.2.2.2.2.1, .inr (by unfold Mh.dlv;rw[hq,hp];decide),by rw[hq];decide,fun e=>by simp[Mh.idl,hp,ha,hy,h2,hl.2.2.2.2.2.1]at e⟩
   ·have hq:(m.out.goOn P).pl=17:=by simp[Mh.out,Mh.goOn,Mh.found,Mh.restOn,Mh.steal,Mh.look,Mh.settle,Mh.deliver,Mh.parked,hp,hy,h2]
    exact⟨go_7r h hi hs hp hy h2, .inr (by unfold Mh.dlv;rw[hq,hp];decide),by rw[hq];decide,fun e=>by simp[Mh.idl,hp,ha,hy,h2]at e⟩
 ·have hl:=(loc_9 hp).1 h.l
  rcases hy:m.yes with _|_
  ·by_cases h1:m.i+1<P
   ·have hq:(m.out.goOn P).pl=9:=by simp[Mh.out,Mh.goOn,Mh.found,Mh.restOn,Mh.steal,Mh.look,Mh.settle,Mh.deliver,Mh.parked,hp,hy,h1]
    exact⟨go_9n h hi hs hp hy h1, .inr (by unfold Mh.dlv;rw[hq,hp]),by rw[hq];decide,fun e=>by simp[Mh.idl,hp,ha,hy,h1]at e⟩
   ·have hq:(m.out.goOn P).pl=10:=by simp[Mh.out,Mh.goOn,Mh.found,Mh.restOn,Mh.steal,Mh.look,Mh.settle,Mh.deliver,Mh.parked,hp,hy,h1]
    exact⟨go_9z h hi hs hp hy h1, .inr (by unfold Mh.dlv;rw[hq,hp];decide),by rw[hq];decide,fun e=>by simp[Mh.idl,hp,ha,hy,h1]at e⟩
  ·have hq:(m.out.goOn P).pl=11:=by simp[Mh.out,Mh.goOn,Mh.found,Mh.restOn,Mh.steal,Mh.look,Mh.settle,Mh.deliver,Mh.parked,hp,hy]
   exact⟨go_9y h hi hs hp hy, .inr (by unfold Mh.dlv;rw[hq,hp];decide),by rw[hq];decide,fun e=>by simp[Mh.idl,hp,ha,hy]at e⟩
 ·have hl:=(loc_10 hp).1 h.l
  rcases hy:m.yes with _|_
  ·have hq:(m.out.goOn P).pl=13:=by simp[Mh.out,Mh.goOn,Mh.found,Mh.restOn,Mh.steal,Mh.look,Mh.settle,Mh.deliver,Mh.parked,hp,hy]
   exact⟨go_10n h hi hs hp hy, .inr (by unfold Mh.dlv;rw[hq,hp];decide),by rw[hq];decide,fun e=>by simp[Mh.idl,hp,ha,hy]at e⟩
  ·have hq:(m.out.goOn P).pl=11:=by simp[Mh.out,Mh.goOn,Mh.found,Mh.restOn,Mh.steal,Mh.look,Mh.settle,Mh.deliver,Mh.parked,hp,hy]
   exact⟨go_10y h hi hs hp hy, .inr (by unfold Mh.dlv;rw[hq,hp];decide),by rw[hq];decide,fun e=>by simp[Mh.idl,hp,ha,hy]at e⟩
 ·have hl:=(loc_11 hp).1 h.l
  rcases hy:m.yes with _|_
  ·have hq:(m.out.goOn P).pl=13:=by simp[Mh.out,Mh.goOn,Mh.found,Mh.restOn,Mh.steal,Mh.look,Mh.settle,Mh.deliver,Mh.parked,hp,hy]
   exact⟨go_11n h hi hs hp hy, .inr (by unfold Mh.dlv;rw[hq,hp];decide),by rw[hq];decide,fun e=>by simp[Mh.idl,hp,ha,hy]at e⟩
  ·have hq:(m.out.goOn P).pl=12:=by simp[Mh.out,Mh.goOn,Mh.found,Mh.restOn,Mh.steal,Mh.look,Mh.settle,Mh.deliver,Mh.parked,hp,hy]
   exact⟨go_11y h hi hs hp hy, .inr (by unfold Mh.dlv;rw[hq,hp];decide),by rw[hq];decide,fun e=>by simp[Mh.idl,hp,ha,hy]at e⟩
 ·have hl:=(loc_13 hp).1 h.l
  by_cases h0:m.p = -1
  ·rcases hy:m.yes with _|_
   ·have hq:(m.out.goOn P).pl=16:=by simp[Mh.out,Mh.goOn,Mh.found,Mh.restOn,Mh.steal,Mh.look,Mh.settle,Mh.deliver,Mh.parked,hp,h0,hy]
    exact⟨go_13n h hi hs hp h0 hy, .inr (by unfold Mh.dlv;rw[hq,hp];decide),by rw[hq];decide,fun _=>by rw[hq];decide⟩
   ·have hq:(m.out.goOn P).pl=14:=by simp[Mh.out,Mh.goOn,Mh.found,Mh.restOn,Mh.steal,Mh.look,Mh.settle,Mh.deliver,Mh.parked,hp,h0,hy]
    exact⟨go_13y h hi hs hp h0 hy, .inr (by unfold Mh.dlv;rw[hq,hp];decide),by rw[hq];decide,fun _=>by rw[hq];decide⟩
  ·have hq:(m.out.goOn P).pl=4:=by simp[Mh.out,Mh.goOn,Mh.found,Mh.restOn,Mh.steal,Mh.look,Mh.settle,Mh.deliver,Mh.parked,hp,h0]
   exact⟨go_13p h hi hs hp h0, .inr (by unfold Mh.dlv;rw[hq,hp];decide),by rw[hq];decide,fun e=>by simp[Mh.idl,hp,ha]at e;simp[e]at hl;omega⟩
 ·have hl:=(loc_14 hp).1 h.l
  rcases hy:m.yes with _|_
  ·have hq:(m.out.goOn P).pl=16:=by simp[Mh.out,Mh.goOn,Mh.found,Mh.restOn,Mh.steal,Mh.look,Mh.settle,Mh.deliver,Mh.parked,hp,hy]
   exact⟨go_14n h hi hs hp hy, .inr (by unfold Mh.dlv;rw[hq,hp];decide),by rw[hq];decide,fun _=>by rw[hq];decide⟩
  ·have hq:(m.out.goOn P).pl=15:=by simp[Mh.out,Mh.goOn,Mh.found,Mh.restOn,Mh.steal,Mh.look,Mh.settle,Mh.deliver,Mh.parked,hp,hy]
   exact⟨go_14y h hi hs hp hy, .inr (by unfold Mh.dlv;rw[hq,hp];decide),by rw[hq];decide,fun _=>by rw[hq];decide⟩
 ·have hl:=(loc_15 hp).1 h.l
  rcases hy:m.yes with _|_
  ·have hq:(m.out.goOn P).pl=16:=by simp[Mh.out,Mh.goOn,Mh.found,Mh.restOn,Mh.steal,Mh.look,Mh.settle,Mh.deliver,Mh.parked,hp,hy]
   exact⟨go_15n h hi hs hp hy, .inr (by unfold Mh.dlv;rw[hq,hp];decide),by rw[hq];decide,fun _=>by rw[hq];decide⟩
  ·have hq:(m.out.goOn P).pl=25:=by simp[Mh.out,Mh.goOn,Mh.found,Mh.restOn,Mh.steal,Mh.look,Mh.settle,Mh.deliver,Mh.parked,hp,hy]
   exact⟨go_15y h hi hs hp hy, .inl (by simpa[ha,hy] using hl.2.2.1),by rw[hq];decide,fun e=>by simp[Mh.idl,hp,ha,hy]at e⟩
 ·have hl:=(loc_17 hp).1 h.l
  by_cases h0:m.rest = []
  ·rcases hz:m.spin with _|_
   ·have hq:(m.out.goOn P).pl=21:=by simp[Mh.out,Mh.goOn,Mh.found,Mh.restOn,Mh.steal,Mh.look,Mh.settle,Mh.deliver,Mh.parked,hp,h0,hz]
    exact⟨go_17n h hi hs hp h0 hz, .inr (by unfold Mh.dlv;rw[hq,hp];decide),by rw[hq];decide,fun e=>by simp[Mh.idl,hp,ha,h0,hz]at e⟩
   ·have hq:(m.out.goOn P).pl=19:=by simp[Mh.out,Mh.goOn,Mh.found,Mh.restOn,Mh.steal,Mh.look,Mh.settle,Mh.deliver,Mh.parked,hp,h0,hz]
    exact⟨go_17s h hi hs hp h0 hz, .inr (by unfold Mh.dlv;rw[hq,hp];decide),by rw[hq];decide,fun e=>by simp[Mh.idl,hp,ha,h0,hz]at e⟩
  ·have hq:(m.out.goOn P).pl=18:=by simp[Mh.out,Mh.goOn,Mh.found,Mh.restOn,Mh.steal,Mh.look,Mh.settle,Mh.deliver,Mh.parked,hp,h0]
   exact⟨go_17r h hi hs hp h0, .inr (by unfold Mh.dlv;rw[hq,hp];decide),by rw[hq];decide,fun e=>by simp[Mh.idl,hp,ha,h0]at e⟩
 ·have hl:=(loc_18 hp).1 h.l
  by_cases h0:m.rest = []
  ·rcases hz:m.spin with _|_
   ·have hq:(m.out.goOn P).pl=21:=by simp[Mh.out,Mh.goOn,Mh.found,Mh.restOn,Mh.steal,Mh.look,Mh.settle,Mh.deliver,Mh.parked,hp,h0,hz]
    exact⟨go_18n h hi hs hp h0 hz, .inr (by unfold Mh.dlv;rw[hq,hp];decide),by rw[hq];decide,fun e=>by simp[Mh.idl,hp,ha,h0,hz]at e⟩
   ·have hq:(m.out.goOn P).pl=19:=by simp[Mh.out,Mh.goOn,Mh.found,Mh.restOn,Mh.steal,Mh.look,Mh.settle,Mh.deliver,Mh.parked,hp,h0,hz]
    exact⟨go_18s h hi hs hp h0 hz, .inr (by unfold Mh.dlv;rw[hq,hp];decide),by rw[hq];decide,fun e=>by simp[Mh.idl,hp,ha,h0,hz]at e⟩
  ·have hq:(m.out.goOn P).pl=18:=by simp[Mh.out,Mh.goOn,Mh.found,Mh.restOn,Mh.steal,Mh.look,Mh.settle,Mh.deliver,Mh.parked,hp,h0]
   exact⟨go_18r h hi hs hp h0, .inr (by unfold Mh.dlv;rw[hq,hp]),by rw[hq];decide,fun e=>by simp[Mh.idl,hp,ha,h0]at e⟩
 ·have hl:=(loc_23 hp).1 h.l
  by_cases h0:m.tg = -1
  ·rcases hl.2.1 with hb|hb|hb|hb
   ·have hq:(m.out.goOn P).pl=0:=by simp[Mh.out,Mh.goOn,Mh.found,Mh.restOn,Mh.steal,Mh.look,Mh.settle,Mh.deliver,Mh.parked,hp,h0,hb]
    exact⟨go_23b0 h hi hs hp h0 hb, .inr (by unfold Mh.dlv;rw[hq,hp];decide),by rw[hq];decide,fun e=>by simp[Mh.idl,hp,ha,h0,hb]at e⟩
   ·have hq:(m.out.goOn P).pl=1:=by simp[Mh.out,Mh.goOn,Mh.found,Mh.restOn,Mh.steal,Mh.look,Mh.settle,Mh.deliver,Mh.parked,hp,h0,hb]
    exact⟨go_23b1 h hi hs hp h0 hb, .inr (by unfold Mh.dlv;rw[hq,hp];decide),by rw[hq];decide,fun e=>by simp[Mh.idl,hp,ha,h0,hb]at e⟩
   ·have hq:(m.out.goOn P).pl=20:=by simp[Mh.out,Mh.goOn,Mh.found,Mh.restOn,Mh.steal,Mh.look,Mh.settle,Mh.deliver,Mh.parked,hp,h0,hb]
    exact⟨go_23b20 h hi hs hp h0 hb, .inr (by unfold Mh.dlv;rw[hq,hp];decide),by rw[hq];decide,fun e=>by simp[Mh.idl,hp,ha,h0,hb]at e⟩
   ·have hq:(m.out.goOn P).pl=25:=by simp[Mh.out,Mh.goOn,Mh.found,Mh.restOn,Mh.steal,Mh.look,Mh.settle,Mh.deliver,Mh.parked,hp,h0,hb]
    exact⟨go_23b25 h hi hs hp h0 hb, .inl (by simpa[ha,h0,hb] using hl.2.2.2.2.1),by rw[hq];decide,fun e=>by simp[Mh.idl,hp,ha,h0,hb]at e⟩
  ·have hq:(m.out.goOn P).pl=24:=by simp[Mh.out,Mh.goOn,Mh.found,Mh.restOn,Mh.steal,Mh.look,Mh.settle,Mh.deliver,Mh.parked,hp,h0]
   exact⟨go_23t h hi hs hp h0, .inr (by unfold Mh.dlv;rw[hq,hp];decide),by rw[hq];decide,fun e=>by simp[Mh.idl,hp,ha,h0]at e⟩
 ·have hl:=(loc_25 hp).1 h.l
  rcases hy:m.yes with _|_
  ·rcases hl.2.1 with hb|hb|hb
   ·have hq:(m.out.goOn P).pl=1:=by simp[Mh.out,Mh.goOn,Mh.found,Mh.restOn,Mh.steal,Mh.look,Mh.settle,Mh.deliver,Mh.parked,hp,hy,hb]
    exact⟨go_25a1 h hi hs hp hy hb, .inl (by simpa[ha,hy,hb] using hl.2.2.2.1),by rw[hq];decide,fun e=>by simp[Mh.idl,hp,ha,hy,hb]at e⟩
   ·have hq:(m.out.goOn P).pl=2:=by simp[Mh.out,Mh.goOn,Mh.found,Mh.restOn,Mh.steal,Mh.look,Mh.settle,Mh.deliver,Mh.parked,hp,hy,hb]
    exact⟨go_25a2 h hi hs hp hy hb, .inl (by simpa[ha,hy,hb] using hl.2.2.2.1),by rw[hq];decide,fun e=>by simp[Mh.idl,hp,ha,hy,hb]at e⟩
   ·have hq:(m.out.goOn P).pl=13:=by simp[Mh.out,Mh.goOn,Mh.found,Mh.restOn,Mh.steal,Mh.look,Mh.settle,Mh.deliver,Mh.parked,hp,hy,hb]
    exact⟨go_25a13 h hi hs hp hy hb, .inl (by simpa[ha,hy,hb] using hl.2.2.2.1),by rw[hq];decide,fun e=>by simp[Mh.idl,hp,ha,hy,hb]at e⟩
  ·have hq:(m.out.goOn P).pl=26:=by simp[Mh.out,Mh.goOn,Mh.found,Mh.restOn,Mh.steal,Mh.look,Mh.settle,Mh.deliver,Mh.parked,hp,hy]
   exact⟨go_25y h hi hs hp hy, .inr (by unfold Mh.dlv;rw[hq,hp];decide),by rw[hq];decide,fun e=>by simp[Mh.idl,hp,ha,hy]at e⟩
 ·have hl:=(loc_27 hp).1 h.l
  have hq:(m.out.goOn P).pl=21:=by simp[Mh.out,Mh.goOn,Mh.found,Mh.restOn,Mh.steal,Mh.look,Mh.settle,Mh.deliver,Mh.parked,hp]
  exact⟨go_27 h hi hs hp , .inr (by unfold Mh.dlv;rw[hq,hp];decide),by rw[hq];decide,fun e=>by simp[Mh.idl,hp,ha]at e⟩
 ·have hl:=(loc_28 hp).1 h.l
  by_cases h1:m.rest = []
  ·have hq:(m.out.goOn P).pl=21:=by simp[Mh.out,Mh.goOn,Mh.found,Mh.restOn,Mh.steal,Mh.look,Mh.settle,Mh.deliver,Mh.parked,hp,h1,hl.2.2.2.2.2.1]
   exact⟨go_28n h hi hs hp h1 hl.2.2.2.2.2.1, .inr (by unfold Mh.dlv;rw[hq,hp];decide),by rw[hq];decide,fun e=>by simp[Mh.idl,hp,ha,h1,hl.2.2.2.2.2.1]at e⟩
  ·have hq:(m.out.goOn P).pl=18:=by simp[Mh.out,Mh.goOn,Mh.found,Mh.restOn,Mh.steal,Mh.look,Mh.settle,Mh.deliver,Mh.parked,hp,h1]
   exact⟨go_28r h hi hs hp h1, .inr (by unfold Mh.dlv;rw[hq,hp];decide),by rw[hq];decide,fun e=>by simp[Mh.idl,hp,ha,h1]at e⟩
 ·have hl:=(loc_29 hp).1 h.l
  rcases hy:m.yes with _|_
  ·have hq:(m.out.goOn P).pl=1:=by simp[Mh.out,Mh.goOn,Mh.found,Mh.restOn,Mh.steal,Mh.look,Mh.settle,Mh.deliver,Mh.parked,hp,hy]
   exact⟨go_29n h hi hs hp hy, .inr (by unfold Mh.dlv;rw[hq,hp];decide),by rw[hq];decide,fun e=>by simp[Mh.idl,hp,ha,hy]at e⟩
  ·have hq:(m.out.goOn P).pl=25:=by simp[Mh.out,Mh.goOn,Mh.found,Mh.restOn,Mh.steal,Mh.look,Mh.settle,Mh.deliver,Mh.parked,hp,hy]
   exact⟨go_29y h hi hs hp hy, .inl (by simpa[ha,hy] using hl.2.2.1),by rw[hq];decide,fun e=>by simp[Mh.idl,hp,ha,hy]at e⟩
 ·have hl:=(loc_30 hp).1 h.l
  by_cases h0:m.g = -1
  ·rcases hy:m.yes with _|_
   ·have hq:(m.out.goOn P).pl=1:=by simp[Mh.out,Mh.goOn,Mh.found,Mh.restOn,Mh.steal,Mh.look,Mh.settle,Mh.deliver,Mh.parked,hp,h0,hy]
    exact⟨go_30n h hi hs hp h0 hy, .inr (by unfold Mh.dlv;rw[hq,hp];decide),by rw[hq];decide,fun e=>by simp[Mh.idl,hp,ha,h0,hy]at e⟩
   ·have hq:(m.out.goOn P).pl=25:=by simp[Mh.out,Mh.goOn,Mh.found,Mh.restOn,Mh.steal,Mh.look,Mh.settle,Mh.deliver,Mh.parked,hp,h0,hy]
    exact⟨go_30y h hi hs hp h0 hy, .inl (by simpa[ha,h0,hy] using hl.2.2.1),by rw[hq];decide,fun e=>by simp[Mh.idl,hp,ha,h0,hy]at e⟩
  ·have hq:(m.out.goOn P).pl=0:=by simp[Mh.out,Mh.goOn,Mh.found,Mh.restOn,Mh.steal,Mh.look,Mh.settle,Mh.deliver,Mh.parked,hp,h0]
   exact⟨go_30e h hi hs hp h0, .inr (by unfold Mh.dlv;rw[hq,hp];decide),by rw[hq];decide,fun e=>by simp[Mh.idl,hp,ha,h0]at e⟩
end
section
variable {n n':Nat}{v v':V}{i:Nat}{m':Mh}
theorem inv_lk(h:Inv n v)(hn:n≤n')(hi:i<v.M)(hm:Mok v.P v.M v.G m')(e:v'.mm=v.mm.set i m')(ee:v'.P=v.P∧v'.M=v.M∧v'.G=v.G∧v'.ns=v.ns∧v'.tu=v.tu∧v'.rs=v.rs∧v'.sr=v.sr∧v'.id=v.id∧v'.qu=v.qu∧v'.lg=v.lg)(hms:v'.ms.length=v.ms.length)(ew:∀ k,v.spn≤k→v'.ms.getD k 0=v.ms.getD k 0)(ec:v'.mc≤n')(lk:∀ k,k<v'.P+2→Lko n' v' k)
 (eR:∀ g:Int,0≤g→fR g m'=fR g (v.mach i))(eG:∀ g:Int,0≤g→fG g m'=fG g (v.mach i))(eD:∀ g:Int,0≤g→fD g m'=fD g (v.mach i))(eK:∀ g:Int,fK 29 g m'=fK 29 g (v.mach i)∧fK 30 g m'=fK 30 g (v.mach i))(eP:∀ p:Int,0≤p→fP p m'=fP p (v.mach i))(eS:fS m'=fS (v.mach i))(hb:memb v i→m'.nx = -1∧m'.idl=true):Inv n' v':=by
 have hl:i<v.mm.length:=by rw[h.ln.1];exact hi
 obtain⟨e1,e2,e3,e5,e6,e7,e8,e9,e10,e11⟩:=ee
 have q1:v'.spn=v.spn:=by unfold V.spn;rw[e1]
 have q2:v'.nts=v.nts:=by unfold V.nts;rw[q1]
 have q3:v'.wds=v.wds:=by unfold V.wds V.sts;rw[q2,e2,e3]
 refine⟨by rw[e1,e2,e3];exact h.cf,⟨by rw[e,List.length_set,e2];exact h.ln.1,by rw[e7,e1];exact h.ln.2.1,by rw[e6,e1];exact h.ln.2.2.1,by rw[hms,q3];exact h.ln.2.2.2.1,by rw[e5,q3];exact h.ln.2.2.2.2.1,by rw[e9,e1];exact h.ln.2.2.2.2.2⟩,
  by rw[q1,e5];exact fun k hk=>(ew k hk).trans (h.nt k hk),mk_put h e hi e2 e1 e3 hm,lk,h.rg.same e1 e3 e7 e8 (by rw[e10];exact h.rg.qu),fun g g0 g1 => ?_,id_put h e hi e2 e1 e9 hb,fun p p0 p1 => ?_,?_,by rw[e2,q2,e5];exact h.nb,⟨ec,by rw[e11];exact Nat.le_trans h.cn.2.1 hn,fun t ht=>by rw[e6]at ht;have:=h.cn.2.2.1 t ht;exact⟨this.1,by omega⟩,by rw[e8];exact Nat.le_trans h.cn.2.2.2 hn⟩⟩
 ·rw[e3]at g1
  refine(h.go g g0 g1).of (stat_same e1 e2 e3 e5 g) ?_ (sm_same e hl (eG g g0)) (sm_same e hl (eD g g0)) (by unfold V.cL;rw[e8]) (by unfold V.cW;rw[e8]) (sm_same e hl (eK g).1) (sm_same e hl (eK g).2)
  unfold V.cR
  rw[sm_same e hl (eR g g0),e7,e10]
 ·rw[e1]at p1;rw[sm_same e hl (eP p p0),e9];exact h.pr p p0 p1
 ·rw[sm_same e hl eS,q1,ew _ (Nat.le_refl _),e9];exact h.sp
theorem lock_of(h:Inv n v)(hi:i<v.M)(hin:(v.mach i).inn=true):∃ k:Nat,k<v.P+2∧(v.mach i).lock v.P=(k:Int)∧(v.mach i).sn=2*(k:Int)∧(v.mach i).sv=2*(k:Int)+1:=by
 have a:=(h.mo i hi).s.si hin
 have b:=lock_le (v.mach i) v.P h.cf.1
 exact⟨((v.mach i).lock v.P).toNat,by omega,by omega,by omega,by omega⟩
theorem inv_free(h:Inv n v)(hn:n+2≤n')(hs64:n'<1000000000000000000)(hi:i<v.M)(hin:(v.mach i).inn=true)(hs:(v.mach i).st=3):Inv n' (v.sect i):=by
 obtain⟨k,hk,l1,l2,l3⟩:=lock_of h hi hin
 have lk:=h.lk k hk
 have hl:i<v.mm.length:=by rw[h.ln.1];exact hi
 have htk:=((lk.tk i hi hin l2).2.2).resolve_left (by omega)
 have go:=goOn_ok (h.mo i hi) hin hs
 have gs:=goOn_same (v.mach i).out v.P
 have hw:w64 ((v.mach i).tk+1)=v.ms.getD (2*k+1) 0+1:=by rw[htk];exact w64_of (by have:=lk.le;omega)
 have hsv:(v.mach i).sv.toNat=2*k+1:=by omega
 have e:v.sect i=({ v with ms:=v.ms.set (2*k+1) (v.ms.getD (2*k+1) 0+1),mc:=v.mc+2 }:V).putM i ((v.mach i).out.goOn v.P):=by
  unfold V.sect
  rw[if_neg (by omega),if_neg (by omega),if_neg (by omega),if_pos hs,hw,hsv]
  unfold V.goOn
  exact onM2 (v := { v with ms:=v.ms.set (2*k+1) (v.ms.getD (2*k+1) 0+1),mc:=v.mc+2 }) hl _ _
 rw[e]
 generalize hm':(v.mach i).out.goOn v.P=m' at go gs ⊢
 obtain⟨g1,g2,g3,g4,g5,g6,g7,g8,g9,g10⟩:=gs
 have em:(({ v with ms:=v.ms.set (2*k+1) (v.ms.getD (2*k+1) 0+1),mc:=v.mc+2 }:V).putM i m').mm=v.mm.set i m':=rfl
 have lms:2*k+1<v.spn:=by unfold V.spn;omega
 have lms2:2*k+1<v.ms.length:=by have:=(spn_lt h).1;omega
 generalize hv:({ v with ms:=v.ms.set (2*k+1) (v.ms.getD (2*k+1) 0+1),mc:=v.mc+2 }:V).putM i m'=v2 at em ⊢
 have e4:v2.ms=v.ms.set (2*k+1) (v.ms.getD (2*k+1) 0+1):=by rw[←hv];rfl
 have hgd:m'.got = -1∨m'.dlv=(v.mach i).dlv:=by rw[g4];exact go.dl
 have g4':m'.got=(v.mach i).got:=g4
 refine inv_lk h (by omega) hi go.ok em (by rw[←hv];exact⟨rfl,rfl,rfl,rfl,rfl,rfl,rfl,rfl,rfl,rfl⟩) (by rw[e4,List.length_set]) (fun j hj=>by rw[e4,getD_set,if_neg (by omega)]) (by rw[←hv];have:=h.cn.1;show v.mc+2≤n';omega)
  (lko_free h (by omega) em hi (by rw[←hv];rfl) (by rw[←hv];rfl) k hk (fun j hj=>by
   rw[e4,getD_set]
   by_cases hjk:j=2*k+1
   ·rw[if_pos ⟨hjk,lms2⟩,if_pos hjk]
   ·rw[if_neg (fun e=>hjk e.1),if_neg hjk]) hin l2 htk g7)
  (fun g g0 => ?_) (fun g g0=>by unfold fG;rw[g1];rfl) (fun g g0 => ?_) (fun g=>⟨?_,?_⟩) (fun p p0=>by unfold fP;rw[g2,g3];rfl) ?_ (fun hb => ?_)
 ·unfold fR hol
  rw[g5]
  rcases hgd with hd|hd
  ·rw[if_pos (.inl hd),if_pos (.inl (g4'.symm.trans hd))];rfl
  ·rw[hd,g4'];rfl
 ·unfold fD
  rcases hgd with hd|hd
  ·rw[if_neg (by rintro⟨h1,_⟩;omega),if_neg (by rintro⟨h1,_⟩;omega)]
  ·rw[hd,g4']
 ·unfold fK;rw[if_neg (by rintro⟨_,_,h3,_⟩;rw[g7]at h3;cases h3),if_neg (by rintro⟨_,_,_,h4,_⟩;omega)]
 ·unfold fK;rw[if_neg (by rintro⟨_,_,h3,_⟩;rw[g7]at h3;cases h3),if_neg (by rintro⟨_,_,_,h4,_⟩;omega)]
 ·have c1:m'.claim=false:=by unfold Mh.claim;rw[decide_eq_false go.nf];rfl
  have c2:(v.mach i).claim=false:=by simp[Mh.claim,Mh.aft,hin,hs]
  unfold fS
  rw[c1,c2,g3,g6];rfl
 ·have b:=h.id.mb i hi hb
  refine⟨g3.trans b.1,?_⟩
  have hpl:=go.id b.2
  have ha:m'.aft=false:=by unfold Mh.aft;rw[g7];rfl
  unfold Mh.idl
  rw[ha]
  rcases hpl with hpl|hpl|hpl <;> rw[hpl] <;> simp
theorem inv_held(h:Inv n v)(hn:n+1≤n')(hi:i<v.M)(hin:(v.mach i).inn=true)(hs:(v.mach i).st=1):Inv n' (v.sect i):=by
 obtain⟨k,hk,l1,l2,l3⟩:=lock_of h hi hin
 have hl:i<v.mm.length:=by rw[h.ln.1];exact hi
 have hsv:(v.mach i).sv.toNat=2*k+1:=by omega
 have ht:=(h.mo i hi).s.t1 hin hs
 have e:v.sect i=({ v with mc:=v.mc+1 }:V).putM i { v.mach i with st:=if (v.mach i).tk=v.ms.getD (2*k+1) 0 then 2 else 1 }:=by
  unfold V.sect
  rw[if_neg (by omega),if_pos hs]
  show ({ v with mc:=v.mc+1 }:V).putM i { v.mach i with st:=if (v.mach i).tk=v.ms.getD (v.mach i).sv.toNat 0 then 2 else 1 } = _
  rw[hsv]
 rw[e]
 generalize hx:(if (v.mach i).tk=v.ms.getD (2*k+1) 0 then (2:Int) else 1)=x
 have hx':x=1∨(x=2∧(v.mach i).tk=v.ms.getD (2*k+1) 0):=by
  rw[←hx];split
  ·rename_i h;exact .inr ⟨rfl,h⟩
  ·exact .inl rfl
 have hm:Mok v.P v.M v.G { v.mach i with st:=x }:=by
  rcases hx' with rfl|⟨rfl,_⟩
  ·have:=h.mo i hi
   rw[←hs];exact this
  ·exact mok_held (h.mo i hi) hin hs
 have em:(({ v with mc:=v.mc+1 }:V).putM i { v.mach i with st:=x }).mm=v.mm.set i { v.mach i with st:=x }:=rfl
 dsimp only at em ⊢
 have af:(v.mach i).aft=false:=by simp[Mh.aft,hs]
 have af':({ v.mach i with st:=x }:Mh).aft=false:=by
  unfold Mh.aft
  rcases hx' with rfl|⟨rfl,_⟩ <;> simp
 dsimp only at af'
 refine inv_lk h (by omega) hi hm em ⟨rfl,rfl,rfl,rfl,rfl,rfl,rfl,rfl,rfl,rfl⟩ rfl (fun j hj=>rfl) (by have:=h.cn.1;show v.mc+1≤n';omega) (fun j hj => ?_) (fun g g0=>rfl) (fun g g0=>rfl) (fun g g0=>rfl) (fun g=>⟨?_,?_⟩) (fun p p0=>rfl) ?_ (fun hb => ?_)
 ·refine(h.lk j hj).of (by omega) rfl rfl rfl fun a ha => ?_
  rw[mach_set em hl a]
  by_cases hai:a=i
  ·subst hai
   rw[if_pos rfl]
   refine⟨rfl,rfl,rfl,fun _ => ?_⟩
   rcases hx' with h1|⟨_,h2⟩
   ·exact .inl (by show x=_;rw[h1,hs])
   ·by_cases hjk:j=k
    ·rw[hjk];exact .inr (.inl h2)
    ·exact .inr (.inr (by rw[l2];omega))
  ·rw[if_neg hai];exact⟨rfl,rfl,rfl,fun _ => .inl rfl⟩
 ·unfold fK;rw[if_neg (by rintro⟨_,_,_,_,h5⟩;simp only at h5;omega),if_neg (by rintro⟨_,_,_,h4,_⟩;omega)]
 ·unfold fK;rw[if_neg (by rintro⟨_,_,_,_,h5⟩;simp only at h5;omega),if_neg (by rintro⟨_,_,_,h4,_⟩;omega)]
 ·unfold fS Mh.claim;rw[af,af']
 ·have b:=h.id.mb i hi hb
  refine⟨b.1,?_⟩
  have b2:=b.2
  unfold Mh.idl at b2 ⊢
  rw[af]at b2
  rw[af']
  exact b2
theorem inv_begin(h:Inv n v)(hn:n+1≤n')(hs64:n'<1000000000000000000)(hi:i<v.M)(hin:(v.mach i).inn=false)(hk0:0≤(v.mach i).lock v.P):Inv n' (v.locked i):=by
 have hl:i<v.mm.length:=by rw[h.ln.1];exact hi
 have b:=lock_le (v.mach i) v.P h.cf.1
 obtain⟨k,hk⟩:∃ k:Nat,(v.mach i).lock v.P=(k:Int):=⟨((v.mach i).lock v.P).toNat,by omega⟩
 have hkP:k<v.P+2:=by omega
 have lk:=h.lk k hkP
 have lms:2*k<v.spn:=by unfold V.spn;omega
 have lms2:2*k<v.ms.length:=by have:=(spn_lt h).1;omega
 have hw:w64 (v.ms.getD (2*k) 0+1)=v.ms.getD (2*k) 0+1:=w64_of (by have:=lk.le;omega)
 have hn2:(2*(k:Int)).toNat=2*k:=by omega
 have hm:=mok_begin (h.mo i hi) hin hk0 (v.ms.getD (2*k) 0)
 have e:v.locked i=({ v with ms:=v.ms.set (2*k) (v.ms.getD (2*k) 0+1),mc:=v.mc+1 }:V).putM i { (v.mach i).into ((v.mach i).lock v.P) with tk:=v.ms.getD (2*k) 0,st:=1 }:=by
  unfold V.locked
  rw[if_neg (by rw[hin];simp)]
  unfold V.sect
  rw[mach_onM hl]
  dsimp only
  rw[if_pos (show ((v.mach i).into ((v.mach i).lock v.P)).st=0 from rfl)]
  have e1:((v.mach i).into ((v.mach i).lock v.P)).sn.toNat=2*k:=by rw[hk];exact hn2
  rw[e1]
  show (({ v.onM i (fun m=>m.into (m.lock v.P)) with ms:=v.ms.set (2*k) (w64 (v.ms.getD (2*k) 0+1)),mc:=v.mc+1 }:V).onM i fun m => { m with tk:=(v.onM i (fun m=>m.into (m.lock v.P))).ms.getD m.sn.toNat 0,st:=1 })=_
  rw[hw]
  have:=onM2 (v := { v with ms:=v.ms.set (2*k) (v.ms.getD (2*k) 0+1),mc:=v.mc+1 }) hl (fun m=>m.into (m.lock v.P)) (fun m => { m with tk:=v.ms.getD m.sn.toNat 0,st:=1 })
  refine this.trans ?_
  show ({ v with ms:=v.ms.set (2*k) (v.ms.getD (2*k) 0+1),mc:=v.mc+1 }:V).putM i { (v.mach i).into ((v.mach i).lock v.P) with tk:=v.ms.getD ((v.mach i).into ((v.mach i).lock v.P)).sn.toNat 0,st:=1 } = _
  rw[e1]
 rw[e]
 have em:(({ v with ms:=v.ms.set (2*k) (v.ms.getD (2*k) 0+1),mc:=v.mc+1 }:V).putM i { (v.mach i).into ((v.mach i).lock v.P) with tk:=v.ms.getD (2*k) 0,st:=1 }).mm=v.mm.set i { (v.mach i).into ((v.mach i).lock v.P) with tk:=v.ms.getD (2*k) 0,st:=1 }:=rfl
 generalize hv:(({ v with ms:=v.ms.set (2*k) (v.ms.getD (2*k) 0+1),mc:=v.mc+1 }:V).putM i { (v.mach i).into ((v.mach i).lock v.P) with tk:=v.ms.getD (2*k) 0,st:=1 })=v2 at em ⊢
 have e4:v2.ms=v.ms.set (2*k) (v.ms.getD (2*k) 0+1):=by rw[←hv];rfl
 have af:(v.mach i).aft=false:=by simp[Mh.aft,hin]
 have af':({ (v.mach i).into ((v.mach i).lock v.P) with tk:=v.ms.getD (2*k) 0,st:=1 }:Mh).aft=false:=by simp[Mh.aft]
 refine inv_lk h (by omega) hi hm em (by rw[←hv];exact⟨rfl,rfl,rfl,rfl,rfl,rfl,rfl,rfl,rfl,rfl⟩) (by rw[e4,List.length_set]) (fun j hj=>by rw[e4,getD_set,if_neg (by omega)]) (by rw[←hv];have:=h.cn.1;show v.mc+1≤n';omega)
  (lko_begin h hn em hi (by rw[←hv];rfl) (by rw[←hv];rfl) k hkP (fun j hj=>by
   rw[e4,getD_set]
   by_cases hjk:j=2*k
   ·rw[if_pos ⟨hjk,lms2⟩,if_pos hjk]
   ·rw[if_neg (fun e=>hjk e.1),if_neg hjk]) hin (by show 2*(v.mach i).lock v.P=_;rw[hk]) rfl rfl rfl)
  (fun g g0=>rfl) (fun g g0=>rfl) (fun g g0=>rfl) (fun g=>⟨?_,?_⟩) (fun p p0=>rfl) ?_ (fun hb => ?_)
 ·unfold fK;rw[if_neg (by rintro⟨_,_,_,h4,_⟩;exact absurd h4 (show ¬(1:Int)=2 by decide)),if_neg (by rintro⟨_,_,h3,_⟩;rw[hin]at h3;cases h3)]
 ·unfold fK;rw[if_neg (by rintro⟨_,_,_,h4,_⟩;exact absurd h4 (show ¬(1:Int)=2 by decide)),if_neg (by rintro⟨_,_,h3,_⟩;rw[hin]at h3;cases h3)]
 ·have c1:({ (v.mach i).into ((v.mach i).lock v.P) with tk:=v.ms.getD (2*k) 0,st:=1 }:Mh).claim=(v.mach i).claim:=by unfold Mh.claim;rw[af,af'];rfl
  unfold fS
  rw[c1];rfl
 ·have b:=h.id.mb i hi hb
  refine⟨b.1,?_⟩
  have b2:=b.2
  unfold Mh.idl at b2 ⊢
  rw[af]at b2
  rw[af']
  exact b2
theorem inv_do(h:Inv n v)(hn:n+1≤n')(hi:i<v.M)(hin:(v.mach i).inn=true)(hs:(v.mach i).st=2):Inv n' (v.sect i):=by
 have e:v.sect i=(v.with' i (v.mach i).tm).1.onM i fun m=>fin m (v.with' i (v.mach i).tm).2:=by
  unfold V.sect
  rw[if_neg (by omega),if_neg (by omega),if_pos hs]
  rfl
 rw[e]
 have hmo:=h.mo i hi
 have hlk:=(hmo.s.si hin).2.1
 have hpl:=hmo.s.pl
 have htm:=hmo.s.t2 hin hs
 have hk:(v.mach i).pl=2∨(v.mach i).pl=3∨(v.mach i).pl=4∨(v.mach i).pl=6∨(v.mach i).pl=7∨(v.mach i).pl=9∨(v.mach i).pl=10∨(v.mach i).pl=11∨(v.mach i).pl=13∨(v.mach i).pl=14∨(v.mach i).pl=15∨(v.mach i).pl=17∨(v.mach i).pl=18∨(v.mach i).pl=23∨(v.mach i).pl=25∨(v.mach i).pl=27∨(v.mach i).pl=28∨(v.mach i).pl=29∨(v.mach i).pl=30:=by
  by_cases hc:Mh.cls (v.mach i).pl=0
  ·unfold Mh.lock at hlk;rw[hc]at hlk;simp at hlk
  ·unfold Mh.cls at hc;grind
 have hn':n≤n':=by omega
 rcases hk with hp|hp|hp|hp|hp|hp|hp|hp|hp|hp|hp|hp|hp|hp|hp|hp|hp|hp|hp
 ·exact inv_2 ⟨h,hi,hin,hs,hp⟩ hn'
 ·exact inv_3 ⟨h,hi,hin,hs,hp⟩ hn'
 ·exact inv_4 ⟨h,hi,hin,hs,hp⟩ hn'
 ·exact inv_6 ⟨h,hi,hin,hs,hp⟩ hn'
 ·exact inv_7 ⟨h,hi,hin,hs,hp⟩ hn'
 ·exact inv_9 ⟨h,hi,hin,hs,hp⟩ hn'
 ·exact inv_10 ⟨h,hi,hin,hs,hp⟩ hn'
 ·exact inv_11 ⟨h,hi,hin,hs,hp⟩ hn'
 ·exact inv_13 ⟨h,hi,hin,hs,hp⟩ hn'
 ·exact inv_14 ⟨h,hi,hin,hs,hp⟩ hn'
 ·exact inv_15 ⟨h,hi,hin,hs,hp⟩ hn'
 ·exact inv_17 ⟨h,hi,hin,hs,hp⟩ hn'
 ·exact inv_18 ⟨h,hi,hin,hs,hp⟩ hn'
 ·exact inv_23 ⟨h,hi,hin,hs,hp⟩ (by omega) hn
 ·exact inv_25 ⟨h,hi,hin,hs,hp⟩ hn'
 ·exact inv_27 ⟨h,hi,hin,hs,hp⟩ hn'
 ·exact inv_28 ⟨h,hi,hin,hs,hp⟩ hn'
 ·exact inv_29 ⟨h,hi,hin,hs,hp⟩ (by omega) hn
 ·exact inv_30 ⟨h,hi,hin,hs,hp⟩ (by omega) hn
theorem inv_locked(h:Inv n v)(hn:n+2≤n')(hs64:n'<1000000000000000000)(hi:i<v.M)(hk:(v.mach i).inn=true∨0≤(v.mach i).lock v.P):Inv n' (v.locked i):=by
 rcases hin:(v.mach i).inn with _|_
 ·exact inv_begin h (by omega) hs64 hi hin (hk.resolve_left (by rw[hin];simp))
 ·have e:v.locked i=v.sect i:=by unfold V.locked;rw[if_pos hin]
  rw[e]
  rcases ((h.mo i hi).s.si hin).1 with hs|hs|hs
  ·exact inv_held h (by omega) hi hin hs
  ·exact inv_do h (by omega) hi hin hs
  ·exact inv_free h hn hs64 hi hin hs
end
structure Wk(v:V):Prop where
 nt:∀ i:Nat,i<v.M→v.ns.getD (v.nts+i) 0≠0→(v.mach i).idl=true∧¬memb v i ∧ ∀ j,j<v.M→(v.mach j).tg≠(i:Int)
 tg:∀ j,j<v.M→(v.mach j).tg ≠ -1 → ∃ t:Nat,t<v.M∧(v.mach j).tg=(t:Int)∧(v.mach t).nx ≠ -1∧¬memb v t
 ne:∀ j l,j<v.M→l<v.M→j≠l→(v.mach j).tg ≠ -1→(v.mach j).tg≠(v.mach l).tg
section
variable {n n':Nat}{v v':V}{i:Nat}{m':Mh}
theorem Inv.mono(h:Inv n v)(hn:n≤n'):Inv n' v:=
 ⟨h.cf,h.ln,h.nt,h.mo,fun k hk=>(h.lk k hk).of hn rfl rfl rfl (fun _ _=>⟨rfl,rfl,rfl,fun _ => .inl rfl⟩),h.rg,h.go,h.id,h.pr,h.sp,h.nb,⟨Nat.le_trans h.cn.1 hn,Nat.le_trans h.cn.2.1 hn,fun t ht=>by have:=h.cn.2.2.1 t ht;exact⟨this.1,by omega⟩,Nat.le_trans h.cn.2.2.2 hn⟩⟩
theorem Inv.count(h:Inv n v)(hn:n+1≤n'):Inv n' { v with mc:=v.mc+1 }:=by
 have h':=h.mono (n':=n') (by omega)
 have lk:∀ k,k<v.P+2→Lko n' { v with mc:=v.mc+1 } k:=fun k hk=>(h'.lk k hk).of (Nat.le_refl _) rfl rfl rfl (fun _ _=>⟨rfl,rfl,rfl,fun _ => .inl rfl⟩)
 refine⟨h'.cf,h'.ln,h'.nt,h'.mo,lk,⟨h'.rg.qu,h'.rg.rl,h'.rg.rs,h'.rg.sl,h'.rg.sw,h'.rg.wn⟩,fun g g0 g1=>(h'.go g g0 g1).of rfl rfl rfl rfl rfl rfl rfl rfl,⟨h'.id.sn,h'.id.sr,h'.id.po,h'.id.ps,h'.id.pd,h'.id.mb⟩,h'.pr,h'.sp,h'.nb,⟨?_,h'.cn.2⟩⟩
 have:=h.cn.1
 show v.mc+1≤n'
 omega
theorem Inv.turns(h:Inv n v)(hn:n+1≤n')(p:Nat):Inv n' { v with tu:=v.tu.set p (v.tu.getD p 0+1) }:=by
 have h':=h.mono (n':=n') (by omega)
 have lk:∀ k,k<v.P+2→Lko n' { v with tu:=v.tu.set p (v.tu.getD p 0+1) } k:=fun k hk=>(h'.lk k hk).of (Nat.le_refl _) rfl rfl rfl (fun _ _=>⟨rfl,rfl,rfl,fun _ => .inl rfl⟩)
 refine⟨h'.cf,⟨h'.ln.1,h'.ln.2.1,by rw[List.length_set];exact h'.ln.2.2.1,h'.ln.2.2.2⟩,h'.nt,h'.mo,lk,⟨h'.rg.qu,h'.rg.rl,h'.rg.rs,h'.rg.sl,h'.rg.sw,h'.rg.wn⟩,fun g g0 g1=>(h'.go g g0 g1).of rfl rfl rfl rfl rfl rfl rfl rfl,⟨h'.id.sn,h'.id.sr,h'.id.po,h'.id.ps,h'.id.pd,h'.id.mb⟩,h'.pr,h'.sp,h'.nb,⟨h'.cn.1,h'.cn.2.1,fun t ht => ?_,h'.cn.2.2.2⟩⟩
 rcases List.mem_or_eq_of_mem_set ht with ht|ht
 ·exact h'.cn.2.2.1 t ht
 ·have hb:0≤v.tu.getD p 0∧v.tu.getD p 0≤n:=by
   by_cases hp:p<v.tu.length
   ·have:v.tu.getD p 0 ∈ v.tu:=by simp[hp]
    exact h.cn.2.2.1 _ this
   ·simp[hp]
  omega
structure Bt(n:Nat)(v:V)(i:Nat)(k:Int):Prop where
 h:Inv n v
 hi:i<v.M
 inn:(v.mach i).inn=false
 pl:(v.mach i).pl=k
namespace Bt
variable {k:Int}
theorem hl(a:Bt n v i k):i<v.mm.length:=by rw[a.h.ln.1];exact a.hi
theorem mo(a:Bt n v i k):Mok v.P v.M v.G (v.mach i):=a.h.mo i a.hi
theorem nm(a:Bt n v i k)(hk:k≠14∧k≠15∧k≠16):¬memb v i:=fun hb=>by
 have:=(a.h.id.mb i a.hi hb).2
 have ha:(v.mach i).aft=false:=by simp[Mh.aft,a.inn]
 simp[Mh.idl,ha,a.pl,hk]at this
end Bt
theorem fK_no{m:Mh}(h:m.inn=false)(k g:Int):fK k g m=0:=by unfold fK;rw[if_neg];rintro⟨_,_,h3,_⟩;rw[h]at h3;cases h3
theorem inv_P{k:Int}(a:Bt n v i k)(hn:n≤n')(hk:k≠14∧k≠15∧k≠16)(hm:Mok v.P v.M v.G m')(b:m'.inn=(v.mach i).inn∧m'.sn=(v.mach i).sn∧m'.tk=(v.mach i).tk∧m'.g=(v.mach i).g∧m'.got=(v.mach i).got∧m'.rest=(v.mach i).rest∧m'.p=(v.mach i).p∧m'.nx=(v.mach i).nx)(hd:(v.mach i).got = -1∨m'.dlv=(v.mach i).dlv)(hs:fS m'=fS (v.mach i)):Inv n' (v.putM i m'):=by
 obtain⟨b1,b2,b3,b4,b5,b6,b7,b8⟩:=b
 refine a.h.put hn a.hi hm b1 b2 b3 (fun e=>by rw[a.inn]at e;cases e) (fun g g0 => ?_) (fun g g0=>by unfold fG;rw[b4]) (fun g g0 => ?_) (fun g => ?_) (fun p p0=>by unfold fP;rw[b7,b8]) hs (fun hb=>absurd hb (a.nm hk))
 ·unfold fR hol
  rw[b5,b6]
  rcases hd with hd|hd
  ·rw[if_pos (.inl hd),if_pos (.inl hd)]
  ·rw[hd]
 ·unfold fD
  rw[b5]
  rcases hd with hd|hd
  ·rw[if_neg (by rintro⟨h1,_⟩;omega),if_neg (by rintro⟨h1,_⟩;omega)]
  ·rw[hd]
 ·have:m'.inn=false:=b1.trans a.inn
  exact⟨by rw[fK_no this,fK_no a.inn],by rw[fK_no this,fK_no a.inn]⟩
theorem pas_1(a:Bt n v i 1)(hn:n+1≤n'):Inv n' (v.pass i):=by
 have hp:=a.pl
 have lc:=(loc_1 hp).1 a.mo.l
 have e:v.pass i=({ v with tu:=v.tu.set (v.mach i).p.toNat (v.tu.getD (v.mach i).p.toNat 0+1) }:V).onM i fun m=>if (v.tu.set (v.mach i).p.toNat (v.tu.getD (v.mach i).p.toNat 0+1)).getD (v.mach i).p.toNat 0 % 61=0 then m.deliver 2 else { m with pl:=3 }:=by
  unfold V.pass
  rw[if_pos hp]
  rfl
 rw[e]
 have h2:=a.h.turns hn (v.mach i).p.toNat
 have b:Bt n' { v with tu:=v.tu.set (v.mach i).p.toNat (v.tu.getD (v.mach i).p.toNat 0+1) } i 1:=⟨h2,a.hi,a.inn,hp⟩
 generalize hc:(v.tu.set (v.mach i).p.toNat (v.tu.getD (v.mach i).p.toNat 0+1)).getD (v.mach i).p.toNat 0 % 61=c
 generalize hw:({ v with tu:=v.tu.set (v.mach i).p.toNat (v.tu.getD (v.mach i).p.toNat 0+1) }:V)=w at b
 have ew:w.mach i=v.mach i:=by rw[←hw];rfl
 have lc2:(w.mach i).got = -1∧(w.mach i).spin=false∧(w.mach i).nx = -1:=by rw[ew];exact⟨lc.2.2.1,lc.2.2.2.2.1,lc.2.2.2.2.2.2⟩
 by_cases hc0:c=0
 ·rw[hc0]
  exact inv_P b (Nat.le_refl _) (by decide) (m':=(w.mach i).deliver 2) (ps_1d b.mo b.inn b.pl) ⟨rfl,rfl,rfl,rfl,rfl,rfl,rfl,rfl⟩ (.inl lc2.1) (by
   have c1:((w.mach i).deliver 2).claim=false:=by simp[Mh.claim,Mh.deliver]
   have c2:(w.mach i).claim=false:=by simp[Mh.claim,b.pl]
   unfold fS;rw[c1,c2];rfl)
 ·have:(w.onM i fun m=>if c=0 then m.deliver 2 else { m with pl:=3 })=w.putM i { w.mach i with pl:=3 }:=by
   unfold V.onM;simp only[if_neg hc0]
  rw[this]
  exact inv_P b (Nat.le_refl _) (by decide) (m' := { w.mach i with pl:=3 }) (ps_1 (m:=w.mach i) b.mo b.inn b.pl) ⟨rfl,rfl,rfl,rfl,rfl,rfl,rfl,rfl⟩ (.inl lc2.1) (by simp[fS,Mh.claim,b.pl])
theorem inv_S{k:Int}(a:Bt n v i k)(hn:n+1≤n')(hk:k≠14∧k≠15∧k≠16)(d:Int)(f:Mh→Mh)(hm:Mok v.P v.M v.G (f (v.mach i)))(b:(f (v.mach i)).inn=(v.mach i).inn∧(f (v.mach i)).sn=(v.mach i).sn∧(f (v.mach i)).tk=(v.mach i).tk∧(f (v.mach i)).g=(v.mach i).g∧(f (v.mach i)).got=(v.mach i).got∧(f (v.mach i)).rest=(v.mach i).rest∧(f (v.mach i)).p=(v.mach i).p∧(f (v.mach i)).nx=(v.mach i).nx)(hd:(f (v.mach i)).dlv=(v.mach i).dlv)(hd1:d=1∨d = -1∧1≤fS (v.mach i))(hs:(fS (f (v.mach i)):Int)=fS (v.mach i)+d):Inv n' ((v.spin d).onM i f):=by
 obtain⟨b1,b2,b3,b4,b5,b6,b7,b8⟩:=b
 have hdd:d=1∨d = -1∧1≤v.sm fS:=by
  rcases hd1 with h|⟨h1,h2⟩
  ·exact .inl h
  ·exact .inr ⟨h1,Nat.le_trans h2 (fS_le a.hl)⟩
 rw[spin_eq a.h d hdd]
 exact inv_spin a.h hn a.hi d hdd hm (v':=(v.both v.spn (v.ms.getD v.spn 0+d)).onM i f) rfl rfl b1 b2 b3 (fun e=>by rw[a.inn]at e;cases e) (fun g _=>by unfold fR hol;rw[b5,b6,hd]) (fun g _=>by unfold fG;rw[b4]) (fun g _=>by unfold fD;rw[b5,hd]) (fun g=>⟨by rw[fK_no (b1.trans a.inn),fK_no a.inn],by rw[fK_no (b1.trans a.inn),fK_no a.inn]⟩) (fun p _=>by unfold fP;rw[b7,b8]) hs (fun hb=>absurd hb (a.nm hk))
theorem pas_5(a:Bt n v i 5)(hn:n+1≤n'):Inv n' (v.pass i):=by
 have hp:=a.pl
 have lc:=(loc_5 hp).1 a.mo.l
 have e:v.pass i=(v.spin 1).onM i fun m=>({ m with spin:=true }:Mh).steal v.P 1:=by simp[V.pass,hp]
 rw[e]
 refine inv_S a hn (by decide) 1 _ ?_ ⟨rfl,rfl,rfl,rfl,rfl,rfl,rfl,rfl⟩ ?_ (.inl rfl) ?_
 ·by_cases h:(1:Int)<v.P
  ·exact ps_5t (m:=v.mach i) a.mo a.inn hp h
  ·exact ps_5z (m:=v.mach i) a.mo a.inn hp h
 ·simp only[Mh.dlv,Mh.steal,hp];split <;> rfl
 ·have:(({ v.mach i with spin:=true }:Mh).steal v.P 1).claim=false:=by simp only[Mh.claim,Mh.steal];split <;> rfl
  unfold fS
  rw[this]
  simp[Mh.claim,hp,lc.2.2.2.2.1,lc.2.2.2.2.2.2,Mh.steal]
theorem pas_8(a:Bt n v i 8)(hn:n+1≤n'):Inv n' (v.pass i):=by
 have hp:=a.pl
 have lc:=(loc_8 hp).1 a.mo.l
 have e:v.pass i=(v.spin (-1)).onM i fun m => { m with spin:=false,i:=0,pl:=9 }:=by simp[V.pass,hp]
 rw[e]
 have f1:fS (v.mach i)=1:=by simp[fS,lc,Mh.claim,hp]
 exact inv_S a hn (by decide) (-1) _ (ps_8 (m:=v.mach i) a.mo a.inn hp (by have:=a.h.cf;omega)) ⟨rfl,rfl,rfl,rfl,rfl,rfl,rfl,rfl⟩ (by simp[Mh.dlv,hp]) (.inr ⟨rfl,by omega⟩) (by rw[f1];simp[fS,lc,Mh.claim])
theorem pas_12(a:Bt n v i 12)(hn:n+1≤n'):Inv n' (v.pass i):=by
 have hp:=a.pl
 have lc:=(loc_12 hp).1 a.mo.l
 have e:v.pass i=(v.spin 1).onM i fun m => { m with spin:=true,pl:=4 }:=by simp[V.pass,hp]
 rw[e]
 have f1:fS (v.mach i)=0:=by simp[fS,lc,Mh.claim,hp]
 exact inv_S a hn (by decide) 1 _ (ps_12 (m:=v.mach i) a.mo a.inn hp) ⟨rfl,rfl,rfl,rfl,rfl,rfl,rfl,rfl⟩ (by simp[Mh.dlv,hp]) (.inl rfl) (by rw[f1];simp[fS,lc,Mh.claim])
theorem pas_19(a:Bt n v i 19)(hn:n+1≤n'):Inv n' (v.pass i):=by
 have hp:=a.pl
 have lc:=(loc_19 hp).1 a.mo.l
 have e:v.pass i=(v.spin (-1)).onM i fun m => { m with spin:=false,pl:=21 }:=by simp[V.pass,hp]
 rw[e]
 have f1:fS (v.mach i)=1:=by simp[fS,lc,Mh.claim,hp]
 exact inv_S a hn (by decide) (-1) _ (ps_19 (m:=v.mach i) a.mo a.inn hp) ⟨rfl,rfl,rfl,rfl,rfl,rfl,rfl,rfl⟩ (by simp[Mh.dlv,hp]) (.inr ⟨rfl,by omega⟩) (by rw[f1];simp[fS,lc,Mh.claim])
theorem back4{k:Int}(a:Bt n v i k)(hk:k=21∨k=22∨k=24):((v.mach i).back=0∨(v.mach i).back=1∨(v.mach i).back=20∨(v.mach i).back=25)∧((v.mach i).back=25→(v.mach i).got = -1)∧(v.mach i).spin=false∧(v.mach i).nx = -1:=by
 have hp:=a.pl
 rcases hk with rfl|rfl|rfl
 ·have lc:=(loc_21 hp).1 a.mo.l
  exact⟨lc.2.1,fun h=>by have:=lc.2.2.2.2.1;rw[if_neg (by omega)]at this;exact this,lc.2.2.2.2.2.2.1,lc.2.2.2.2.2.2.2.2⟩
 ·have lc:=(loc_22 hp).1 a.mo.l
  exact⟨lc.2.1,fun h=>by have:=lc.2.2.2.2.1;rw[if_neg (by omega)]at this;exact this,lc.2.2.2.2.2.2.1,lc.2.2.2.2.2.2.2.2⟩
 ·have lc:=(loc_24 hp).1 a.mo.l
  exact⟨lc.2.1,fun h=>by have:=lc.2.2.2.2.1;rw[if_neg (by omega)]at this;exact this,lc.2.2.2.2.2.2.1,lc.2.2.2.2.2.2.2.2⟩
theorem pas_21(a:Bt n v i 21)(hn:n+1≤n'):Inv n' (v.pass i):=by
 have hp:=a.pl
 obtain⟨bk,bg,sp,nx⟩:=back4 a (.inl rfl)
 have e:v.pass i=({ v with mc:=v.mc+1 }:V).onM i fun m => { m with pl:=if v.ms.getD v.spn 0=0 then 22 else m.back }:=by simp[V.pass,hp]
 rw[e]
 have b:Bt n' { v with mc:=v.mc+1 } i 21:=⟨a.h.count hn,a.hi,a.inn,hp⟩
 by_cases h0:v.ms.getD v.spn 0=0
 ·have e2:(({ v with mc:=v.mc+1 }:V).onM i fun m => { m with pl:=if v.ms.getD v.spn 0=0 then 22 else m.back })=({ v with mc:=v.mc+1 }:V).putM i { v.mach i with pl:=22 }:=by unfold V.onM;simp only[if_pos h0];rfl
  rw[e2]
  exact inv_P b (Nat.le_refl _) (by decide) (ps_21 (m:=v.mach i) a.mo a.inn hp) ⟨rfl,rfl,rfl,rfl,rfl,rfl,rfl,rfl⟩ (.inr (by show Mh.dlv { v.mach i with pl:=22 } = (v.mach i).dlv;simp[Mh.dlv,hp])) (by show fS { v.mach i with pl:=22 } = fS (v.mach i);simp[fS,Mh.claim,hp])
 ·have e2:(({ v with mc:=v.mc+1 }:V).onM i fun m => { m with pl:=if v.ms.getD v.spn 0=0 then 22 else m.back })=({ v with mc:=v.mc+1 }:V).putM i { v.mach i with pl:=(v.mach i).back }:=by unfold V.onM;simp only[if_neg h0];rfl
  rw[e2]
  refine inv_P b (Nat.le_refl _) (by decide) ?_ ⟨rfl,rfl,rfl,rfl,rfl,rfl,rfl,rfl⟩ ?_ ?_
  ·rcases bk with h|h|h|h
   ·exact ps_21b0 (m:=v.mach i) a.mo a.inn hp h
   ·exact ps_21b1 (m:=v.mach i) a.mo a.inn hp h
   ·exact ps_21b20 (m:=v.mach i) a.mo a.inn hp h
   ·exact ps_21b25 (m:=v.mach i) a.mo a.inn hp h
  ·by_cases h:(v.mach i).back=25
   ·exact .inl (bg h)
   ·exact .inr (by show Mh.dlv { v.mach i with pl:=(v.mach i).back } = (v.mach i).dlv;simp only[Mh.dlv,hp];rw[decide_eq_false (by omega)];rfl)
  ·show fS { v.mach i with pl:=(v.mach i).back } = fS (v.mach i)
   have c1:({ v.mach i with pl:=(v.mach i).back }:Mh).claim=false:=by simp only[Mh.claim];rw[decide_eq_false (by omega)];rfl
   have c2:(v.mach i).claim=false:=by simp[Mh.claim,hp]
   unfold fS
   rw[c1,c2]
theorem pas_22(a:Bt n v i 22)(hn:n+1≤n'):Inv n' (v.pass i):=by
 have hp:=a.pl
 obtain⟨bk,bg,sp,nx⟩:=back4 a (.inr (.inl rfl))
 have q:v.ns.getD v.spn 0=v.ms.getD v.spn 0:=(a.h.nt v.spn (Nat.le_refl _)).symm
 have e:v.pass i=(v.bothF v.spn fun x=>if x=0 then 1 else x).onM i fun m => { m with pl:=if v.ms.getD v.spn 0=0 then 23 else m.back }:=by simp[V.pass,hp]
 rw[e]
 by_cases h0:v.ms.getD v.spn 0=0
 ·have e2:((v.bothF v.spn fun x=>if x=0 then 1 else x).onM i fun m => { m with pl:=if v.ms.getD v.spn 0=0 then 23 else m.back })=(v.both v.spn (v.ms.getD v.spn 0+1)).putM i { v.mach i with pl:=23 }:=by
   unfold V.onM V.bothF V.both
   simp only[q,if_pos h0]
   rw[h0]
   rfl
  rw[e2]
  exact inv_spin a.h hn a.hi 1 (.inl rfl) (ps_22 (m:=v.mach i) a.mo a.inn hp) (m' := { v.mach i with pl:=23 }) rfl rfl rfl rfl rfl (fun e=>by rw[a.inn]at e;cases e) (fun g _=>by unfold fR hol;simp only[Mh.dlv,hp];rfl) (fun g _=>rfl) (fun g _=>by unfold fD;simp only[Mh.dlv,hp];rfl) (fun g=>⟨by rw[fK_no a.inn,fK_no (m := { v.mach i with pl:=23 }) a.inn],by rw[fK_no a.inn,fK_no (m := { v.mach i with pl:=23 }) a.inn]⟩) (fun p _=>rfl) (by simp[fS,Mh.claim,hp,Mh.aft,a.inn]) (fun hb=>absurd hb (a.nm (by decide)))
 ·have e2:((v.bothF v.spn fun x=>if x=0 then 1 else x).onM i fun m => { m with pl:=if v.ms.getD v.spn 0=0 then 23 else m.back })=({ v with ms:=v.ms.set v.spn (v.ms.getD v.spn 0),ns:=v.ns.set v.spn (v.ms.getD v.spn 0),mc:=v.mc+1 }:V).putM i { v.mach i with pl:=(v.mach i).back }:=by
   unfold V.onM V.bothF
   simp only[q,if_neg h0]
   rfl
  have ss:∀ l:List Int,∀ k,l.set k (l.getD k 0)=l:=fun l k=>by
   apply List.ext_getElem?
   intro j
   by_cases hj:j=k
   ·subst hj
    by_cases hl:j<l.length
    ·simp[hl]
    ·simp[hl]
   ·rw[List.getElem?_set_ne (Ne.symm hj)]
  have e3:({ v with ms:=v.ms.set v.spn (v.ms.getD v.spn 0),ns:=v.ns.set v.spn (v.ms.getD v.spn 0),mc:=v.mc+1 }:V) = { v with mc:=v.mc+1 }:=by
   rw[ss, ←q,ss]
  rw[e2,e3]
  have b:Bt n' { v with mc:=v.mc+1 } i 22:=⟨a.h.count hn,a.hi,a.inn,hp⟩
  refine inv_P b (Nat.le_refl _) (by decide) ?_ ⟨rfl,rfl,rfl,rfl,rfl,rfl,rfl,rfl⟩ ?_ ?_
  ·rcases bk with h|h|h|h
   ·exact ps_22b0 (m:=v.mach i) a.mo a.inn hp h
   ·exact ps_22b1 (m:=v.mach i) a.mo a.inn hp h
   ·exact ps_22b20 (m:=v.mach i) a.mo a.inn hp h
   ·exact ps_22b25 (m:=v.mach i) a.mo a.inn hp h
  ·by_cases h:(v.mach i).back=25
   ·exact .inl (bg h)
   ·exact .inr (by show Mh.dlv { v.mach i with pl:=(v.mach i).back } = (v.mach i).dlv;simp only[Mh.dlv,hp];rw[decide_eq_false (by omega)];rfl)
  ·show fS { v.mach i with pl:=(v.mach i).back } = fS (v.mach i)
   have c1:({ v.mach i with pl:=(v.mach i).back }:Mh).claim=false:=by simp only[Mh.claim];rw[decide_eq_false (by omega)];rfl
   have c2:(v.mach i).claim=false:=by simp[Mh.claim,hp]
   unfold fS
   rw[c1,c2]
theorem inv_note(h:Inv n v)(hn:n+1≤n')(hi:i<v.M)(j:Nat)(hj:j<v.M)(x:Int)(hx:x=0∨x=1)(hm:Mok v.P v.M v.G m')(e:v'.mm=v.mm.set i m')(ev:v'=(v.both (v.nts+j) x).putM i m')
 (b1:m'.inn=(v.mach i).inn)(b2:m'.sn=(v.mach i).sn)(b3:m'.tk=(v.mach i).tk)(b4:(v.mach i).inn=true→(v.mach i).st=2∨m'.st=(v.mach i).st)
 (eR:∀ g:Int,0≤g→fR g m'=fR g (v.mach i))(eG:∀ g:Int,0≤g→fG g m'=fG g (v.mach i))(eD:∀ g:Int,0≤g→fD g m'=fD g (v.mach i))(eK:∀ g:Int,fK 29 g m'=fK 29 g (v.mach i)∧fK 30 g m'=fK 30 g (v.mach i))(eP:∀ p:Int,0≤p→fP p m'=fP p (v.mach i))(eS:fS m'=fS (v.mach i))(hb:memb v i→m'.nx = -1∧m'.idl=true):Inv n' v':=by
 have hl:i<v.mm.length:=by rw[h.ln.1];exact hi
 have e4:v'.ms=v.ms.set (v.nts+j) x:=by rw[ev];rfl
 have e5:v'.ns=v.ns.set (v.nts+j) x:=by rw[ev];rfl
 have ei:v'.id=v.id:=by rw[ev];rfl
 have eP':v'.P=v.P:=by rw[ev];rfl
 have eM':v'.M=v.M:=by rw[ev];rfl
 have eG':v'.G=v.G:=by rw[ev];rfl
 have gt:v.spn<v.nts+j:=by unfold V.nts;omega
 have est:∀ g,v'.stat g=v.stat g:=fun g=>by
  unfold V.stat
  rw[eG',show v'.sts=v.sts by unfold V.sts V.nts V.spn;rw[eP',eM']]
  split
  ·rw[e5,getD_set,if_neg (by unfold V.sts;omega)]
  ·rfl
 refine h.mvB (by omega) ⟨eP',eM',eG',by rw[ev];rfl⟩ (by rw[e,List.length_set]) (mo_put h e hi hm) (lkm_put h e hi b1 b2 b3 b4) (by rw[ev];rfl) (by rw[ev];show v.sr.ad≤n';exact Nat.le_trans h.cn.2.2.2 (by omega)) (by rw[ei]) (by rw[e4,List.length_set]) (by rw[e5,List.length_set]) (nt_set h e4 e5) (ew_set (by omega) e4) (by rw[ev];show v.mc+1≤n';have:=h.cn.1;omega) (by rw[ev];show v.lg.length≤n';have:=h.cn.2.1;omega)
  (h.rg.same eP' eG' (by rw[ev];rfl) (by rw[ev];rfl) (by rw[ev];exact h.rg.qu)) (fun g g0 g1 => ?_) (id_put h e hi eM' eP' ei hb) (fun p p0 p1 => ?_) ?_ (fun l hl' => ?_)
 ·refine(h.go g g0 g1).of (est g) ?_ (sm_same e hl (eG g g0)) (sm_same e hl (eD g g0)) (by rw[ev];rfl) (by rw[ev];rfl) (sm_same e hl (eK g).1) (sm_same e hl (eK g).2)
  have s:=sm_same e hl (eR g g0)
  unfold V.cR
  rw[s,show v'.qu=v.qu by rw[ev];rfl,show v'.rs=v.rs by rw[ev];rfl]
 ·rw[sm_same e hl (eP p p0),ei];exact h.pr p p0 p1
 ·rw[sm_same e hl eS,e4,getD_set,if_neg (by omega),ei];exact h.sp
 ·rw[e5,getD_set]
  by_cases hlj:v.nts+l=v.nts+j∧v.nts+j<v.ns.length
  ·rw[if_pos hlj];exact hx
  ·rw[if_neg hlj];exact h.nb l hl'
theorem bothF_eq(h:Inv n v){k:Nat}(hk:v.spn≤k)(f:Int→Int):v.bothF k f=v.both k (f (v.ns.getD k 0)):=by
 unfold V.bothF V.both
 rw[h.nt k hk]
theorem pas_24(a:Bt n v i 24)(hn:n+1≤n'):Inv n' (v.pass i):=by
 have hp:=a.pl
 obtain⟨bk,bg,sp,nx⟩:=back4 a (.inr (.inr rfl))
 have lc:=(loc_24 hp).1 a.mo.l
 have htg:0≤(v.mach i).tg∧(v.mach i).tg<v.M:=lc.2.2.2.2.2.2.2.1
 have e:v.pass i=(v.wake (v.mach i).tg).onM i fun m => { m with tg := -1,pl:=m.back }:=by simp[V.pass,hp]
 have nb:=a.h.nb (v.mach i).tg.toNat (by omega)
 rw[e,show v.wake (v.mach i).tg=v.both (v.nts+(v.mach i).tg.toNat) (if v.ns.getD (v.nts+(v.mach i).tg.toNat) 0=0 then 1 else v.ns.getD (v.nts+(v.mach i).tg.toNat) 0) from bothF_eq a.h (by unfold V.nts;omega) _]
 have c1:({ v.mach i with tg := -1,pl:=(v.mach i).back }:Mh).claim=false:=by simp only[Mh.claim];rw[decide_eq_false (by omega)];rfl
 have c2:(v.mach i).claim=false:=by simp[Mh.claim,hp]
 have hd:(v.mach i).got = -1∨({ v.mach i with tg := -1,pl:=(v.mach i).back }:Mh).dlv=(v.mach i).dlv:=by
  by_cases h:(v.mach i).back=25
  ·exact .inl (bg h)
  ·exact .inr (by simp only[Mh.dlv,hp];rw[decide_eq_false (by omega)];rfl)
 refine inv_note a.h hn a.hi (v.mach i).tg.toNat (by omega) _ (by split;exact .inr rfl;omega) ?_ (m' := { v.mach i with tg := -1,pl:=(v.mach i).back }) rfl rfl rfl rfl rfl (fun e=>by rw[a.inn]at e;cases e) (fun g g0 => ?_) (fun g _=>rfl) (fun g g0 => ?_) (fun g=>⟨by rw[fK_no a.inn,fK_no (m := { v.mach i with tg := -1,pl:=(v.mach i).back }) a.inn],by rw[fK_no a.inn,fK_no (m := { v.mach i with tg := -1,pl:=(v.mach i).back }) a.inn]⟩) (fun p _=>rfl) (by unfold fS;rw[c1,c2]) (fun hb=>absurd hb (a.nm (by decide)))
 ·rcases bk with h|h|h|h
  ·exact ps_24b0 (m:=v.mach i) a.mo a.inn hp h
  ·exact ps_24b1 (m:=v.mach i) a.mo a.inn hp h
  ·exact ps_24b20 (m:=v.mach i) a.mo a.inn hp h
  ·exact ps_24b25 (m:=v.mach i) a.mo a.inn hp h
 ·unfold fR hol
  rcases hd with hd|hd
  ·rw[if_pos (.inl hd),if_pos (.inl hd)]
  ·rw[hd]
 ·unfold fD
  rcases hd with hd|hd
  ·rw[if_neg (by rintro⟨h1,_⟩;simp only at h1;omega),if_neg (by rintro⟨h1,_⟩;omega)]
  ·rw[hd]
theorem pas_16(a:Bt n v i 16)(w:Wk v)(hw:v.ns.getD (v.nts+i) 0=1)(hn:n+1≤n'):Inv n' (v.pass i):=by
 have hp:=a.pl
 have lc:=(loc_16 hp).1 a.mo.l
 have nm:=(w.nt i a.hi (by omega)).2.1
 have e:v.pass i=(v.both (v.nts+i) 0).onM i fun m=>if m.nx = -1 then m.deliver 13 else { m with p:=m.nx,nx := -1,spin:=true,pl:=4 }:=by
  have:v.pass i=v.rise i:=by simp[V.pass,hp]
  rw[this]
  unfold V.rise
  rw[bothF_eq a.h (by unfold V.nts;omega),hw,if_pos rfl]
 rw[e]
 by_cases hnx:(v.mach i).nx = -1
 ·have e2:((v.both (v.nts+i) 0).onM i fun m=>if m.nx = -1 then m.deliver 13 else { m with p:=m.nx,nx := -1,spin:=true,pl:=4 })=(v.both (v.nts+i) 0).putM i ((v.mach i).deliver 13):=by
   show (v.both (v.nts+i) 0).putM i (if (v.mach i).nx = -1 then _ else _)=_
   rw[if_pos hnx];rfl
  rw[e2]
  refine inv_note a.h hn a.hi i a.hi 0 (.inl rfl) (ps_16d a.mo a.inn hp hnx) (m':=(v.mach i).deliver 13) rfl rfl rfl rfl rfl (fun e=>by rw[a.inn]at e;cases e) (fun g g0 => ?_) (fun g _=>rfl) (fun g g0 => ?_) (fun g=>⟨by rw[fK_no a.inn,fK_no (m:=(v.mach i).deliver 13) a.inn],by rw[fK_no a.inn,fK_no (m:=(v.mach i).deliver 13) a.inn]⟩) (fun p _=>rfl) (by
   have c1:((v.mach i).deliver 13).claim=false:=by simp[Mh.claim,Mh.deliver]
   have c2:(v.mach i).claim=false:=by simp[Mh.claim,hp]
   unfold fS;rw[c1,c2];rfl) (fun hb=>absurd hb nm)
  ·unfold fR hol;rw[if_pos (.inl lc.2.2.1),if_pos (.inl lc.2.2.1)];rfl
  ·unfold fD;rw[if_neg (by rintro⟨h1,_⟩;have:=lc.2.2.1;simp only[Mh.deliver]at h1;omega),if_neg (by rintro⟨h1,_⟩;have:=lc.2.2.1;omega)]
 ·have e2:((v.both (v.nts+i) 0).onM i fun m=>if m.nx = -1 then m.deliver 13 else { m with p:=m.nx,nx := -1,spin:=true,pl:=4 })=(v.both (v.nts+i) 0).putM i { v.mach i with p:=(v.mach i).nx,nx := -1,spin:=true,pl:=4 }:=by
   show (v.both (v.nts+i) 0).putM i (if (v.mach i).nx = -1 then _ else _)=_
   rw[if_neg hnx];rfl
  rw[e2]
  refine inv_note a.h hn a.hi i a.hi 0 (.inl rfl) (ps_16r (m:=v.mach i) a.mo a.inn hp hnx) (m' := { v.mach i with p:=(v.mach i).nx,nx := -1,spin:=true,pl:=4 }) rfl rfl rfl rfl rfl (fun e=>by rw[a.inn]at e;cases e) (fun g g0 => ?_) (fun g _=>rfl) (fun g g0 => ?_) (fun g=>⟨by rw[fK_no a.inn,fK_no (m := { v.mach i with p:=(v.mach i).nx,nx := -1,spin:=true,pl:=4 }) a.inn],by rw[fK_no a.inn,fK_no (m := { v.mach i with p:=(v.mach i).nx,nx := -1,spin:=true,pl:=4 }) a.inn]⟩) (fun p p0 => ?_) ?_ (fun hb=>absurd hb nm)
  ·unfold fR hol;rw[if_pos (.inl lc.2.2.1),if_pos (.inl lc.2.2.1)]
  ·unfold fD;rw[if_neg (by rintro⟨h1,_⟩;have:=lc.2.2.1;simp only at h1;omega),if_neg (by rintro⟨h1,_⟩;have:=lc.2.2.1;omega)]
  ·unfold fP
   simp only
   rw[if_neg (show ¬(-1:Int)=p by omega),lc.1,if_neg (show ¬(-1:Int)=p by omega)]
   omega
  ·simp[fS,Mh.claim,hp,lc.2.2.2.2.1,hnx]
end
section
variable {n n':Nat}{v v':V}{i:Nat}{m':Mh}
theorem fR_le(hl:i<v.mm.length)(g:Int):fR g (v.mach i)≤v.sm (fR g):=by
 have s:=sm_set (v:=v) (v':=v.putM i (Mh.fresh 0 0)) rfl hl (fR g)
 have e:fR g (Mh.fresh 0 0)=0:=rfl
 omega
theorem fD_le(hl:i<v.mm.length)(g:Int):fD g (v.mach i)≤v.sm (fD g):=by
 have s:=sm_set (v:=v) (v':=v.putM i (Mh.fresh 0 0)) rfl hl (fD g)
 have e:fD g (Mh.fresh 0 0)=0:=by unfold fD;rw[if_neg];rintro⟨_,h2⟩;cases h2
 omega
theorem fK_both{m m':Mh}(h:m.inn=false)(h':m'.inn=m.inn)(g:Int):fK 29 g m'=fK 29 g m∧fK 30 g m'=fK 30 g m:=
 ⟨by rw[fK_no h,fK_no (h'.trans h)],by rw[fK_no h,fK_no (h'.trans h)]⟩
theorem pas_20(a:Bt n v i 20)(hn:n+1≤n'):Inv n' (v.pass i):=by
 have hp:=a.pl
 have lc:=(loc_20 hp).1 a.mo.l
 have e:v.pass i=(v.see ⟨2,(v.mach i).got,i,(v.mach i).p,0⟩).putM i { v.mach i with g:=(v.mach i).got,got := -1,pl:=0 }:=by
  have:v.pass i=(v.see ⟨2,(v.mach i).got,i,(v.mach i).p,0⟩).onM i fun m => { m with g:=m.got,got := -1,pl:=0 }:=by simp[V.pass,hp]
  rw[this];rfl
 rw[e]
 obtain⟨h0,h1⟩:=lc.2.2.1
 have hnd:(v.mach i).dlv=false:=by simp[Mh.dlv,hp]
 have hho:hol (v.mach i) = [(v.mach i).got]:=by
  rw[hol,if_neg (by rw[hnd];simp;omega),lc.2.2.2.1];rfl
 have f1:fR (v.mach i).got (v.mach i)=1:=by unfold fR;rw[hho];simp
 have o:=a.h.go _ h0 h1
 have hr:=o.r
 have st1:v.stat (v.mach i).got=1:=by
  by_cases hs:v.stat (v.mach i).got=1
  ·exact hs
  ·rw[if_neg hs]at hr
   have:=fR_le (v:=v) a.hl (v.mach i).got
   unfold V.cR at hr
   omega
 rw[st1,if_pos rfl]at hr
 have hn1:=o.n
 rw[st1]at hn1
 have ho1:=o.o
 rw[st1]at ho1
 simp only[show ¬(1:Int)=2 by decide,show ¬(1:Int)=4 by decide,show ¬(1:Int)=5 by decide,if_false]at hn1 ho1
 have z29:v.sm (fK 29 (v.mach i).got)=0:=by
  have:=sum_two (fK 29 (v.mach i).got) (fK 30 (v.mach i).got) (fG (v.mach i).got) (fK_le _) v.mm
  unfold V.sm at hn1 ⊢
  omega
 have z30:v.sm (fK 30 (v.mach i).got)=0:=by
  have:=sum_two (fK 29 (v.mach i).got) (fK 30 (v.mach i).got) (fG (v.mach i).got) (fK_le _) v.mm
  unfold V.sm at hn1 ⊢
  omega
 have em:((v.see ⟨2,(v.mach i).got,i,(v.mach i).p,0⟩).putM i { v.mach i with g:=(v.mach i).got,got := -1,pl:=0 }).mm=v.mm.set i { v.mach i with g:=(v.mach i).got,got := -1,pl:=0 }:=rfl
 have c1:({ v.mach i with g:=(v.mach i).got,got := -1,pl:=0 }:Mh).claim=false:=by simp[Mh.claim]
 have c2:(v.mach i).claim=false:=by simp[Mh.claim,hp]
 generalize hv:(v.see ⟨2,(v.mach i).got,i,(v.mach i).p,0⟩).putM i { v.mach i with g:=(v.mach i).got,got := -1,pl:=0 } = v2 at em ⊢
 have hh':hol { v.mach i with g:=(v.mach i).got,got := -1,pl:=0 } = []:=hol_none rfl lc.2.2.2.1
 refine inv_see a.h hn a.hi (v.mach i).got 2 h0 h1 (ps_20 (m:=v.mach i) a.mo a.inn hp) em (by rw[←hv];exact⟨rfl,rfl,rfl,rfl,rfl,rfl,rfl,rfl⟩) (by rw[←hv];rfl) (by rw[←hv];rfl) (by rw[←hv];rfl) (by rw[←hv];exact List.length_append) rfl rfl rfl (fun e=>by rw[a.inn]at e;cases e) (fun g g0 hg => ?_) (fun g g0 hg => ?_) (fun g g0 hg => ?_) (fun g g0 hg=>fK_both (m' := { v.mach i with g:=(v.mach i).got,got := -1,pl:=0 }) a.inn rfl g) (fun p _=>rfl) (by unfold fS;rw[c1,c2]) (fun hb=>absurd hb (a.nm (by decide))) (fun st => ?_)
 ·unfold fR;rw[hh',hho];simp[List.count_cons,Ne.symm hg]
 ·rw[fG_none lc.2.1 g0,fG_m,if_neg (show ¬(v.mach i).got=g from Ne.symm hg)]
 ·unfold fD;rw[if_neg (by rintro⟨h,_⟩;simp only at h;omega),if_neg (by rintro⟨_,h⟩;rw[hnd]at h;cases h)]
 ·have sR:=sm_set em a.hl (fR (v.mach i).got)
  have sG:=sm_set em a.hl (fG (v.mach i).got)
  have sD:=sm_set em a.hl (fD (v.mach i).got)
  have s29:=sm_same em a.hl (fK_both (m' := { v.mach i with g:=(v.mach i).got,got := -1,pl:=0 }) a.inn rfl (v.mach i).got).1
  have s30:=sm_same em a.hl (fK_both (m' := { v.mach i with g:=(v.mach i).got,got := -1,pl:=0 }) a.inn rfl (v.mach i).got).2
  have f2:fR (v.mach i).got { v.mach i with g:=(v.mach i).got,got := -1,pl:=0 } = 0:=by unfold fR;rw[hh'];rfl
  have f3:fG (v.mach i).got { v.mach i with g:=(v.mach i).got,got := -1,pl:=0 } = 1:=by unfold fG;rw[if_pos rfl]
  have f4:fG (v.mach i).got (v.mach i)=0:=fG_none lc.2.1 h0
  have f5:fD (v.mach i).got { v.mach i with g:=(v.mach i).got,got := -1,pl:=0 } = 0:=by unfold fD;rw[if_neg (by rintro⟨h,_⟩;simp only at h;omega)]
  dsimp only at f2 f3 f5 sR sG sD
  rw[f1,f2]at sR
  rw[f3,f4]at sG
  have eR:v2.cR (v.mach i).got=0:=by
   have:v2.qu=v.qu∧v2.rs=v.rs:=by rw[←hv];exact⟨rfl,rfl⟩
   unfold V.cR at hr ⊢
   rw[this.1,this.2];omega
  have eL:v2.cL (v.mach i).got=v.cL (v.mach i).got:=by rw[←hv];rfl
  have eW:v2.cW (v.mach i).got=v.cW (v.mach i).got:=by rw[←hv];rfl
  refine⟨by omega,by rw[st,eR];rfl,by rw[st,if_pos rfl];omega,?_⟩
  rw[st,if_neg (by decide),if_neg (by decide),eL,eW,s29,s30,z29,z30]
  omega
theorem pas_26(a:Bt n v i 26)(hn:n+1≤n'):Inv n' (v.pass i):=by
 have hp:=a.pl
 have lc:=(loc_26 hp).1 a.mo.l
 have e:v.pass i=(v.see ⟨1,(v.mach i).got,i,(v.mach i).p,0⟩).putM i { v.mach i with back:=25,pl:=27 }:=by
  have:v.pass i=(v.see ⟨1,(v.mach i).got,i,(v.mach i).p,0⟩).onM i fun m => { m with back:=25,pl:=27 }:=by simp[V.pass,hp]
  rw[this];rfl
 rw[e]
 obtain⟨h0,h1⟩:=lc.2.2.2.1
 have hd:(v.mach i).dlv=true:=by simp[Mh.dlv,hp]
 have hd':({ v.mach i with back:=25,pl:=27 }:Mh).dlv=false:=by simp[Mh.dlv]
 have hho:hol (v.mach i) = []:=by rw[hol,if_pos (.inr hd),lc.2.2.2.2.1];rfl
 have hh':hol { v.mach i with back:=25,pl:=27 } = [(v.mach i).got]:=by
  rw[hol,if_neg (by rw[hd'];simp;omega)];simp only;rw[lc.2.2.2.2.1];rfl
 have f1:fD (v.mach i).got (v.mach i)=1:=by unfold fD;rw[if_pos ⟨rfl,hd⟩]
 have o:=a.h.go _ h0 h1
 have dle:=fD_le (v:=v) a.hl (v.mach i).got
 have ho1:=o.o
 have hst:(v.stat (v.mach i).got=4∧v.cL (v.mach i).got=0∧v.cW (v.mach i).got=0∧v.sm (fD (v.mach i).got)=1)∨(v.stat (v.mach i).got=5∧v.cL (v.mach i).got=0∧v.cW (v.mach i).got=0∧v.sm (fD (v.mach i).got)=1):=by
  by_cases h4:v.stat (v.mach i).got=4
  ·rw[if_pos h4]at ho1;exact .inl ⟨h4,by omega,by omega,by omega⟩
  ·rw[if_neg h4]at ho1
   by_cases h5:v.stat (v.mach i).got=5
   ·rw[if_pos h5]at ho1;exact .inr ⟨h5,by omega,by omega,by omega⟩
   ·rw[if_neg h5]at ho1;omega
 have hst2:v.stat (v.mach i).got≠1∧v.stat (v.mach i).got≠2:=by rcases hst with h|h <;> omega
 have hr:=o.r
 rw[if_neg hst2.1]at hr
 have hn1:=o.n
 rw[if_neg hst2.2]at hn1
 have z29:v.sm (fK 29 (v.mach i).got)=0:=by
  have:=sum_two (fK 29 (v.mach i).got) (fK 30 (v.mach i).got) (fG (v.mach i).got) (fK_le _) v.mm
  unfold V.sm at hn1 ⊢
  omega
 have z30:v.sm (fK 30 (v.mach i).got)=0:=by
  have:=sum_two (fK 29 (v.mach i).got) (fK 30 (v.mach i).got) (fG (v.mach i).got) (fK_le _) v.mm
  unfold V.sm at hn1 ⊢
  omega
 have em:((v.see ⟨1,(v.mach i).got,i,(v.mach i).p,0⟩).putM i { v.mach i with back:=25,pl:=27 }).mm=v.mm.set i { v.mach i with back:=25,pl:=27 }:=rfl
 have c1:({ v.mach i with back:=25,pl:=27 }:Mh).claim=false:=by simp[Mh.claim]
 have c2:(v.mach i).claim=false:=by simp[Mh.claim,hp]
 generalize hv:(v.see ⟨1,(v.mach i).got,i,(v.mach i).p,0⟩).putM i { v.mach i with back:=25,pl:=27 } = v2 at em ⊢
 refine inv_see a.h hn a.hi (v.mach i).got 1 h0 h1 (ps_26 (m:=v.mach i) a.mo a.inn hp) em (by rw[←hv];exact⟨rfl,rfl,rfl,rfl,rfl,rfl,rfl,rfl⟩) (by rw[←hv];rfl) (by rw[←hv];rfl) (by rw[←hv];rfl) (by rw[←hv];exact List.length_append) rfl rfl rfl (fun e=>by rw[a.inn]at e;cases e) (fun g g0 hg => ?_) (fun g g0 hg=>rfl) (fun g g0 hg => ?_) (fun g g0 hg=>fK_both (m' := { v.mach i with back:=25,pl:=27 }) a.inn rfl g) (fun p _=>rfl) (by unfold fS;rw[c1,c2]) (fun hb=>absurd hb (a.nm (by decide))) (fun st => ?_)
 ·unfold fR;rw[hh',hho];simp[List.count_cons,Ne.symm hg]
 ·unfold fD;rw[if_neg (by rintro⟨_,h⟩;rw[hd']at h;cases h),if_neg (by rintro⟨h,_⟩;exact hg h.symm)]
 ·have sR:=sm_set em a.hl (fR (v.mach i).got)
  have sG:=sm_same em a.hl (show fG (v.mach i).got { v.mach i with back:=25,pl:=27 } = fG (v.mach i).got (v.mach i) from rfl)
  have sD:=sm_set em a.hl (fD (v.mach i).got)
  have s29:=sm_same em a.hl (fK_both (m' := { v.mach i with back:=25,pl:=27 }) a.inn rfl (v.mach i).got).1
  have s30:=sm_same em a.hl (fK_both (m' := { v.mach i with back:=25,pl:=27 }) a.inn rfl (v.mach i).got).2
  have f2:fR (v.mach i).got { v.mach i with back:=25,pl:=27 } = 1:=by unfold fR;rw[hh'];simp
  have f3:fR (v.mach i).got (v.mach i)=0:=by unfold fR;rw[hho];rfl
  have f5:fD (v.mach i).got { v.mach i with back:=25,pl:=27 } = 0:=by unfold fD;rw[if_neg (by rintro⟨_,h⟩;rw[hd']at h;cases h)]
  dsimp only at f2 f5 sR sD
  rw[f2,f3]at sR
  rw[f1,f5]at sD
  have eR:v2.cR (v.mach i).got=1:=by
   have:v2.qu=v.qu∧v2.rs=v.rs:=by rw[←hv];exact⟨rfl,rfl⟩
   unfold V.cR at hr ⊢
   rw[this.1,this.2];omega
  have eL:v2.cL (v.mach i).got=v.cL (v.mach i).got:=by rw[←hv];rfl
  have eW:v2.cW (v.mach i).got=v.cW (v.mach i).got:=by rw[←hv];rfl
  refine⟨by omega,by rw[st,eR];rfl,by rw[st,if_neg (by decide),sG];exact hn1,?_⟩
  rw[st,if_neg (by decide),if_neg (by decide),eL,eW,s29,s30,z29,z30]
  rcases hst with h|h <;> omega
theorem runs0(a:Bt n v i 0):0≤(v.mach i).g∧(v.mach i).g<v.G∧v.stat (v.mach i).g=2∧v.sm (fG (v.mach i).g)=1∧v.cR (v.mach i).g=0∧v.sm (fD (v.mach i).g)=0∧v.cL (v.mach i).g=0∧v.cW (v.mach i).g=0:=by
 have lc:=(loc_0 a.pl).1 a.mo.l
 obtain⟨r1,r2,r3,r4,r5,r6⟩:=runs a.h a.hi lc.2.1.1 lc.2.1.2
 have z:∀ k,(k=29∨k=30)→v.sm (fK k (v.mach i).g)=0:=fun k hk=>by
  have s:=sm_set (v:=v) (v':=v.putM i (Mh.fresh 0 0)) rfl a.hl (fG (v.mach i).g)
  have s2:=sm_set (v:=v) (v':=v.putM i (Mh.fresh 0 0)) rfl a.hl (fK k (v.mach i).g)
  have e1:fG (v.mach i).g (v.mach i)=1:=by unfold fG;rw[if_pos rfl]
  have e2:fG (v.mach i).g (Mh.fresh 0 0)=0:=fG_none rfl lc.2.1.1
  have e3:fK k (v.mach i).g (v.mach i)=0:=fK_no a.inn _ _
  have e4:fK k (v.mach i).g (Mh.fresh 0 0)=0:=fK_no rfl _ _
  have:=sum_two (fK 29 (v.mach i).g) (fK 30 (v.mach i).g) (fG (v.mach i).g) (fK_le _) (v.putM i (Mh.fresh 0 0)).mm
  have h1:(v.putM i (Mh.fresh 0 0)).sm (fG (v.mach i).g)=0:=by omega
  unfold V.sm at h1 s2 ⊢
  rcases hk with rfl|rfl <;> omega
 rw[z 29 (.inl rfl)]at r5
 rw[z 30 (.inr rfl)]at r6
 exact⟨lc.2.1.1,lc.2.1.2,r1,r2,r3,r4,r5,r6⟩
theorem inv_stop(a:Bt n v i 0)(hn:n+1≤n')(k x:Int)(hx:x=evTo k)(hx':x=1∨x=3∨x=6)(hm:Mok v.P v.M v.G m')(b:m'.inn=(v.mach i).inn∧m'.sn=(v.mach i).sn∧m'.tk=(v.mach i).tk∧m'.g = -1∧m'.rest=(v.mach i).rest∧m'.p=(v.mach i).p∧m'.nx=(v.mach i).nx∧m'.spin=(v.mach i).spin)(hg:m'.got=if x=1 then (v.mach i).g else -1)(hpl:m'.pl≠23∧m'.pl≠25∧m'.pl≠26):Inv n' ((v.see ⟨k,(v.mach i).g,i,(v.mach i).p,0⟩).putM i m'):=by
 have hp:=a.pl
 have lc:=(loc_0 hp).1 a.mo.l
 obtain⟨h0,h1,r1,r2,r3,r4,r5,r6⟩:=runs0 a
 obtain⟨b1,b2,b3,b4,b5,b6,b7,b8⟩:=b
 have em:((v.see ⟨k,(v.mach i).g,i,(v.mach i).p,0⟩).putM i m').mm=v.mm.set i m':=rfl
 have c1:m'.claim=false:=by unfold Mh.claim;rw[decide_eq_false hpl.1];rfl
 have c2:(v.mach i).claim=false:=by simp[Mh.claim,hp]
 have hd:(v.mach i).dlv=false:=by simp[Mh.dlv,hp]
 have hd':m'.dlv=false:=decide_eq_false (by omega)
 have hho:hol (v.mach i) = []:=hol_none lc.2.2.1 lc.2.2.2.1
 have hh':hol m'=if x=1 then [(v.mach i).g] else []:=by
  unfold hol
  rw[b5,lc.2.2.2.1,hd',hg]
  by_cases h:x=1
  ·rw[if_pos h,if_pos h,if_neg (by simp;omega)];rfl
  ·rw[if_neg h,if_neg h];rfl
 generalize hv:(v.see ⟨k,(v.mach i).g,i,(v.mach i).p,0⟩).putM i m'=v2 at em ⊢
 refine inv_see a.h hn a.hi (v.mach i).g x h0 h1 hm em (by rw[←hv];exact⟨rfl,rfl,rfl,rfl,rfl,rfl,rfl,rfl⟩) (by rw[←hv,hx];rfl) (by rw[←hv,hx];rfl) (by rw[←hv];rfl) (by rw[←hv];exact List.length_append) b1 b2 b3 (fun e=>by rw[a.inn]at e;cases e) (fun g g0 hgg => ?_) (fun g g0 hgg => ?_) (fun g g0 hgg => ?_) (fun g g0 hgg=>fK_both a.inn b1 g) (fun p _=>by unfold fP;rw[b6,b7]) (by unfold fS;rw[c1,c2,b7,b8]) (fun hb=>absurd hb (a.nm (by decide))) (fun st => ?_)
 ·unfold fR;rw[hh',hho]
  split
  ·simp[List.count_cons,Ne.symm hgg]
  ·rfl
 ·rw[fG_none b4 g0,fG_m,if_neg (Ne.symm hgg)]
 ·unfold fD;rw[if_neg (by rintro⟨_,h⟩;rw[hd']at h;cases h),if_neg (by rintro⟨_,h⟩;rw[hd]at h;cases h)]
 ·have sR:=sm_set em a.hl (fR (v.mach i).g)
  have sG:=sm_set em a.hl (fG (v.mach i).g)
  have sD:=sm_same em a.hl (show fD (v.mach i).g m'=fD (v.mach i).g (v.mach i) by unfold fD;rw[if_neg (by rintro⟨_,h⟩;rw[hd']at h;cases h),if_neg (by rintro⟨_,h⟩;rw[hd]at h;cases h)])
  have s29:=sm_same em a.hl (fK_both a.inn b1 (v.mach i).g).1
  have s30:=sm_same em a.hl (fK_both a.inn b1 (v.mach i).g).2
  have f2:fR (v.mach i).g m'=if x=1 then 1 else 0:=by unfold fR;rw[hh'];split <;> simp
  have f3:fR (v.mach i).g (v.mach i)=0:=by unfold fR;rw[hho];rfl
  have f4:fG (v.mach i).g (v.mach i)=1:=by unfold fG;rw[if_pos rfl]
  rw[f2,f3]at sR
  rw[fG_none b4 h0,f4]at sG
  have eR:v2.cR (v.mach i).g=if x=1 then 1 else 0:=by
   have:v2.qu=v.qu∧v2.rs=v.rs:=by rw[←hv];exact⟨rfl,rfl⟩
   unfold V.cR at r3 ⊢
   rw[this.1,this.2];omega
  have eL:v2.cL (v.mach i).g=v.cL (v.mach i).g:=by rw[←hv];rfl
  have eW:v2.cW (v.mach i).g=v.cW (v.mach i).g:=by rw[←hv];rfl
  have z:=sum_two (fK 29 (v.mach i).g) (fK 30 (v.mach i).g) (fG (v.mach i).g) (fK_le _) v2.mm
  have hG0:v2.sm (fG (v.mach i).g)=0:=by omega
  have z29:v2.sm (fK 29 (v.mach i).g)=0:=by unfold V.sm at hG0 ⊢;omega
  have z30:v2.sm (fK 30 (v.mach i).g)=0:=by unfold V.sm at hG0 ⊢;omega
  refine⟨by rw[st];omega,by rw[st,eR],by rw[st,if_neg (by omega),hG0],?_⟩
  rw[st,if_neg (by omega),if_neg (by omega),eL,eW,z29,z30,sD]
  exact⟨r4,r5,r6⟩
theorem leave_onM(hl:i<v.mm.length)(k x:Int)(f:Mh→Mh):(v.leave i k x).onM i f=(v.see ⟨k,(v.mach i).g,i,(v.mach i).p,x⟩).putM i (f { v.mach i with g := -1 }):=by
 unfold V.leave
 exact onM2 (v:=v.see ⟨k,(v.mach i).g,i,(v.mach i).p,x⟩) hl _ f
theorem inv_bring(a:Bt n v i 0)(hn:n+1≤n')(k g f:Int)(hk:evTo k=1)(hf:f=0∨f=3):Inv n' (v.bring i k g f).1:=by
 have hp:=a.pl
 have lc:=(loc_0 hp).1 a.mo.l
 unfold V.bring
 by_cases hc:g<0∨v.G≤g∨v.stat g≠f
 ·rw[if_pos hc];exact a.h.mono (by omega)
 rw[if_neg hc]
 have h0:0≤g:=by omega
 have h1:g<v.G:=by omega
 have hst:v.stat g=f:=by
  by_cases h:v.stat g=f
  ·exact h
  ·exact absurd (.inr (.inr h)) hc
 have o:=a.h.go g h0 h1
 have hr:=o.r
 rw[if_neg (by omega)]at hr
 have hn1:=o.n
 rw[if_neg (by omega)]at hn1
 have ho1:=o.o
 rw[if_neg (by omega),if_neg (by omega)]at ho1
 show Inv n' ((v.see ⟨k,g,i,(v.mach i).p,0⟩).putM i { v.mach i with got:=g,pl:=28 })
 have em:((v.see ⟨k,g,i,(v.mach i).p,0⟩).putM i { v.mach i with got:=g,pl:=28 }).mm=v.mm.set i { v.mach i with got:=g,pl:=28 }:=rfl
 have c1:({ v.mach i with got:=g,pl:=28 }:Mh).claim=false:=by simp[Mh.claim]
 have c2:(v.mach i).claim=false:=by simp[Mh.claim,hp]
 have hd:(v.mach i).dlv=false:=by simp[Mh.dlv,hp]
 have hd':({ v.mach i with got:=g,pl:=28 }:Mh).dlv=false:=by simp[Mh.dlv]
 have hho:hol (v.mach i) = []:=hol_none lc.2.2.1 lc.2.2.2.1
 have hh':hol { v.mach i with got:=g,pl:=28 } = [g]:=by
  rw[hol,if_neg (by rw[hd'];simp;omega)];simp only;rw[lc.2.2.2.1];rfl
 generalize hv:(v.see ⟨k,g,i,(v.mach i).p,0⟩).putM i { v.mach i with got:=g,pl:=28 } = v2 at em ⊢
 have fD0:∀ q,fD q { v.mach i with got:=g,pl:=28 } = fD q (v.mach i):=fun q=>by
  unfold fD;rw[if_neg (by rintro⟨_,h⟩;rw[hd']at h;cases h),if_neg (by rintro⟨_,h⟩;rw[hd]at h;cases h)]
 refine inv_see a.h hn a.hi g 1 h0 h1 (ac_4 (m:=v.mach i) a.mo a.inn hp g ⟨h0,h1⟩) em (by rw[←hv];exact⟨rfl,rfl,rfl,rfl,rfl,rfl,rfl,rfl⟩) (by rw[←hv, ←hk];rfl) (by rw[←hv, ←hk];rfl) (by rw[←hv];rfl) (by rw[←hv];exact List.length_append) rfl rfl rfl (fun e=>by rw[a.inn]at e;cases e) (fun q q0 hq => ?_) (fun q q0 hq=>rfl) (fun q q0 hq=>fD0 q) (fun q q0 hq=>fK_both (m' := { v.mach i with got:=g,pl:=28 }) a.inn rfl q) (fun p _=>rfl) (by unfold fS;rw[c1,c2]) (fun hb=>absurd hb (a.nm (by decide))) (fun st => ?_)
 ·unfold fR;rw[hh',hho];simp[List.count_cons,Ne.symm hq]
 ·have sR:=sm_set em a.hl (fR g)
  have sG:=sm_same em a.hl (show fG g { v.mach i with got:=g,pl:=28 } = fG g (v.mach i) from rfl)
  have sD:=sm_same em a.hl (fD0 g)
  have s29:=sm_same em a.hl (fK_both (m' := { v.mach i with got:=g,pl:=28 }) a.inn rfl g).1
  have s30:=sm_same em a.hl (fK_both (m' := { v.mach i with got:=g,pl:=28 }) a.inn rfl g).2
  have f2:fR g { v.mach i with got:=g,pl:=28 } = 1:=by unfold fR;rw[hh'];simp
  have f3:fR g (v.mach i)=0:=by unfold fR;rw[hho];rfl
  dsimp only at f2 sR
  rw[f2,f3]at sR
  have eR:v2.cR g=1:=by
   have:v2.qu=v.qu∧v2.rs=v.rs:=by rw[←hv];exact⟨rfl,rfl⟩
   unfold V.cR at hr ⊢
   rw[this.1,this.2];omega
  have eL:v2.cL g=v.cL g:=by rw[←hv];rfl
  have eW:v2.cW g=v.cW g:=by rw[←hv];rfl
  refine⟨by omega,by rw[st,eR];rfl,by rw[st,if_neg (by decide),sG];exact hn1,?_⟩
  rw[st,if_neg (by decide),if_neg (by decide),eL,eW,s29,s30,sD]
  exact ho1
theorem inv_act(a:Bt n v i 0)(hn:n+1≤n')(s:St):Inv n' (v.act i s).1:=by
 have hp:=a.pl
 have lc:=(loc_0 hp).1 a.mo.l
 unfold V.act
 split
 ·exact a.h.mono (by omega)
 split
 ·have e:((v.onM i fun m => { m with got:=m.g }).leave i 3 0).onM i (fun m => { m with back:=1,pl:=27 })=(v.see ⟨3,(v.mach i).g,i,(v.mach i).p,0⟩).putM i { v.mach i with got:=(v.mach i).g,g := -1,back:=1,pl:=27 }:=by
   have hl:=a.hl
   rw[leave_onM (v:=v.onM i fun m => { m with got:=m.g }) (by show i<(v.mm.set i _).length;rw[List.length_set];exact hl)]
   rw[mach_onM hl]
   unfold V.putM V.see V.both V.onM V.putM
   simp only[List.set_set]
   rfl
  show Inv n' (((v.onM i fun m => { m with got:=m.g }).leave i 3 0).onM i fun m => { m with back:=1,pl:=27 })
  rw[e]
  exact inv_stop a hn 3 1 rfl (.inl rfl) (ac_1 (m:=v.mach i) a.mo a.inn hp) ⟨rfl,rfl,rfl,rfl,rfl,rfl,rfl,rfl⟩ rfl (by show (27:Int)≠23∧(27:Int)≠25∧(27:Int)≠26;decide)
 split
 ·show Inv n' ((v.leave i 4 0).onM i fun m => { m with pl:=1 })
  rw[leave_onM a.hl]
  exact inv_stop a hn 4 3 rfl (.inr (.inl rfl)) (ac_2 (m:=v.mach i) a.mo a.inn hp) ⟨rfl,rfl,rfl,rfl,rfl,rfl,rfl,rfl⟩ lc.2.2.1 (by show (1:Int)≠23∧(1:Int)≠25∧(1:Int)≠26;decide)
 split
 ·show Inv n' ((v.leave i 7 0).onM i fun m => { m with pl:=1 })
  rw[leave_onM a.hl]
  exact inv_stop a hn 7 6 rfl (.inr (.inr rfl)) (ac_2 (m:=v.mach i) a.mo a.inn hp) ⟨rfl,rfl,rfl,rfl,rfl,rfl,rfl,rfl⟩ lc.2.2.1 (by show (1:Int)≠23∧(1:Int)≠25∧(1:Int)≠26;decide)
 split
 ·exact inv_bring a hn 0 s.x 0 rfl (.inl rfl)
 split
 ·exact inv_bring a hn 1 s.x 3 rfl (.inr rfl)
 split
 ·exact inv_P a (by omega) (by decide) (ac_6 (m:=v.mach i) a.mo a.inn hp s.d) ⟨rfl,rfl,rfl,rfl,rfl,rfl,rfl,rfl⟩ (.inl lc.2.2.1) (by
   have c1:({ v.mach i with arg:=s.d,pl:=29 }:Mh).claim=false:=by simp[Mh.claim]
   have c2:(v.mach i).claim=false:=by simp[Mh.claim,hp]
   unfold fS;rw[c1,c2])
 split
 ·split
  ·rename_i hx
   exact inv_P a (by omega) (by decide) (ac_7 (m:=v.mach i) a.mo a.inn hp s.x hx) ⟨rfl,rfl,rfl,rfl,rfl,rfl,rfl,rfl⟩ (.inl lc.2.2.1) (by
    have c1:({ v.mach i with arg:=s.x,pl:=30 }:Mh).claim=false:=by simp[Mh.claim]
    have c2:(v.mach i).claim=false:=by simp[Mh.claim,hp]
    unfold fS;rw[c1,c2])
  ·exact a.h.mono (by omega)
 ·exact a.h.mono (by omega)
end
section
variable {n n':Nat}{v v':V}{i:Nat}{m':Mh}
theorem Wk.gen(w:Wk v)(e:v'.mm=v.mm.set i m')(hl:i<v.mm.length)(hi:i<v.M)(eM:v'.M=v.M)(en:∀ a:Nat,a<v.M→v'.ns.getD (v'.nts+a) 0=v.ns.getD (v.nts+a) 0)(hmb:∀ a:Nat,memb v' a→memb v a)(tg:m'.tg=(v.mach i).tg∨m'.tg = -1)(nx:m'.nx=(v.mach i).nx)(id:v.ns.getD (v.nts+i) 0≠0→(v.mach i).idl=true→m'.idl=true):Wk v':=by
 have ms:=mach_set e hl
 have et:∀ a,(v'.mach a).tg=(v.mach a).tg∨(v'.mach a).tg = -1:=fun a=>by
  rw[ms a]
  by_cases ha:a=i
  ·rw[if_pos ha,ha];exact tg
  ·rw[if_neg ha];exact .inl rfl
 have ex:∀ a,(v'.mach a).nx=(v.mach a).nx:=fun a=>by
  rw[ms a]
  by_cases ha:a=i
  ·rw[if_pos ha,ha];exact nx
  ·rw[if_neg ha]
 refine⟨fun a ha hn => ?_,fun j hj ht => ?_,fun j l hj hk hne ht => ?_⟩
 ·rw[eM]at ha
  rw[en a ha]at hn
  obtain⟨c1,c2,c3⟩:=w.nt a ha hn
  refine⟨?_,fun h=>c2 (hmb a h),fun j hj => ?_⟩
  ·rw[ms a]
   by_cases hai:a=i
   ·rw[if_pos hai];subst hai;exact id hn c1
   ·rw[if_neg hai];exact c1
  ·rw[eM]at hj
   rcases et j with h|h
   ·rw[h];exact c3 j hj
   ·rw[h];omega
 ·rw[eM]at hj ⊢
  rcases et j with h|h
  ·rw[h]at ht ⊢
   obtain⟨t,t1,t2,t3,t4⟩:=w.tg j hj ht
   exact⟨t,t1,t2,by rw[ex];exact t3,fun hh=>t4 (hmb t hh)⟩
  ·exact absurd h ht
 ·rw[eM]at hj hk
  rcases et j with h|h
  ·rw[h]at ht ⊢
   rcases et l with h2|h2
   ·rw[h2];exact w.ne j l hj hk hne ht
   ·rw[h2];exact ht
  ·exact absurd h ht
theorem idl_of{m:Mh}(h:m.aft=false)(hp:m.pl≠14∧m.pl≠15∧m.pl≠16):m.idl=false:=by simp[Mh.idl,h,hp]
theorem wk_do(a:Inv n v)(w:Wk v)(hi:i<v.M)(hin:(v.mach i).inn=true)(hs:(v.mach i).st=2):Wk (v.sect i):=by
 have hl:i<v.mm.length:=by rw[a.ln.1];exact hi
 have e:v.sect i=(v.with' i (v.mach i).tm).1.onM i fun m=>fin m (v.with' i (v.mach i).tm).2:=by
  unfold V.sect
  rw[if_neg (by omega),if_neg (by omega),if_pos hs]
  rfl
 have af:(v.mach i).aft=false:=by simp[Mh.aft,hs]
 rw[e]
 have hmo:=a.mo i hi
 have hlk:=(hmo.s.si hin).2.1
 have hk:(v.mach i).pl=2∨(v.mach i).pl=3∨(v.mach i).pl=4∨(v.mach i).pl=6∨(v.mach i).pl=7∨(v.mach i).pl=9∨(v.mach i).pl=10∨(v.mach i).pl=11∨(v.mach i).pl=13∨(v.mach i).pl=14∨(v.mach i).pl=15∨(v.mach i).pl=17∨(v.mach i).pl=18∨(v.mach i).pl=23∨(v.mach i).pl=25∨(v.mach i).pl=27∨(v.mach i).pl=28∨(v.mach i).pl=29∨(v.mach i).pl=30:=by
  by_cases hc:Mh.cls (v.mach i).pl=0
  ·unfold Mh.lock at hlk;rw[hc]at hlk;simp at hlk
  ·unfold Mh.cls at hc;grind
 -- one world,its components changed,a machine's target and what it is given as they were
 have G:∀(u:V) (f:Mh→Mh) (b:Bool),u.mm=v.mm→u.M=v.M→u.P=v.P→u.ns=v.ns→(∀ q:Nat,memb u q→memb v q)→(f (v.mach i)).tg=(v.mach i).tg→(f (v.mach i)).nx=(v.mach i).nx→(v.ns.getD (v.nts+i) 0≠0→(v.mach i).idl=true→(fin (f (v.mach i)) b).idl=true)→Wk ((u.onM i f).onM i fun m=>fin m b):=fun u f b e1 e2 e3 e4 e5 e6 e7 e8=>by
  rw[onM2 (by rw[e1];exact hl)]
  have em:(u.onM i fun m=>fin (f m) b).mm=v.mm.set i (fin (f (v.mach i)) b):=by
   show u.mm.set i (fin (f (u.mach i)) b)=_
   rw[show u.mach i=v.mach i by unfold V.mach;rw[e1],e1]
  refine w.gen em hl hi e2 (fun q hq => ?_) (fun q hq=>e5 q hq) (.inl e6) e7 e8
  show u.ns.getD ((u.onM i fun m=>fin (f m) b).nts+q) 0=_
  rw[e4,show (u.onM i fun m=>fin (f m) b).nts=v.nts by show 2*(u.P+2)+1=_;rw[e3];rfl]
 have N:((v.mach i).pl≠14∧(v.mach i).pl≠15∧(v.mach i).pl≠16) → ∀ q:Bool,v.ns.getD (v.nts+i) 0≠0→(v.mach i).idl=true→q=true:=fun h q _ h2=>by rw[idl_of af h]at h2;cases h2
 have gt:∀(m:Mh) r,(m.get r).tg=m.tg∧(m.get r).nx=m.nx:=fun m r=>by obtain⟨x,_|_⟩:=r <;> exact⟨rfl,rfl⟩
 have gh:∀(m:Mh) r,(m.hold r).tg=m.tg∧(m.hold r).nx=m.nx:=fun m r=>by obtain⟨x,_|_⟩:=r <;> exact⟨rfl,rfl⟩
 have ga:∀(m:Mh) l,(m.getAll l).tg=m.tg∧(m.getAll l).nx=m.nx:=fun m l=>by rcases l with _|⟨x,l⟩ <;> exact⟨rfl,rfl⟩
 rcases hk with hp|hp|hp|hp|hp|hp|hp|hp|hp|hp|hp|hp|hp|hp|hp|hp|hp|hp|hp
 ·rw[show v.with' i (v.mach i).tm=(v.one.2.onM i (·.get v.one.1),false) by simp[V.with',hp]]
  have ho:v.one.2.mm=v.mm∧v.one.2.M=v.M∧v.one.2.P=v.P∧v.one.2.ns=v.ns∧v.one.2.id=v.id:=by unfold V.one;split <;> exact⟨rfl,rfl,rfl,rfl,rfl⟩
  exact G _ _ _ ho.1 ho.2.1 ho.2.2.1 ho.2.2.2.1 (fun q hq=>by unfold memb at hq ⊢;rw[ho.2.2.2.2]at hq;exact hq) (gt _ _).1 (gt _ _).2 (N (by omega) _)
 ·rw[show v.with' i (v.mach i).tm=((v.putR (v.mach i).p.toNat (v.ring (v.mach i).p.toNat).get.2).onM i (·.get (v.ring (v.mach i).p.toNat).get.1),false) by simp[V.with',hp]]
  exact G _ _ _ rfl rfl rfl rfl (fun q hq=>hq) (gt _ _).1 (gt _ _).2 (N (by omega) _)
 ·rw[show v.with' i (v.mach i).tm=(v.takeQ.2.onM i (·.getAll v.takeQ.1),false) by simp[V.with',hp]]
  exact G _ _ _ rfl rfl rfl rfl (fun q hq=>hq) (ga _ _).1 (ga _ _).2 (N (by omega) _)
 ·rw[show v.with' i (v.mach i).tm=((v.putR (((v.mach i).p+(v.mach i).i) % (v.P:Int)).toNat (v.ring (((v.mach i).p+(v.mach i).i) % (v.P:Int)).toNat).steal.2).onM i (·.getAll (v.ring (((v.mach i).p+(v.mach i).i) % (v.P:Int)).toNat).steal.1),false) by simp[V.with',hp]]
  exact G _ _ _ rfl rfl rfl rfl (fun q hq=>hq) (ga _ _).1 (ga _ _).2 (N (by omega) _)
 ·rw[show v.with' i (v.mach i).tm=(v.release i,false) by simp[V.with',hp]]
  rcases hq:v.qu.take v.share with _|⟨x,l⟩
  ·rw[release_nil hl hq]
   refine G ((v.putQ (v.qu.drop v.share)).putI (v.id.putP (v.mach i).p)) _ _ rfl rfl rfl rfl (fun q hq => ?_) rfl rfl (N (by omega) _)
   have:(v.id.putP (v.mach i).p).ss=v.id.ss∧(v.id.putP (v.mach i).p).po=v.id.po:=by unfold IV.putP;split <;> exact⟨rfl,rfl⟩
   unfold memb at hq ⊢
   rw[show ((v.putQ (v.qu.drop v.share)).putI (v.id.putP (v.mach i).p)).id=v.id.putP (v.mach i).p from rfl,this.1,this.2]at hq
   exact hq
  ·rw[release_cons hl hq]
   exact G _ _ _ rfl rfl rfl rfl (fun q hq=>hq) (ga _ _).1 (ga _ _).2 (N (by omega) _)
 ·rw[show v.with' i (v.mach i).tm=(v.onM i fun m => { m with yes:=decide (0<(v.ring m.i.toNat).list.length) },false) by simp[V.with',hp]]
  exact G v _ _ rfl rfl rfl rfl (fun q hq=>hq) rfl rfl (N (by omega) _)
 ·rw[show v.with' i (v.mach i).tm=(v.onM i fun m => { m with yes:=decide (0<v.qu.length) },false) by simp[V.with',hp]]
  exact G v _ _ rfl rfl rfl rfl (fun q hq=>hq) rfl rfl (N (by omega) _)
 ·rw[show v.with' i (v.mach i).tm=((v.putI v.id.takeP.2).onM i (·.hold v.id.takeP.1),false) by simp[V.with',hp]]
  refine G (v.putI v.id.takeP.2) _ _ rfl rfl rfl rfl (fun q hq => ?_) (gh _ _).1 (gh _ _).2 (N (by omega) _)
  have:v.id.takeP.2.ss=v.id.ss∧v.id.takeP.2.po=v.id.po:=by unfold IV.takeP;split <;> exact⟨rfl,rfl⟩
  unfold memb at hq ⊢
  rw[show (v.putI v.id.takeP.2).id=v.id.takeP.2 from rfl,this.1,this.2]at hq
  exact hq
 ·have lc := (loc_13 hp).1 hmo.l
  simp only[af,Bool.false_and,Bool.false_eq_true,if_false]at lc
  have hnx:(v.mach i).nx = -1:=by simpa using lc.2.2.2.2.2.1
  rw[show v.with' i (v.mach i).tm=(v.stop i,false) by simp[V.with',hp]]
  rcases hq:v.id.pd with _|⟨q,l⟩
  ·have e2 : v.stop i=(v.putI (v.id.stop v.M i).2).onM i fun m => { m with yes:=(v.id.stop v.M i).1 }:=by simp[V.stop,IV.takePend,hq]
   rw[e2]
   have hmb:∀ q:Nat,memb (v.putI (v.id.stop v.M i).2) q→memb v q∨q=i:=fun q hq=>by
    unfold memb at hq ⊢
    rw[show (v.putI (v.id.stop v.M i).2).id=(v.id.stop v.M i).2 from rfl]at hq
    unfold IV.stop at hq
    split at hq
    ·exact .inl hq
    ·split at hq
     ·rcases hq with hq|hq
      ·exact .inl (.inl hq)
      ·exact .inr (by simp only at hq;omega)
     ·rcases hq with hq|hq
      ·rcases List.mem_append.1 hq with h|h
       ·exact .inl (.inl h)
       ·exact .inr (by have:=List.mem_singleton.1 h;omega)
      ·exact .inl (.inr hq)
   have n0:v.ns.getD (v.nts+i) 0=0:=by
    by_cases h:v.ns.getD (v.nts+i) 0=0
    ·exact h
    ·have:=(w.nt i hi h).1
     rw[idl_of af (by omega)]at this;cases this
   dsimp only
   rw[onM2 (v:=v.putI (v.id.stop v.M i).2) hl]
   have em:((v.putI (v.id.stop v.M i).2).onM i fun m=>fin { m with yes:=(v.id.stop v.M i).1 } false).mm=v.mm.set i (fin { v.mach i with yes:=(v.id.stop v.M i).1 } false):=rfl
   generalize hv:((v.putI (v.id.stop v.M i).2).onM i fun m=>fin { m with yes:=(v.id.stop v.M i).1 } false)=v2 at em ⊢
   have ms:=mach_set em hl
   have eM:v2.M=v.M:=by rw[←hv];rfl
   have en:∀ q:Nat,v2.ns.getD (v2.nts+q) 0=v.ns.getD (v.nts+q) 0:=fun q=>by rw[←hv];rfl
   have hmb':∀ q:Nat,memb v2 q→memb v q∨q=i:=fun q hq=>hmb q (by rw[←hv]at hq;exact hq)
   have et:∀ q,(v2.mach q).tg=(v.mach q).tg∧(v2.mach q).nx=(v.mach q).nx:=fun q=>by
    rw[ms q]
    by_cases hqi:q=i
    ·rw[if_pos hqi,hqi];exact⟨rfl,rfl⟩
    ·rw[if_neg hqi];exact⟨rfl,rfl⟩
   refine⟨fun q hq' hn => ?_,fun j hj ht => ?_,fun j l' hj hk hne ht => ?_⟩
   ·rw[eM]at hq'
    rw[en]at hn
    have hqi:q≠i:=fun e=>by rw[e]at hn;exact hn n0
    obtain⟨c1,c2,c3⟩:=w.nt q hq' hn
    exact⟨by rw[ms q,if_neg hqi];exact c1,fun h=>(hmb' q h).elim c2 hqi,fun j hj=>by rw[eM]at hj;rw[(et j).1];exact c3 j hj⟩
   ·rw[eM]at hj ⊢
    rw[(et j).1]at ht ⊢
    obtain⟨t,t1,t2,t3,t4⟩:=w.tg j hj ht
    have hti:t≠i:=fun e=>by rw[e]at t3;exact t3 hnx
    exact⟨t,t1,t2,by rw[(et t).2];exact t3,fun h=>(hmb' t h).elim t4 hti⟩
   ·rw[eM]at hj hk
    rw[(et j).1]at ht ⊢
    rw[(et l').1]
    exact w.ne j l' hj hk hne ht
  ·have e2:v.stop i=(v.putI { v.id with pd:=l }).onM i fun m => { m with p:=q,spin:=true }:=by simp[V.stop,IV.takePend,hq]
   rw[e2]
   exact G (v.putI { v.id with pd:=l }) _ _ rfl rfl rfl rfl (fun q hq=>hq) rfl rfl (N (by omega) _)
 ·rw[show v.with' i (v.mach i).tm=(v.onM i fun m => { m with yes:=v.sr.due },false) by simp[V.with',hp]]
  exact G v _ _ rfl rfl rfl rfl (fun q hq=>hq) rfl rfl (fun _ _=>by simp[Mh.idl,fin,hp])
 ·rw[show v.with' i (v.mach i).tm=((v.putI (v.id.leave i).2).onM i fun m => { m with yes:=(v.id.leave i).1 },false) by simp[V.with',hp]]
  by_cases hpo:(i:Int)=v.id.po
  ·have er:v.id.leave i=(true, { v.id with po := -1 }):=by unfold IV.leave;rw[if_neg (by omega)]
   rw[er]
   refine G (v.putI { v.id with po := -1 }) _ _ rfl rfl rfl rfl (fun q hq => ?_) rfl rfl (fun h _=>absurd (.inr hpo) (w.nt i hi h).2.1)
   rcases hq with hq|hq
   ·exact .inl hq
   ·have:(q:Int) = -1:=hq;omega
  ·have er:v.id.leave i=(false,v.id):=by unfold IV.leave;rw[if_pos (by omega)]
   rw[er]
   exact G (v.putI v.id) _ _ rfl rfl rfl rfl (fun q hq=>hq) rfl rfl (fun _ _=>by simp[Mh.idl,fin,hp])
 ·rw[show v.with' i (v.mach i).tm=((v.putR (v.mach i).p.toNat ((v.ring (v.mach i).p.toNat).putAll (v.mach i).rest).2).onM i fun m => { m with rest:=((v.ring (v.mach i).p.toNat).putAll (v.mach i).rest).1 },false) by simp[V.with',V.give,hp]]
  exact G _ _ _ rfl rfl rfl rfl (fun q hq=>hq) rfl rfl (N (by omega) _)
 ·rw[show v.with' i (v.mach i).tm=((v.putQ (v.qu ++ (v.mach i).rest)).onM i fun m => { m with rest := [] },false) by simp[V.with',V.give,hp]]
  exact G _ _ _ rfl rfl rfl rfl (fun q hq=>hq) rfl rfl (N (by omega) _)
 ·have lc := (loc_23 hp).1 hmo.l
  simp only[af,Bool.false_eq_true,if_false]at lc
  have nm:¬memb v i:=fun hb=>by have:=(a.id.mb i hi hb).2;rw[idl_of af (by omega)]at this;cases this
  have n0:v.ns.getD (v.nts+i) 0=0:=by
   by_cases h:v.ns.getD (v.nts+i) 0=0
   ·exact h
   ·have:=(w.nt i hi h).1
    rw[idl_of af (by omega)]at this;cases this
  rw[show v.with' i (v.mach i).tm=v.find i (v.mach i).tm by simp[V.with',V.give,hp]]
  by_cases htm:0<(v.mach i).tm
  ·rw[show v.find i (v.mach i).tm=(v.spin (-1),false) by unfold V.find;rw[if_pos htm]]
   have em:((v.spin (-1)).onM i fun m=>fin m false).mm=v.mm.set i (fin (v.mach i) false):=rfl
   refine w.gen em hl hi rfl (fun q hq => ?_) (fun q hq=>hq) (.inl rfl) rfl (N (by omega) _)
   show (v.ns.set v.spn _).getD (v.nts+q) 0=_
   rw[getD_set,if_neg (by unfold V.nts;omega)]
  ·rcases hq:fst v.id.ps with _|k
   ·rw[show v.find i (v.mach i).tm=(v,true) by unfold V.find;rw[if_neg htm];simp[IV.takeP,hq]]
    exact w.gen (m':=fin (v.mach i) true) rfl hl hi rfl (fun q hq=>rfl) (fun q hq=>hq) (.inl rfl) rfl (N (by omega) _)
   ·have eP:v.id.takeP=(((k:Int),true), { v.id with ps:=v.id.ps.set k false }):=by unfold IV.takeP;rw[hq]
    obtain⟨⟨t,b⟩,y,hT⟩:∃ r y,({ v.id with ps:=v.id.ps.set k false }:IV).takeM=(r,y):=⟨_,_,rfl⟩
    rcases b with _|_
    ·obtain⟨ey,es,epo⟩:=takeM_none hT
     have e2:v.find i (v.mach i).tm=(v.putI (({ v.id with ps:=v.id.ps.set k false }:IV).pend k),false):=by
      unfold V.find
      rw[if_neg htm,eP]
      simp only[hT,if_true,Bool.false_eq_true,if_false,ey]
     rw[e2]
     refine w.gen (m':=fin (v.mach i) false) rfl hl hi rfl (fun q hq=>rfl) (fun q hq => ?_) (.inl rfl) rfl (N (by omega) _)
     have:(({ v.id with ps:=v.id.ps.set k false }:IV).pend k).ss=v.id.ss∧(({ v.id with ps:=v.id.ps.set k false }:IV).pend k).po=v.id.po:=by unfold IV.pend;split <;> exact⟨rfl,rfl⟩
     have hq':(q:Int) ∈ (({ v.id with ps:=v.id.ps.set k false }:IV).pend k).ss∨(q:Int)=(({ v.id with ps:=v.id.ps.set k false }:IV).pend k).po:=hq
     rw[this.1,this.2]at hq'
     exact hq'
    ·obtain⟨t1,t2,t3,t4,t5,t6,t7⟩:=takeM_some hT
     have hmb:memb v t:=by
      rcases t1 with h|h
      ·exact .inl h
      ·exact .inr h.1
     have htM:0≤t∧t<v.M:=by
      rcases t1 with h|h
      ·exact a.id.sr t h
      ·have:=a.id.po
       rw[h.1]
       rcases this with h'|h'
       ·exact absurd h' h.2
       ·exact h'
     obtain⟨t,rfl⟩:∃ q:Nat,t=(q:Int):=⟨t.toNat,by omega⟩
     have htM':t<v.M:=by omega
     have hti:t≠i:=fun e=>nm (e ▸ hmb)
     obtain⟨y1,y2⟩:=t5 a.id.sn a.id.ps
     have nt0:v.ns.getD (v.nts+t) 0=0:=by
      by_cases h:v.ns.getD (v.nts+t) 0=0
      ·exact h
      ·exact absurd hmb (w.nt t htM' h).2.1
     have e2:v.find i (v.mach i).tm=((((v.putI y).onM t fun m => { m with nx:=(k:Int) }).onM i fun m => { m with tg:=(t:Int) }),false):=by
      unfold V.find
      rw[if_neg htm,eP]
      simp only[hT,if_true,Int.toNat_natCast]
     have hl1:i<((v.putI y).onM t fun m => { m with nx:=(k:Int) }).mm.length:=by show i<(v.mm.set t _).length;rw[List.length_set];exact hl
     rw[e2]
     dsimp only
     rw[onM2 hl1]
     generalize hv1:(v.putI y).onM t (fun m => { m with nx:=(k:Int) })=v1 at hl1 ⊢
     have e1:v1.mm=v.mm.set t { v.mach t with nx:=(k:Int) }:=by rw[←hv1];rfl
     have htl:t<v.mm.length:=by rw[a.ln.1];exact htM'
     have hmi:v1.mach i=v.mach i:=by rw[mach_set e1 htl,if_neg (Ne.symm hti)]
     have e2:(v1.onM i fun m=>fin { m with tg:=(t:Int) } false).mm=v1.mm.set i (fin { v.mach i with tg:=(t:Int) } false):=by
      show v1.mm.set i (fin { v1.mach i with tg:=(t:Int) } false)=_
      rw[hmi]
     generalize hv2:(v1.onM i fun m=>fin { m with tg:=(t:Int) } false)=v2 at e2 ⊢
     have eid:v2.id=y:=by rw[←hv2, ←hv1];rfl
     have eM:v2.M=v.M:=by rw[←hv2, ←hv1];rfl
     have en:∀ q:Nat,v2.ns.getD (v2.nts+q) 0=v.ns.getD (v.nts+q) 0:=fun q=>by rw[←hv2, ←hv1];rfl
     have hmach:∀ j,v2.mach j=if j=i then fin { v.mach i with tg:=(t:Int) } false else if j=t then { v.mach t with nx:=(k:Int) } else v.mach j:=fun j=>by
      rw[mach_set e2 hl1,mach_set e1 htl]
     have hmem:∀ j:Nat,memb v2 j→memb v j∧j≠t:=fun j hj=>by
      unfold memb at hj ⊢
      rw[eid]at hj
      rcases hj with hj|hj
      ·exact⟨.inl (t3 _ hj),fun e=>y1 (e ▸ hj)⟩
      ·refine⟨?_,fun e=>y2 (by omega) (e ▸ hj)⟩
       rcases t4 with h|h
       ·exact .inr (hj.trans h)
       ·rw[h]at hj;omega
     have et:∀ j,(v2.mach j).tg=if j=i then (t:Int) else (v.mach j).tg:=fun j=>by
      rw[hmach]
      by_cases h1:j=i
      ·rw[if_pos h1,if_pos h1];rfl
      ·rw[if_neg h1,if_neg h1]
       by_cases h2:j=t
       ·rw[if_pos h2,h2]
       ·rw[if_neg h2]
     have enx:∀ j,(v2.mach j).nx=if j=t then (k:Int) else (v.mach j).nx:=fun j=>by
      rw[hmach]
      by_cases h1:j=i
      ·rw[if_pos h1,h1,if_neg (Ne.symm hti)];rfl
      ·rw[if_neg h1]
       by_cases h2:j=t
       ·rw[if_pos h2,if_pos h2]
       ·rw[if_neg h2,if_neg h2]
     refine⟨fun q hq' hn => ?_,fun j hj ht => ?_,fun j l' hj hk' hne ht => ?_⟩
     ·rw[eM]at hq'
      rw[en]at hn
      obtain⟨c1,c2,c3⟩:=w.nt q hq' hn
      have hqt:q≠t:=fun e=>by rw[e]at hn;exact hn nt0
      have hqi:q≠i:=fun e=>by rw[e]at hn;exact hn n0
      refine⟨by rw[hmach,if_neg hqi,if_neg hqt];exact c1,fun h=>c2 (hmem q h).1,fun j hj => ?_⟩
      rw[eM]at hj
      rw[et]
      by_cases h1:j=i
      ·rw[if_pos h1];omega
      ·rw[if_neg h1];exact c3 j hj
     ·rw[eM]at hj ⊢
      rw[et]at ht ⊢
      by_cases h1:j=i
      ·rw[if_pos h1]
       exact⟨t,htM',rfl,by rw[enx,if_pos rfl];omega,fun h=>(hmem t h).2 rfl⟩
      ·rw[if_neg h1]at ht ⊢
       obtain⟨t',c1,c2,c3,c4⟩:=w.tg j hj ht
       have hne:t'≠t:=fun e=>c4 (e ▸ hmb)
       exact⟨t',c1,c2,by rw[enx,if_neg hne];exact c3,fun h=>c4 (hmem t' h).1⟩
     ·rw[eM]at hj hk'
      have key:∀ j,j<v.M→j≠i→(v.mach j).tg≠(t:Int):=fun j hj hji e=>by
       obtain⟨t',c1,c2,c3,c4⟩:=w.tg j hj (by rw[e];omega)
       have:t'=t:=by omega
       exact c4 (this ▸ hmb)
      rw[et]at ht ⊢
      rw[et]
      by_cases h1:j=i
      ·rw[if_pos h1,if_neg (fun e=>hne (h1.trans e.symm))]
       exact Ne.symm (key l' hk' (fun e=>hne (h1.trans e.symm)))
      ·rw[if_neg h1]at ht ⊢
       by_cases h2:l'=i
       ·rw[if_pos h2];exact key j hj h1
       ·rw[if_neg h2];exact w.ne j l' hj hk' hne ht
 ·rw[show v.with' i (v.mach i).tm=((v.putS v.sr.take.2).onM i (·.get v.sr.take.1),false) by simp[V.with',hp]]
  exact G (v.putS v.sr.take.2) _ _ rfl rfl rfl rfl (fun q hq=>hq) (gt _ _).1 (gt _ _).2 (N (by omega) _)
 ·rw[show v.with' i (v.mach i).tm=((v.putQ (v.qu ++ [(v.mach i).got])).onM i fun m => { m with got := -1 },false) by simp[V.with',V.give,hp]]
  exact G _ _ _ rfl rfl rfl rfl (fun q hq=>hq) rfl rfl (N (by omega) _)
 ·rw[show v.with' i (v.mach i).tm=((v.putR (v.mach i).p.toNat ((v.ring (v.mach i).p.toNat).ready (v.mach i).got).2).onM i fun m => { m with rest:=((v.ring (v.mach i).p.toNat).ready (v.mach i).got).1,got := -1 },false) by simp[V.with',V.give,hp]]
  exact G _ _ _ rfl rfl rfl rfl (fun q hq=>hq) rfl rfl (N (by omega) _)
 ·rw[show v.with' i (v.mach i).tm=v.park i (v.mach i).tm by simp[V.with',V.give,hp]]
  unfold V.park
  split
  ·dsimp only
   rw[leave_onM hl]
   refine w.gen (m':=fin { v.mach i with g := -1 } false) rfl hl hi rfl (fun q hq => ?_) (fun q hq=>hq) (.inl rfl) rfl (N (by omega) _)
   show (v.ns.set (v.sts+(v.mach i).g.toNat) _).getD (v.nts+q) 0=_
   rw[getD_set,if_neg (by unfold V.sts;omega)]
  ·exact G _ _ _ rfl rfl rfl rfl (fun q hq=>hq) rfl rfl (N (by omega) _)
 ·rw[show v.with' i (v.mach i).tm=v.await i (v.mach i).tm by simp[V.with',V.give,hp]]
  unfold V.await
  split
  ·dsimp only
   rw[leave_onM hl]
   refine w.gen (m':=fin { v.mach i with g := -1 } false) rfl hl hi rfl (fun q hq => ?_) (fun q hq=>hq) (.inl rfl) rfl (N (by omega) _)
   show (v.ns.set (v.sts+(v.mach i).g.toNat) _).getD (v.nts+q) 0=_
   rw[getD_set,if_neg (by unfold V.sts;omega)]
  ·exact G _ _ _ rfl rfl rfl rfl (fun q hq=>hq) rfl rfl (N (by omega) _)
end
section
variable {n n':Nat}{v v':V}{i:Nat}{m':Mh}
theorem wk_locked(a:Inv n v)(w:Wk v)(hi:i<v.M)(hk:(v.mach i).inn=true∨0≤(v.mach i).lock v.P):Wk (v.locked i):=by
 have hl:i<v.mm.length:=by rw[a.ln.1];exact hi
 rcases hin:(v.mach i).inn with _|_
 ·have e:(v.locked i).mm=v.mm.set i { (v.mach i).into ((v.mach i).lock v.P) with tk:=v.ms.getD ((v.mach i).into ((v.mach i).lock v.P)).sn.toNat 0,st:=1 } ∧ (v.locked i).M=v.M∧(v.locked i).P=v.P∧(v.locked i).ns=v.ns∧(v.locked i).id=v.id:=by
   unfold V.locked
   rw[if_neg (by rw[hin];simp)]
   unfold V.sect
   rw[mach_onM hl]
   dsimp only
   rw[if_pos (show ((v.mach i).into ((v.mach i).lock v.P)).st=0 from rfl)]
   refine⟨?_,rfl,rfl,rfl,rfl⟩
   have:=onM2 (v:=v) hl (fun m=>m.into (m.lock v.P)) (fun m => { m with tk:=v.ms.getD m.sn.toNat 0,st:=1 })
   exact congrArg V.mm this
  have af:(v.mach i).aft=false:=by simp[Mh.aft,hin]
  refine w.gen e.1 hl hi e.2.1 (fun q hq=>by rw[e.2.2.2.1,show (v.locked i).nts=v.nts by unfold V.nts V.spn;rw[e.2.2.1]]) (fun q hq=>by unfold memb at hq ⊢;rw[e.2.2.2.2]at hq;exact hq) (.inl rfl) rfl (fun _ h => ?_)
  unfold Mh.idl at h ⊢
  have af':({ (v.mach i).into ((v.mach i).lock v.P) with tk:=v.ms.getD ((v.mach i).into ((v.mach i).lock v.P)).sn.toNat 0,st:=1 }:Mh).aft=false:=by simp[Mh.aft]
  rw[af]at h
  rw[af']
  exact h
 ·have e:v.locked i=v.sect i:=by unfold V.locked;rw[if_pos hin]
  rw[e]
  rcases ((a.mo i hi).s.si hin).1 with hs|hs|hs
  ·have e2:v.sect i=({ v with mc:=v.mc+1 }:V).putM i { v.mach i with st:=if (v.mach i).tk=v.ms.getD (v.mach i).sv.toNat 0 then 2 else 1 }:=by
    unfold V.sect
    rw[if_neg (by omega),if_pos hs]
    rfl
   rw[e2]
   refine w.gen (m' := { v.mach i with st:=if (v.mach i).tk=v.ms.getD (v.mach i).sv.toNat 0 then 2 else 1 }) rfl hl hi rfl (fun q hq=>rfl) (fun q hq=>hq) (.inl rfl) rfl (fun _ h => ?_)
   have af:(v.mach i).aft=false:=by simp[Mh.aft,hs]
   have af':({ v.mach i with st:=if (v.mach i).tk=v.ms.getD (v.mach i).sv.toNat 0 then 2 else 1 }:Mh).aft=false:=by
    unfold Mh.aft;simp only;split <;> simp
   unfold Mh.idl at h ⊢
   rw[af]at h
   rw[af']
   exact h
  ·exact wk_do a w hi hin hs
  ·have go:=goOn_ok (a.mo i hi) hin hs
   have gs:=goOn_same (v.mach i).out v.P
   have gt:((v.mach i).out.goOn v.P).tg=(v.mach i).tg:=by
    have : ∀ m : Mh,(m.goOn v.P).tg=m.tg:=fun m=>by
     unfold Mh.goOn
     split; · unfold Mh.found Mh.steal;repeat' split
              all_goals rfl
     split; · unfold Mh.restOn Mh.look Mh.deliver;repeat' split
              all_goals rfl
     split;rfl
     split;rfl
     split;rfl
     split;rfl
     split;rfl
     split; · unfold Mh.parked Mh.deliver;repeat' split
              all_goals rfl
     split; · unfold Mh.parked Mh.deliver;repeat' split
              all_goals rfl
     rfl
    exact this _
   have e2:v.sect i=({ v with ms:=v.ms.set (v.mach i).sv.toNat (w64 ((v.mach i).tk+1)),mc:=v.mc+2 }:V).putM i ((v.mach i).out.goOn v.P):=by
    unfold V.sect
    rw[if_neg (by omega),if_neg (by omega),if_neg (by omega),if_pos hs]
    unfold V.goOn
    exact onM2 (v := { v with ms:=v.ms.set (v.mach i).sv.toNat (w64 ((v.mach i).tk+1)),mc:=v.mc+2 }) hl _ _
   rw[e2]
   refine w.gen (m':=(v.mach i).out.goOn v.P) rfl hl hi rfl (fun q hq=>rfl) (fun q hq=>hq) (.inl gt) gs.2.2.1 (fun _ h => ?_)
   have hpl:=go.id h
   have ha:((v.mach i).out.goOn v.P).aft=false:=by unfold Mh.aft;rw[gs.2.2.2.2.2.2.1];rfl
   unfold Mh.idl
   rw[ha]
   rcases hpl with hpl|hpl|hpl <;> rw[hpl] <;> simp
theorem clear_of(a:Inv n v)(w:Wk v)(hi:i<v.M)(hn:(v.mach i).inn=false)(hp:(v.mach i).pl≠14∧(v.mach i).pl≠15∧(v.mach i).pl≠16):(v.mach i).idl=false:=idl_of (by simp[Mh.aft,hn]) hp
theorem wk_pass(a:Inv n v)(w:Wk v)(hi:i<v.M)(hin:(v.mach i).inn=false)(ha:(v.mach i).pl=16→v.ns.getD (v.nts+i) 0=1):Wk (v.pass i):=by
 have hl:i<v.mm.length:=by rw[a.ln.1];exact hi
 have hmo:=a.mo i hi
 have F:∀(f:Mh→Mh) (u:V),u.mm=v.mm→u.M=v.M→u.P=v.P→(∀ q:Nat,u.ns.getD (v.nts+q) 0=v.ns.getD (v.nts+q) 0)→u.id=v.id→((v.mach i).pl≠14∧(v.mach i).pl≠15∧(v.mach i).pl≠16)→(f (v.mach i)).tg=(v.mach i).tg→(f (v.mach i)).nx=(v.mach i).nx→Wk (u.onM i f):=fun f u e1 e2 e3 e4 e5 e6 e7 e8=>by
  have em:(u.onM i f).mm=v.mm.set i (f (v.mach i)):=by
   show u.mm.set i (f (u.mach i))=_
   rw[show u.mach i=v.mach i by unfold V.mach;rw[e1],e1]
  refine w.gen em hl hi e2 (fun q hq => ?_) (fun q hq=>by unfold memb at hq ⊢;rw[show (u.onM i f).id=v.id from e5]at hq;exact hq) (.inl e7) e8 (fun _ h=>by rw[clear_of a w hi hin e6]at h;cases h)
  show u.ns.getD ((u.onM i f).nts+q) 0=_
  rw[show (u.onM i f).nts=v.nts by show 2*(u.P+2)+1=_;rw[e3];rfl]
  exact e4 q
 have ns0:∀(x:Int) (q:Nat),(v.ns.set v.spn x).getD (v.nts+q) 0=v.ns.getD (v.nts+q) 0:=fun x q=>by rw[getD_set,if_neg (by unfold V.nts;omega)]
 have nss:∀(x:Int) (g:Nat) (q:Nat),q<v.M→(v.ns.set (v.sts+g) x).getD (v.nts+q) 0=v.ns.getD (v.nts+q) 0:=fun x g q hq=>by rw[getD_set,if_neg (by unfold V.sts;omega)]
 by_cases hp:(v.mach i).pl=1
 ·rw[show v.pass i=v.turn i by simp[V.pass,hp]]
  exact F (fun m=>if _=0 then m.deliver 2 else { m with pl:=3 }) { v with tu:=v.tu.set (v.mach i).p.toNat (v.tu.getD (v.mach i).p.toNat 0+1) } rfl rfl rfl (fun _=>rfl) rfl (by omega) (by dsimp only;split <;> rfl) (by dsimp only;split <;> rfl)
 by_cases hp:(v.mach i).pl=5
 ·rw[show v.pass i=(v.spin 1).onM i fun m=>({ m with spin:=true }:Mh).steal v.P 1 by simp[V.pass,hp]]
  exact F _ (v.spin 1) rfl rfl rfl (ns0 _) rfl (by omega) rfl rfl
 by_cases hp:(v.mach i).pl=8
 ·rw[show v.pass i=(v.spin (-1)).onM i fun m => { m with spin:=false,i:=0,pl:=9 } by simp[V.pass,hp]]
  exact F _ (v.spin (-1)) rfl rfl rfl (ns0 _) rfl (by omega) rfl rfl
 by_cases hp:(v.mach i).pl=12
 ·rw[show v.pass i=(v.spin 1).onM i fun m => { m with spin:=true,pl:=4 } by simp[V.pass,hp]]
  exact F _ (v.spin 1) rfl rfl rfl (ns0 _) rfl (by omega) rfl rfl
 by_cases hp:(v.mach i).pl=19
 ·rw[show v.pass i=(v.spin (-1)).onM i fun m => { m with spin:=false,pl:=21 } by simp[V.pass,hp]]
  exact F _ (v.spin (-1)) rfl rfl rfl (ns0 _) rfl (by omega) rfl rfl
 by_cases hp:(v.mach i).pl=16
 ·rw[show v.pass i=v.rise i by simp[V.pass,hp]]
  have h1:=ha hp
  have e:v.rise i=(v.both (v.nts+i) 0).onM i fun m=>if m.nx = -1 then m.deliver 13 else { m with p:=m.nx,nx := -1,spin:=true,pl:=4 }:=by
   unfold V.rise
   rw[bothF_eq a (by unfold V.nts;omega),h1,if_pos rfl]
  rw[e]
  have em:((v.both (v.nts+i) 0).onM i fun m=>if m.nx = -1 then m.deliver 13 else { m with p:=m.nx,nx := -1,spin:=true,pl:=4 }).mm=v.mm.set i (if (v.mach i).nx = -1 then (v.mach i).deliver 13 else { v.mach i with p:=(v.mach i).nx,nx := -1,spin:=true,pl:=4 }):=rfl
  obtain⟨d1,d2,d3⟩:=w.nt i hi (by omega)
  generalize hm:(if (v.mach i).nx = -1 then (v.mach i).deliver 13 else { v.mach i with p:=(v.mach i).nx,nx := -1,spin:=true,pl:=4 })=m' at em
  have etg:m'.tg=(v.mach i).tg:=by rw[←hm];split <;> rfl
  generalize hv:((v.both (v.nts+i) 0).onM i fun m=>if m.nx = -1 then m.deliver 13 else { m with p:=m.nx,nx := -1,spin:=true,pl:=4 })=v2 at em ⊢
  have eM:v2.M=v.M:=by rw[←hv];rfl
  have en:∀ q:Nat,q≠i→v2.ns.getD (v2.nts+q) 0=v.ns.getD (v.nts+q) 0:=fun q hq=>by
   rw[←hv]
   show (v.ns.set (v.nts+i) 0).getD (v.nts+q) 0=_
   rw[getD_set,if_neg (by omega)]
  have eni:v2.ns.getD (v2.nts+i) 0=0:=by
   rw[←hv]
   show (v.ns.set (v.nts+i) 0).getD (v.nts+i) 0=_
   rw[getD_set]
   split
   ·rfl
   ·rename_i h
    have:¬(v.nts+i<v.ns.length):=fun h'=>h ⟨rfl,h'⟩
    simp[this]
  have eid:v2.id=v.id:=by rw[←hv];rfl
  have ms:=mach_set em hl
  have et:∀ q,(v2.mach q).tg=(v.mach q).tg:=fun q=>by
   rw[ms q]
   by_cases hq:q=i
   ·rw[if_pos hq,hq];exact etg
   ·rw[if_neg hq]
  have mbe:∀ q:Nat,memb v2 q→memb v q:=fun q hq=>by unfold memb at hq ⊢;rw[eid]at hq;exact hq
  refine⟨fun q hq hn => ?_,fun j hj ht => ?_,fun j l hj hk hne ht => ?_⟩
  ·rw[eM]at hq
   have hqi:q≠i:=fun e=>by rw[e]at hn;exact hn eni
   rw[en q hqi]at hn
   obtain⟨c1,c2,c3⟩:=w.nt q hq hn
   exact⟨by rw[ms q,if_neg hqi];exact c1,fun h=>c2 (mbe q h),fun j hj=>by rw[eM]at hj;rw[et];exact c3 j hj⟩
  ·rw[eM]at hj ⊢
   rw[et]at ht ⊢
   obtain⟨t,c1,c2,c3,c4⟩:=w.tg j hj ht
   have hti:t≠i:=fun e=>d3 j hj (by rw[c2,e])
   exact⟨t,c1,c2,by rw[ms t,if_neg hti];exact c3,fun h=>c4 (mbe t h)⟩
  ·rw[eM]at hj hk
   rw[et]at ht ⊢
   rw[et]
   exact w.ne j l hj hk hne ht
 by_cases hp:(v.mach i).pl=20
 ·rw[show v.pass i=(v.see ⟨2,(v.mach i).got,i,(v.mach i).p,0⟩).onM i fun m => { m with g:=m.got,got := -1,pl:=0 } by simp[V.pass,hp]]
  refine w.gen (m' := { v.mach i with g:=(v.mach i).got,got := -1,pl:=0 }) rfl hl hi rfl (fun q hq=>nss _ _ q hq) (fun q hq=>hq) (.inl rfl) rfl (fun _ h=>by rw[clear_of a w hi hin (by omega)]at h;cases h)
 by_cases hp:(v.mach i).pl=21
 ·rw[show v.pass i=({ v with mc:=v.mc+1 }:V).onM i fun m => { m with pl:=if v.ms.getD v.spn 0=0 then 22 else m.back } by simp[V.pass,hp]]
  exact F _ { v with mc:=v.mc+1 } rfl rfl rfl (fun _=>rfl) rfl (by omega) rfl rfl
 by_cases hp:(v.mach i).pl=22
 ·rw[show v.pass i=(v.bothF v.spn fun x=>if x=0 then 1 else x).onM i fun m => { m with pl:=if v.ms.getD v.spn 0=0 then 23 else m.back } by simp[V.pass,hp]]
  exact F _ (v.bothF v.spn fun x=>if x=0 then 1 else x) rfl rfl rfl (ns0 _) rfl (by omega) rfl rfl
 by_cases hp:(v.mach i).pl=24
 ·rw[show v.pass i=(v.wake (v.mach i).tg).onM i fun m => { m with tg := -1,pl:=m.back } by simp[V.pass,hp]]
  have lc:=(loc_24 hp).1 hmo.l
  have htg:0≤(v.mach i).tg∧(v.mach i).tg<v.M:=lc.2.2.2.2.2.2.2.1
  obtain⟨t,t1,t2,t3,t4⟩:=w.tg i hi (by omega)
  have em:((v.wake (v.mach i).tg).onM i fun m => { m with tg := -1,pl:=m.back }).mm=v.mm.set i { v.mach i with tg := -1,pl:=(v.mach i).back }:=rfl
  have ni:(v.mach i).idl=false:=clear_of a w hi hin (by omega)
  have hti:t≠i:=fun e=>by
   have:=(hmo.l.nx)
   rw[e]at t3
   rcases this with h|h
   ·exact t3 h
   ·rw[ni]at h;exact absurd h.2 (by simp)
  have idt:(v.mach t).idl=true:=by
   rcases (a.mo t t1).l.nx with h|h
   ·exact absurd h t3
   ·exact h.2
  generalize hv:((v.wake (v.mach i).tg).onM i fun m => { m with tg := -1,pl:=m.back })=v2 at em ⊢
  have eM:v2.M=v.M:=by rw[←hv];rfl
  have eid:v2.id=v.id:=by rw[←hv];rfl
  have en:∀ q:Nat,q≠t→v2.ns.getD (v2.nts+q) 0=v.ns.getD (v.nts+q) 0:=fun q hq=>by
   rw[←hv]
   show (v.ns.set (v.nts+(v.mach i).tg.toNat) _).getD (v.nts+q) 0=_
   rw[getD_set,if_neg (by omega)]
  have ms:=mach_set em hl
  have et:∀ q,(v2.mach q).tg=if q=i then -1 else (v.mach q).tg:=fun q=>by
   rw[ms q]
   by_cases hq:q=i
   ·rw[if_pos hq,if_pos hq]
   ·rw[if_neg hq,if_neg hq]
  have ex:∀ q,(v2.mach q).nx=(v.mach q).nx:=fun q=>by
   rw[ms q]
   by_cases hq:q=i
   ·rw[if_pos hq,hq]
   ·rw[if_neg hq]
  have mbe:∀ q:Nat,memb v2 q→memb v q:=fun q hq=>by unfold memb at hq ⊢;rw[eid]at hq;exact hq
  refine⟨fun q hq hn => ?_,fun j hj ht => ?_,fun j l hj hk hne ht => ?_⟩
  ·rw[eM]at hq
   by_cases hqt:q=t
   ·subst hqt
    refine⟨by rw[ms q,if_neg hti];exact idt,fun h=>t4 (mbe q h),fun j hj => ?_⟩
    rw[eM]at hj
    rw[et]
    by_cases hji:j=i
    ·rw[if_pos hji];omega
    ·rw[if_neg hji, ←t2]
     by_cases h0:(v.mach j).tg = -1
     ·omega
     ·exact w.ne j i hj hi hji h0
   ·rw[en q hqt]at hn
    obtain⟨c1,c2,c3⟩:=w.nt q hq hn
    have hqi:q≠i:=fun e=>by rw[e,ni]at c1;cases c1
    refine⟨by rw[ms q,if_neg hqi];exact c1,fun h=>c2 (mbe q h),fun j hj => ?_⟩
    rw[eM]at hj
    rw[et]
    split
    ·omega
    ·exact c3 j hj
  ·rw[eM]at hj ⊢
   rw[et]at ht ⊢
   by_cases hji:j=i
   ·rw[if_pos hji]at ht;exact absurd rfl ht
   ·rw[if_neg hji]at ht ⊢
    obtain⟨u,c1,c2,c3,c4⟩:=w.tg j hj ht
    exact⟨u,c1,c2,by rw[ex];exact c3,fun h=>c4 (mbe u h)⟩
  ·rw[eM]at hj hk
   rw[et]at ht ⊢
   rw[et]
   by_cases hji:j=i
   ·rw[if_pos hji]at ht;exact absurd rfl ht
   ·rw[if_neg hji]at ht ⊢
    split
    ·exact ht
    ·exact w.ne j l hj hk hne ht
 by_cases hp:(v.mach i).pl=26
 ·rw[show v.pass i=(v.see ⟨1,(v.mach i).got,i,(v.mach i).p,0⟩).onM i fun m => { m with back:=25,pl:=27 } by simp[V.pass,hp]]
  refine w.gen (m' := { v.mach i with back:=25,pl:=27 }) rfl hl hi rfl (fun q hq=>nss _ _ q hq) (fun q hq=>hq) (.inl rfl) rfl (fun _ h=>by rw[clear_of a w hi hin (by omega)]at h;cases h)
 ·have:v.pass i=v:=by
   unfold V.pass
   dsimp only
   rename_i h1 h5 h8 h12 h19 h16 h20 h21 h22 h24
   rw[if_neg h1,if_neg h5,if_neg h8,if_neg h12,if_neg h19,if_neg h16,if_neg h20,if_neg h21,if_neg h22,if_neg h24,if_neg hp]
  rw[this]
  exact w
theorem wk_act(a:Inv n v)(w:Wk v)(hi:i<v.M)(hin:(v.mach i).inn=false)(hp:(v.mach i).pl=0)(s:St):Wk (v.act i s).1:=by
 have hl:i<v.mm.length:=by rw[a.ln.1];exact hi
 have nss:∀(x:Int) (g:Nat) (q:Nat),q<v.M→(v.ns.set (v.sts+g) x).getD (v.nts+q) 0=v.ns.getD (v.nts+q) 0:=fun x g q hq=>by rw[getD_set,if_neg (by unfold V.sts;omega)]
 have ni:(v.mach i).idl=false:=clear_of a w hi hin (by omega)
 have nI:∀ q:Bool,v.ns.getD (v.nts+i) 0≠0→(v.mach i).idl=true→q=true:=fun q _ h=>by rw[ni]at h;cases h
 have S:∀(e:Ev) (m':Mh),m'.tg=(v.mach i).tg→m'.nx=(v.mach i).nx→Wk ((v.see e).putM i m'):=fun e m' h1 h2=>
  w.gen (m':=m') rfl hl hi rfl (fun q hq=>nss _ _ q hq) (fun q hq=>hq) (.inl h1) h2 (nI _)
 have O:∀(m':Mh),m'.tg=(v.mach i).tg→m'.nx=(v.mach i).nx→Wk (v.putM i m'):=fun m' h1 h2=>
  w.gen (m':=m') rfl hl hi rfl (fun q hq=>rfl) (fun q hq=>hq) (.inl h1) h2 (nI _)
 unfold V.act
 split
 ·exact w
 split
 ·have e:((v.onM i fun m => { m with got:=m.g }).leave i 3 0).onM i (fun m => { m with back:=1,pl:=27 })=(v.see ⟨3,(v.mach i).g,i,(v.mach i).p,0⟩).putM i { v.mach i with got:=(v.mach i).g,g := -1,back:=1,pl:=27 }:=by
   rw[leave_onM (v:=v.onM i fun m => { m with got:=m.g }) (by show i<(v.mm.set i _).length;rw[List.length_set];exact hl)]
   rw[mach_onM hl]
   unfold V.putM V.see V.both V.onM V.putM
   simp only[List.set_set]
   rfl
  show Wk (((v.onM i fun m => { m with got:=m.g }).leave i 3 0).onM i fun m => { m with back:=1,pl:=27 })
  rw[e]
  exact S _ _ rfl rfl
 split
 ·show Wk ((v.leave i 4 0).onM i fun m => { m with pl:=1 })
  rw[leave_onM hl]
  exact S _ _ rfl rfl
 split
 ·show Wk ((v.leave i 7 0).onM i fun m => { m with pl:=1 })
  rw[leave_onM hl]
  exact S _ _ rfl rfl
 split
 ·unfold V.bring
  split
  ·exact w
  ·exact S ⟨0,s.x,i,(v.mach i).p,0⟩ { v.mach i with got:=s.x,pl:=28 } rfl rfl
 split
 ·unfold V.bring
  split
  ·exact w
  ·exact S ⟨1,s.x,i,(v.mach i).p,0⟩ { v.mach i with got:=s.x,pl:=28 } rfl rfl
 split
 ·exact O { v.mach i with arg:=s.d,pl:=29 } rfl rfl
 split
 ·split
  ·exact O { v.mach i with arg:=s.x,pl:=30 } rfl rfl
  ·exact w
 ·exact w
theorem Inv.srs(h:Inv n v)(s:SV)(eL:s.L=v.sr.L)(eW:s.W=v.sr.W)(ea:s.ad=v.sr.ad):Inv n (v.putS s):=by
 refine⟨h.cf,h.ln,h.nt,h.mo,fun k hk=>(h.lk k hk).of (Nat.le_refl _) rfl rfl rfl (fun _ _=>⟨rfl,rfl,rfl,fun _ => .inl rfl⟩),⟨h.rg.qu,h.rg.rl,h.rg.rs,by show ∀ e ∈ s.L,_;rw[eL];exact h.rg.sl,by show ∀ e ∈ s.W,_;rw[eW];exact h.rg.sw,by show (s.W.map Prod.fst).Nodup;rw[eW];exact h.rg.wn⟩,fun g g0 g1=>(h.go g g0 g1).of rfl rfl rfl rfl ?_ ?_ rfl rfl,⟨h.id.sn,h.id.sr,h.id.po,h.id.ps,h.id.pd,h.id.mb⟩,h.pr,h.sp,h.nb,⟨h.cn.1,h.cn.2.1,h.cn.2.2.1,by show s.ad≤n;rw[ea];exact h.cn.2.2.2⟩⟩
 ·show (s.L.map _).count g=_;rw[eL];rfl
 ·show (s.W.map _).count g=_;rw[eW];rfl
theorem inv_tell(h:Inv n v)(w:Wk v)(hn:n+1≤n'):Inv n' v.tell∧Wk v.tell:=by
 unfold V.tell
 by_cases hc:v.sr.due=true∧v.id.po ≠ -1
 ·rw[if_pos hc]
  have hpo:0≤v.id.po∧v.id.po<v.M:=h.id.po.resolve_left hc.2
  obtain⟨t,ht⟩:∃ t:Nat,v.id.po=(t:Int):=⟨v.id.po.toNat,by omega⟩
  have htM:t<v.M:=by omega
  have hmb:memb v t := .inr ht.symm
  have hm:=h.id.mb t htM hmb
  have nt0:v.ns.getD (v.nts+t) 0=0:=by
   by_cases h0:v.ns.getD (v.nts+t) 0=0
   ·exact h0
   ·exact absurd hmb (w.nt t htM h0).2.1
  have e:(v.putI { v.id with po := -1 }).wake v.id.po=(v.putI { v.id with po := -1 }).both (v.nts+t) 1:=by
   unfold V.wake V.bothF V.both
   rw[ht]
   dsimp only
   have e1:(v.putI { v.id with po := -1 }).nts=v.nts:=rfl
   have e2:(v.putI { v.id with po := -1 }).ms=v.ms:=rfl
   have e3:(v.putI { v.id with po := -1 }).ns=v.ns:=rfl
   rw[e1,e2,e3,Int.toNat_natCast,h.nt _ (by unfold V.nts;omega),nt0,if_pos rfl]
  rw[e]
  generalize hv:(v.putI { v.id with po := -1 }).both (v.nts+t) 1=v2
  have eM:v2.M=v.M:=by rw[←hv];rfl
  have emm:v2.mm=v.mm:=by rw[←hv];rfl
  have em:∀ j,v2.mach j=v.mach j:=fun j=>by unfold V.mach;rw[emm]
  have e4:v2.ms=v.ms.set (v.nts+t) 1:=by rw[←hv];rfl
  have e5:v2.ns=v.ns.set (v.nts+t) 1:=by rw[←hv];rfl
  have eid:v2.id = { v.id with po := -1 }:=by rw[←hv];rfl
  have esm:∀ f,v2.sm f=v.sm f:=fun f=>by unfold V.sm;rw[emm]
  have gt:v.spn<v.nts+t:=by unfold V.nts;omega
  have mbe:∀ q:Nat,memb v2 q→memb v q∧q≠t:=fun q hq=>by
   unfold memb at hq ⊢
   rw[eid]at hq
   rcases hq with hq|hq
   ·exact⟨.inl hq,fun e=>h.id.ps (by rw[ht, ←e];exact hq)⟩
   ·simp only at hq;omega
  refine⟨h.mvB (by omega) ⟨by rw[←hv];rfl,eM,by rw[←hv];rfl,by rw[←hv];rfl⟩ (by rw[emm]) (fun j hj=>by rw[em];exact h.mo j hj) (fun j hj=>by rw[em];exact⟨rfl,rfl,rfl,fun _ => .inr rfl⟩) (by rw[←hv];rfl) (by rw[←hv];show v.sr.ad≤n';have:=h.cn.2.2.2;omega) (by rw[eid]) (by rw[e4,List.length_set]) (by rw[e5,List.length_set]) (nt_set h e4 e5) (ew_set (by omega) e4) (by rw[←hv];show v.mc+1≤n';have:=h.cn.1;omega) (by rw[←hv];show v.lg.length≤n';have:=h.cn.2.1;omega)
   (h.rg.same (by rw[←hv];rfl) (by rw[←hv];rfl) (by rw[←hv];rfl) (by rw[←hv];rfl) (by rw[←hv];exact h.rg.qu)) (fun g g0 g1=>(h.go g g0 g1).of ?_ ?_ (esm _) (esm _) (by rw[←hv];rfl) (by rw[←hv];rfl) (esm _) (esm _))
   (id_sub h.id ⟨by rw[←hv];rfl,eM⟩ (by rw[eid];exact h.id.sn) (by rw[eid];exact fun x hx=>hx) (by rw[eid];exact .inr rfl) (by rw[eid];exact fun x hx => .inl hx) (fun j hj hb=>by rw[em];exact h.id.mb j hj (mbe j hb).1)) (fun p p0 p1 => ?_) ?_ (fun l hl' => ?_),⟨fun q hq hn => ?_,fun j hj ht' => ?_,fun j l hj hk hne ht' => ?_⟩⟩
  ·unfold V.stat
   rw[show v2.G=v.G by rw[←hv];rfl,show v2.sts=v.sts by rw[←hv];rfl]
   split
   ·rw[e5,getD_set,if_neg (by unfold V.sts;omega)]
   ·rfl
  ·unfold V.cR;rw[esm, ←hv];rfl
  ·rw[esm,eid];exact h.pr p p0 p1
  ·rw[esm,e4,getD_set,if_neg (by omega),eid];exact h.sp
  ·rw[e5,getD_set]
   by_cases hlj:v.nts+l=v.nts+t∧v.nts+t<v.ns.length
   ·rw[if_pos hlj];exact .inr rfl
   ·rw[if_neg hlj];exact h.nb l hl'
  ·rw[eM]at hq
   rw[em]
   by_cases hqt:q=t
   ·subst hqt
    refine⟨hm.2,fun hh=>(mbe q hh).2 rfl,fun j hj => ?_⟩
    rw[eM]at hj
    rw[em]
    intro ej
    obtain⟨u,c1,c2,c3,c4⟩:=w.tg j hj (by omega)
    have:u=q:=by omega
    exact c4 (this ▸ hmb)
   ·rw[e5,show v2.nts=v.nts by rw[←hv];rfl,getD_set,if_neg (by omega)]at hn
    obtain⟨c1,c2,c3⟩:=w.nt q hq hn
    exact⟨c1,fun hh=>c2 (mbe q hh).1,fun j hj=>by rw[eM]at hj;rw[em];exact c3 j hj⟩
  ·rw[eM]at hj ⊢
   rw[em]at ht' ⊢
   obtain⟨u,c1,c2,c3,c4⟩:=w.tg j hj ht'
   exact⟨u,c1,c2,by rw[em];exact c3,fun hh=>c4 (mbe u hh).1⟩
  ·rw[eM]at hj hk
   rw[em]at ht' ⊢
   rw[em]
   exact w.ne j l hj hk hne ht'
 ·rw[if_neg hc]
  exact⟨h.mono (by omega),w⟩
theorem Wk.srs(w:Wk v)(s:SV):Wk (v.putS s):=⟨w.nt,w.tg,w.ne⟩
structure All(n:Nat)(v:V):Prop where
 i:Inv n v
 w:Wk v
theorem all_step(h:All n v)(hn:n+2≤n')(h64:n'<1000000000000000000)(s:St):All n' (v.step s).1:=by
 unfold V.step
 split
 ·unfold V.pick
  split
  ·exact⟨h.i.mono (by omega),h.w⟩
  ·rename_i hc
   have hi:s.a.toNat<v.M:=by omega
   have has:v.asleep s.a.toNat=false:=by
    rcases ha:v.asleep s.a.toNat with _|_
    ·rfl
    ·exact absurd (.inr (.inr ha)) hc
   generalize s.a.toNat=i at hi has
   have hmo:=h.i.mo i hi
   unfold V.pickAt
   split
   ·rename_i hp
    have hin:(v.mach i).inn=false:=by
     rcases hin:(v.mach i).inn with _|_
     ·rfl
     ·have:=(hmo.s.si hin).2.1
      unfold Mh.lock at this
      rw[hp]at this
      simp[Mh.cls]at this
    exact⟨inv_act ⟨h.i,hi,hin,hp⟩ (by omega) s,wk_act h.i h.w hi hin hp s⟩
   split
   ·rename_i hp hk
    exact⟨inv_locked h.i hn h64 hi hk,wk_locked h.i h.w hi hk⟩
   ·rename_i hp hk
    have hin:(v.mach i).inn=false:=by
     rcases hin:(v.mach i).inn with _|_
     ·rfl
     ·exact absurd (.inl hin) hk
    have h16:(v.mach i).pl=16→v.ns.getD (v.nts+i) 0=1:=fun hp=>by
     unfold V.asleep at has
     rw[hp]at has
     simpa using has
    refine⟨?_,wk_pass h.i h.w hi hin h16⟩
    have hn1:n+1≤n':=by omega
    by_cases h1:(v.mach i).pl=1
    ·exact pas_1 ⟨h.i,hi,hin,h1⟩ hn1
    by_cases h5:(v.mach i).pl=5
    ·exact pas_5 ⟨h.i,hi,hin,h5⟩ hn1
    by_cases h8:(v.mach i).pl=8
    ·exact pas_8 ⟨h.i,hi,hin,h8⟩ hn1
    by_cases h12:(v.mach i).pl=12
    ·exact pas_12 ⟨h.i,hi,hin,h12⟩ hn1
    by_cases h19:(v.mach i).pl=19
    ·exact pas_19 ⟨h.i,hi,hin,h19⟩ hn1
    by_cases h16':(v.mach i).pl=16
    ·exact pas_16 ⟨h.i,hi,hin,h16'⟩ h.w (h16 h16') hn1
    by_cases h20:(v.mach i).pl=20
    ·exact pas_20 ⟨h.i,hi,hin,h20⟩ hn1
    by_cases h21:(v.mach i).pl=21
    ·exact pas_21 ⟨h.i,hi,hin,h21⟩ hn1
    by_cases h22:(v.mach i).pl=22
    ·exact pas_22 ⟨h.i,hi,hin,h22⟩ hn1
    by_cases h24:(v.mach i).pl=24
    ·exact pas_24 ⟨h.i,hi,hin,h24⟩ hn1
    by_cases h26:(v.mach i).pl=26
    ·exact pas_26 ⟨h.i,hi,hin,h26⟩ hn1
    ·have:v.pass i=v:=by
      unfold V.pass
      dsimp only
      rw[if_neg h1,if_neg h5,if_neg h8,if_neg h12,if_neg h19,if_neg h16',if_neg h20,if_neg h21,if_neg h22,if_neg h24,if_neg h26]
     rw[show ((v.pass i,true):V × Bool).1=v from this]
     exact h.i.mono (by omega)
 split
 ·have:=inv_tell (n':=n') (h.i.srs (v.sr.tick s.d) rfl rfl rfl) (h.w.srs _) (by omega)
  exact⟨this.1,this.2⟩
 split
 ·split
  ·split
   ·exact⟨h.i.mono (by omega),h.w⟩
   ·rename_i t ht
    have et:t.L=v.sr.L∧t.W=v.sr.W∧t.ad=v.sr.ad:=by
     unfold SV.ready at ht
     split at ht
     ·cases ht
     ·simp only[Option.some.injEq]at ht
      subst ht
      exact⟨rfl,rfl,rfl⟩
    have:=inv_tell (n':=n') (h.i.srs t et.1 et.2.1 et.2.2) (h.w.srs _) (by omega)
    exact⟨this.1,this.2⟩
  ·exact⟨h.i.mono (by omega),h.w⟩
 ·exact⟨h.i.mono (by omega),h.w⟩
end
section
variable {P M G:Nat}
def Cfg (P M G:Nat):Prop:=1≤P∧P≤64∧P≤M∧M≤128∧1≤G∧G≤4096
theorem new_mm(hM:1≤M):(V.new P M G).mm=Mh.fresh 1 0 :: List.replicate (M - 1) (Mh.fresh 16 (-1)):=by
 obtain⟨m,rfl⟩:∃ m,M=m+1:=⟨M - 1,by omega⟩
 unfold V.new
 simp only[List.range_succ_eq_map,List.map_cons,List.map_map,if_true,Nat.add_sub_cancel]
 congr 1
 apply List.ext_getElem
 ·simp
 ·intro i h1 h2
  simp
theorem new_mach(hM:1≤M){i:Nat}(hi:i<M):(V.new P M G).mach i=if i=0 then Mh.fresh 1 0 else Mh.fresh 16 (-1):=by
 unfold V.mach
 rw[new_mm hM]
 rcases i with _|i
 ·rfl
 ·have:i<M - 1:=by omega
  simp[this]
theorem sum_rep(f:Mh→Nat)(m:Mh)(h:f m=0)(k:Nat):((List.replicate k m).map f).sum=0:=by
 simp[List.map_replicate,h]
theorem new_sm(hM:1≤M)(f:Mh→Nat)(h:f (Mh.fresh 16 (-1))=0):(V.new P M G).sm f=f (Mh.fresh 1 0):=by
 unfold V.sm
 rw[new_mm hM,List.map_cons,List.sum_cons,sum_rep f _ h]
 omega
theorem new_word(k:Nat):(V.new P M G).ms.getD k 0=if k=2*(P+2)+1+M∧k<2*(P+2)+1+M+G then 1 else 0:=by
 show ((List.replicate (2*(P+2)+1+M+G) (0:Int)).set (2*(P+2)+1+M) 1).getD k 0=_
 rw[getD_set,List.length_replicate]
 by_cases h:k=2*(P+2)+1+M∧2*(P+2)+1+M<2*(P+2)+1+M+G
 ·rw[if_pos h,if_pos (by omega)]
 ·rw[if_neg h,if_neg (by omega)]
  simp[List.getElem?_replicate]
  split <;> rfl
theorem new_ns:(V.new P M G).ns=(V.new P M G).ms:=rfl
theorem mok_first(h:Cfg P M G):Mok P M G (Mh.fresh 1 0):=
 ⟨(loc_1 rfl).2 ⟨⟨by decide,by have:=h.1;show (0:Int)<P;omega⟩,rfl,rfl,rfl,rfl,rfl,rfl⟩,⟨by decide,by decide⟩,fun e=>(by cases e),fun _=>⟨rfl,rfl,rfl,rfl,rfl⟩,fun e=>(by cases e),fun e=>(by cases e)⟩
theorem mok_rest:Mok P M G (Mh.fresh 16 (-1)):=
 ⟨(loc_16 rfl).2 ⟨rfl,rfl,rfl,rfl,rfl, .inl rfl,rfl⟩,⟨by decide,by decide⟩,fun e=>(by cases e),fun _=>⟨rfl,rfl,rfl,rfl,rfl⟩,fun e=>(by cases e),fun e=>(by cases e)⟩
theorem new_stat(h:Cfg P M G){g:Int}(g0:0≤g)(g1:g<G):(V.new P M G).stat g=if g=0 then 1 else 0:=by
 unfold V.stat
 rw[if_pos (show 0≤g∧g<((V.new P M G).G:Int) from⟨g0,g1⟩),new_ns,new_word]
 have e:(V.new P M G).sts=2*(P+2)+1+M:=rfl
 rw[e]
 by_cases hg:g=0
 ·rw[if_pos hg,if_pos (by omega)]
 ·rw[if_neg hg,if_neg (by omega)]
theorem all_new(h:Cfg P M G):All 1 (V.new P M G):=by
 obtain⟨h1,h2,h3,h4,h5,h6⟩:=h
 have hc:Cfg P M G:=⟨h1,h2,h3,h4,h5,h6⟩
 have hM:1≤M:=by omega
 have rg0:∀ p,(V.new P M G).ring p=RV.empty:=fun p=>by
  show (List.replicate P RV.empty).getD p RV.empty=_
  simp[List.getElem?_replicate]
  split <;> rfl
 have ri:∀ i:Nat,i<M→((V.new P M G).mach i).inn=false∧((V.new P M G).mach i).tg = -1∧((V.new P M G).mach i).nx = -1:=fun i hi=>by
  rw[new_mach hM hi];split <;> exact⟨rfl,rfl,rfl⟩
 refine⟨⟨⟨h1,h2,h3,h4,h5,h6⟩,⟨?_,?_,?_,?_,?_,?_⟩,fun k _=>rfl,fun i hi => ?_,fun k hk => ?_,⟨?_,?_,?_,fun e he=>(by cases he),fun e he=>(by cases he),List.nodup_nil⟩,fun g g0 g1 => ?_,⟨?_,?_,?_,?_,fun x hx=>(by cases hx),fun i hi hb => ?_⟩,fun p p0 p1 => ?_,?_,fun i hi => ?_,⟨?_,?_,?_,?_⟩⟩,⟨fun i hi hn => ?_,fun j hj ht=>absurd (ri j hj).2.1 ht,fun j l hj _ _ ht=>absurd (ri j hj).2.1 ht⟩⟩
 ·show ((List.range M).map _).length=M;simp
 ·show (List.replicate P RV.empty).length=P;simp
 ·show (List.replicate P (0:Int)).length=P;simp
 ·show ((List.replicate (2*(P+2)+1+M+G) (0:Int)).set _ _).length=2*(P+2)+1+M+G;simp
 ·show ((List.replicate (2*(P+2)+1+M+G) (0:Int)).set _ _).length=2*(P+2)+1+M+G;simp
 ·show ((List.range P).map _).length=P;simp
 ·rw[new_mach hM hi]
  split
  ·exact mok_first hc
  ·exact mok_rest
 ·have w0:∀ j,j<2*(P+2)→(V.new P M G).ms.getD j 0=0:=fun j hj=>by rw[new_word,if_neg (by omega)]
  have hk':k<P+2:=hk
  refine⟨by rw[w0 _ (by omega),w0 _ (by omega)];omega,fun i hi e => ?_,fun i j hi _ _ e => ?_,fun t t1 t2 => ?_⟩
  ·rw[(ri i hi).1]at e;cases e
  ·rw[(ri i hi).1]at e;cases e
  ·rw[w0 _ (by omega)]at t1 t2;omega
 ·intro x hx
  have:x=0:=by simpa[V.new] using hx
  rw[this];exact⟨by omega,by show (0:Int)<G;omega⟩
 ·intro p hp x hx
  rw[rg0]at hx;simp[RV.empty,RV.list]at hx
 ·intro p hp
  rw[rg0];exact⟨by decide,by decide⟩
 ·have g1':g<G:=g1
  have st:=new_stat hc g0 g1'
  have cr:(V.new P M G).cR g=if g=0 then 1 else 0:=by
   unfold V.cR
   rw[new_sm hM _ (by rfl),show fR g (Mh.fresh 1 0)=0 from rfl,show (V.new P M G).qu = [0] from rfl,show (V.new P M G).rs=List.replicate P RV.empty from rfl]
   simp[RV.empty,RV.list,List.count_cons]
   by_cases hg:g=0
   ·simp[hg]
   ·simp[hg,Ne.symm hg]
  have sg:(V.new P M G).sm (fG g)=0:=by rw[new_sm hM _ (fG_none rfl g0),fG_none rfl g0]
  have sd:(V.new P M G).sm (fD g)=0:=by
   have:∀ pl p,pl≠25→pl≠26→fD g (Mh.fresh pl p)=0:=fun pl p _ _=>by unfold fD;rw[if_neg];rintro⟨h,_⟩;have:(-1:Int)=g:=h;omega
   rw[new_sm hM _ (this _ _ (by decide) (by decide)),this _ _ (by decide) (by decide)]
  have sk:∀ k,(V.new P M G).sm (fK k g)=0:=fun k=>by rw[new_sm hM _ (fK_no rfl _ _),fK_no rfl]
  refine⟨by rw[st];split <;> omega,by rw[st,cr];by_cases hg:g=0 <;> simp[hg],by rw[st,sg];by_cases hg:g=0 <;> simp[hg],?_⟩
  rw[st,sd,sk,sk]
  have e4:¬((if g=0 then (1:Int) else 0)=4):=by split <;> omega
  have e5:¬((if g=0 then (1:Int) else 0)=5):=by split <;> omega
  rw[if_neg e4,if_neg e5]
  exact⟨rfl,rfl,rfl⟩
 ·show ((List.range (M - 2)).map fun j=>((j+2:Nat):Int)).Nodup
  rw[List.nodup_iff_pairwise_ne,List.pairwise_map]
  exact(List.nodup_iff_pairwise_ne.1 List.nodup_range).imp (fun h e=>h (by omega))
 ·intro x hx
  obtain⟨j,hj,rfl⟩:=List.mem_map.1 (show x ∈ (List.range (M - 2)).map (fun j=>((j+2:Nat):Int)) from hx)
  have:=List.mem_range.1 hj
  exact⟨by omega,by show ((j+2:Nat):Int)<M;omega⟩
 ·show (if M≤1 then (-1:Int) else 1) = -1∨(0≤(if M≤1 then (-1:Int) else 1)∧(if M≤1 then (-1:Int) else 1)<M)
  split
  ·exact .inl rfl
  ·exact .inr (by omega)
 ·show (if M≤1 then (-1:Int) else 1) ∉ (List.range (M - 2)).map fun j=>((j+2:Nat):Int)
  intro hx
  obtain⟨j,hj,e⟩:=List.mem_map.1 hx
  split at e <;> omega
 ·have hi':i<M:=hi
  have hne:i≠0:=fun e=>by
   subst e
   rcases hb with hb|hb
   ·obtain⟨j,hj,e⟩:=List.mem_map.1 (show ((0:Nat):Int) ∈ (List.range (M - 2)).map (fun j=>((j+2:Nat):Int)) from hb)
    omega
   ·have:((0:Nat):Int)=if M≤1 then (-1:Int) else 1:=hb
    split at this <;> omega
  rw[new_mach hM hi',if_neg hne]
  exact⟨rfl,rfl⟩
 ·have p1':p<P:=p1
  have e16:fP p (Mh.fresh 16 (-1))=0:=by
   unfold fP
   rw[if_neg (show ¬(Mh.fresh 16 (-1)).p=p by show ¬(-1:Int)=p;omega),if_neg (show ¬(Mh.fresh 16 (-1)).nx=p by show ¬(-1:Int)=p;omega)]
  rw[new_sm hM _ e16]
  have f0:fP p (Mh.fresh 1 0)=if p=0 then 1 else 0:=by
   unfold fP
   rw[if_neg (show ¬(Mh.fresh 1 0).nx=p by show ¬(-1:Int)=p;omega)]
   by_cases hp:p=0
   ·rw[if_pos hp,if_pos (show (Mh.fresh 1 0).p=p by show (0:Int)=p;omega)]
   ·rw[if_neg hp,if_neg (show ¬(Mh.fresh 1 0).p=p by show ¬(0:Int)=p;omega)]
  have hh:(V.new P M G).id.has p=decide (p≠0):=by
   unfold IV.has
   show (decide (0≤p) && ((List.range P).map fun q=>decide (0<q)).getD p.toNat false)=_
   have:p.toNat<P:=by omega
   rw[show (decide (0≤p) && ((List.range P).map fun q=>decide (0<q)).getD p.toNat false)=decide (0<p.toNat) by simp[this,p0]]
   exact decide_eq_decide.2 (by omega)
  rw[f0,hh,show (V.new P M G).id.pd = [] from rfl]
  by_cases hp:p=0 <;> simp[hp]
 ·rw[new_sm hM fS (by rfl),new_word,if_neg (by show ¬(2*(P+2)=_∧_);omega)]
  rfl
 ·have hi':i<M:=hi
  rw[new_ns,new_word,if_neg (by show ¬(2*(P+2)+1+i=_∧_);omega)]
  exact .inl rfl
 ·exact Nat.le_refl _
 ·exact Nat.le_refl _
 ·intro t ht
  have:t=0:=(List.mem_replicate.1 (show t ∈ List.replicate P (0:Int) from ht)).2
  omega
 ·exact Nat.zero_le _
 ·have hi':i<M:=hi
  rw[new_ns,new_word,if_neg (by show ¬(2*(P+2)+1+i=_∧_);omega)]at hn
  exact absurd rfl hn
end
end Go.Proofs.YtkhigkcmgcafdaaGreatDoor.Y
