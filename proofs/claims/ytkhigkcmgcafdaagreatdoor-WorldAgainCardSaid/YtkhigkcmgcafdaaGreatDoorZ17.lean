/- Of Wy, Wz, Va, Vb, Vc. -/
import Derived.Test.YtkhigkcmgcafdaaGreatDoorZ16
set_option linter.unusedVariables false
set_option linter.unusedSimpArgs false
set_option maxHeartbeats 16000000
set_option maxRecDepth 20000
namespace Go.Proofs.YtkhigkcmgcafdaaGreatDoor
open Go.RowKit
section
variable {B:Bk}{o o':Nat→Nat}{n n':Nat}{v v':Y.V}{w w' wx:World}{C:Nat→Prop}{i p:Nat}
theorem WR.upd(h:WR B o n v w)(hn:n≤n')(hf:Fm o C w w')(hx:Ox o o' C w w')(c0:¬C 0)
 (k1:C1 B o' v' w'∨¬C 1∧v'.P=v.P∧v'.M=v.M∧v'.G=v.G∧v'.lg=v.lg)
 (k2:C2 B o' v' w'∨¬C 2∧v'.ms=v.ms∧v'.mc=v.mc)
 (k3:C3 B o' n' v' w'∨¬C 3∧v'.ns=v.ns)
 (k4:C4 B o' v' w'∨¬C 4∧v'.tu=v.tu)
 (k5:C5 B o' v' w'∨¬C 5∧v'.P=v.P∧v'.qu=v.qu)
 (k6:C6 B o' v' w'∨(¬C 6∧¬C 12)∧v'.M=v.M∧v'.mm=v.mm)
 (k8:C8 B o' v' w'∨(¬C 7∧¬C 8)∧v'.P=v.P∧v'.rs=v.rs)
 (k10:C10 B o' v' w'∨¬C 10∧v'.P=v.P∧v'.sr=v.sr)
 (k11:C11 B o' v' w'∨¬C 11∧v'.P=v.P∧v'.M=v.M∧v'.id=v.id):WR B o' n' v' w':=
 ⟨h.c0.keep h.N0 hf hx c0,k1.elim id (fun k=>h.c1.keep hf hx k.1 k.2),k2.elim id (fun k=>h.c2.keep hf hx k.1 k.2),k3.elim id (fun k=>h.c3.keep hn hf hx k.1 k.2),k4.elim id (fun k=>h.c4.keep hf hx k.1 k.2),k5.elim id (fun k=>h.c5.keep hf hx k.1 k.2),k6.elim id (fun k=>h.c6.keep hf hx k.1.1 k.1.2 k.2),k8.elim id (fun k=>h.c8.keep hf hx k.1 k.2),k10.elim id (fun k=>h.c10.keep hf hx k.1 k.2),k11.elim id (fun k=>h.c11.keep h.bruijn hf hx k.1 c0 k.2)⟩
def Oq (o:Nat→Nat)(r:Option Nat)(c:Nat):Nat→Nat:=fun k=>if r=some k then c else o k
theorem Oq.at{r:Option Nat}{c k:Nat}(h:r=some k):Oq o r c k=c:=by unfold Oq;rw[if_pos h]
theorem Oq.no{r:Option Nat}{c k:Nat}(h:r≠some k):Oq o r c k=o k:=by unfold Oq;rw[if_neg h]
theorem Oq.ox(h:WR B o n v w){r:Option Nat}{c:Nat}(hb:∀ k,r=some k→(o k=c∧k<w.heap.size)∨(w.heap.size≤k∧k<w'.heap.size))(hc:c=12∨C c):Ox o (Oq o r c) C w w':=by
 refine⟨fun k hk => ?_,fun k hk => ?_⟩
 ·by_cases e:r=some k
  ·rcases hb k e with h1|h1
   ·rw[Oq.at e,h1.1]
   ·omega
  ·exact Oq.no e
 ·by_cases e:r=some k
  ·rw[Oq.at e]
   rcases hb k e with h1|h1
   ·omega
   ·exact .inr ⟨h1.2,hc⟩
  ·rw[Oq.no e];exact .inl (h.fresh hk)
def Prw (B:Bk)(o:Nat→Nat)(n:Nat)(xs:List Int)(v:Y.V)(w:World)(e:Ending)(w':World):Prop:=∃ rv o',e = .returned rv∧Rst o' w' rv xs∧WR B o' n v w'∧Ek o o' w w'
theorem WR.ring1(h:WR B o n v w)(hl:v.rs.length=v.P)(hp:p<v.P){r:Y.RV}(hx:Ox o o' (· = 8) w w')(ho:OnlyO (B.gs.getD p 0) none w w')(hr:RgV w' (B.gs.getD p 0) r):WR B o' n (v.putR p r) w'∧Ek o o' w w':=by
 obtain⟨⟨a1,a2⟩,a3,a4,a5⟩:=h.c8
 have og:=(a5 p hp).1
 have hf:Fm o (· = 8) w w':=⟨ho.os,ho.tape,ho.output,ho.size,fun k hk hc=>ho.block k hk (fun e=>hc (by rw[e];exact og)) (by simp)⟩
 have l:∀ k,B.rv.ownBlock=some k→k<w.heap.size:=fun k hk=>(a2.lt k hk).2
 refine⟨h.upd (Nat.le_refl _) hf hx (by decide) (.inr ⟨by decide,rfl,rfl,rfl,rfl⟩) (.inr ⟨by decide,rfl,rfl⟩) (.inr ⟨by decide,rfl⟩) (.inr ⟨by decide,rfl⟩) (.inr ⟨by decide,rfl,rfl⟩) (.inr ⟨⟨by decide,by decide⟩,rfl,rfl⟩) (.inl ?_) (.inr ⟨by decide,rfl,rfl⟩) (.inr ⟨by decide,rfl,rfl,rfl⟩), .of hf hx (by decide)⟩
 refine⟨⟨fun k hk=>(hx.old k (l k hk)).trans (a1 k hk),own_kept a2 (fun k hk=>hf.block k (l k hk) (by rw[a1 k hk];decide))⟩,a3,a4,fun q hq => ?_⟩
 have lq:B.gs.getD q 0<w.heap.size:=Rg.lt (a5 q hq).2.1
 refine⟨(hx.old _ lq).trans (a5 q hq).1,?_⟩
 by_cases e:q=p
 ·subst e
  have:(v.putR q r).ring q=r:=by unfold Y.V.ring Y.V.putR;simp[List.getD_eq_getElem?_getD,List.getElem?_set_self (show q<v.rs.length by rw[hl];exact hq)]
  rw[this];exact hr
 ·have er:(v.putR p r).ring q=v.ring q:=by unfold Y.V.ring Y.V.putR;simp[List.getD_eq_getElem?_getD,List.getElem?_set_ne (fun h=>e h.symm)]
  rw[er]
  refine⟨Rg.kept (a5 q hq).2.1 (ho.block _ lq (fun h=>e ?_) (by simp)),(a5 q hq).2.2⟩
  change q<v.P at hq
  have h1:q<B.gs.length:=by rw[a3];exact hq
  have h2:p<B.gs.length:=by rw[a3];exact hp
  simp only[List.getD_eq_getElem?_getD,List.getElem?_eq_getElem h1,List.getElem?_eq_getElem h2,Option.getD_some]at h
  exact(List.getElem_inj a4).1 h
theorem WR.rv(h:WR B o n v w)(hP:0<v.P):∃ g c,B.rv = .slice (some ⟨g,0,none⟩) v.P c ∧ ∀ p,p<v.P→w.cell? ⟨g,p,none⟩=some (.pointer (some ⟨B.gs.getD p 0,0,none⟩)):=by
 obtain⟨⟨a1,a2⟩,a3,a4,a5⟩:=h.c8
 obtain⟨g,c,e,_⟩:=a2.form hP
 refine⟨g,c,e,fun p hp => ?_⟩
 have a6:=a2
 rw[e]at a6
 rw[a6.cellAt p (by omega)]
 have h1:p<B.gs.length:=by rw[a3];exact hp
 simp[List.getElem?_eq_getElem h1,List.getD_eq_getElem?_getD,pg]
theorem ring_fin(h:WR B o n v w)(hl:v.rs.length=v.P)(hp:p<v.P){x:Value}{xs:List Int}{nx:Int}{hs:Bool}{st:Int}(h0:0≤st)(hr:Rg w' (B.gs.getD p 0) xs nx hs st)(ho:OnlyO (B.gs.getD p 0) none w w'):Po B o n x (v.putR p ⟨xs,nx,hs,st⟩) w (.returned x) w':=
 have ⟨a,b⟩:=h.ring1 hl hp (.refl h ho.size) ho (r:=⟨xs,nx,hs,st⟩) ⟨hr,h0⟩
 ⟨rfl,o,a,b⟩
theorem ring_told(h:WR B o n v w)(hl:v.rs.length=v.P)(hp:p<v.P){ys xs:List Int}{nx:Int}{hs:Bool}{st:Int}{e:Ending}(h0:0≤st)(ht:RTold (B.gs.getD p 0) ys xs nx hs st w e w'):Prw B o n ys (v.putR p ⟨xs,nx,hs,st⟩) w e w':=by
 obtain⟨rv,he,h1,h2,h3⟩:=ht
 have hb:=h1.lt
 have ⟨a,b⟩:=h.ring1 hl hp (o':=Oq o rv.ownBlock 12) (Oq.ox h (fun k hk => .inr (hb k hk)) (.inl rfl)) h3 (r:=⟨xs,nx,hs,st⟩) ⟨h2,h0⟩
 exact⟨rv,_,he,⟨h1.reads,fun k hk=>⟨Oq.at hk,(hb k hk).2⟩⟩,a,b⟩
theorem rget(h:WR B o n v w)(hl:v.rs.length=v.P)(hp:p<v.P):Calls Tryz.prog 132 #[.pointer (some ⟨B.gs.getD p 0,0,none⟩)] w (Po B o n (.tuple #[.int .i64 (v.ring p).get.1.1, .bool (v.ring p).get.1.2]) (v.putR p (v.ring p).get.2) w):=by
 obtain⟨_,hr,h0⟩:=h.c8.2.2.2 p hp
 rcases hv:v.ring p with⟨xs,nx,hs,st⟩
 rw[hv]at hr h0
 simp only at hr h0
 rcases hs with _|_
 ·rcases xs with _|⟨x,xs⟩
  ·refine(get_none _ _ _ _ hr).mono ?_
   rintro e y ⟨rfl,hy,ho⟩
   exact ring_fin h hl hp h0 hy ho
  ·refine(get_row_no _ _ _ _ _ _ hr).mono ?_
   rintro e y ⟨rfl,hy,ho⟩
   exact ring_fin h hl hp (by decide) hy ho
 ·rcases xs with _|⟨x,xs⟩
  ·refine(get_last _ _ _ _ hr).mono ?_
   rintro e y ⟨rfl,hy,ho⟩
   exact ring_fin h hl hp (by decide) hy ho
  ·by_cases h4:st<4
   ·refine(get_inherit _ _ _ _ _ hr (by simp) h0 h4).mono ?_
    rintro e y ⟨rfl,hy,ho⟩
    simp only[Y.RV.get,if_pos h4,if_true]
    exact ring_fin h hl hp (by omega) hy ho
   ·refine(get_row_yes _ _ _ _ _ _ hr (by omega)).mono ?_
    rintro e y ⟨rfl,hy,ho⟩
    simp only[Y.RV.get,if_neg h4,if_true]
    exact ring_fin h hl hp (by decide) hy ho
theorem rsteal(h:WR B o n v w)(hl:v.rs.length=v.P)(hp:p<v.P):Calls Tryz.prog 135 #[.pointer (some ⟨B.gs.getD p 0,0,none⟩)] w (Prw B o n (v.ring p).steal.1 (v.putR p (v.ring p).steal.2) w):=by
 obtain⟨_,hr,h0⟩:=h.c8.2.2.2 p hp
 rcases hv:v.ring p with⟨xs,nx,hs,st⟩
 rw[hv]at hr h0
 simp only at hr h0
 by_cases hx:0<xs.length
 ·refine(steal_row _ _ _ _ _ _ hr hx).mono fun e y ht => ?_
  simp only[Y.RV.steal,if_pos hx]
  exact ring_told h hl hp h0 ht
 ·have hx0:xs = []:=List.eq_nil_of_length_eq_zero (by omega)
  subst hx0
  rcases hs with _|_
  ·exact(steal_none _ _ _ _ hr).mono fun e y ht=>ring_told h hl hp h0 ht
  ·exact(steal_next _ _ _ _ hr).mono fun e y ht=>ring_told h hl hp (by decide) ht
theorem rready(h:WR B o n v w)(hl:v.rs.length=v.P)(hp:p<v.P)(g:Int):Calls Tryz.prog 180 #[.pointer (some ⟨B.gs.getD p 0,0,none⟩), .int .i64 g] w (Prw B o n ((v.ring p).ready g).1 (v.putR p ((v.ring p).ready g).2) w):=by
 obtain⟨_,hr,h0⟩:=h.c8.2.2.2 p hp
 rcases hv:v.ring p with⟨xs,nx,hs,st⟩
 rw[hv]at hr h0
 simp only at hr h0
 rcases hs with _|_
 ·exact(ready_no _ _ _ _ _ _ hr).mono fun e y ht=>ring_told h hl hp h0 ht
 ·exact(ready_yes _ _ _ _ _ _ hr).mono fun e y ht=>ring_told h hl hp h0 ht
theorem rputall(h:WR B o n v w)(hl:v.rs.length=v.P)(hp:p<v.P)(rv:Value)(ys:List Int)(hr:Rst o w rv ys)(hy:ys.length≤100000):Calls Tryz.prog 179 #[.pointer (some ⟨B.gs.getD p 0,0,none⟩),rv] w (Prw B o n ((v.ring p).putAll ys).1 (v.putR p ((v.ring p).putAll ys).2) w):=by
 obtain⟨og,hg,h0⟩:=h.c8.2.2.2 p hp
 have st:Stay w (B.gs.getD p 0) none rv ys:=⟨hr.rd,fun g off nn c e _=>⟨fun e2=>by
  have:=(hr.ow g (by rw[e];rfl)).1
  rw[e2,og]at this;omega,by simp⟩⟩
 exact(putall_r _ _ _ _ _ _ _ _ hg st hy).mono fun e y ht=>ring_told h hl hp h0 ht
theorem rlen(h:WR B o n v w)(hp:p<v.P):Calls Tryz.prog 137 #[.pointer (some ⟨B.gs.getD p 0,0,none⟩)] w fun e w'=>e = .returned (.int .i64 ((v.ring p).list.length:Nat))∧w=w':=by
 obtain⟨og,hg,h0⟩:=h.c8.2.2.2 p hp
 refine len_r _ _ _ _ _ _ hg _ ?_
 unfold Y.RV.list
 cases (v.ring p).hs <;> simp
theorem WR.que1(h:WR B o n v w){r r':Option Nat}{ys:List Int}(hr:∀ k,r=some k→o k=5)(hx:Ox o o' (· = 5) w w')(ho:OnlyO B.p r w w')(hq:Qu w' B.q B.p v.P r' ys)(hr':∀ k,r'=some k→o' k=5):WR B o' n (v.putQ ys) w'∧Ek o o' w w':=by
 obtain⟨⟨a1,a2⟩,r0,a3,a4⟩:=h.c5
 have hf:Fm o (· = 5) w w':=⟨ho.os,ho.tape,ho.output,ho.size,fun k hk hc=>ho.block k hk (fun e=>hc (by rw[e];exact a2)) (fun e=>hc (hr k e.symm))⟩
 exact⟨h.upd (Nat.le_refl _) hf hx (by decide) (.inr ⟨by decide,rfl,rfl,rfl,rfl⟩) (.inr ⟨by decide,rfl,rfl⟩) (.inr ⟨by decide,rfl⟩) (.inr ⟨by decide,rfl⟩) (.inl ⟨⟨(hx.old _ a4.lt).trans a1,(hx.old _ a4.hb.lt).trans a2⟩,r',hr',hq⟩) (.inr ⟨⟨by decide,by decide⟩,rfl,rfl⟩) (.inr ⟨⟨by decide,by decide⟩,rfl,rfl⟩) (.inr ⟨by decide,rfl,rfl⟩) (.inr ⟨by decide,rfl,rfl,rfl⟩), .of hf hx (by decide)⟩
theorem que_left(h:WR B o n v w){r:Option Nat}(hr:∀ k,r=some k→o k=5)(hq:Qu w B.q B.p v.P r v.qu){ys:List Int}{x:Value}(hl:Left B.p r ys w w'):Po B o n x (v.putQ ys) w (.returned x) w':=by
 obtain⟨r',h1,h2,h3⟩:=hl
 have hx:Ox o (Oq o r' 5) (· = 5) w w':=Oq.ox h (fun k hk=>by
  rcases h3 with e|h3
  ·exact .inl ⟨hr k (e ▸ hk),hq.hb.rlt k (e ▸ hk)⟩
  ·exact .inr ⟨h3 k hk,h1.rlt k hk⟩) (.inr rfl)
 have ⟨a,b⟩:=h.que1 hr hx h2 (hq.after h2 h1 h3) (fun k hk=>Oq.at hk)
 exact⟨rfl,_,a,b⟩
theorem wqput(h:WR B o n v w)(rv:Value)(ys:List Int)(hy:Reads w rv ys)(hl:(v.qu ++ ys).length≤1000000):Calls Tryz.prog 85 #[.pointer (some ⟨B.q,0,none⟩),rv] w (Po B o n (.tuple #[]) (v.putQ (v.qu ++ ys)) w):=by
 obtain⟨_,r,a3,a4⟩:=h.c5
 refine(qput _ _ _ _ _ _ _ _ a4 hy hl).mono ?_
 rintro e y ⟨rfl,hl⟩
 exact que_left h a3 a4 hl
theorem wqlen(h:WR B o n v w):Calls Tryz.prog 138 #[.pointer (some ⟨B.q,0,none⟩)] w fun e w'=>e = .returned (.int .i64 (v.qu.length:Nat))∧Quiet w w':=by
 obtain⟨_,r,a3,a4⟩:=h.c5
 exact qlen _ _ _ _ _ _ a4
theorem wqone(h:WR B o n v w):Calls Tryz.prog 131 #[.pointer (some ⟨B.q,0,none⟩)] w (Po B o n (.tuple #[.int .i64 v.one.1.1, .bool v.one.1.2]) v.one.2 w):=by
 obtain⟨_,r,a3,a4⟩:=h.c5
 unfold Y.V.one
 rcases hq:v.qu with _|⟨x,l⟩
 ·rw[hq]at a4
  refine(one_nil _ _ _ _ _ a4).mono ?_
  rintro e y ⟨rfl,hy⟩
  exact⟨rfl,o,h.quiet hy, .of_quiet hy⟩
 ·have a5:=a4
  rw[hq]at a4
  refine(one_cons _ _ _ _ _ _ _ a4).mono ?_
  rintro e y ⟨rfl,hy⟩
  exact que_left h a3 a5 hy
theorem wqtake(h:WR B o n v w):Calls Tryz.prog 134 #[.pointer (some ⟨B.q,0,none⟩)] w (Prw B o n v.takeQ.1 v.takeQ.2 w):=by
 obtain⟨_,r,a3,a4⟩:=h.c5
 refine(qtake _ _ _ _ _ _ a4 v.qu.length rfl v.share ?_).mono ?_
 ·unfold Y.V.share
  have:=Int.natCast_ediv v.qu.length v.P
  generalize v.qu.length / v.P=d at this ⊢
  rw[←this];omega
 ·rintro e y ⟨rv,r',rfl,h1,h2,h3,h4,h5⟩
  have hb:=h1.lt
  have hx1:Ox o (Oq o r' 5) (· = 5) w y:=Oq.ox h (fun k hk=>by
   rcases h4 with e|h4
   ·exact .inl ⟨a3 k (e ▸ hk),a4.hb.rlt k (e ▸ hk)⟩
   ·exact .inr ⟨h4 k hk,h2.rlt k hk⟩) (.inr rfl)
  have hx:Ox o (Oq (Oq o r' 5) rv.ownBlock 12) (· = 5) w y:=by
   refine⟨fun k hk => ?_,fun k hk => ?_⟩
   ·rw[Oq.no (fun e=>by have:=hb k e;omega)];exact hx1.old k hk
   ·by_cases e:rv.ownBlock=some k
    ·rw[Oq.at e];exact .inr ⟨(hb k e).2, .inl rfl⟩
    ·rw[Oq.no e];exact hx1.new k hk
  have ⟨a,b⟩:=h.que1 a3 hx h3 (a4.after h3 h2 h4) (fun k hk=>by rw[Oq.no (fun e=>(h5 k e).2 hk)];exact Oq.at hk)
  exact⟨rv,_,rfl,⟨h1.reads,fun k hk=>⟨Oq.at hk,(hb k hk).2⟩⟩,a,b⟩
end
section
variable {B:Bk}{o o':Nat→Nat}{n n':Nat}{v v':Y.V}{w w' wx:World}{C:Nat→Prop}{i p:Nat}
def On (o:Nat→Nat)(c:Nat)(w w':World):Nat→Nat:=fun k=>if w.heap.size≤k∧k<w'.heap.size then c else o k
theorem On.ox(h:WR B o n v w)(c:Nat)(hc:C c):Ox o (On o c w w') C w w':=by
 refine⟨fun k hk=>if_neg (by omega),fun k hk => ?_⟩
 unfold On
 split
 ·rename_i h1;exact .inr ⟨h1.2, .inr hc⟩
 ·exact .inl (h.fresh hk)
theorem On.zo(h:WR B o n v w)(c:Nat)(hc:c≠0)(hs:w.heap.size≤w'.heap.size):Zo (On o c w w') c w'=Zo o c w:=by
 funext k
 unfold Zo On
 apply propext
 constructor
 ·rintro⟨h1,h2⟩
  split at h2
  ·exact absurd rfl h2
  ·exact⟨by omega,h2⟩
 ·rintro⟨h1,h2⟩
  rw[if_neg (by omega)]
  exact⟨by omega,h2⟩
theorem idl_fr(h:WR B o n v w){x:Y.IV}{f:Nat→Bool}(hi:Ids (Zo o 11 w) B.ib v.P f x.pd v.M x.ss x.po w')(hf:f=fun i=>x.ps.getD i false)(fr:Fr (Zo o 11 w) w w'){y:Value}:Po B o n y (v.putI x) w (.returned y) w':=by
 have fm:Fm o (· = 11) w w':=⟨fr.os,fr.tape,fr.output,fr.size,fun k hk hc=>fr.block k ⟨hk,hc⟩⟩
 have ox:Ox o (On o 11 w w') (· = 11) w w':=On.ox h 11 rfl
 refine⟨rfl,On o 11 w w',h.upd (Nat.le_refl _) fm ox (by decide) (.inr ⟨by decide,rfl,rfl,rfl,rfl⟩) (.inr ⟨by decide,rfl,rfl⟩) (.inr ⟨by decide,rfl⟩) (.inr ⟨by decide,rfl⟩) (.inr ⟨by decide,rfl,rfl⟩) (.inr ⟨⟨by decide,by decide⟩,rfl,rfl⟩) (.inr ⟨⟨by decide,by decide⟩,rfl,rfl⟩) (.inr ⟨by decide,rfl,rfl⟩) (.inl ?_), .of fm ox (by decide)⟩
 show Ids _ _ _ _ _ _ _ _ _
 rw[On.zo h 11 (by decide) fr.size]
 subst hf
 exact hi
theorem fst_some:∀ {l:List Bool} {k:Nat},Y.fst l=some k→k<l.length∧l.getD k false=true ∧ ∀ i,i<k→l.getD i false=false
 | [],_,h=>by simp[Y.fst]at h
 | true :: l,k,h=>by
   simp[Y.fst]at h
   subst h
   exact⟨by simp,rfl,fun i hi=>by omega⟩
 | false :: l,k,h=>by
   simp only[Y.fst,Option.map_eq_some_iff]at h
   obtain⟨j,h1,rfl⟩:=h
   have ⟨a,b,c⟩:=fst_some h1
   refine⟨by simpa using a,by simpa using b,fun i hi => ?_⟩
   rcases i with _|i
   ·rfl
   ·simpa using c i (by omega)
theorem fst_none:∀ {l:List Bool},Y.fst l=none → ∀ i,l.getD i false=false
 | [],_,i=>by simp
 | true :: l,h,_=>by simp[Y.fst]at h
 | false :: l,h,i=>by
   simp[Y.fst]at h
   rcases i with _|i
   ·rfl
   ·simpa using fst_none h i
theorem upd_list(l:List Bool)(k:Nat)(b:Bool)(hk:k<l.length):upd (fun i=>l.getD i false) k b=fun i=>(l.set k b).getD i false:=by
 funext i
 unfold upd
 by_cases e:i=k
 ·subst e;simp[List.getD_eq_getElem?_getD,hk]
 ·rw[if_neg e];simp[List.getD_eq_getElem?_getD,List.getElem?_set_ne (fun h=>e h.symm)]
theorem wtakeP(h:WR B o n v w)(hp:v.id.ps.length=v.P):Calls Tryz.prog 140 #[.pointer (some ⟨B.ib,0,none⟩)] w (Po B o n (.tuple #[.int .i64 v.id.takeP.1.1, .bool v.id.takeP.1.2]) (v.putI v.id.takeP.2) w):=by
 have hi:=h.c11
 unfold C11 at hi
 unfold Y.IV.takeP
 rcases hf:Y.fst v.id.ps with _|k
 ·refine(takeP_none hi (fun i _=>fst_none hf i)).mono ?_
  rintro e y ⟨rfl,h1,h2⟩
  exact idl_fr h h1 rfl h2
 ·have ⟨a,b,c⟩:=fst_some hf
  refine(takeP_least hi k (by omega) b c).mono ?_
  rintro e y ⟨rfl,h1,h2⟩
  exact idl_fr h (x := { v.id with ps:=v.id.ps.set k false }) h1 (upd_list _ _ _ a) h2
theorem inF_list(l:List Bool)(np:Nat)(k:Nat)(hk:k<np):inF (fun i=>l.getD i false) np (k:Int)=l.getD k false:=by
 unfold inF;simp[hk]
theorem wputP(h:WR B o n v w)(hp:v.id.ps.length=v.P)(hpd:v.id.pd.length≤100000)(x:Int):Calls Tryz.prog 83 #[.pointer (some ⟨B.ib,0,none⟩), .int .i64 x] w fun e w'=>∃ b,Po B o n (.bool b) (v.putI (v.id.putP x)) w e w':=by
 have hi:=h.c11
 unfold C11 at hi
 unfold Y.IV.putP
 by_cases h1:x ∈ v.id.pd
 ·rw[if_neg (by simp[h1])]
  refine(putP_has hi x (by simp[hasB,h1]) hpd).mono ?_
  rintro e y ⟨rfl,h1,h2⟩
  exact⟨_,idl_fr h h1 rfl h2⟩
 ·by_cases h2:x<0∨(v.P:Int)≤x
  ·rw[if_neg (by omega)]
   refine(putP_no hi x (by simp[hasB,h1]) hpd (.inl h2)).mono ?_
   rintro e y ⟨rfl,h1,h2⟩
   exact⟨_,idl_fr h h1 rfl h2⟩
  ·obtain⟨k,rfl⟩:∃ k:Nat,x=k:=⟨x.toNat,by omega⟩
   rw[if_pos ⟨by omega,by omega,h1⟩,Int.toNat_natCast]
   by_cases h3:v.id.ps.getD k false=true
   ·refine(putP_no hi k (by simp[hasB,h1]) hpd (.inr (by rw[inF_list _ _ _ (by omega)];exact h3))).mono ?_
    rintro e y ⟨rfl,h4,h5⟩
    exact⟨_,idl_fr h (x := { v.id with ps:=v.id.ps.set k true }) h4 (by
     show _=fun i=>(v.id.ps.set k true).getD i false
     rw[←upd_list _ _ _ (by omega),upd_self _ h3]) h5⟩
   ·refine(putP_yes hi k (by simp[hasB,h1]) hpd (by omega) (by simpa using h3)).mono ?_
    rintro e y ⟨rfl,h4,h5⟩
    exact⟨_,idl_fr h (x := { v.id with ps:=v.id.ps.set k true }) h4 (upd_list _ _ _ (by omega)) h5⟩
theorem wpend(h:WR B o n v w)(hp:v.id.ps.length=v.P)(hpd:v.id.pd.length≤100000)(x:Int):Calls Tryz.prog 200 #[.pointer (some ⟨B.ib,0,none⟩), .int .i64 x] w fun e w'=>∃ b,Po B o n (.bool b) (v.putI (v.id.pend x)) w e w':=by
 have hi:=h.c11
 unfold C11 at hi
 unfold Y.IV.pend
 by_cases h2:x<0∨(v.P:Int)≤x
 ·rw[if_neg (by omega)]
  refine(pend_no hi x hpd (.inl h2)).mono ?_
  rintro e y ⟨rfl,h1,h2⟩
  exact⟨_,idl_fr h h1 rfl h2⟩
 ·obtain⟨k,rfl⟩:∃ k:Nat,x=k:=⟨x.toNat,by omega⟩
  have hk:k<v.P:=by omega
  have hh:v.id.has (k:Int)=v.id.ps.getD k false:=by unfold Y.IV.has;simp
  by_cases h3:v.id.ps.getD k false=true
  ·rw[if_neg (by rw[hh,h3];simp)]
   refine(pend_no hi k hpd (.inr (.inl ⟨by omega,by omega,by rw[inF_list _ _ _ hk];exact h3⟩))).mono ?_
   rintro e y ⟨rfl,h4,h5⟩
   exact⟨_,idl_fr h h4 rfl h5⟩
  ·by_cases h1:(k:Int) ∈ v.id.pd
   ·rw[if_neg (by simp[h1])]
    refine(pend_no hi k hpd (.inr (.inr ⟨by omega,by omega,by rw[inF_list _ _ _ hk];simpa using h3,by simp[hasB,h1]⟩))).mono ?_
    rintro e y ⟨rfl,h4,h5⟩
    exact⟨_,idl_fr h h4 rfl h5⟩
   ·rw[if_pos ⟨by omega,by omega,by rw[hh];simpa using h3,h1⟩]
    refine(pend_yes hi k hpd hk (by simpa using h3) (by simp[hasB,h1])).mono ?_
    rintro e y ⟨rfl,h4,h5⟩
    exact⟨_,idl_fr h (x := { v.id with pd:=v.id.pd ++ [(k:Int)] }) h4 rfl h5⟩
theorem wtakePend(h:WR B o n v w):Calls Tryz.prog 176 #[.pointer (some ⟨B.ib,0,none⟩)] w (Po B o n (.tuple #[.int .i64 v.id.takePend.1.1, .bool v.id.takePend.1.2]) (v.putI v.id.takePend.2) w):=by
 have hi:=h.c11
 unfold C11 at hi
 unfold Y.IV.takePend
 rcases hd:v.id.pd with _|⟨x,l⟩
 ·rw[hd]at hi
  refine(takePend_none hi).mono ?_
  rintro e y ⟨rfl,h1,h2⟩
  exact idl_fr h (x:=v.id) (by rw[hd];exact h1) rfl h2
 ·rw[hd]at hi
  refine(takePend_first x hi).mono ?_
  rintro e y ⟨rfl,h1,h2⟩
  exact idl_fr h (x := { v.id with pd:=l }) h1 rfl h2
theorem wistop(h:WR B o n v w)(hss:v.id.ss.length≤100000)(hpo:v.id.po = -1∨0≤v.id.po)(hi:i<v.M):Calls Tryz.prog 84 #[.pointer (some ⟨B.ib,0,none⟩), .int .i64 (i:Int)] w fun e w'=>∃ b,Po B o n (.tuple #[.bool (v.id.stop v.M i).1, .bool b]) (v.putI (v.id.stop v.M i).2) w e w':=by
 have h11:=h.c11
 unfold C11 at h11
 unfold Y.IV.stop
 by_cases h1:(i:Int)=v.id.po∨(i:Int) ∈ v.id.ss
 ·rw[if_pos (by rcases h1 with h1|h1;exact .inr (.inr (.inl h1));exact .inr (.inr (.inr h1)))]
  refine(iStop_no h11 i (by omega) (by omega) (by
   by_cases e:(i:Int)=v.id.po
   ·exact .inl e
   ·exact .inr ⟨e,by rcases h1 with h1|h1;exact absurd h1 e;simp[hasB,h1]⟩) hss).mono ?_
  rintro e y ⟨rfl,h1,h2⟩
  exact⟨_,idl_fr h h1 rfl h2⟩
 ·have hn:(i:Int) ∉ v.id.ss:=fun e=>h1 (.inr e)
  rw[if_neg (by rintro (e|e|e|e);omega;omega;exact h1 (.inl e);exact hn e)]
  by_cases h2:v.id.po = -1
  ·rw[if_pos h2]
   rw[h2]at h11
   refine(iStop_first h11 i (by omega) (by omega) (by simp[hasB,hn]) hss).mono ?_
   rintro e y ⟨rfl,h1,h2⟩
   exact⟨_,idl_fr h (x := { v.id with po:=(i:Int) }) h1 rfl h2⟩
  ·rw[if_neg h2]
   refine(iStop_more h11 i (by omega) (fun e=>h1 (.inl e)) (by omega) (by omega) (by simp[hasB,hn]) hss).mono ?_
   rintro e y ⟨rfl,h1,h2⟩
   exact⟨_,idl_fr h (x := { v.id with ss:=v.id.ss ++ [(i:Int)] }) h1 rfl h2⟩
theorem witakeM(h:WR B o n v w)(hss:v.id.ss.length≤100000)(hpo:v.id.po = -1∨0≤v.id.po):Calls Tryz.prog 199 #[.pointer (some ⟨B.ib,0,none⟩)] w (Po B o n (.tuple #[.int .i64 v.id.takeM.1.1, .bool v.id.takeM.1.2]) (v.putI v.id.takeM.2) w):=by
 have h11:=h.c11
 unfold C11 at h11
 unfold Y.IV.takeM
 rcases List.eq_nil_or_concat v.id.ss with hs|⟨l,m,hs⟩
 ·rw[hs]at h11 ⊢
  simp only[List.getLast?_nil]
  by_cases h2:v.id.po = -1
  ·rw[if_pos h2]
   rw[h2]at h11
   refine(iTakeM_none h11).mono ?_
   rintro e y ⟨rfl,h1,h2'⟩
   exact idl_fr h (x:=v.id) (by rw[hs,h2];exact h1) rfl h2'
  ·rw[if_neg h2]
   refine(iTakeM_poller h11 (by omega)).mono ?_
   rintro e y ⟨rfl,h1,h2'⟩
   exact idl_fr h (x:=⟨v.id.ps,v.id.pd, [], -1⟩) h1 rfl h2'
 ·rw[hs,List.concat_eq_append]at h11 ⊢
  rw[hs,List.concat_eq_append,List.length_append]at hss
  have e1:(l ++ [m]).getLast? = some m:=by simp
  rw[e1]
  refine(iTakeM_last m h11 (by simp at hss;omega)).mono ?_
  rintro e y ⟨rfl,h1,h2'⟩
  have e2:(l ++ [m]).dropLast=l:=by simp
  simp only[e2]
  exact idl_fr h (x := { v.id with ss:=l }) h1 rfl h2'
theorem wpoller(h:WR B o n v w)(hpo:v.id.po = -1∨0≤v.id.po):Calls Tryz.prog 65 #[.pointer (some ⟨B.ib,0,none⟩)] w fun e w'=>e = .returned (.tuple #[.int .i64 (if v.id.po = -1 then 0 else v.id.po), .bool (decide (v.id.po ≠ -1))])∧w=w':=by
 have h11:=h.c11
 unfold C11 at h11
 by_cases h2:v.id.po = -1
 ·rw[h2]at h11 ⊢
  exact iPoller_no h11
 ·rw[if_neg h2]
  simp only[ne_eq,h2,not_false_eq_true,decide_true]
  exact iPoller_yes h11 (by omega)
theorem wileave(h:WR B o n v w)(hpo:v.id.po = -1∨0≤v.id.po)(m:Int):Calls Tryz.prog 66 #[.pointer (some ⟨B.ib,0,none⟩), .int .i64 m] w (Po B o n (.bool (v.id.leave m).1) (v.putI (v.id.leave m).2) w):=by
 have h11:=h.c11
 unfold C11 at h11
 have h12:=h11
 obtain⟨mx,my,r,rp,W,pv,i0,hf⟩:=h11.h
 unfold Y.IV.leave
 by_cases h1:m = -1∨m≠v.id.po
 ·rw[if_pos h1]
  refine(leave_no _ r _ _ _ _ _ m w i0.i h1).mono ?_
  rintro e y ⟨rfl,rfl⟩
  exact idl_fr h h12 rfl (.refl _ _)
 ·rw[if_neg h1]
  obtain rfl:m=v.id.po:=by omega
  refine(leave_yes _ r _ _ _ _ _ w i0.i (by omega)).mono ?_
  intro e y hp
  obtain⟨rfl,h3,h4⟩:=h12.lift i0 hf hp
  exact idl_fr h (x := { v.id with po := -1 }) h3 rfl h4
end
def AnB (e:Ending):Prop:=∃ r,e = .returned (.bool r)
def AnI (e:Ending):Prop:=∃ r,e = .returned (.int .i64 r)
theorem bool_ret{a b:Bool}(h:a=b):Ending.returned (.bool a) = .returned (.bool b):=by rw[h]
theorem mswap(b g:Nat)(xs:List Int)(c:Nat)(i q x:Int)(w:World)(hm:Mem w b g xs c)(hc:c<1000000000)(hi0:0≤i)(hi:i<xs.length) :
 Calls Tryz.prog 106 #[.pointer (some ⟨b,0,none⟩), .int .i64 i, .int .u64 q, .int .u64 x] w fun e w'=>e = .returned (.bool (decide (xs.getD i.toNat 0=q)))∧Mem w' b g (xs.set i.toNat (if xs.getD i.toNat 0=q then x else xs.getD i.toNat 0)) (c+1)∧Only b g w w':=by
 have hl:=hm.len
 by_cases hv:xs.getD i.toNat 0=q
 ·rw[if_pos hv,decide_eq_true hv]
  subst hv
  go_enter Tryz.func106,Tryz.ntmps106
  go_wp2_with fail
  refine(acc b g xs c i _ hm hc hi0 hi).mono ?_
  rintro e w' ⟨rfl,hm',ho⟩
  obtain⟨cap,h0,_,_⟩:=hm'.c0
  have hg:=hm'.cg i.toNat (by omega)
  have hf:=hm'.fg
  go_wp2
  go_ret
  exact⟨rfl,(set_g hm' _ _).1,ho.trans (set_g hm' _ _).2⟩
 ·rw[if_neg hv,decide_eq_false hv,set_getD rfl]
  obtain⟨v,hvv⟩:∃ v,v=xs.getD i.toNat 0:=⟨_,rfl⟩
  rw[←hvv]at hv
  have hne':(v != q)=true:=by simpa using hv
  have HV:=hid hvv
  clear hv hvv
  go_enter Tryz.func106,Tryz.ntmps106
  go_wp2_with fail
  refine(acc b g xs c i _ hm hc hi0 hi).mono ?_
  rintro e w' ⟨rfl,hm',ho⟩
  obtain⟨cap,h0,_,_⟩:=hm'.c0
  have hg:=hm'.cg i.toNat (by omega)
  rw[←HV.out]at hg
  have hf:=hm'.fg
  go_wp2
  go_ret
  exact⟨rfl,hm',ho⟩
theorem nwake(b g:Nat)(xs:List Int)(c:Nat)(i:Int)(w:World)(hm:Mem w b g xs c)(hc:c<1000000000)(h0:0≤i)(h1:i<xs.length) :
 Calls Tryz.prog 112 #[.pointer (some ⟨b,0,none⟩), .int .i64 i] w fun e w'=>AnB e∧Mem w' b g (xs.set i.toNat (if xs.getD i.toNat 0=0 then 1 else xs.getD i.toNat 0)) (c+1)∧Only b g w w':=by
 have SW:=hid (mswap b g xs c i 0 1 w hm hc h0 h1)
 generalize decide (xs.getD i.toNat 0=0)=r at SW
 generalize xs.set i.toNat (if xs.getD i.toNat 0=0 then 1 else xs.getD i.toNat 0)=zs at SW ⊢
 clear hm hc h0 h1
 go_enter Tryz.func112,Tryz.ntmps112
 go_wp2_with fail
 refine SW.out.mono ?_
 rintro e w1 ⟨rfl,hm1,ho1⟩
 have M1:=hid hm1
 have O1:=hid ho1
 clear hm1 ho1 SW
 go_wp2
 go_ret
 exact⟨⟨_,rfl⟩,M1.out,O1.out⟩
theorem nis(b g:Nat)(xs:List Int)(c:Nat)(i:Int)(w:World)(hm:Mem w b g xs c)(hc:c<1000000000)(h0:0≤i)(h1:i<xs.length) :
 Calls Tryz.prog 90 #[.pointer (some ⟨b,0,none⟩), .int .i64 i] w fun e w'=>e = .returned (.bool (decide (xs.getD i.toNat 0=1)))∧Mem w' b g xs (c+1)∧Only b g w w':=by
 obtain⟨v,hv⟩:∃ v,v=xs.getD i.toNat 0:=⟨_,rfl⟩
 have LD:=hid (load_v b g xs c i v w hm hc h0 h1 hv.symm)
 rw[←hv]
 clear hm hc h0 h1 hv
 go_enter Tryz.func90,Tryz.ntmps90
 go_wp2_with fail
 refine LD.out.mono ?_
 rintro e w1 ⟨rfl,hm1,ho1⟩
 have M1:=hid hm1
 have O1:=hid ho1
 clear hm1 ho1 LD
 go_wp2
 go_ret
 exact⟨bool_ret (by by_cases h:v=1 <;> simp[h]),M1.out,O1.out⟩
theorem ndue(m now:Int)(w:World) :
 Calls Tryz.prog 186 #[.agg #[.int .i64 m, .int .i64 9223372036854775807], .int .i64 now] w fun e w'=>e = .returned (.bool false)∧Below w.heap.size w w':=by
 go_enter Tryz.func186,Tryz.ntmps186
 go_wp2
 go_ret
 exact⟨rfl,(Below.refl _ _).alloc (Nat.le_refl _) _⟩
theorem nslept(b g:Nat)(xs:List Int)(c:Nat)(m now:Int)(w:World)(hm:Mem w b g xs c)(hc:c<1000000000)(h0:0≤m)(h1:m<xs.length) :
 Calls Tryz.prog 151 #[.agg #[.int .i64 m, .int .i64 9223372036854775807], .pointer (some ⟨b,0,none⟩), .int .i64 now] w fun e w'=>AnI e∧Mem w' b g (xs.set m.toNat (if xs.getD m.toNat 0=1 then 0 else xs.getD m.toNat 0)) (c+1)∧Only b g w w':=by
 have SW:=hid (fun(y:World) (hy:Mem y b g xs c)=>mswap b g xs c m 1 0 y hy hc h0 h1)
 have HM:=hid hm
 generalize decide (xs.getD m.toNat 0=1)=r at SW
 generalize xs.set m.toNat (if xs.getD m.toNat 0=1 then 0 else xs.getD m.toNat 0)=zs at SW ⊢
 clear hm hc h0 h1
 rcases r with _|_
 ·go_enter Tryz.func151,Tryz.ntmps151
  go_wp2_with fail
  refine(SW.out _ (HM.out.alloc _)).mono ?_
  rintro e w1 ⟨rfl,hm1,ho1⟩
  have hnew:=ho1.new HM.out.sb HM.out.sg
  have k0:w1.cell? ⟨w.heap.size,0,none⟩=some (.int .i64 m):=by simp[World.cell?,hnew]
  have k1:w1.cell? ⟨w.heap.size,1,none⟩=some (.int .i64 9223372036854775807):=by simp[World.cell?,hnew]
  have M1:=hid hm1
  have O1:=hid ((Only.alloc (b:=b) (g:=g) w _).trans ho1)
  clear hnew hm1 ho1 SW
  go_wp2_with fail
  refine(ndue m now _).mono ?_
  rintro e w2 ⟨rfl,hb2⟩
  have M2:=hid (M1.out.below hb2 M1.out.sb M1.out.sg)
  have O2:=hid (O1.out.trans (.of_below hb2))
  clear hb2 k0 k1 M1 O1
  go_wp2
  go_ret
  exact⟨⟨_,rfl⟩,M2.out,O2.out⟩
 ·go_enter Tryz.func151,Tryz.ntmps151
  go_wp2_with fail
  refine(SW.out _ (HM.out.alloc _)).mono ?_
  rintro e w1 ⟨rfl,hm1,ho1⟩
  have M1:=hid hm1
  have O1:=hid ((Only.alloc (b:=b) (g:=g) w _).trans ho1)
  clear hm1 ho1 SW
  go_wp2
  go_ret
  exact⟨⟨_,rfl⟩,M1.out,O1.out⟩
structure Cb(w:World)(W pw pi:Nat)(cs:Array Value)(t:TypeId):Prop where
 a:w.heap[pw]? = some (.cells #[.pointer (some ⟨W,0,none⟩)] 24 (0,0))
 b:w.heap[pi]? = some (.cells cs t (0,0))
theorem Cb.only{w w':World}{W pw pi b g:Nat}{cs:Array Value}{t:TypeId}(h:Cb w W pw pi cs t)(ho:Only b g w w')(h1:pw≠b∧pw≠g∧pi≠b∧pi≠g):Cb w' W pw pi cs t:=
 ⟨(ho.block _ (blk_lt h.a) h1.1 h1.2.1).trans h.a,(ho.block _ (blk_lt h.b) h1.2.2.1 h1.2.2.2).trans h.b⟩
def BothF(b1 g1 b2 g2:Nat)(xs ys:List Int)(c d:Nat)(w w':World):Prop:=Mem w' b1 g1 xs (c+1)∧Mem w' b2 g2 ys (d+1)∧OnL [b1,g1,b2,g2] w w'
theorem w64_is(x d:Int):IntKind.u64.wrap (x+IntKind.u64.wrap d)=Y.w64 (x+d):=by simp only[u64_wrap,Y.w64];omega
theorem cspin1{w:World}{W pw pi b g:Nat}{xs:List Int}{c:Nat}{d0 f:Int}(ac:w.cell? ⟨W,5,none⟩=some (.int .i64 f))(hs:Cb w W pw pi #[.int .i64 d0] 2)(hm:Mem w b g xs c)(hc:c<1000000000)(h0:0≤f)(h1:f<xs.length) :
 Calls Tryz.prog 185 #[.pointer (some ⟨b,0,none⟩), .pointer (some ⟨pw,0,none⟩), .pointer (some ⟨pi,0,none⟩)] w fun e w'=>e = .returned (.tuple #[])∧Mem w' b g (xs.set f.toNat (Y.w64 (xs.getD f.toNat 0+d0))) (c+1)∧Only b g w w':=by
 have p0:w.cell? ⟨pw,0,none⟩=some (.pointer (some ⟨W,0,none⟩)):=blk_cell hs.a rfl
 have p1:w.cell? ⟨pi,0,none⟩=some (.int .i64 d0):=blk_cell hs.b rfl
 obtain⟨z,hz⟩:∃ z,z=Y.w64 (xs.getD f.toNat 0+d0):=⟨_,rfl⟩
 have SW:=hid (fun(y:World) (hq:Quiet w y)=>(add_v b g xs c f d0 _ y (hm.quiet hq) hc h0 h1 ((w64_is _ _).trans hz.symm)).mono (R':=fun e w'=>e = .returned (.int .u64 z)∧Mem w' b g (xs.set f.toNat z) (c+1)∧Only b g w w') fun e w' hx=>⟨hx.1,hx.2.1,(Only.of_quiet hq).trans hx.2.2⟩)
 rw[←hz]
 clear hz
 clear hs hm hc h0 h1
 go_enter Tryz.func185,Tryz.ntmps185
 go_wp2_with fail
 go_region_with (go_at_call 163;refine(SW.out _ ⟨_,rfl⟩).mono ?_;rintro e w1 ⟨rfl,hm1,ho1⟩)
 all_goals
  have M1:=hid hm1
  have O1:=hid ho1
  clear hm1 ho1 SW
  go_wp2
  go_end0
  exact⟨rfl,M1.out,O1.out⟩
theorem cspin2{w:World}{W pw pi b1 g1 b2 g2:Nat}{xs ys:List Int}{c d:Nat}{d0 f:Int}(a3:w.cell? ⟨W,3,none⟩=some (.pointer (some ⟨b1,0,none⟩)))(a4:w.cell? ⟨W,4,none⟩=some (.pointer (some ⟨b2,0,none⟩)))(ac:w.cell? ⟨W,5,none⟩=some (.int .i64 f))(hs:Cb w W pw pi #[.int .i64 d0] 2)(hm1:Mem w b1 g1 xs c)(hm2:Mem w b2 g2 ys d)(hc:c<1000000000)(hd:d<1000000000)(h0:0≤f)(h1:f<xs.length)(h2:f<ys.length){z1 z2:List Int}(hz1:xs.set f.toNat (Y.w64 (xs.getD f.toNat 0+d0))=z1)(hz2:ys.set f.toNat (Y.w64 (ys.getD f.toNat 0+d0))=z2)
 (ne:b1≠b2∧b1≠g2∧g1≠b2∧g1≠g2∧W≠b1∧W≠g1)(np:pw≠b1∧pw≠g1∧pi≠b1∧pi≠g1) :
 Calls Tryz.prog 110 #[.pointer (some ⟨W,0,none⟩), .func (.func 185) #[] #[.pointer (some ⟨pw,0,none⟩), .pointer (some ⟨pi,0,none⟩)]] w fun e w'=>e = .returned (.tuple #[])∧BothF b1 g1 b2 g2 z1 z2 c d w w':=by
 have S1:=hid (hz1 ▸ cspin1 ac hs hm1 hc h0 h1)
 have S2:=hid (fun(y:World) (ho:Only b1 g1 w y)=>(show y.cell? ⟨W,4,none⟩=some (.pointer (some ⟨b2,0,none⟩))∧Calls Tryz.prog 185 #[.pointer (some ⟨b2,0,none⟩), .pointer (some ⟨pw,0,none⟩), .pointer (some ⟨pi,0,none⟩)] y fun e w'=>e = .returned (.tuple #[])∧Mem w' b2 g2 z2 (d+1)∧Only b2 g2 y w' from by
  rw[←hz2]
  have eb:y.heap[W]? = w.heap[W]?:=ho.block _ (cell_lt a4) ne.2.2.2.2.1 ne.2.2.2.2.2
  exact⟨(World.cell?_of_block eb).trans a4,cspin1 ((World.cell?_of_block eb).trans ac) (hs.only ho np) (hm2.other ho (Ne.symm ne.1) (Ne.symm ne.2.2.1) (Ne.symm ne.2.1) (Ne.symm ne.2.2.2.1)) hd h0 h2⟩))
 have NE:=hid ne
 clear hs hm1 hm2 hc hd ne np ac a4 hz1 hz2 h0 h1 h2
 go_enter Tryz.func110,Tryz.ntmps110
 go_wp2_with fail
 refine S1.out.mono ?_
 rintro e w2 ⟨rfl,hm,ho⟩
 have M2:=hid hm
 have O2:=hid ho
 have HW2:=hid (S2.out w2 ho)
 have a4:=HW2.out.1
 clear hm ho a3
 go_wp2_with fail
 refine HW2.out.2.mono ?_
 rintro e w3 ⟨rfl,hm,ho⟩
 have FIN:=hid (show BothF b1 g1 b2 g2 z1 z2 c d w w3 from⟨M2.out.other ho NE.out.1 NE.out.2.1 NE.out.2.2.1 NE.out.2.2.2.1,hm,(OnL.of_only O2.out (by simp) (by simp)).trans (OnL.of_only ho (by simp) (by simp))⟩)
 clear hm ho
 go_wp2
 go_end0
 exact⟨rfl,FIN.out⟩
theorem cwake1{w:World}{W pw pi b g:Nat}{xs:List Int}{c:Nat}{i0 f:Int}(ac:w.cell? ⟨W,6,none⟩=some (.int .i64 f))(hs:Cb w W pw pi #[.int .i64 i0] 3)(hm:Mem w b g xs c)(hc:c<1000000000)(h0:0≤f+i0)(h1:f+i0<xs.length)(hi:0≤f∧f≤1000000∧0≤i0∧i0≤1000000) :
 Calls Tryz.prog 111 #[.pointer (some ⟨b,0,none⟩), .pointer (some ⟨pw,0,none⟩), .pointer (some ⟨pi,0,none⟩)] w fun e w'=>e = .returned (.tuple #[])∧Mem w' b g (xs.set (f+i0).toNat (if xs.getD (f+i0).toNat 0=0 then 1 else xs.getD (f+i0).toNat 0)) (c+1)∧Only b g w w':=by
 have p0:w.cell? ⟨pw,0,none⟩=some (.pointer (some ⟨W,0,none⟩)):=blk_cell hs.a rfl
 have p1:w.cell? ⟨pi,0,none⟩=some (.int .i64 i0):=blk_cell hs.b rfl
 have SW:=hid (fun(y:World) (hq:Quiet w y)=>(nwake b g xs c (f+i0) y (hm.quiet hq) hc h0 h1).mono (R':=fun e w'=>AnB e∧Mem w' b g (xs.set (f+i0).toNat (if xs.getD (f+i0).toNat 0=0 then 1 else xs.getD (f+i0).toNat 0)) (c+1)∧Only b g w w') fun e w' hx=>⟨hx.1,hx.2.1,(Only.of_quiet hq).trans hx.2.2⟩)
 have hwr:IntKind.i64.wrap (f+i0)=f+i0:=IntWalk.i64_in _ (by omega)
 generalize xs.set (f+i0).toNat (if xs.getD (f+i0).toNat 0=0 then 1 else xs.getD (f+i0).toNat 0)=zs at SW ⊢
 clear hs hm hc h0 h1 hi
 go_enter Tryz.func111,Tryz.ntmps111
 go_wp2_with fail
 go_region_with (go_at_call 112;refine(SW.out _ ⟨_,rfl⟩).mono ?_;rintro e w1 ⟨⟨_,rfl⟩,hm1,ho1⟩)
 all_goals
  have M1:=hid hm1
  have O1:=hid ho1
  clear hm1 ho1 SW
  go_wp2
  go_end0
  exact⟨rfl,M1.out,O1.out⟩
theorem cwake2{w:World}{W pw pi b1 g1 b2 g2:Nat}{xs ys:List Int}{c d:Nat}{i0 f:Int}(a3:w.cell? ⟨W,3,none⟩=some (.pointer (some ⟨b1,0,none⟩)))(a4:w.cell? ⟨W,4,none⟩=some (.pointer (some ⟨b2,0,none⟩)))(ac:w.cell? ⟨W,6,none⟩=some (.int .i64 f))(hs:Cb w W pw pi #[.int .i64 i0] 3)(hm1:Mem w b1 g1 xs c)(hm2:Mem w b2 g2 ys d)(hc:c<1000000000)(hd:d<1000000000)(h0:0≤f+i0)(h1:f+i0<xs.length)(h2:f+i0<ys.length)(hi:0≤f∧f≤1000000∧0≤i0∧i0≤1000000){z1 z2:List Int}(hz1:xs.set (f+i0).toNat (if xs.getD (f+i0).toNat 0=0 then 1 else xs.getD (f+i0).toNat 0)=z1)(hz2:ys.set (f+i0).toNat (if ys.getD (f+i0).toNat 0=0 then 1 else ys.getD (f+i0).toNat 0)=z2)
 (ne:b1≠b2∧b1≠g2∧g1≠b2∧g1≠g2∧W≠b1∧W≠g1)(np:pw≠b1∧pw≠g1∧pi≠b1∧pi≠g1) :
 Calls Tryz.prog 110 #[.pointer (some ⟨W,0,none⟩), .func (.func 111) #[] #[.pointer (some ⟨pw,0,none⟩), .pointer (some ⟨pi,0,none⟩)]] w fun e w'=>e = .returned (.tuple #[])∧BothF b1 g1 b2 g2 z1 z2 c d w w':=by
 have S1:=hid (hz1 ▸ cwake1 ac hs hm1 hc h0 h1 hi)
 have S2:=hid (fun(y:World) (ho:Only b1 g1 w y)=>(show y.cell? ⟨W,4,none⟩=some (.pointer (some ⟨b2,0,none⟩))∧Calls Tryz.prog 111 #[.pointer (some ⟨b2,0,none⟩), .pointer (some ⟨pw,0,none⟩), .pointer (some ⟨pi,0,none⟩)] y fun e w'=>e = .returned (.tuple #[])∧Mem w' b2 g2 z2 (d+1)∧Only b2 g2 y w' from by
  rw[←hz2]
  have eb:y.heap[W]? = w.heap[W]?:=ho.block _ (cell_lt a4) ne.2.2.2.2.1 ne.2.2.2.2.2
  exact⟨(World.cell?_of_block eb).trans a4,cwake1 ((World.cell?_of_block eb).trans ac) (hs.only ho np) (hm2.other ho (Ne.symm ne.1) (Ne.symm ne.2.2.1) (Ne.symm ne.2.1) (Ne.symm ne.2.2.2.1)) hd h0 h2 hi⟩))
 have NE:=hid ne
 clear hs hm1 hm2 hc hd ne np ac a4 hz1 hz2 h0 h1 h2 hi
 go_enter Tryz.func110,Tryz.ntmps110
 go_wp2_with fail
 refine S1.out.mono ?_
 rintro e w2 ⟨rfl,hm,ho⟩
 have M2:=hid hm
 have O2:=hid ho
 have HW2:=hid (S2.out w2 ho)
 have a4:=HW2.out.1
 clear hm ho a3
 go_wp2_with fail
 refine HW2.out.2.mono ?_
 rintro e w3 ⟨rfl,hm,ho⟩
 have FIN:=hid (show BothF b1 g1 b2 g2 z1 z2 c d w w3 from⟨M2.out.other ho NE.out.1 NE.out.2.1 NE.out.2.2.1 NE.out.2.2.2.1,hm,(OnL.of_only O2.out (by simp) (by simp)).trans (OnL.of_only ho (by simp) (by simp))⟩)
 clear hm ho
 go_wp2
 go_end0
 exact⟨rfl,FIN.out⟩
section
variable {B:Bk}{o o':Nat→Nat}{n n':Nat}{v v':Y.V}{w w' wx:World}{C:Nat→Prop}{i p:Nat}
theorem WR.mems(h:WR B o n v w)(hd:n≤n'){ms ns:List Int}{mc d:Nat}(h1:Mem w' B.b1 B.g1 ms mc)(h2:Mem w' B.b2 B.g2 ns d)(hdn:d≤n')(ho:OnL [B.b1,B.g1,B.b2,B.g2] w w'):WR B o n' { v with ms:=ms,ns:=ns,mc:=mc } w'∧Ek o o w w':=by
 obtain⟨⟨a1,a2⟩,a3⟩:=h.c2
 obtain⟨⟨c1,c2⟩,_,_,c3⟩:=h.c3
 have hf:Fm o (fun k=>k=2∨k=3) w w':=⟨ho.os,ho.tape,ho.output,ho.size,fun k hk hc=>ho.block k hk (fun e=>hc (by
  simp only[List.mem_cons,List.not_mem_nil,or_false]at e
  rcases e with e|e|e|e <;> rw[e]
  ·exact .inl a1
  ·exact .inl a2
  ·exact .inr c1
  ·exact .inr c2))⟩
 have hx:Ox o o (fun k=>k=2∨k=3) w w' := .refl h ho.size
 exact⟨h.upd hd hf hx (by decide) (.inr ⟨by decide,rfl,rfl,rfl,rfl⟩) (.inl ⟨⟨a1,a2⟩,h1⟩) (.inl ⟨⟨c1,c2⟩,d,hdn,h2⟩) (.inr ⟨by decide,rfl⟩) (.inr ⟨by decide,rfl,rfl⟩) (.inr ⟨⟨by decide,by decide⟩,rfl,rfl⟩) (.inr ⟨⟨by decide,by decide⟩,rfl,rfl⟩) (.inr ⟨by decide,rfl,rfl⟩) (.inr ⟨by decide,rfl,rfl,rfl⟩), .of hf hx (by decide)⟩
theorem WR.mem1(h:WR B o n v w){ms:List Int}{mc:Nat}(h1:Mem w' B.b1 B.g1 ms mc)(ho:Only B.b1 B.g1 w w'):WR B o n { v with ms:=ms,mc:=mc } w'∧Ek o o w w':=by
 obtain⟨⟨a1,a2⟩,a3⟩:=h.c2
 have hf:Fm o (· = 2) w w':=⟨ho.os,ho.tape,ho.output,ho.size,fun k hk hc=>ho.block k hk (fun e=>hc (by rw[e];exact a1)) (fun e=>hc (by rw[e];exact a2))⟩
 have hx:Ox o o (· = 2) w w' := .refl h ho.size
 exact⟨h.upd (Nat.le_refl _) hf hx (by decide) (.inr ⟨by decide,rfl,rfl,rfl,rfl⟩) (.inl ⟨⟨a1,a2⟩,h1⟩) (.inr ⟨by decide,rfl⟩) (.inr ⟨by decide,rfl⟩) (.inr ⟨by decide,rfl,rfl⟩) (.inr ⟨⟨by decide,by decide⟩,rfl,rfl⟩) (.inr ⟨⟨by decide,by decide⟩,rfl,rfl⟩) (.inr ⟨by decide,rfl,rfl⟩) (.inr ⟨by decide,rfl,rfl,rfl⟩), .of hf hx (by decide)⟩
theorem WR.mem2(h:WR B o n v w){d:Nat}(hn:n≤n')(hd:d≤n')(h1:Mem w' B.b2 B.g2 v.ns d)(ho:Only B.b2 B.g2 w w'):WR B o n' v w'∧Ek o o w w':=by
 obtain⟨⟨a1,a2⟩,_,_,a3⟩:=h.c3
 have hf:Fm o (· = 3) w w':=⟨ho.os,ho.tape,ho.output,ho.size,fun k hk hc=>ho.block k hk (fun e=>hc (by rw[e];exact a1)) (fun e=>hc (by rw[e];exact a2))⟩
 have hx:Ox o o (· = 3) w w' := .refl h ho.size
 exact⟨h.upd hn hf hx (by decide) (.inr ⟨by decide,rfl,rfl,rfl,rfl⟩) (.inr ⟨by decide,rfl,rfl⟩) (.inl ⟨⟨a1,a2⟩,d,hd,h1⟩) (.inr ⟨by decide,rfl⟩) (.inr ⟨by decide,rfl,rfl⟩) (.inr ⟨⟨by decide,by decide⟩,rfl,rfl⟩) (.inr ⟨⟨by decide,by decide⟩,rfl,rfl⟩) (.inr ⟨by decide,rfl,rfl⟩) (.inr ⟨by decide,rfl,rfl,rfl⟩), .of hf hx (by decide)⟩
theorem WR.apart(h:WR B o n v w):B.b1≠B.b2∧B.b1≠B.g2∧B.g1≠B.b2∧B.g1≠B.g2∧B.W≠B.b1∧B.W≠B.g1∧B.W≠B.b2∧B.W≠B.g2:=by
 have a0:=h.oW
 have a1:=h.c2.1.1
 have a2:=h.c2.1.2
 have a3:=h.c3.1.1
 have a4:=h.c3.1.2
 refine⟨fun e => ?_,fun e => ?_,fun e => ?_,fun e => ?_,fun e => ?_,fun e => ?_,fun e => ?_,fun e => ?_⟩ <;> (have:=congrArg o e;omega)
structure Few(n:Nat)(v:Y.V):Prop where
 ms:v.ms.length=v.wds
 ns:v.ns.length=v.wds
 mc:v.mc<1000000
 lg:v.lg.length<1000
 n:n<1000000
 wd:v.wds≤100000
theorem two_in(w:World)(W:Nat)(cs:Array Value)(t:TypeId):Cb ((w.alloc (.cells #[.pointer (some ⟨W,0,none⟩)] 24)).alloc (.cells cs t)) W w.heap.size (w.heap.size+1) cs t∧Below w.heap.size w ((w.alloc (.cells #[.pointer (some ⟨W,0,none⟩)] 24)).alloc (.cells cs t)):=by
 refine⟨⟨?_,?_⟩,((Below.refl _ _).alloc (Nat.le_refl _) _).alloc (by simp) _⟩
 ·rw[Below.heap_alloc _ _ _ (by simp)];exact heap_alloc_new w _
 ·have:=heap_alloc_new (w.alloc (.cells #[.pointer (some ⟨W,0,none⟩)] 24)) (.cells cs t)
  rw[World.size_alloc]at this;exact this
theorem wspin(h:WR B o n v w)(hm:Few n v)(d:Int):Calls Tryz.prog 149 #[.pointer (some ⟨B.W,0,none⟩), .int .i64 d] w (Po B o (n+1) (.tuple #[]) (v.spin d) w):=by
 have ⟨cb,bl⟩:=two_in w B.W #[.int .i64 d] 2
 have HK:=hid (h.below bl)
 have BL:=hid bl
 obtain⟨_,d2,hd2,m2⟩:=HK.out.c3
 have hs:v.spn<v.wds:=by unfold Y.V.wds Y.V.sts Y.V.nts;omega
 have hb1:=h.c2.2.sb
 have hg1:=h.c2.2.sg
 have BT:=hid (cspin2 (d0:=d) (f:=(v.spn:Nat)) HK.out.w3 HK.out.w4 HK.out.w5 cb HK.out.c2.2 m2 (by have:=hm.mc;omega) (by have:=hm.n;omega) (by omega) (by rw[hm.ms];omega) (by rw[hm.ns];omega) rfl rfl ⟨h.apart.1,h.apart.2.1,h.apart.2.2.1,h.apart.2.2.2.1,h.apart.2.2.2.2.1,h.apart.2.2.2.2.2.1⟩ (by omega))
 have HD:=hid hd2
 clear cb bl m2 hm hs h hb1 hg1 hd2
 rw[Int.toNat_natCast]at BT
 unfold Y.V.spin Y.V.bothF
 generalize v.ms.set v.spn (Y.w64 (v.ms.getD v.spn 0+d))=z1 at BT ⊢
 generalize v.ns.set v.spn (Y.w64 (v.ns.getD v.spn 0+d))=z2 at BT ⊢
 go_enter Tryz.func149,Tryz.ntmps149
 go_wp2_with fail
 refine BT.out.mono ?_
 rintro e y ⟨rfl,y1,y2,yo⟩
 have FIN:=hid (HK.out.mems (Nat.le_succ n) y1 y2 (by have:=HD.out;omega) yo)
 clear y1 y2 yo
 go_wp2
 go_end0
 exact⟨rfl,o,FIN.out.1,(Ek.of_below BL.out).trans FIN.out.2⟩
theorem wwake(h:WR B o n v w)(hm:Few n v)(hi:i<v.M):Calls Tryz.prog 67 #[.pointer (some ⟨B.W,0,none⟩), .int .i64 (i:Int)] w (Po B o (n+1) (.tuple #[]) (v.wake i) w):=by
 have ⟨cb,bl⟩:=two_in w B.W #[.int .i64 (i:Int)] 3
 have HK:=hid (h.below bl)
 have BL:=hid bl
 obtain⟨_,d2,hd2,m2⟩:=HK.out.c3
 have hs:v.nts+i<v.wds:=by unfold Y.V.wds Y.V.sts;omega
 have hb1:=h.c2.2.sb
 have hg1:=h.c2.2.sg
 have hw:=hm.wd
 have BT:=hid (cwake2 (i0:=(i:Int)) (f:=(v.nts:Nat)) HK.out.w3 HK.out.w4 HK.out.w6 cb HK.out.c2.2 m2 (by have:=hm.mc;omega) (by have:=hm.n;omega) (by omega) (by rw[hm.ms];omega) (by rw[hm.ns];omega) (by omega) rfl rfl ⟨h.apart.1,h.apart.2.1,h.apart.2.2.1,h.apart.2.2.2.1,h.apart.2.2.2.2.1,h.apart.2.2.2.2.2.1⟩ (by omega))
 have HD:=hid hd2
 clear cb bl m2 hm hs h hb1 hg1 hd2 hw
 rw[show ((v.nts:Nat)+(i:Int)).toNat=v.nts+i by omega]at BT
 unfold Y.V.wake Y.V.bothF
 rw[Int.toNat_natCast]
 generalize v.ms.set (v.nts+i) (if v.ms.getD (v.nts+i) 0=0 then 1 else v.ms.getD (v.nts+i) 0)=z1 at BT ⊢
 generalize v.ns.set (v.nts+i) (if v.ns.getD (v.nts+i) 0=0 then 1 else v.ns.getD (v.nts+i) 0)=z2 at BT ⊢
 go_enter Tryz.func67,Tryz.ntmps67
 go_wp2_with fail
 refine BT.out.mono ?_
 rintro e y ⟨rfl,y1,y2,yo⟩
 have FIN:=hid (HK.out.mems (Nat.le_succ n) y1 y2 (by have:=HD.out;omega) yo)
 clear y1 y2 yo
 go_wp2
 go_end0
 exact⟨rfl,o,FIN.out.1,(Ek.of_below BL.out).trans FIN.out.2⟩
theorem evTo_is:∀ k:Nat,k<8→evStep1 k=Y.evTo (k:Int)
 | 0,_=>rfl
 | 1,_=>rfl
 | 2,_=>rfl
 | 3,_=>rfl
 | 4,_=>rfl
 | 5,_=>rfl
 | 6,_=>rfl
 | 7,_=>rfl
theorem wsee(h:WR B o n v w)(hm:Few n v)(k:Nat)(hk:k<8)(j m p x:Int)(hj:0≤j∧j<v.G)(hr:evRight k j m p x=true) :
 Calls Tryz.prog 86 #[.pointer (some ⟨B.W,0,none⟩), .agg #[.int .i64 k, .int .i64 j, .int .i64 m, .int .i64 p, .int .i64 x]] w (Po B o (n+1) (.tuple #[]) (v.see ⟨k,j,m,p,x⟩) w):=by
 obtain⟨oW,lg,a2,a3,a4⟩:=h.c1
 obtain⟨⟨c1,c2⟩,d,hd,c3⟩:=h.c3
 have ap:=h.apart
 have T:=h.c0
 have b2:=h.c2
 have hwd:=hm.wd
 have hms:=hm.ms
 have hns:=hm.ns
 have hw:v.wds=v.sts+v.G:=rfl
 refine(see_gen (W:=B.W) (cs:=wcR v.P v.M v.G (v.spn:Nat) (v.nts:Nat) (v.sts:Nat) B.b1 B.b2 B.rv B.tb B.q B.sb B.ib B.mb lg) (f:=(v.sts:Nat)) (n:=(v.G:Nat)) k hk ⟨a2,rfl,rfl,rfl,rfl⟩ rfl hr a3 hm.lg (Nat.zero_le _) b2.2 c3 hm.mc (by have:=hm.n;omega) (by omega) hj.1 hj.2 (by rw[hms];omega) (by rw[hns];omega) (by omega) (by omega) T.T2 T.T3 ap (fun q hq => ?_)).mono ?_
 ·have:=(a4 q hq).1
  refine⟨(a4 q hq).2,fun e => ?_,fun e => ?_,fun e => ?_,fun e => ?_⟩
  ·rw[e,b2.1.1]at this;omega
  ·rw[e,b2.1.2]at this;omega
  ·rw[e,c1]at this;omega
  ·rw[e,c2]at this;omega
 ·rintro e y ⟨rfl,lg',y1,y2,y3,y4,y5,y6,y7⟩
  have ex:Ox o (Oq o lg'.ownBlock 1) (fun k=>k=1∨k=2∨k=3) w y:=Oq.ox h (fun q hq=>by
   rcases y6 q hq with e|e
   ·exact .inl ⟨(a4 q e).1,(a3.lt q e).2⟩
   ·exact .inr ⟨e,(y2.lt q hq).2⟩) (.inr (.inl rfl))
  have ef:Fm o (fun k=>k=1∨k=2∨k=3) w y:=⟨y7.os,y7.tape,y7.output,y7.size,fun q hq hc=>y7.block q hq (fun e=>hc (by
   simp only[List.mem_cons,Option.mem_toList]at e
   rcases e with e|e|e|e|e|e
   ·rw[e];exact .inl oW
   ·rw[e];exact .inr (.inl b2.1.1)
   ·rw[e];exact .inr (.inl b2.1.2)
   ·rw[e];exact .inr (.inr c1)
   ·rw[e];exact .inr (.inr c2)
   ·exact .inl (a4 q e).1))⟩
  have e1:((v.sts:Nat)+j).toNat=v.sts+j.toNat:=by omega
  rw[e1,evTo_is k hk]at y3 y4
  have oold:=ex.old
  refine⟨rfl,_,h.upd (Nat.le_succ n) ef ex (by decide) (.inl ⟨(oold _ (blk_lt a2)).trans oW,lg',y1.h,?_,fun q hq=>⟨Oq.at hq,fun e=>y5 (by rw[hq,e])⟩⟩) (.inl ⟨⟨(oold _ b2.2.sb).trans b2.1.1,(oold _ b2.2.sg).trans b2.1.2⟩,y3⟩) (.inl ⟨⟨(oold _ c3.sb).trans c1,(oold _ c3.sg).trans c2⟩,d+1,by omega,y4⟩) (.inr ⟨by decide,rfl⟩) (.inr ⟨by decide,rfl,rfl⟩) (.inr ⟨⟨by decide,by decide⟩,rfl,rfl⟩) (.inr ⟨⟨by decide,by decide⟩,rfl,rfl⟩) (.inr ⟨by decide,rfl,rfl⟩) (.inr ⟨by decide,rfl,rfl,rfl⟩), .of ef ex (by decide)⟩
  show Lg y 0 lg' (v.lg ++ [(⟨(k:Int),j,m,p,x⟩:Y.Ev)]).length (lgV (v.lg ++ [(⟨(k:Int),j,m,p,x⟩:Y.Ev)]))
  rw[lgV_add,List.length_append]
  exact y2
end
section
variable {B:Bk}{o o':Nat→Nat}{n n':Nat}{v v':Y.V}{w w' wx:World}{C:Nat→Prop}{i p:Nat}
theorem WR.src1(h:WR B o n v w){s:Y.SV}{t q b1 b2 b3:Nat}{es:Nat→List En}(hsq:∀ e ∈ s.L,e.2.1<(s.ad:Int))(hq:Sq (Zo o 10 w) w' B.sb t q b1 b2 b3 v.P s.now es s.L s.ad s.W s.R)(fr:FrZ (Zo o 10 w) w w'):∃ o',WR B o' n (v.putS s) w'∧Ek o o' w w':=by
 have fm:Fm o (· = 10) w w':=⟨fr.os,fr.tape,fr.output,fr.size,fun k hk hc=>fr.block k hk ⟨hk,hc⟩⟩
 have ox:Ox o (On o 10 w w') (· = 10) w w':=On.ox h 10 rfl
 refine⟨On o 10 w w',h.upd (Nat.le_refl _) fm ox (by decide) (.inr ⟨by decide,rfl,rfl,rfl,rfl⟩) (.inr ⟨by decide,rfl,rfl⟩) (.inr ⟨by decide,rfl⟩) (.inr ⟨by decide,rfl⟩) (.inr ⟨by decide,rfl,rfl⟩) (.inr ⟨⟨by decide,by decide⟩,rfl,rfl⟩) (.inr ⟨⟨by decide,by decide⟩,rfl,rfl⟩) (.inl ⟨hsq,t,q,b1,b2,b3,es,?_⟩) (.inr ⟨by decide,rfl,rfl,rfl⟩), .of fm ox (by decide)⟩
 rw[On.zo h 10 (by decide) fr.size]
 exact hq
theorem dueL_is(s:Y.SV):dueL s.L s.now=s.dueL:=by
 unfold dueL Y.SV.dueL
 rcases s.L with _|⟨e,l⟩ <;> rfl
theorem due_is(s:Y.SV):dueS s.now s.L s.W s.R=s.due:=by
 unfold dueS Y.SV.due
 rw[dueL_is];rfl
theorem ins_is(x g:Int)(ad:Nat):∀ L:List En,(∀ e ∈ L,e.2.1<(ad:Int))→insF (x,(ad:Int),g) L=Y.ins (x,(ad:Int),g) L
 | [],_=>rfl
 | e :: L,h=>by
   have h1:=h e (by simp)
   have a:aheadE (x,(ad:Int),g) e=decide (x<e.1):=by
    unfold aheadE cmpE
    rcases Int.lt_trichotomy x e.1 with hc|hc|hc
    ·simp[c3_lt hc,hc,or3]
    ·simp[c3_eq,c3_gt h1,hc,or3]
    ·simp[c3_gt hc,show ¬x<e.1 by omega,or3]
   unfold insF Y.ins
   rw[a,ins_is x g ad L (fun y hy=>h y (by simp[hy]))]
   simp
theorem ins_mem(e:En):∀(L:List En) (y:En),y ∈ Y.ins e L→y=e∨y ∈ L
 | [],y,h=>by simp[Y.ins]at h;exact .inl h
 | x :: L,y,h=>by
   unfold Y.ins at h
   split at h
   ·rcases List.mem_cons.1 h with h|h
    ·exact .inl h
    ·exact .inr h
   ·rcases List.mem_cons.1 h with h|h
    ·exact .inr (by simp[h])
    ·rcases ins_mem e L y h with h|h
     ·exact .inl h
     ·exact .inr (by simp[h])
theorem wsdue(h:WR B o n v w):Calls Tryz.prog 64 #[.pointer (some ⟨B.sb,0,none⟩)] w fun e w'=>e = .returned (.bool v.sr.due)∧Below w.heap.size w w':=by
 obtain⟨hs,t,q,b1,b2,b3,es,hq⟩:=h.c10
 exact sdue hq _ (due_is v.sr)
theorem wsnow(h:WR B o n v w):Calls Tryz.prog 21 #[.pointer (some ⟨B.sb,0,none⟩)] w fun e w'=>e = .returned (.int .i64 v.sr.now)∧w'=w:=by
 obtain⟨hs,t,q,b1,b2,b3,es,hq⟩:=h.c10
 exact snow hq
theorem wstick(h:WR B o n v w)(d:Int)(hd:inI d):Calls Tryz.prog 30 #[.pointer (some ⟨B.sb,0,none⟩), .int .i64 d] w (Po B o n (.bool (v.sr.tick d).due) (v.putS (v.sr.tick d)) w):=by
 obtain⟨hs,t,q,b1,b2,b3,es,hq⟩:=h.c10
 refine(stick hq d hd _ (due_is (v.sr.tick d))).mono ?_
 rintro e y ⟨rfl,y1,y2⟩
 exact⟨rfl,h.src1 (s:=v.sr.tick d) hs y2 y1⟩
structure Fes(s:Y.SV):Prop where
 L:s.L.length<100000
 W:s.W.length<1000000
 R:s.R.length<1000000
 ad:s.ad<1000000
theorem wsready(h:WR B o n v w)(hf:Fes v.sr)(fd:Int):Calls Tryz.prog 69 #[.pointer (some ⟨B.sb,0,none⟩), .int .u16 fd] w fun e w'=>match v.sr.ready fd with
 | none=>e = .returned (.tuple #[.bool false, .int .i64 2])∧Below w.heap.size w w'
 | some s=>Po B o n (.tuple #[.bool s.due, .int .i64 0]) (v.putS s) w e w':=by
 obtain⟨hs,t,q,b1,b2,b3,es,hq⟩:=h.c10
 unfold Y.SV.ready
 by_cases hfu:v.sr.full fd=true
 ·simp only[hfu,if_true]
  exact sready_full hq ⟨hf.W,hf.R⟩ fd hfu
 ·simp only[hfu,if_false,Bool.false_eq_true]
  refine(sready hq ⟨hf.W,hf.R⟩ fd (show v.sr.full fd=false by simpa using hfu) _ (due_is { v.sr with R:=if fd ∈ v.sr.R then v.sr.R else fd :: v.sr.R })).mono ?_
  rintro e y ⟨rfl,y1,y2⟩
  exact⟨rfl,h.src1 (s := { v.sr with R:=if fd ∈ v.sr.R then v.sr.R else fd :: v.sr.R }) hs y2 y1⟩
theorem wssleep(h:WR B o n v w)(hf:Fes v.sr)(k g d:Int)(hk:0≤k∧k<v.P)(hg:0≤g∧g<4096)(hd:inI d)(h1:v.sr.hasW g=false)(h2:v.sr.hasL g=false):Calls Tryz.prog 201 #[.pointer (some ⟨B.sb,0,none⟩), .int .i64 k, .int .i64 g, .int .i64 d] w (Po B o n (.tuple #[.bool (v.sr.sleep g d).1, .int .i64 0]) (v.putS (v.sr.sleep g d).2) w):=by
 obtain⟨hs,t,q,b1,b2,b3,es,hq⟩:=h.c10
 unfold Y.SV.sleep
 simp only[h1,h2,Bool.or_false,Bool.false_eq_true,if_false]
 have e1:=ins_is (Y.sat v.sr.now (max d 0)) g v.sr.ad v.sr.L hs
 refine(ssleep hq k g d hk.1 hk.2 hg.1 hg.2 hd h2 h1 hf.L hf.ad (Y.SV.due { v.sr with L:=Y.ins (Y.sat v.sr.now (max d 0),(v.sr.ad:Int),g) v.sr.L,ad:=v.sr.ad+1 }) ?_).mono ?_
 ·rw[←due_is]
  show dueS v.sr.now (insF (Y.sat v.sr.now (max d 0),(v.sr.ad:Int),g) v.sr.L) _ _=_
  rw[e1]
 ·rintro e y ⟨rfl,es',y1,y2⟩
  refine⟨rfl,h.src1 (s := { v.sr with L:=Y.ins (Y.sat v.sr.now (max d 0),(v.sr.ad:Int),g) v.sr.L,ad:=v.sr.ad+1 }) (fun x hx => ?_) (e1 ▸ y2) y1⟩
  rcases ins_mem _ _ _ hx with hx|hx
  ·rw[hx];show (v.sr.ad:Int)<((v.sr.ad+1:Nat):Int);omega
  ·have:=hs x hx
   show x.2.1<((v.sr.ad+1:Nat):Int);omega
theorem wswait(h:WR B o n v w)(hf:Fes v.sr)(fd g:Int)(hg:0≤g∧g<4096)(h1:v.sr.hasW g=false)(h2:v.sr.hasL g=false):Calls Tryz.prog 202 #[.pointer (some ⟨B.sb,0,none⟩), .int .u16 fd, .int .i64 g] w fun e w'=>∃ c:Int,((c=0) ↔ (v.sr.wait fd g).1.2=true)∧Po B o n (.tuple #[.bool (v.sr.wait fd g).1.1, .int .i64 c]) (v.putS (v.sr.wait fd g).2) w e w':=by
 obtain⟨hs,t,q,b1,b2,b3,es,hq⟩:=h.c10
 unfold Y.SV.wait
 by_cases h3:v.sr.fdW fd=true
 ·simp only[h1,h2,h3,Bool.or_true,Bool.true_or,if_true]
  refine(swait_err hq fd g h2 8 (by decide) ((pwait_same hq.pq fd g hg.1 hg.2 (.inl h3)).mono fun e y he=>⟨he.1,by rw[he.2];exact Below.refl _ _⟩)).mono ?_
  rintro e y ⟨rfl,hb⟩
  exact⟨8,by simp,rfl,o,h.below hb, .of_below hb⟩
 ·by_cases h4:v.sr.full fd=true
  ·simp only[h1,h2,h3,h4,Bool.or_true,Bool.true_or,if_true]
   refine(swait_err hq fd g h2 2 (by decide) (pwait_full hq.pq ⟨hf.W,hf.R⟩ fd g hg.1 hg.2 (show v.sr.fdW fd=false by simpa using h3) h1 h4)).mono ?_
   rintro e y ⟨rfl,hb⟩
   exact⟨2,by simp,rfl,o,h.below hb, .of_below hb⟩
  ·have h3':v.sr.fdW fd=false:=by simpa using h3
   have h4':v.sr.full fd=false:=by simpa using h4
   simp only[h1,h2,h3',h4',Bool.or_false,Bool.false_eq_true,if_false]
   refine(swait hq ⟨hf.W,hf.R⟩ fd g hg.1 hg.2 h3' h1 h2 h4' _ (due_is { v.sr with W:=(fd,g) :: v.sr.W })).mono ?_
   rintro e y ⟨rfl,y1,y2⟩
   exact⟨0,by simp,rfl,h.src1 (s := { v.sr with W:=(fd,g) :: v.sr.W }) hs y2 y1⟩
theorem lst_least:∀ {l:List (Int × Int)} {e:Int × Int},Y.lst l=some e → ∀ x ∈ l,e.1≤x.1
 | [],e,h=>by simp[Y.lst]at h
 | a :: l,e,h=>by
   unfold Y.lst at h
   rcases hl:Y.lst l with _|y
   ·rw[hl]at h
    simp only[Option.some.injEq]at h
    subst h
    intro x hx
    rcases List.mem_cons.1 hx with hx|hx
    ·rw[hx];exact Int.le_refl _
    ·rcases l with _|⟨b,l⟩
     ·simp at hx
     ·unfold Y.lst at hl
      split at hl
      ·cases hl
      ·split at hl <;> cases hl
   ·rw[hl]at h
    have ih:=lst_least hl
    simp only at h
    intro x hx
    split at h
    ·rename_i hlt
     cases h
     rcases List.mem_cons.1 hx with hx|hx
     ·rw[hx];exact Int.le_refl _
     ·have:=ih x hx;omega
    ·rename_i hlt
     cases h
     rcases List.mem_cons.1 hx with hx|hx
     ·rw[hx];omega
     ·exact ih x hx
theorem lst_none:∀ {l:List (Int × Int)},Y.lst l=none→l = []
 | [],_=>rfl
 | a :: l,h=>by
   unfold Y.lst at h
   split at h
   ·cases h
   ·split at h <;> cases h
theorem nodup_fst:∀ {l:List (Int × Int)} {a b:Int × Int},(l.map Prod.fst).Nodup→a ∈ l→b ∈ l→a.1=b.1→a=b
 | [],a,b,_,h,_,_=>by cases h
 | x :: l,a,b,hn,h1,h2,e=>by
   simp only[List.map_cons,List.nodup_cons]at hn
   rcases List.mem_cons.1 h1 with h1|h1 <;> rcases List.mem_cons.1 h2 with h2|h2
   ·rw[h1,h2]
   ·exact absurd (List.mem_map.2 ⟨b,h2,by rw[←e,h1]⟩) hn.1
   ·exact absurd (List.mem_map.2 ⟨a,h1,by rw[e,h2]⟩) hn.1
   ·exact nodup_fst hn.2 h1 h2 e
theorem wstake(h:WR B o n v w)(hf:Fes v.sr)(hn:(v.sr.W.map Prod.fst).Nodup):Calls Tryz.prog 142 #[.pointer (some ⟨B.sb,0,none⟩)] w (Po B o n (.tuple #[.int .i64 v.sr.take.1.1, .bool v.sr.take.1.2]) (v.putS v.sr.take.2) w):=by
 obtain⟨hs,t,q,b1,b2,b3,es,hq⟩:=h.c10
 unfold Y.SV.take
 by_cases hd:v.sr.dueL=true
 ·rw[if_pos hd]
  rcases hL:v.sr.L with _|⟨⟨x1,x2,x3⟩,l⟩
  ·unfold Y.SV.dueL at hd;rw[hL]at hd;cases hd
  ·rw[hL]at hq
   refine(stake_t hq (by unfold Y.SV.dueL at hd;rw[hL]at hd;exact of_decide_eq_true hd)).mono ?_
   rintro e y ⟨rfl,es',y1,y2⟩
   exact⟨rfl,h.src1 (s := { v.sr with L:=l }) (fun e he=>hs e (by rw[hL];simp[he])) y2 y1⟩
 ·rw[if_neg hd]
  have hd':dueL v.sr.L v.sr.now=false:=by rw[dueL_is];simpa using hd
  rcases hl:Y.lst v.sr.dueW with _|⟨m,g⟩
  ·have h0:=lst_none hl
   have ha:anyDue v.sr.W v.sr.R=false:=by
    unfold anyDue
    rw[List.any_eq_false]
    intro e he
    unfold Y.SV.dueW at h0
    have:=List.filter_eq_nil_iff.1 h0 e he
    exact this
   refine(stake_n hq hd' ha).mono ?_
   rintro e y ⟨rfl,hb⟩
   exact⟨rfl,o,h.below hb, .of_below hb⟩
  ·have hm:=Y.lst_mem hl
   have hle:=lst_least hl
   unfold Y.SV.dueW at hm
   obtain⟨hm1,hm2⟩:=List.mem_filter.1 hm
   refine(stake_p hq hd' (by unfold anyDue;rw[List.any_eq_true];exact⟨_,hm1,hm2⟩) hf.W).mono ?_
   rintro e y ⟨m',g',rfl,y1,y2,y3,y4,y5⟩
   have hm2':m ∈ v.sr.R:=of_decide_eq_true hm2
   have e1:m'≤m:=y3 m (by unfold dueP waitsF;rw[decide_eq_true hm2',decide_eq_true (List.mem_map.2 ⟨_,hm1,rfl⟩)];rfl)
   have e2:m≤m':=hle (m',g') (by unfold Y.SV.dueW;exact List.mem_filter.2 ⟨y1,decide_eq_true y2⟩)
   have e3:m'=m:=by omega
   have e4:=nodup_fst hn y1 hm1 e3
   cases e4
   exact⟨rfl,h.src1 (s := { v.sr with W:=v.sr.W.filter fun x => !(x.1 == m),R:=v.sr.R.filter fun a => !(a == m) }) hs y5 y4⟩
end
end Go.Proofs.YtkhigkcmgcafdaaGreatDoor
