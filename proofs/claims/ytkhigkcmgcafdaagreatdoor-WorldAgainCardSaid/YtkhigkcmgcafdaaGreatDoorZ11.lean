/- Of Wr. -/
import Derived.Test.YtkhigkcmgcafdaaGreatDoorZ8
import Derived.Test.YtkhigkcmgcafdaaGreatDoorZ10
set_option linter.unusedVariables false
set_option linter.unusedSimpArgs false
set_option maxHeartbeats 16000000
set_option maxRecDepth 20000
namespace Go.Proofs.YtkhigkcmgcafdaaGreatDoor
open Go.RowKit
structure Bk where
 N0:Nat
 W:Nat
 b1:Nat
 g1:Nat
 b2:Nat
 g2:Nat
 tb:Nat
 q:Nat
 p:Nat
 sb:Nat
 ib:Nat
 mb:Nat
 rv:Value
 gs:List Nat
def evV (e:Y.Ev):List Value := [.int .i64 e.k, .int .i64 e.g, .int .i64 e.m, .int .i64 e.p, .int .i64 e.x]
def lgV (l:List Y.Ev):List Value:=l.flatMap evV
theorem lgV_add(l:List Y.Ev)(e:Y.Ev):lgV (l ++ [e])=lgV l ++ evV e:=by simp[lgV]
@[reducible] def mrow (m:Y.Mh) (rv:Value):Array Value := #[.int .i64 m.pl, .int .i64 m.p, .int .i64 m.g, .int .i64 m.nx, .int .i64 m.got, .int .i64 m.tg, .int .i64 m.i, .bool m.spin, .bool m.inn,rv, .int .i64 m.back, .int .i64 m.after, .int .i64 m.arg, .int .i64 m.sn, .int .i64 m.sv, .int .i64 m.st, .int .u64 m.tk, .int .i64 m.tm, .bool m.yes, .int .i64 m.til]
structure Rst(o:Nat→Nat)(w:World)(rv:Value)(xs:List Int):Prop where
 rd:Reads w rv xs
 ow:∀ k,rv.ownBlock=some k→o k=12∧k<w.heap.size
structure Fm(o:Nat→Nat)(C:Nat→Prop)(w w':World):Prop where
 os:w'.os=w.os
 tape:w'.tape=w.tape
 output:w'.output=w.output
 size:w.heap.size≤w'.heap.size
 block:∀ k,k<w.heap.size→¬C (o k)→w'.heap[k]? = w.heap[k]?
structure Ox(o o':Nat→Nat)(C:Nat→Prop)(w w':World):Prop where
 old:∀ k,k<w.heap.size→o' k=o k
 new:∀ k,w.heap.size≤k→o' k=0∨(k<w'.heap.size∧(o' k=12∨C (o' k)))
def C1 (B:Bk)(o:Nat→Nat)(v:Y.V)(w:World):Prop:=
 o B.W=1 ∧ ∃ lg,w.heap[B.W]? = some (.cells (wcR v.P v.M v.G (v.spn:Nat) (v.nts:Nat) (v.sts:Nat) B.b1 B.b2 B.rv B.tb B.q B.sb B.ib B.mb lg) 84 (0,0))∧Lg w 0 lg v.lg.length (lgV v.lg) ∧ ∀ k,lg.ownBlock=some k→o k=1∧k≠B.W
def C2 (B:Bk)(o:Nat→Nat)(v:Y.V)(w:World):Prop:=(o B.b1=2∧o B.g1=2)∧Mem w B.b1 B.g1 v.ms v.mc
def C3 (B:Bk)(o:Nat→Nat)(n:Nat)(v:Y.V)(w:World):Prop:=(o B.b2=3∧o B.g2=3) ∧ ∃ d,d≤n∧Mem w B.b2 B.g2 v.ns d
def tuC (l:List Int):Array Value:=(l.map (Value.int .i64)).toArray
def C4 (B:Bk)(o:Nat→Nat)(v:Y.V)(w:World):Prop:=o B.tb=4∧w.heap[B.tb]? = some (.cells (tuC v.tu) 3 (0,0))
def C5 (B:Bk)(o:Nat→Nat)(v:Y.V)(w:World):Prop:=(o B.q=5∧o B.p=5) ∧ ∃ r,(∀ k,r=some k→o k=5)∧Qu w B.q B.p v.P r v.qu
def C6 (B:Bk)(o:Nat→Nat)(v:Y.V)(w:World):Prop:=
 o B.mb=6 ∧ ∃(cs:Array Value) (rs:Nat→Value),w.heap[B.mb]? = some (.cells cs 118 (0,0))∧cs.size=v.M*20 ∧ ∀ i,i<v.M→(∀ j,j<20→cs[i*20+j]? = (mrow (v.mach i) (rs i))[j]?)∧Rst o w (rs i) (v.mach i).rest
def RgV (w:World)(g:Nat)(r:Y.RV):Prop:=Rg w g r.xs r.nx r.hs r.st∧0≤r.st
def C8 (B:Bk)(o:Nat→Nat)(v:Y.V)(w:World):Prop:=
 ((∀ k,B.rv.ownBlock=some k→o k=7)∧w.ownsRow 0 146 1 B.rv v.P (B.gs.map pg))∧B.gs.length=v.P∧B.gs.Nodup ∧ ∀ p,p<v.P→o (B.gs.getD p 0)=8∧RgV w (B.gs.getD p 0) (v.ring p)
def Zo (o:Nat→Nat)(c:Nat)(w:World):Nat→Prop:=fun k=>k<w.heap.size∧o k≠c
def C10 (B:Bk)(o:Nat→Nat)(v:Y.V)(w:World):Prop:=(∀ e ∈ v.sr.L,e.2.1<(v.sr.ad:Int)) ∧ ∃ t p b1 b2 b3 es,Sq (Zo o 10 w) w B.sb t p b1 b2 b3 v.P v.sr.now es v.sr.L v.sr.ad v.sr.W v.sr.R
def C11 (B:Bk)(o:Nat→Nat)(v:Y.V)(w:World):Prop:=Ids (Zo o 11 w) B.ib v.P (fun i=>v.id.ps.getD i false) v.id.pd v.M v.id.ss v.id.po w
structure C0(B:Bk)(o:Nat→Nat)(w:World):Prop where
 ow:∀ k,o k≠0→B.N0≤k∧k<w.heap.size
 T1:MaPlaces w
 T2:EvNames w
 T3:EvSteps w
 U1:0<B.N0
 U2:2<B.N0
 U3:1<B.N0
 U4:3<B.N0
structure WR(B:Bk)(o:Nat→Nat)(n:Nat)(v:Y.V)(w:World):Prop where
 c0:C0 B o w
 c1:C1 B o v w
 c2:C2 B o v w
 c3:C3 B o n v w
 c4:C4 B o v w
 c5:C5 B o v w
 c6:C6 B o v w
 c8:C8 B o v w
 c10:C10 B o v w
 c11:C11 B o v w
section
variable {B:Bk}{o o':Nat→Nat}{n:Nat}{v v':Y.V}{w w':World}{C:Nat→Prop}
theorem C1.keep(h:C1 B o v w)(hf:Fm o C w w')(hx:Ox o o' C w w')(hc:¬C 1)(e:v'.P=v.P∧v'.M=v.M∧v'.G=v.G∧v'.lg=v.lg):C1 B o' v' w':=by
 obtain⟨h1,lg,h2,h3,h4⟩:=h
 obtain⟨e1,e2,e3,e4⟩:=e
 have l:=blk_lt h2
 have lk:∀ k,lg.ownBlock=some k→k<w.heap.size:=fun k hk=>(h3.lt k hk).2
 refine⟨(hx.old _ l).trans h1,lg,?_,?_,fun k hk=>⟨(hx.old k (lk k hk)).trans (h4 k hk).1,(h4 k hk).2⟩⟩
 ·rw[hf.block _ l (by rw[h1];exact hc)]
  unfold Y.V.sts Y.V.nts Y.V.spn at h2 ⊢
  rw[e1,e2,e3];exact h2
 ·rw[e4];exact h3.kept (fun k hk=>hf.block k (lk k hk) (by rw[(h4 k hk).1];exact hc))
theorem C2.keep(h:C2 B o v w)(hf:Fm o C w w')(hx:Ox o o' C w w')(hc:¬C 2)(e:v'.ms=v.ms∧v'.mc=v.mc):C2 B o' v' w':=by
 obtain⟨⟨h1,h2⟩,h3⟩:=h
 refine⟨⟨(hx.old _ h3.sb).trans h1,(hx.old _ h3.sg).trans h2⟩,?_⟩
 rw[e.1,e.2]
 exact h3.blocks (hf.block _ h3.sb (by rw[h1];exact hc)) (hf.block _ h3.sg (by rw[h2];exact hc))
theorem C3.keep{n':Nat}(h:C3 B o n v w)(hn:n≤n')(hf:Fm o C w w')(hx:Ox o o' C w w')(hc:¬C 3)(e:v'.ns=v.ns):C3 B o' n' v' w':=by
 obtain⟨⟨h1,h2⟩,d,hd,h3⟩:=h
 refine⟨⟨(hx.old _ h3.sb).trans h1,(hx.old _ h3.sg).trans h2⟩,d,by omega,?_⟩
 rw[e]
 exact h3.blocks (hf.block _ h3.sb (by rw[h1];exact hc)) (hf.block _ h3.sg (by rw[h2];exact hc))
theorem C4.keep(h:C4 B o v w)(hf:Fm o C w w')(hx:Ox o o' C w w')(hc:¬C 4)(e:v'.tu=v.tu):C4 B o' v' w':=
 ⟨(hx.old _ (blk_lt h.2)).trans h.1,by rw[e];exact(hf.block _ (blk_lt h.2) (by rw[h.1];exact hc)).trans h.2⟩
theorem C5.keep(h:C5 B o v w)(hf:Fm o C w w')(hx:Ox o o' C w w')(hc:¬C 5)(e:v'.P=v.P∧v'.qu=v.qu):C5 B o' v' w':=by
 obtain⟨⟨h1,h2⟩,r,h3,h4⟩:=h
 have lr:=h4.hb.rlt
 refine⟨⟨(hx.old _ h4.lt).trans h1,(hx.old _ h4.hb.lt).trans h2⟩,r,fun k hk=>(hx.old k (lr k hk)).trans (h3 k hk),?_⟩
 rw[e.1,e.2]
 exact⟨(hf.block _ h4.lt (by rw[h1];exact hc)).trans h4.hq,h4.hb.kept (hf.block _ h4.hb.lt (by rw[h2];exact hc)) (fun k hk=>hf.block k (lr k hk) (by rw[h3 k hk];exact hc)),h4.ne,h4.nr,h4.lo,h4.hi⟩
theorem Rst.keep{rv:Value}{xs:List Int}(h:Rst o w rv xs)(hf:Fm o C w w')(hx:Ox o o' C w w')(hc:¬C 12):Rst o' w' rv xs:=by
 obtain⟨h1,h2⟩:=h
 refine⟨h1.blocks hf.size (fun g off nn c e _ => ?_),fun k hk=>⟨(hx.old k (h2 k hk).2).trans (h2 k hk).1,Nat.lt_of_lt_of_le (h2 k hk).2 hf.size⟩⟩
 have:=h2 g (by rw[e];rfl)
 exact hf.block g this.2 (by rw[this.1];exact hc)
theorem C6.keep(h:C6 B o v w)(hf:Fm o C w w')(hx:Ox o o' C w w')(hc:¬C 6)(hc2:¬C 12)(e:v'.M=v.M∧v'.mm=v.mm):C6 B o' v' w':=by
 obtain⟨h1,cs,rs,h2,h3,h4⟩:=h
 refine⟨(hx.old _ (blk_lt h2)).trans h1,cs,rs,(hf.block _ (blk_lt h2) (by rw[h1];exact hc)).trans h2,by rw[e.1];exact h3,fun i hi => ?_⟩
 rw[e.1]at hi
 have em:v'.mach i=v.mach i:=by unfold Y.V.mach;rw[e.2]
 rw[em]
 exact⟨(h4 i hi).1,(h4 i hi).2.keep hf hx hc2⟩
theorem C8.keep(h:C8 B o v w)(hf:Fm o C w w')(hx:Ox o o' C w w')(hc:¬C 7∧¬C 8)(e:v'.P=v.P∧v'.rs=v.rs):C8 B o' v' w':=by
 obtain⟨⟨h1,h2⟩,h3,h4,h5⟩:=h
 have l:∀ k,B.rv.ownBlock=some k→k<w.heap.size:=fun k hk=>(h2.lt k hk).2
 refine⟨⟨fun k hk=>(hx.old k (l k hk)).trans (h1 k hk),?_⟩,by rw[e.1];exact h3,h4,fun p hp => ?_⟩
 ·rw[e.1];exact own_kept h2 (fun k hk=>hf.block k (l k hk) (by rw[h1 k hk];exact hc.1))
 ·rw[e.1]at hp
  obtain⟨a1,a2⟩:=h5 p hp
  have lg:B.gs.getD p 0<w.heap.size:=Rg.lt a2.1
  have er:v'.ring p=v.ring p:=by unfold Y.V.ring;rw[e.2]
  rw[er]
  exact⟨(hx.old _ lg).trans a1,Rg.kept a2.1 (hf.block _ lg (by rw[a1];exact hc.2)),a2.2⟩
theorem C10.keep(h:C10 B o v w)(hf:Fm o C w w')(hx:Ox o o' C w w')(hc:¬C 10)(e:v'.P=v.P∧v'.sr=v.sr):C10 B o' v' w':=by
 obtain⟨hq,t,p,b1,b2,b3,es,h⟩:=h
 rw[show C10 B o' v' w'=((∀ e ∈ v'.sr.L,e.2.1<(v'.sr.ad:Int)) ∧ ∃ t p b1 b2 b3 es,Sq (Zo o' 10 w') w' B.sb t p b1 b2 b3 v'.P v'.sr.now es v'.sr.L v'.sr.ad v'.sr.W v'.sr.R) from rfl,e.1,e.2]
 refine⟨hq,t,p,b1,b2,b3,es,h.keep (fun k h1 h2=>hf.block k h2 (fun h3=>h1 ⟨h2,fun e=>hc (e ▸ h3)⟩)) hf.size (fun k h1 h2 h3=>h1 ⟨h2,fun e=>h3.2 ((hx.old k h2).trans e)⟩) (fun k hk=>hk.1)⟩
theorem C11.keep(h:C11 B o v w)(hd:3<w.heap.size∧o 3=0)(hf:Fm o C w w')(hx:Ox o o' C w w')(hc:¬C 11)(hc0:¬C 0)(e:v'.P=v.P∧v'.M=v.M∧v'.id=v.id):C11 B o' v' w':=by
 unfold C11 at h ⊢
 rw[e.1,e.2.1,e.2.2]
 exact Ids.rez h (fun k h1 h2=>hf.block k h2 (fun h3=>h1 ⟨h2,fun e=>hc (e ▸ h3)⟩)) (hf.block _ hd.1 (by rw[hd.2];exact hc0)) (fun k h1 h2 h3=>h1 ⟨h2,fun e=>h3.2 ((hx.old k h2).trans e)⟩) (fun k hk=>hk.1) ⟨Nat.lt_of_lt_of_le hd.1 hf.size,by rw[hx.old _ hd.1,hd.2];decide⟩
theorem C0.keep(h:C0 B o w)(hN:B.N0≤w.heap.size)(hf:Fm o C w w')(hx:Ox o o' C w w')(hc0:¬C 0):C0 B o' w':=by
 have z:∀ k,k<B.N0→o k=0:=fun k hk=>by
  by_cases h0:o k=0
  ·exact h0
  ·have:=h.ow k h0;omega
 have eb:∀ k,k<B.N0→w'.heap[k]? = w.heap[k]?:=fun k hk=>hf.block k (by omega) (by rw[z k hk];exact hc0)
 obtain⟨T1,T2,T3⟩:=tabs h.T1 h.T2 h.T3 (eb _ h.U1) (eb _ h.U2) (eb _ h.U3)
 refine⟨fun k hk => ?_,T1,T2,T3,h.U1,h.U2,h.U3,h.U4⟩
 by_cases hl:k<w.heap.size
 ·rw[hx.old k hl]at hk
  have h1:=h.ow k hk
  have h2:=hf.size
  exact⟨h1.1,by omega⟩
 ·rcases hx.new k (by omega) with h1|h1
  ·exact absurd h1 hk
  ·exact⟨by omega,h1.1⟩
end
end Go.Proofs.YtkhigkcmgcafdaaGreatDoor
