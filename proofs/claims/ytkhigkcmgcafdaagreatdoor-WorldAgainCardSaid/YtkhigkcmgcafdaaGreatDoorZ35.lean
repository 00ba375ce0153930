/- Of Uh. -/
import Derived.Test.YtkhigkcmgcafdaaGreatDoorZ11
set_option linter.unusedVariables false
set_option linter.unusedSimpArgs false
set_option maxHeartbeats 16000000
set_option maxRecDepth 20000
namespace Go.Proofs.YtkhigkcmgcafdaaGreatDoor
open Go.RowKit
theorem own_low{w:World}{base n size:Nat}{e:TypeId}{v:Value}{xs:List Value}(h:w.ownsRow base e size v n xs):w.ownsRow 0 e size v n xs:=by
 obtain⟨h0,h1|⟨q,cap,cur,h1,h2,h3⟩⟩:=h
 ·exact⟨h0, .inl h1⟩
 ·exact⟨h0, .inr ⟨q,cap,cur,h1,Nat.zero_le _,h3⟩⟩
theorem tu_made(P:Nat):tuC (List.replicate P 0)=madeCells #[.int .i64 0] P:=by
 apply Array.toList_inj.1
 rw[toList_madeCells_one]
 unfold tuC
 simp
theorem ps_new(P:Nat):(fun i=>((List.range P).map fun p=>decide (0<p)).getD i false)=idf P:=by
 funext i
 unfold idf
 by_cases h:i<P
 ·simp[h]
 ·simp[h,List.getElem?_eq_none (show ((List.range P).map fun p=>decide (0<p)).length≤i by simp;omega)]
theorem no2{a x y:Nat}(h1:a≠x)(h2:a≠y):¬(a=x∨a=y):=fun e=>e.elim h1 h2
theorem no3{a x y:Nat}{p:Prop}(h1:a≠x)(h2:a≠y)(h3:¬p):¬(a=x∨a=y∨p):=fun e=>e.elim h1 fun e=>e.elim h2 h3
theorem wr_new{w0 w:World}{P M G W:Nat}(h:Nw0 w0 P M (G:Int) W w)(hok:OkC P M G)(T1:MaPlaces w0)(T2:EvNames w0)(T3:EvSteps w0)(U1:0<w0.heap.size)(U2:2<w0.heap.size)(U3:1<w0.heap.size)(U4:3<w0.heap.size) :
 ∃ B o,B.W=W∧B.N0=w0.heap.size∧WR B o 1 (Y.V.new P M G) w:=by
 classical
 obtain⟨bl,b1,g1,b2,g2,tb,q,p,sb,ib,mb,r,rv,lg,gs,base,rbase,wd,Z,h⟩:=h
 obtain⟨c1,c2,c3,c4,c5,c6⟩:=hok
 obtain⟨lo4,hi4,t,p',x1,x2,x3,es,sx⟩:=h.sx
 have nd:=h.nd
 simp only[List.nodup_cons,List.mem_cons,List.not_mem_nil,or_false,not_or,List.nodup_nil,and_true,not_false_eq_true]at nd
 have ND:=hid nd
 clear nd
 obtain⟨mcs,hmb,hms,hmm⟩:=h.mc
 have hwl:=blk_lt h.hW
 have htl:=blk_lt h.tu
 have hml:=blk_lt hmb
 have hql:=h.qu.lt
 have hpl:=h.qu.hb.lt
 have hrl:=h.qu.hb.rlt
 have hb1:=h.m1.sb
 have hg1:=h.m1.sg
 have hb2:=h.m2.sb
 have hg2:=h.m2.sg
 have hgl:=fun k hk=>(h.lgr.lt k hk).2
 have hrvl:=fun k hk=>h.own.lt k hk
 have hrg:=fun k hk=>h.rgs.lt (g:=k) hk
 have hlo:=h.lo
 have hrb:=h.rb
 have hN:=bl.size
 have sl:=sx.l
 have nl:=sx.nl
 have hgZ:=h.az
 have al:∀ k ∈ ([W,b1,g1,b2,g2,tb,q,p,mb]:List Nat),lg.ownBlock≠some k∧r≠some k∧rv.ownBlock≠some k∧k ∉ gs∧¬(lo4≤k∧k<hi4)∧Z k:=fun k hk=>
  ⟨fun e=>(h.al k e).1 hk,fun e=>(h.ar k e).1 hk,fun e=>by have:=(hrvl k e).1;have:=(hlo k hk).2;omega,fun e=>by have:=(hrg k e).1;have:=(hlo k hk).2;omega,nl k hk,hgZ k (.inl hk)⟩
 obtain⟨o,ho⟩:∃ o:Nat→Nat,∀ k,o k=if k=W∨lg.ownBlock=some k then 1 else if k=b1∨k=g1 then 2 else if k=b2∨k=g2 then 3 else if k=tb then 4 else if k=q∨k=p∨r=some k then 5 else if k=mb then 6 else if rv.ownBlock=some k then 7 else if k ∈ gs then 8 else if lo4≤k∧k<hi4 then 10 else if w0.heap.size≤k∧k<w.heap.size∧¬Z k then 11 else 0:=⟨_,fun _=>rfl⟩
 have oW:o W=1:=by rw[ho,if_pos (.inl rfl)]
 have oL:∀ k,lg.ownBlock=some k→o k=1:=fun k hk=>by rw[ho,if_pos (.inr hk)]
 have n1:∀ k ∈ ([W,b1,g1,b2,g2,tb,q,p,mb]:List Nat),k≠W→¬(k=W∨lg.ownBlock=some k):=fun k hk hne=>by
  rintro (e|e)
  ·exact hne e
  ·exact(al k hk).1 e
 have ob1:o b1=2:=by
  obtain⟨⟨w1,w2,w3,w4,w5,w6,w7,w8⟩,⟨b11,b12,b13,b14,b15,b16,b17⟩,⟨g11,g12,g13,g14,g15,g16⟩,⟨b21,b22,b23,b24,b25⟩,⟨g21,g22,g23,g24⟩,⟨t1,t2,t3⟩,⟨q1,q2⟩,p1⟩:=ND.out
  rw[ho,if_neg (n1 b1 (by simp) (Ne.symm w1)),if_pos (.inl rfl)]
 have og1:o g1=2:=by
  obtain⟨⟨w1,w2,w3,w4,w5,w6,w7,w8⟩,⟨b11,b12,b13,b14,b15,b16,b17⟩,⟨g11,g12,g13,g14,g15,g16⟩,⟨b21,b22,b23,b24,b25⟩,⟨g21,g22,g23,g24⟩,⟨t1,t2,t3⟩,⟨q1,q2⟩,p1⟩:=ND.out
  rw[ho,if_neg (n1 g1 (by simp) (Ne.symm w2)),if_pos (.inr rfl)]
 have ob2:o b2=3:=by
  obtain⟨⟨w1,w2,w3,w4,w5,w6,w7,w8⟩,⟨b11,b12,b13,b14,b15,b16,b17⟩,⟨g11,g12,g13,g14,g15,g16⟩,⟨b21,b22,b23,b24,b25⟩,⟨g21,g22,g23,g24⟩,⟨t1,t2,t3⟩,⟨q1,q2⟩,p1⟩:=ND.out
  rw[ho,if_neg (n1 b2 (by simp) (Ne.symm w3)),if_neg (no2 (Ne.symm b12) (Ne.symm g11)),if_pos (.inl rfl)]
 have og2:o g2=3:=by
  obtain⟨⟨w1,w2,w3,w4,w5,w6,w7,w8⟩,⟨b11,b12,b13,b14,b15,b16,b17⟩,⟨g11,g12,g13,g14,g15,g16⟩,⟨b21,b22,b23,b24,b25⟩,⟨g21,g22,g23,g24⟩,⟨t1,t2,t3⟩,⟨q1,q2⟩,p1⟩:=ND.out
  rw[ho,if_neg (n1 g2 (by simp) (Ne.symm w4)),if_neg (no2 (Ne.symm b13) (Ne.symm g12)),if_pos (.inr rfl)]
 have otb:o tb=4:=by
  obtain⟨⟨w1,w2,w3,w4,w5,w6,w7,w8⟩,⟨b11,b12,b13,b14,b15,b16,b17⟩,⟨g11,g12,g13,g14,g15,g16⟩,⟨b21,b22,b23,b24,b25⟩,⟨g21,g22,g23,g24⟩,⟨t1,t2,t3⟩,⟨q1,q2⟩,p1⟩:=ND.out
  rw[ho,if_neg (n1 tb (by simp) (Ne.symm w5)),if_neg (no2 (Ne.symm b14) (Ne.symm g13)),if_neg (no2 (Ne.symm b22) (Ne.symm g21)),if_pos rfl]
 have oq:o q=5:=by
  obtain⟨⟨w1,w2,w3,w4,w5,w6,w7,w8⟩,⟨b11,b12,b13,b14,b15,b16,b17⟩,⟨g11,g12,g13,g14,g15,g16⟩,⟨b21,b22,b23,b24,b25⟩,⟨g21,g22,g23,g24⟩,⟨t1,t2,t3⟩,⟨q1,q2⟩,p1⟩:=ND.out
  rw[ho,if_neg (n1 q (by simp) (Ne.symm w6)),if_neg (no2 (Ne.symm b15) (Ne.symm g14)),if_neg (no2 (Ne.symm b23) (Ne.symm g22)),if_neg (Ne.symm t1),if_pos (.inl rfl)]
 have op:o p=5:=by
  obtain⟨⟨w1,w2,w3,w4,w5,w6,w7,w8⟩,⟨b11,b12,b13,b14,b15,b16,b17⟩,⟨g11,g12,g13,g14,g15,g16⟩,⟨b21,b22,b23,b24,b25⟩,⟨g21,g22,g23,g24⟩,⟨t1,t2,t3⟩,⟨q1,q2⟩,p1⟩:=ND.out
  rw[ho,if_neg (n1 p (by simp) (Ne.symm w7)),if_neg (no2 (Ne.symm b16) (Ne.symm g15)),if_neg (no2 (Ne.symm b24) (Ne.symm g23)),if_neg (Ne.symm t2),if_pos (.inr (.inl rfl))]
 have om:o mb=6:=by
  obtain⟨⟨w1,w2,w3,w4,w5,w6,w7,w8⟩,⟨b11,b12,b13,b14,b15,b16,b17⟩,⟨g11,g12,g13,g14,g15,g16⟩,⟨b21,b22,b23,b24,b25⟩,⟨g21,g22,g23,g24⟩,⟨t1,t2,t3⟩,⟨q1,q2⟩,p1⟩:=ND.out
  rw[ho,if_neg (n1 mb (by simp) (Ne.symm w8)),if_neg (no2 (Ne.symm b17) (Ne.symm g16)),if_neg (no2 (Ne.symm b25) (Ne.symm g24)),if_neg (Ne.symm t3),if_neg (no3 (Ne.symm q2) (Ne.symm p1) (al mb (by simp)).2.1),if_pos rfl]
 have orr:∀ k,r=some k→o k=5:=fun k hk=>by
  have hn:=(h.ar k hk).1
  simp only[List.mem_cons,List.not_mem_nil,or_false,not_or]at hn
  rw[ho,if_neg,if_neg (no2 hn.2.1 hn.2.2.1),if_neg (no2 hn.2.2.2.1 hn.2.2.2.2.1),if_neg hn.2.2.2.2.2.1,if_pos (.inr (.inr hk))]
  rintro (e|e)
  ·exact hn.1 e
  ·exact(h.al k e).2.2.2.2 hk
 have big:∀ k,rbase≤k→lg.ownBlock≠some k→r≠some k→¬(k=W∨lg.ownBlock=some k)∧¬(k=b1∨k=g1)∧¬(k=b2∨k=g2)∧¬k=tb∧¬(k=q∨k=p∨r=some k)∧¬k=mb:=fun k hk e1 e2=>by
  have a0:=(hlo W (by simp)).2
  have a1:=(hlo b1 (by simp)).2
  have a2:=(hlo g1 (by simp)).2
  have a3:=(hlo b2 (by simp)).2
  have a4:=(hlo g2 (by simp)).2
  have a5:=(hlo tb (by simp)).2
  have a6:=(hlo q (by simp)).2
  have a7:=(hlo p (by simp)).2
  have a8:=(hlo mb (by simp)).2
  refine⟨?_,by omega,by omega,by omega,?_,by omega⟩
  ·rintro (e|e)
   ·omega
   ·exact e1 e
  ·rintro (e|e|e)
   ·omega
   ·omega
   ·exact e2 e
 have orv:∀ k,rv.ownBlock=some k→o k=7:=fun k hk=>by
  obtain⟨d1,d2,d3,d4,d5,d6⟩:=big k (hrvl k hk).1 (fun e=>(h.al k e).2.2.2.1 hk) (fun e=>(h.ar k e).2.2.2 hk)
  rw[ho,if_neg d1,if_neg d2,if_neg d3,if_neg d4,if_neg d5,if_neg d6,if_pos hk]
 have ogs:∀ k ∈ gs,o k=8:=fun k hk=>by
  obtain⟨d1,d2,d3,d4,d5,d6⟩:=big k (hrg k hk).1 (fun e=>(h.al k e).2.2.1 hk) (fun e=>(h.ar k e).2.2.1 hk)
  rw[ho,if_neg d1,if_neg d2,if_neg d3,if_neg d4,if_neg d5,if_neg d6,if_neg (h.rgs.rg k hk).2.2,if_pos hk]
 -- the source's blocks
 have o10:∀ k,lo4≤k→k<hi4→o k=10:=fun k k1 k2=>by
  have nk:k ∉ ([W,b1,g1,b2,g2,tb,q,p,mb]:List Nat):=fun e=>nl k e ⟨k1,k2⟩
  simp only[List.mem_cons,List.not_mem_nil,or_false,not_or]at nk
  rw[ho,if_neg,if_neg (no2 nk.2.1 nk.2.2.1),if_neg (no2 nk.2.2.2.1 nk.2.2.2.2.1),if_neg nk.2.2.2.2.2.1,if_neg,if_neg nk.2.2.2.2.2.2.2.2,if_neg,if_neg,if_pos ⟨k1,k2⟩]
  ·exact fun e=>by clear nk;have:=(hrg k e).1;omega
  ·exact fun e=>by clear nk;have:=(hrvl k e).1;omega
  ·exact no3 nk.2.2.2.2.2.2.1 nk.2.2.2.2.2.2.2.1 (fun e=>sx.nr k e ⟨k1,k2⟩)
  ·exact fun e=>e.elim nk.1 (fun e=>sx.ng k e ⟨k1,k2⟩)
 have o11:∀ k,¬Z k→k<w.heap.size→o k=11:=fun k hz hk=>by
  have nk:k ∉ ([W,b1,g1,b2,g2,tb,q,p,mb]:List Nat):=fun e=>hz (hgZ k (.inl e))
  simp only[List.mem_cons,List.not_mem_nil,or_false,not_or]at nk
  have n4:¬(k<w0.heap.size∨(lo4≤k∧k<hi4)):=fun e=>hz (sx.zi k e)
  rw[ho,if_neg,if_neg (no2 nk.2.1 nk.2.2.1),if_neg (no2 nk.2.2.2.1 nk.2.2.2.2.1),if_neg nk.2.2.2.2.2.1,if_neg,if_neg nk.2.2.2.2.2.2.2.2,if_neg,if_neg,if_neg (fun e=>n4 (.inr e)),if_pos ⟨Nat.le_of_not_lt (fun e=>n4 (.inl e)),hk,hz⟩]
  ·exact fun e=>hz (hgZ k (.inr (.inl e)))
  ·exact fun e=>hz (hgZ k (.inr (.inr (.inl e))))
  ·exact no3 nk.2.2.2.2.2.2.1 nk.2.2.2.2.2.2.2.1 (fun e=>hz (hgZ k (.inr (.inr (.inr (.inl e))))))
  ·exact fun e=>e.elim nk.1 (fun e=>hz (hgZ k (.inr (.inr (.inr (.inr e))))))
 have oz:∀ k,o k≠0→w0.heap.size≤k∧k<w.heap.size:=fun k hk=>by
  have a0:=(hlo W (by simp)).1
  have a1:=(hlo b1 (by simp)).1
  have a2:=(hlo g1 (by simp)).1
  have a3:=(hlo b2 (by simp)).1
  have a4:=(hlo g2 (by simp)).1
  have a5:=(hlo tb (by simp)).1
  have a6:=(hlo q (by simp)).1
  have a7:=(hlo p (by simp)).1
  have a8:=(hlo mb (by simp)).1
  rw[ho]at hk
  split at hk
  ·rename_i e
   rcases e with e|e
   ·omega
   ·exact⟨(h.al k e).2.1,hgl k e⟩
  split at hk
  ·rename_i e;rcases e with e|e <;> omega
  split at hk
  ·rename_i e;rcases e with e|e <;> omega
  split at hk
  ·omega
  split at hk
  ·rename_i e
   rcases e with e|e|e
   ·omega
   ·omega
   ·exact⟨(h.ar k e).2.1,hrl k e⟩
  split at hk
  ·omega
  split at hk
  ·rename_i e
   have:=hrvl k e
   omega
  split at hk
  ·rename_i e
   have:=hrg k e
   omega
  split at hk
  ·omega
  split at hk
  ·rename_i e;exact⟨e.1,e.2.1⟩
  ·exact absurd rfl hk
 have only10:∀ k,o k=10→lo4≤k∧k<hi4:=fun k hk=>by
  rw[ho]at hk
  repeat' (split at hk)
  all_goals first | (exact absurd hk (by decide))|assumption
 have only11:∀ k,o k=11→¬Z k:=fun k hk=>by
  rw[ho]at hk
  repeat' (split at hk)
  all_goals first | (exact absurd hk (by decide)) | (rename_i e;exact e.2.2)
 have z0:∀ k,k<w0.heap.size→o k=0:=fun k hk=>by
  by_cases e:o k=0
  ·exact e
  ·have:=(oz k e).1;omega
 have hwd:=h.hwd
 have ewd:wd=2*(P+2)+1+M+G:=by omega
 have ei:(2*((P:Int)+2)+1+(M:Int)+0).toNat=2*(P+2)+1+M:=by omega
 have m1:=h.m1
 have m2:=h.m2
 rw[ei,ewd]at m1 m2
 have tabs0:=tabs T1 T2 T3 (bl.block _ U1) (bl.block _ U2) (bl.block _ U3)
 refine⟨⟨w0.heap.size,W,b1,g1,b2,g2,tb,q,p,sb,ib,mb,rv,gs⟩,o,rfl,rfl,⟨oz,tabs0.1,tabs0.2.1,tabs0.2.2,U1,U2,U3,U4⟩,⟨oW,lg,?_,⟨own_low h.lgr.own⟩,fun k hk=>⟨oL k hk,fun e=>(h.al k hk).1 (by rw[e];simp)⟩⟩,⟨⟨ob1,og1⟩,m1⟩,⟨⟨ob2,og2⟩,1,Nat.le_refl _,m2⟩,⟨otb,?_⟩,⟨⟨oq,op⟩,r,orr,h.qu⟩,⟨om,mcs,fun _ => .slice none 0 0,hmb,hms,fun i hi=>⟨fun j hj => ?_,?_⟩⟩,⟨⟨orv,own_low h.own⟩,h.gl,h.rgs.nd,fun k hk => ?_⟩,⟨fun e he=>(by cases he),t,p',x1,x2,x3,es,?_⟩,?_⟩
 ·have e:=h.hW
  rw[show (2*((P:Int)+2))=(((Y.V.new P M G).spn:Nat):Int) by show _=((2*(P+2):Nat):Int);omega]at e
  rw[show ((((Y.V.new P M G).spn:Nat):Int)+1)=(((Y.V.new P M G).nts:Nat):Int) by show _=((2*(P+2)+1:Nat):Int);show ((2*(P+2):Nat):Int)+1=_;omega]at e
  rw[show ((((Y.V.new P M G).nts:Nat):Int)+(M:Int))=(((Y.V.new P M G).sts:Nat):Int) by show ((2*(P+2)+1:Nat):Int)+(M:Int)=((2*(P+2)+1+M:Nat):Int);omega]at e
  exact e
 ·show w.heap[tb]? = some (.cells (tuC (List.replicate P 0)) _ _)
  rw[tu_made];exact h.tu
 ·rw[hmm i hi j hj,Y.new_mach (P:=P) (G:=G) (show 1≤M by omega) (show i<M from hi)]
  by_cases h0:i=0
  ·rw[if_pos h0,if_pos h0];rfl
  ·rw[if_neg h0,if_neg h0];rfl
 ·rw[Y.new_mach (P:=P) (G:=G) (show 1≤M by omega) (show i<M from hi)]
  have:∀ pl p,(Y.Mh.fresh pl p).rest = []:=fun _ _=>rfl
  split <;> (rw[this];exact⟨⟨none,0,rfl,⟨by simp,by unfold maxLen;omega, .inl ⟨rfl,rfl⟩⟩,fun h=>by simp at h⟩,fun k hk=>by simp[Value.ownBlock]at hk⟩)
 ·have hk':k<gs.length:=by rw[h.gl];exact hk
  have hm:gs.getD k 0 ∈ gs:=by simp[hk']
  refine⟨ogs _ hm,?_⟩
  have er:(Y.V.new P M G).ring k=Y.RV.empty:=by
   show (List.replicate P Y.RV.empty).getD k Y.RV.empty=_
   simp[List.getElem?_replicate]
   split <;> rfl
  rw[er]
  exact⟨(h.rgs.rg _ hm).1,Int.le_refl _⟩
 ·refine sx.sq.keep (fun _ _ _=>rfl) (Nat.le_refl _) (fun k k1 k2 k3 => ?_) (fun k hk=>hk.1)
  exact k3.2 (o10 k (by omega) (by omega))
 ·show Ids (Zo o 11 w) ib P (fun i=>((List.range P).map fun p=>decide (0<p)).getD i false) [] M ((List.range (M - 2)).map fun j=>((j+2:Nat):Int)) (if M≤1 then -1 else 1) w
  rw[ps_new]
  exact h.id.rez (fun _ _ _=>rfl) rfl (fun k k1 k2 k3=>k3.2 (o11 k k1 k2)) (fun k hk=>hk.1) ⟨by omega,by rw[z0 _ U4];decide⟩
end Go.Proofs.YtkhigkcmgcafdaaGreatDoor
