/- Of Ws. -/
import Derived.Test.YtkhigkcmgcafdaaGreatDoorZ11
set_option linter.unusedVariables false
set_option linter.unusedSimpArgs false
set_option maxHeartbeats 16000000
set_option maxRecDepth 20000
namespace Go.Proofs.YtkhigkcmgcafdaaGreatDoor
open Go.RowKit
section
variable {B:Bk}{o o':Nat→Nat}{n n':Nat}{v v':Y.V}{w w' wx:World}{C:Nat→Prop}{i:Nat}
theorem WR.oW(h:WR B o n v w):o B.W=1:=h.c1.1
theorem WR.N0(h:WR B o n v w):B.N0≤w.heap.size:=by
 have:=h.c0.ow B.W (by rw[h.oW];decide)
 omega
theorem WR.low(h:WR B o n v w){k:Nat}(hk:k<B.N0):o k=0:=by
 by_cases h0:o k=0
 ·exact h0
 ·have:=h.c0.ow k h0;omega
theorem WR.fresh(h:WR B o n v w){k:Nat}(hk:w.heap.size≤k):o k=0:=by
 by_cases h0:o k=0
 ·exact h0
 ·have:=h.c0.ow k h0;omega
theorem WR.bruijn(h:WR B o n v w):3<w.heap.size∧o 3=0:=⟨Nat.lt_of_lt_of_le h.c0.U4 h.N0,h.low h.c0.U4⟩
theorem Fm.of_below(h:Below w.heap.size w w'):Fm o C w w':=⟨h.os,h.tape,h.output,h.size,fun k hk _=>h.block k hk⟩
theorem Fm.set(w:World)(b j:Nat)(x:Value)(hb:C (o b)):Fm o C w (w.setCell ⟨b,j,none⟩ x):=⟨rfl,rfl,rfl,by simp[World.setCell],fun k _ hc=>Below.heap_setCell _ _ _ _ (fun e=>hc (by rw[e];exact hb))⟩
theorem Ox.refl(h:WR B o n v w)(hs:w.heap.size≤w'.heap.size):Ox o o C w w':=⟨fun _ _=>rfl,fun k hk => .inl (h.fresh hk)⟩
theorem WR.keep(h:WR B o n v w)(hf:Fm o (fun _=>False) w w'):WR B o n v w':=by
 have hx:Ox o o (fun _=>False) w w' := .refl h hf.size
 have f:¬(fun _:Nat=>False) 0:=fun h=>h
 exact⟨h.c0.keep h.N0 hf hx f,h.c1.keep hf hx f ⟨rfl,rfl,rfl,rfl⟩,h.c2.keep hf hx f ⟨rfl,rfl⟩,h.c3.keep (Nat.le_refl _) hf hx f rfl,h.c4.keep hf hx f rfl,h.c5.keep hf hx f ⟨rfl,rfl⟩,h.c6.keep hf hx f f ⟨rfl,rfl⟩,h.c8.keep hf hx ⟨f,f⟩ ⟨rfl,rfl⟩,h.c10.keep hf hx f ⟨rfl,rfl⟩,h.c11.keep h.bruijn hf hx f f ⟨rfl,rfl,rfl⟩⟩
theorem WR.below(h:WR B o n v w)(hb:Below w.heap.size w w'):WR B o n v w':=h.keep (.of_below hb)
theorem WR.quiet(h:WR B o n v w)(hq:Quiet w w'):WR B o n v w':=h.below (hq.below _)
theorem WR.mono(h:WR B o n v w)(hn:n≤n'):WR B o n' v w:=by
 obtain⟨a,d,hd,hm⟩:=h.c3
 exact⟨h.c0,h.c1,h.c2,⟨a,d,by omega,hm⟩,h.c4,h.c5,h.c6,h.c8,h.c10,h.c11⟩
structure Ek(o o':Nat→Nat)(w w':World):Prop where
 os:w'.os=w.os
 tape:w'.tape=w.tape
 output:w'.output=w.output
 size:w.heap.size≤w'.heap.size
 old:∀ k,k<w.heap.size→o' k=o k
 keep:∀ k,k<w.heap.size→o k=0→w'.heap[k]? = w.heap[k]?
theorem Ek.refl(o:Nat→Nat)(w:World):Ek o o w w:=⟨rfl,rfl,rfl,Nat.le_refl _,fun _ _=>rfl,fun _ _ _=>rfl⟩
theorem Ek.trans{o2:Nat→Nat}(h:Ek o o2 w wx)(k:Ek o2 o' wx w'):Ek o o' w w':=
 ⟨k.os.trans h.os,k.tape.trans h.tape,k.output.trans h.output,Nat.le_trans h.size k.size,fun j hj=>(k.old j (Nat.lt_of_lt_of_le hj h.size)).trans (h.old j hj),fun j hj h0=>(k.keep j (Nat.lt_of_lt_of_le hj h.size) ((h.old j hj).trans h0)).trans (h.keep j hj h0)⟩
theorem Ek.of_below(h:Below w.heap.size w w'):Ek o o w w':=⟨h.os,h.tape,h.output,h.size,fun _ _=>rfl,fun k hk _=>h.block k hk⟩
theorem Ek.of_quiet(h:Quiet w w'):Ek o o w w' := .of_below (h.below _)
theorem Ek.of(hf:Fm o C w w')(hx:Ox o o' C w w')(hc:¬C 0):Ek o o' w w':=⟨hf.os,hf.tape,hf.output,hf.size,hx.old,fun k hk h0=>hf.block k hk (by rw[h0];exact hc)⟩
theorem Ek.below(h:Ek o o' w w')(hr:WR B o n v w):Below B.N0 w w':=⟨h.os,h.tape,h.output,h.size,fun k hk=>h.keep k (Nat.lt_of_lt_of_le hk hr.N0) (hr.low hk)⟩
theorem Ek.blk(h:Ek o o' w w'){k:Nat}{ob:Obj}(hk:w.heap[k]? = some ob)(h0:o k=0):w'.heap[k]? = some ob:=(h.keep k (blk_lt hk) h0).trans hk
def Po (B:Bk)(o:Nat→Nat)(n:Nat)(x:Value)(v:Y.V)(w:World)(e:Ending)(w':World):Prop:=e = .returned x ∧ ∃ o',WR B o' n v w'∧Ek o o' w w'
theorem Po.behind{x:Value}{o2:Nat→Nat}{e:Ending}(h:Ek o o2 w wx)(k:Po B o2 n x v wx e w'):Po B o n x v w e w':=by
 obtain⟨he,o3,h1,h2⟩:=k
 exact⟨he,o3,h1,h.trans h2⟩
theorem WR.w0(h:WR B o n v w):w.cell? ⟨B.W,0,none⟩=some (.int .i64 (v.P:Int)):=by obtain⟨_,lg,h2,_⟩:=h.c1;exact blk_cell h2 rfl
theorem WR.w2(h:WR B o n v w):w.cell? ⟨B.W,2,none⟩=some (.int .i64 (v.G:Int)):=by obtain⟨_,lg,h2,_⟩:=h.c1;exact blk_cell h2 rfl
theorem WR.w3(h:WR B o n v w):w.cell? ⟨B.W,3,none⟩=some (.pointer (some ⟨B.b1,0,none⟩)):=by obtain⟨_,lg,h2,_⟩:=h.c1;exact blk_cell h2 rfl
theorem WR.w4(h:WR B o n v w):w.cell? ⟨B.W,4,none⟩=some (.pointer (some ⟨B.b2,0,none⟩)):=by obtain⟨_,lg,h2,_⟩:=h.c1;exact blk_cell h2 rfl
theorem WR.w5(h:WR B o n v w):w.cell? ⟨B.W,5,none⟩=some (.int .i64 ((v.spn:Nat):Int)):=by obtain⟨_,lg,h2,_⟩:=h.c1;exact blk_cell h2 rfl
theorem WR.w6(h:WR B o n v w):w.cell? ⟨B.W,6,none⟩=some (.int .i64 ((v.nts:Nat):Int)):=by obtain⟨_,lg,h2,_⟩:=h.c1;exact blk_cell h2 rfl
theorem WR.w7(h:WR B o n v w):w.cell? ⟨B.W,7,none⟩=some (.int .i64 ((v.sts:Nat):Int)):=by obtain⟨_,lg,h2,_⟩:=h.c1;exact blk_cell h2 rfl
theorem WR.w8(h:WR B o n v w):w.cell? ⟨B.W,8,none⟩=some (.int .i64 (v.G:Int)):=by obtain⟨_,lg,h2,_⟩:=h.c1;exact blk_cell h2 rfl
theorem WR.w9(h:WR B o n v w):w.cell? ⟨B.W,9,none⟩=some B.rv:=by obtain⟨_,lg,h2,_⟩:=h.c1;exact blk_cell h2 rfl
theorem WR.w10(h:WR B o n v w):w.cell? ⟨B.W,10,none⟩=some (.slice (some ⟨B.tb,0,none⟩) v.P v.P):=by obtain⟨_,lg,h2,_⟩:=h.c1;exact blk_cell h2 rfl
theorem WR.w11(h:WR B o n v w):w.cell? ⟨B.W,11,none⟩=some (.pointer (some ⟨B.q,0,none⟩)):=by obtain⟨_,lg,h2,_⟩:=h.c1;exact blk_cell h2 rfl
theorem WR.w12(h:WR B o n v w):w.cell? ⟨B.W,12,none⟩=some (.pointer (some ⟨B.sb,0,none⟩)):=by obtain⟨_,lg,h2,_⟩:=h.c1;exact blk_cell h2 rfl
theorem WR.w13(h:WR B o n v w):w.cell? ⟨B.W,13,none⟩=some (.pointer (some ⟨B.ib,0,none⟩)):=by obtain⟨_,lg,h2,_⟩:=h.c1;exact blk_cell h2 rfl
theorem WR.w14(h:WR B o n v w):w.cell? ⟨B.W,14,none⟩=some (.slice (some ⟨B.mb,0,none⟩) v.M v.M):=by obtain⟨_,lg,h2,_⟩:=h.c1;exact blk_cell h2 rfl
theorem WR.mc(h:WR B o n v w)(hi:i<v.M)(j:Nat)(hj:j<20){x:Value}(hx:∀ rv,(mrow (v.mach i) rv)[j]? = some x):w.cell? ⟨B.mb,i*20+j,none⟩=some x:=by
 obtain⟨_,cs,rs,h2,h3,h4⟩:=h.c6
 exact blk_cell h2 (((h4 i hi).1 j hj).trans (hx _))
theorem WR.mfz(h:WR B o n v w)(j:Nat):w.frozen? ⟨B.mb,j,none⟩=false:=by
 obtain⟨_,cs,rs,h2,h3,h4⟩:=h.c6
 exact blk_free h2
theorem WR.m9(h:WR B o n v w)(hi:i<v.M):∃ a c,w.cell? ⟨B.mb,i*20+9,none⟩=some (.slice a (v.mach i).rest.length c)∧Rst o w (.slice a (v.mach i).rest.length c) (v.mach i).rest:=by
 obtain⟨_,cs,rs,h2,h3,h4⟩:=h.c6
 have r:=(h4 i hi).2
 obtain⟨a,c,e,_⟩:=r.rd
 refine⟨a,c,?_,e ▸ r⟩
 rw[←e]
 exact blk_cell h2 (((h4 i hi).1 9 (by decide)).trans rfl)
theorem getD_mach(v:Y.V)(i:Nat)(m:Y.Mh)(hi:i<v.mm.length)(j:Nat):(v.putM i m).mach j=if j=i then m else v.mach j:=Y.mach_set (v:=v) (v':=v.putM i m) rfl hi j
theorem WR.setM(h:WR B o n v w)(hl:v.mm.length=v.M)(hi:i<v.M)(j:Nat)(hj:j<20)(x:Value)(m:Y.Mh)(hr:∀ rv,Rst o w rv (v.mach i).rest → ∃ rv',Rst o w rv' m.rest ∧ ∀ l,l<20→(mrow m rv')[l]? = if l=j then some x else (mrow (v.mach i) rv)[l]?):WR B o n (v.putM i m) (w.setCell ⟨B.mb,i*20+j,none⟩ x):=by
 obtain⟨h1,cs,rs,h2,h3,h4⟩:=h.c6
 have hf:Fm o (fun k=>k=6) w (w.setCell ⟨B.mb,i*20+j,none⟩ x) := .set _ _ _ _ h1
 have hx:Ox o o (fun k=>k=6) w (w.setCell ⟨B.mb,i*20+j,none⟩ x) := .refl h hf.size
 obtain⟨rv',hr1,hr2⟩:=hr (rs i) (h4 i hi).2
 have hlt:i*20+j<cs.size:=by rw[h3];omega
 refine⟨h.c0.keep h.N0 hf hx (by decide),h.c1.keep hf hx (by decide) ⟨rfl,rfl,rfl,rfl⟩,h.c2.keep hf hx (by decide) ⟨rfl,rfl⟩,h.c3.keep (Nat.le_refl _) hf hx (by decide) rfl,h.c4.keep hf hx (by decide) rfl,h.c5.keep hf hx (by decide) ⟨rfl,rfl⟩,
  ⟨h1,cs.setIfInBounds (i*20+j) x,fun a=>if a=i then rv' else rs a,?_,by rw[Array.size_setIfInBounds];exact h3,fun a ha => ?_⟩,h.c8.keep hf hx ⟨by decide,by decide⟩ ⟨rfl,rfl⟩,h.c10.keep hf hx (by decide) ⟨rfl,rfl⟩,h.c11.keep h.bruijn hf hx (by decide) (by decide) ⟨rfl,rfl,rfl⟩⟩
 ·simp[World.setCell,Array.getElem?_modify,h2]
 ·rw[getD_mach v i m (by rw[hl];exact hi) a]
  by_cases hai:a=i
  ·subst hai
   dsimp only
   rw[if_pos rfl,if_pos rfl]
   refine⟨fun l hl' => ?_,hr1.keep hf hx (by decide)⟩
   rw[hr2 l hl']
   by_cases hlj:l=j
   ·rw[if_pos hlj,hlj];simp[hlt]
   ·rw[if_neg hlj,Array.getElem?_setIfInBounds,if_neg (by omega)]
    exact(h4 a hi).1 l hl'
  ·dsimp only
   rw[if_neg hai,if_neg hai]
   refine⟨fun l hl' => ?_,(h4 a ha).2.keep hf hx (by decide)⟩
   rw[Array.getElem?_setIfInBounds,if_neg (by omega)]
   exact(h4 a ha).1 l hl'
theorem WR.u0(h:WR B o n v w)(hl:v.mm.length=v.M)(hi:i<v.M)(x:Int):WR B o n (v.putM i { v.mach i with pl:=x }) (w.setCell ⟨B.mb,i*20,none⟩ (.int .i64 x)):=
 h.setM hl hi 0 (by decide) _ _ fun rv hr=>⟨rv,hr,fun l hl=>by rcases l with _|_|_|_|_|_|_|_|_|_|_|_|_|_|_|_|_|_|_|_|l <;> first|rfl|omega⟩
theorem WR.m0(h:WR B o n v w)(hi:i<v.M):w.cell? ⟨B.mb,i*20,none⟩=some (.int .i64 (v.mach i).pl):=h.mc hi 0 (by decide) (fun _=>rfl)
theorem WR.u1(h:WR B o n v w)(hl:v.mm.length=v.M)(hi:i<v.M)(x:Int):WR B o n (v.putM i { v.mach i with p:=x }) (w.setCell ⟨B.mb,i*20+1,none⟩ (.int .i64 x)):=
 h.setM hl hi 1 (by decide) _ _ fun rv hr=>⟨rv,hr,fun l hl=>by rcases l with _|_|_|_|_|_|_|_|_|_|_|_|_|_|_|_|_|_|_|_|l <;> first|rfl|omega⟩
theorem WR.m1(h:WR B o n v w)(hi:i<v.M):w.cell? ⟨B.mb,i*20+1,none⟩=some (.int .i64 (v.mach i).p):=h.mc hi 1 (by decide) (fun _=>rfl)
theorem WR.u2(h:WR B o n v w)(hl:v.mm.length=v.M)(hi:i<v.M)(x:Int):WR B o n (v.putM i { v.mach i with g:=x }) (w.setCell ⟨B.mb,i*20+2,none⟩ (.int .i64 x)):=
 h.setM hl hi 2 (by decide) _ _ fun rv hr=>⟨rv,hr,fun l hl=>by rcases l with _|_|_|_|_|_|_|_|_|_|_|_|_|_|_|_|_|_|_|_|l <;> first|rfl|omega⟩
theorem WR.m2(h:WR B o n v w)(hi:i<v.M):w.cell? ⟨B.mb,i*20+2,none⟩=some (.int .i64 (v.mach i).g):=h.mc hi 2 (by decide) (fun _=>rfl)
theorem WR.u3(h:WR B o n v w)(hl:v.mm.length=v.M)(hi:i<v.M)(x:Int):WR B o n (v.putM i { v.mach i with nx:=x }) (w.setCell ⟨B.mb,i*20+3,none⟩ (.int .i64 x)):=
 h.setM hl hi 3 (by decide) _ _ fun rv hr=>⟨rv,hr,fun l hl=>by rcases l with _|_|_|_|_|_|_|_|_|_|_|_|_|_|_|_|_|_|_|_|l <;> first|rfl|omega⟩
theorem WR.m3(h:WR B o n v w)(hi:i<v.M):w.cell? ⟨B.mb,i*20+3,none⟩=some (.int .i64 (v.mach i).nx):=h.mc hi 3 (by decide) (fun _=>rfl)
theorem WR.u4(h:WR B o n v w)(hl:v.mm.length=v.M)(hi:i<v.M)(x:Int):WR B o n (v.putM i { v.mach i with got:=x }) (w.setCell ⟨B.mb,i*20+4,none⟩ (.int .i64 x)):=
 h.setM hl hi 4 (by decide) _ _ fun rv hr=>⟨rv,hr,fun l hl=>by rcases l with _|_|_|_|_|_|_|_|_|_|_|_|_|_|_|_|_|_|_|_|l <;> first|rfl|omega⟩
theorem WR.m4(h:WR B o n v w)(hi:i<v.M):w.cell? ⟨B.mb,i*20+4,none⟩=some (.int .i64 (v.mach i).got):=h.mc hi 4 (by decide) (fun _=>rfl)
theorem WR.u5(h:WR B o n v w)(hl:v.mm.length=v.M)(hi:i<v.M)(x:Int):WR B o n (v.putM i { v.mach i with tg:=x }) (w.setCell ⟨B.mb,i*20+5,none⟩ (.int .i64 x)):=
 h.setM hl hi 5 (by decide) _ _ fun rv hr=>⟨rv,hr,fun l hl=>by rcases l with _|_|_|_|_|_|_|_|_|_|_|_|_|_|_|_|_|_|_|_|l <;> first|rfl|omega⟩
theorem WR.m5(h:WR B o n v w)(hi:i<v.M):w.cell? ⟨B.mb,i*20+5,none⟩=some (.int .i64 (v.mach i).tg):=h.mc hi 5 (by decide) (fun _=>rfl)
theorem WR.u6(h:WR B o n v w)(hl:v.mm.length=v.M)(hi:i<v.M)(x:Int):WR B o n (v.putM i { v.mach i with i:=x }) (w.setCell ⟨B.mb,i*20+6,none⟩ (.int .i64 x)):=
 h.setM hl hi 6 (by decide) _ _ fun rv hr=>⟨rv,hr,fun l hl=>by rcases l with _|_|_|_|_|_|_|_|_|_|_|_|_|_|_|_|_|_|_|_|l <;> first|rfl|omega⟩
theorem WR.m6(h:WR B o n v w)(hi:i<v.M):w.cell? ⟨B.mb,i*20+6,none⟩=some (.int .i64 (v.mach i).i):=h.mc hi 6 (by decide) (fun _=>rfl)
theorem WR.u7(h:WR B o n v w)(hl:v.mm.length=v.M)(hi:i<v.M)(x:Bool):WR B o n (v.putM i { v.mach i with spin:=x }) (w.setCell ⟨B.mb,i*20+7,none⟩ (.bool x)):=
 h.setM hl hi 7 (by decide) _ _ fun rv hr=>⟨rv,hr,fun l hl=>by rcases l with _|_|_|_|_|_|_|_|_|_|_|_|_|_|_|_|_|_|_|_|l <;> first|rfl|omega⟩
theorem WR.m7(h:WR B o n v w)(hi:i<v.M):w.cell? ⟨B.mb,i*20+7,none⟩=some (.bool (v.mach i).spin):=h.mc hi 7 (by decide) (fun _=>rfl)
theorem WR.u8(h:WR B o n v w)(hl:v.mm.length=v.M)(hi:i<v.M)(x:Bool):WR B o n (v.putM i { v.mach i with inn:=x }) (w.setCell ⟨B.mb,i*20+8,none⟩ (.bool x)):=
 h.setM hl hi 8 (by decide) _ _ fun rv hr=>⟨rv,hr,fun l hl=>by rcases l with _|_|_|_|_|_|_|_|_|_|_|_|_|_|_|_|_|_|_|_|l <;> first|rfl|omega⟩
theorem WR.m8(h:WR B o n v w)(hi:i<v.M):w.cell? ⟨B.mb,i*20+8,none⟩=some (.bool (v.mach i).inn):=h.mc hi 8 (by decide) (fun _=>rfl)
theorem WR.u10(h:WR B o n v w)(hl:v.mm.length=v.M)(hi:i<v.M)(x:Int):WR B o n (v.putM i { v.mach i with back:=x }) (w.setCell ⟨B.mb,i*20+10,none⟩ (.int .i64 x)):=
 h.setM hl hi 10 (by decide) _ _ fun rv hr=>⟨rv,hr,fun l hl=>by rcases l with _|_|_|_|_|_|_|_|_|_|_|_|_|_|_|_|_|_|_|_|l <;> first|rfl|omega⟩
theorem WR.m10(h:WR B o n v w)(hi:i<v.M):w.cell? ⟨B.mb,i*20+10,none⟩=some (.int .i64 (v.mach i).back):=h.mc hi 10 (by decide) (fun _=>rfl)
theorem WR.u11(h:WR B o n v w)(hl:v.mm.length=v.M)(hi:i<v.M)(x:Int):WR B o n (v.putM i { v.mach i with after:=x }) (w.setCell ⟨B.mb,i*20+11,none⟩ (.int .i64 x)):=
 h.setM hl hi 11 (by decide) _ _ fun rv hr=>⟨rv,hr,fun l hl=>by rcases l with _|_|_|_|_|_|_|_|_|_|_|_|_|_|_|_|_|_|_|_|l <;> first|rfl|omega⟩
theorem WR.m11(h:WR B o n v w)(hi:i<v.M):w.cell? ⟨B.mb,i*20+11,none⟩=some (.int .i64 (v.mach i).after):=h.mc hi 11 (by decide) (fun _=>rfl)
theorem WR.u12(h:WR B o n v w)(hl:v.mm.length=v.M)(hi:i<v.M)(x:Int):WR B o n (v.putM i { v.mach i with arg:=x }) (w.setCell ⟨B.mb,i*20+12,none⟩ (.int .i64 x)):=
 h.setM hl hi 12 (by decide) _ _ fun rv hr=>⟨rv,hr,fun l hl=>by rcases l with _|_|_|_|_|_|_|_|_|_|_|_|_|_|_|_|_|_|_|_|l <;> first|rfl|omega⟩
theorem WR.m12(h:WR B o n v w)(hi:i<v.M):w.cell? ⟨B.mb,i*20+12,none⟩=some (.int .i64 (v.mach i).arg):=h.mc hi 12 (by decide) (fun _=>rfl)
theorem WR.u13(h:WR B o n v w)(hl:v.mm.length=v.M)(hi:i<v.M)(x:Int):WR B o n (v.putM i { v.mach i with sn:=x }) (w.setCell ⟨B.mb,i*20+13,none⟩ (.int .i64 x)):=
 h.setM hl hi 13 (by decide) _ _ fun rv hr=>⟨rv,hr,fun l hl=>by rcases l with _|_|_|_|_|_|_|_|_|_|_|_|_|_|_|_|_|_|_|_|l <;> first|rfl|omega⟩
theorem WR.m13(h:WR B o n v w)(hi:i<v.M):w.cell? ⟨B.mb,i*20+13,none⟩=some (.int .i64 (v.mach i).sn):=h.mc hi 13 (by decide) (fun _=>rfl)
theorem WR.u14(h:WR B o n v w)(hl:v.mm.length=v.M)(hi:i<v.M)(x:Int):WR B o n (v.putM i { v.mach i with sv:=x }) (w.setCell ⟨B.mb,i*20+14,none⟩ (.int .i64 x)):=
 h.setM hl hi 14 (by decide) _ _ fun rv hr=>⟨rv,hr,fun l hl=>by rcases l with _|_|_|_|_|_|_|_|_|_|_|_|_|_|_|_|_|_|_|_|l <;> first|rfl|omega⟩
theorem WR.m14(h:WR B o n v w)(hi:i<v.M):w.cell? ⟨B.mb,i*20+14,none⟩=some (.int .i64 (v.mach i).sv):=h.mc hi 14 (by decide) (fun _=>rfl)
theorem WR.u15(h:WR B o n v w)(hl:v.mm.length=v.M)(hi:i<v.M)(x:Int):WR B o n (v.putM i { v.mach i with st:=x }) (w.setCell ⟨B.mb,i*20+15,none⟩ (.int .i64 x)):=
 h.setM hl hi 15 (by decide) _ _ fun rv hr=>⟨rv,hr,fun l hl=>by rcases l with _|_|_|_|_|_|_|_|_|_|_|_|_|_|_|_|_|_|_|_|l <;> first|rfl|omega⟩
theorem WR.m15(h:WR B o n v w)(hi:i<v.M):w.cell? ⟨B.mb,i*20+15,none⟩=some (.int .i64 (v.mach i).st):=h.mc hi 15 (by decide) (fun _=>rfl)
theorem WR.u16(h:WR B o n v w)(hl:v.mm.length=v.M)(hi:i<v.M)(x:Int):WR B o n (v.putM i { v.mach i with tk:=x }) (w.setCell ⟨B.mb,i*20+16,none⟩ (.int .u64 x)):=
 h.setM hl hi 16 (by decide) _ _ fun rv hr=>⟨rv,hr,fun l hl=>by rcases l with _|_|_|_|_|_|_|_|_|_|_|_|_|_|_|_|_|_|_|_|l <;> first|rfl|omega⟩
theorem WR.m16(h:WR B o n v w)(hi:i<v.M):w.cell? ⟨B.mb,i*20+16,none⟩=some (.int .u64 (v.mach i).tk):=h.mc hi 16 (by decide) (fun _=>rfl)
theorem WR.u17(h:WR B o n v w)(hl:v.mm.length=v.M)(hi:i<v.M)(x:Int):WR B o n (v.putM i { v.mach i with tm:=x }) (w.setCell ⟨B.mb,i*20+17,none⟩ (.int .i64 x)):=
 h.setM hl hi 17 (by decide) _ _ fun rv hr=>⟨rv,hr,fun l hl=>by rcases l with _|_|_|_|_|_|_|_|_|_|_|_|_|_|_|_|_|_|_|_|l <;> first|rfl|omega⟩
theorem WR.m17(h:WR B o n v w)(hi:i<v.M):w.cell? ⟨B.mb,i*20+17,none⟩=some (.int .i64 (v.mach i).tm):=h.mc hi 17 (by decide) (fun _=>rfl)
theorem WR.u18(h:WR B o n v w)(hl:v.mm.length=v.M)(hi:i<v.M)(x:Bool):WR B o n (v.putM i { v.mach i with yes:=x }) (w.setCell ⟨B.mb,i*20+18,none⟩ (.bool x)):=
 h.setM hl hi 18 (by decide) _ _ fun rv hr=>⟨rv,hr,fun l hl=>by rcases l with _|_|_|_|_|_|_|_|_|_|_|_|_|_|_|_|_|_|_|_|l <;> first|rfl|omega⟩
theorem WR.m18(h:WR B o n v w)(hi:i<v.M):w.cell? ⟨B.mb,i*20+18,none⟩=some (.bool (v.mach i).yes):=h.mc hi 18 (by decide) (fun _=>rfl)
theorem WR.u19(h:WR B o n v w)(hl:v.mm.length=v.M)(hi:i<v.M)(x:Int):WR B o n (v.putM i { v.mach i with til:=x }) (w.setCell ⟨B.mb,i*20+19,none⟩ (.int .i64 x)):=
 h.setM hl hi 19 (by decide) _ _ fun rv hr=>⟨rv,hr,fun l hl=>by rcases l with _|_|_|_|_|_|_|_|_|_|_|_|_|_|_|_|_|_|_|_|l <;> first|rfl|omega⟩
theorem WR.m19(h:WR B o n v w)(hi:i<v.M):w.cell? ⟨B.mb,i*20+19,none⟩=some (.int .i64 (v.mach i).til):=h.mc hi 19 (by decide) (fun _=>rfl)
theorem WR.u9(h:WR B o n v w)(hl:v.mm.length=v.M)(hi:i<v.M)(x:List Int)(rv:Value)(hr:Rst o w rv x):WR B o n (v.putM i { v.mach i with rest:=x }) (w.setCell ⟨B.mb,i*20+9,none⟩ rv):=
 h.setM hl hi 9 (by decide) _ _ fun rv' _=>⟨rv,hr,fun l hl=>by rcases l with _|_|_|_|_|_|_|_|_|_|_|_|_|_|_|_|_|_|_|_|l <;> first|rfl|omega⟩
end
end Go.Proofs.YtkhigkcmgcafdaaGreatDoor
