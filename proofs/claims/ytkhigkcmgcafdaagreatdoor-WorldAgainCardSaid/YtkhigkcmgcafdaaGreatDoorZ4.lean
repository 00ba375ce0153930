/- Of Pre4, SrcD, SrcA, SrcB, SrcT, WoA, WoB, WoD, WoJ, WoK, WoG, WoN, WoQ, WoR, WoS, WoT, WoU, WoV, WgA. -/
import Derived.Maps.RangeRun
import Derived.Test.YtkhigkcmgcafdaaGreatDoorZ3
set_option linter.unusedVariables false
set_option linter.unusedSimpArgs false
set_option maxHeartbeats 16000000
set_option maxRecDepth 20000
namespace Go.Proofs.YtkhigkcmgcafdaaGreatDoor
open Go.RowKit Tk
theorem infoHp2:(Tryz.prog.info? 178).map (fun i=>(i.zero,i.size,i.bytes))=some (some (.pointer none),1,8):=by kernel_rfl
structure Nw(w:World)(hp:Nat→Nat)(vr:Value)(i:Nat)(wr:World):Prop where
 bl:Below w.heap.size w wr
 box:wr.heap[w.heap.size+1]? = some (.cells #[vr, .map (some w.heap.size), .int .u64 0] 177 (0,0))
 mp:MapI wr w.heap.size .i64 (fun _=>none) 0
 own:wr.ownsRow (w.heap.size+2) 178 1 vr i ((List.range i).map fun j => .pointer (some ⟨hp j,0,none⟩))
 hs:∀ j,j<i→wr.heap[hp j]? = some (.cells #[.slice none 0 0] 193 (0,0))∧w.heap.size+2≤hp j∧vr.ownBlock≠some (hp j)
 ne:∀ j l,j<i→l<i→hp j=hp l→j=l
theorem Nw.start(w:World)(hp:Nat→Nat):Nw w hp (.slice none 0 0) 0 ((w.alloc (.map #[] 0)).alloc (.cells #[.slice none 0 0, .map (some w.heap.size), .int .u64 0] 177)):=by
 have h1:=Deep.blk_alloc_new (w.alloc (.map #[] 0)) (.cells #[.slice none 0 0, .map (some w.heap.size), .int .u64 0] 177)
 rw[World.size_alloc]at h1
 exact⟨(bl_al w _).trans ((bl_al _ _).mono (by simp)),h1,(MapI.new w .i64).kept (Below.heap_alloc _ _ _ (by simp)),⟨by simp, .inl ⟨rfl,rfl⟩⟩,fun j hj=>by omega,fun j l hj=>by omega⟩
section
variable {w:World}{hp:Nat→Nat}{vr:Value}{i:Nat}{wr w4:World}
theorem own_ge{b n:Nat}{e:TypeId}{xs:List Value}(h:wr.ownsRow b e 1 vr n xs):∀ q,vr.ownBlock=some q→b≤q∧q<wr.heap.size:=by
 intro q hq
 rcases h.2 with⟨rfl,_⟩|⟨g,cap,cur,rfl,hb,hgg,_⟩
 ·cases hq
 ·simp only[Value.ownBlock,Option.some.injEq]at hq
  subst hq
  exact⟨hb,(Array.getElem?_eq_some_iff.1 hgg).1⟩
theorem Nw.blk(h:Nw w hp vr i wr)
 (hgrow:((wr.alloc (.cells #[.slice none 0 0] 193)).alloc (.cells #[.pointer (some ⟨wr.heap.size,0,none⟩)] 178)).grownBy w4 vr.ownBlock)(k:Nat)(hk:k<wr.heap.size)(hne:vr.ownBlock≠some k):w4.heap[k]? = wr.heap[k]?:=by
 rw[hgrow.block k (by simp;omega) (fun e=>hne e.symm),Below.heap_alloc _ _ _ (by simp;omega),Below.heap_alloc _ _ _ hk]
theorem Nw.tlt(h:Nw w hp vr i wr):w.heap.size+1<wr.heap.size:=(Array.getElem?_eq_some_iff.1 h.box).1
theorem Nw.notT(h:Nw w hp vr i wr){k:Nat}(hk:k<w.heap.size+2):vr.ownBlock≠some k:=fun e=>by have:=own_ge h.own _ e;omega
theorem Nw.keep(h:Nw w hp vr i wr)
 (hgrow:((wr.alloc (.cells #[.slice none 0 0] 193)).alloc (.cells #[.pointer (some ⟨wr.heap.size,0,none⟩)] 178)).grownBy w4 vr.ownBlock) :
 w4.cell? ⟨w.heap.size+1,0,none⟩=some vr∧w4.frozen? ⟨w.heap.size+1,0,none⟩=false:=by
 have hb:=(h.blk hgrow (w.heap.size+1) h.tlt (h.notT (by omega))).trans h.box
 exact⟨cell_ent hb rfl,by simp[World.frozen?,hb]⟩
theorem Nw.step{gg cap:Nat}(h:Nw w hp vr i wr)
 (hown:w4.ownsRow (w.heap.size+2) 178 1 (.slice (some ⟨gg,0,none⟩) (i+1) cap) (i+1) (((List.range i).map fun j=>Value.pointer (some ⟨hp j,0,none⟩)) ++ [.pointer (some ⟨wr.heap.size,0,none⟩)]))
 (hgrow:((wr.alloc (.cells #[.slice none 0 0] 193)).alloc (.cells #[.pointer (some ⟨wr.heap.size,0,none⟩)] 178)).grownBy w4 vr.ownBlock)
 (hat:vr.ownBlock=some gg∨gg=wr.heap.size+2)(hlt:gg<w4.heap.size) :
 Nw w (updN hp i wr.heap.size) (.slice (some ⟨gg,0,none⟩) (i+1) cap) (i+1) (w4.setCell ⟨w.heap.size+1,0,none⟩ (.slice (some ⟨gg,0,none⟩) (i+1) cap)):=by
 have lt:=h.tlt
 have st:∀ x,x≠w.heap.size+1→(w4.setCell ⟨w.heap.size+1,0,none⟩ (.slice (some ⟨gg,0,none⟩) (i+1) cap)).heap[x]? = w4.heap[x]?:=fun x hx=>Below.heap_setCell _ _ _ _ hx
 have ss:(w4.setCell ⟨w.heap.size+1,0,none⟩ (.slice (some ⟨gg,0,none⟩) (i+1) cap)).heap.size=w4.heap.size:=by simp[World.setCell]
 have s4:=hgrow.size
 simp only[World.size_alloc]at s4
 have hgl:vr.ownBlock=some gg→gg<wr.heap.size:=fun e=>(own_ge h.own _ e).2
 have hpl:∀ j,j<i→hp j<wr.heap.size:=fun j hj=>(Array.getElem?_eq_some_iff.1 (h.hs j hj).1).1
 refine⟨⟨hgrow.os.trans h.bl.os,hgrow.tape.trans h.bl.tape,hgrow.output.trans h.bl.output,by rw[ss];have:=h.bl.size;omega,fun k hk => ?_⟩,?_,?_,?_,fun j hj => ?_,fun j l hj hl e => ?_⟩
 ·rw[st k (by omega),h.blk hgrow k (by omega) (h.notT (by omega))]
  exact h.bl.block k hk
 ·have hb:=(h.blk hgrow (w.heap.size+1) lt (h.notT (by omega))).trans h.box
  simp[World.setCell,Array.getElem?_modify,hb]
 ·exact h.mp.kept ((st _ (by omega)).trans (h.blk hgrow _ (by omega) (h.notT (by omega))))
 ·refine⟨by simp,?_⟩
  rcases hown.2 with⟨e,_⟩|⟨g,c2,cur,e,hb,hgg,r1,r2,r3,r4⟩
  ·cases e
  ·have hg2:gg=g:=by injection e with e1 e2 e3;injection e1 with e1;injection e1
   subst hg2
   refine .inr ⟨gg,c2,cur,e,hb,(st gg (by omega)).trans hgg,r1,r2,r3,r4.trans ?_⟩
   rw[List.range_succ,List.map_append]
   congr 1
   ·refine List.map_congr_left fun j hj => ?_
    rw[updN_ne _ _ (by have:=List.mem_range.1 hj;omega)]
   ·simp[updN_same]
 ·by_cases hji:j=i
  ·subst hji
   rw[updN_same]
   refine⟨?_,by omega,fun e => ?_⟩
   ·rw[st _ (by omega),hgrow.block _ (by simp;omega) (fun e=>by have:=own_ge h.own _ e.symm;omega),Below.heap_alloc _ _ _ (by simp)]
    exact Deep.blk_alloc_new _ _
   ·simp only[Value.ownBlock,Option.some.injEq]at e
    rcases hat with h1|h1
    ·have:=hgl h1;omega
    ·omega
  ·have hj2:j<i:=by omega
   rw[updN_ne _ _ hji]
   obtain⟨a1,a2,a3⟩:=h.hs j hj2
   have a4:=hpl j hj2
   refine⟨?_,a2,fun e => ?_⟩
   ·rw[st _ (by omega),h.blk hgrow _ a4 a3];exact a1
   ·simp only[Value.ownBlock,Option.some.injEq]at e
    rcases hat with h1|h1
    ·exact a3 (by rw[h1,e])
    ·omega
 ·by_cases hji:j=i <;> by_cases hli:l=i
  ·omega
  ·subst hji;rw[updN_same,updN_ne _ _ hli]at e;have:=hpl l (by omega);omega
  ·subst hli;rw[updN_same,updN_ne _ _ hji]at e;have:=hpl j (by omega);omega
  ·rw[updN_ne _ _ hji,updN_ne _ _ hli]at e;exact h.ne j l (by omega) (by omega) e
theorem Nw.fin{n:Nat}(h:Nw w hp vr n wr)(hn:0<n) :
 ∃ hb c hp,Tq (fun q=>q<w.heap.size) wr (w.heap.size+1) hb w.heap.size n c hp (fun _ => .slice none 0 0) (fun _ => []) (fun _=>false) 0 0∧Below w.heap.size w wr:=by
 rcases h.own.2 with⟨_,e⟩|⟨g,c,cur,rfl,hb,hgg,r1,r2,r3,r4⟩
 ·omega
 have lt:=h.tlt
 have hpg:∀ j,j<n→hp j≠g:=fun j hj e=>(h.hs j hj).2.2 (by rw[e];rfl)
 refine⟨g,c,hp,⟨h.box,⟨(Array.getElem?_eq_some_iff.1 hgg).1,fun j hj => ?_⟩,⟨r1,r2⟩,⟨_,h.mp,fun a => .inr ⟨rfl,rfl⟩⟩,fun j hj=>⟨(h.hs j hj).1,⟨by simp[fl], .inl ⟨rfl,rfl⟩⟩,by simp[Value.ownBlock],by simp⟩,fun j hj k hk hk2=>by simp at hk2,by omega,fun j hj => ?_,h.ne,fun j hj q hq=>(by cases hq),⟨by omega,fun j hj => ?_,fun j hj q hq=>(by cases hq)⟩⟩,h.bl⟩
 ·have:=h.own.cells (g:=g) rfl j (.pointer (some ⟨hp j,0,none⟩)) (by simp[hj])
  by_cases h0:j=0
  ·subst h0;simpa[Addr.add] using this
  ·simpa[Addr.add,h0] using this
 ·have:=(h.hs j hj).2.1
  exact⟨by omega,hpg j hj,by omega⟩
 ·have:=(h.hs j hj).2.1;omega
end
theorem tnew(n:Nat)(hn:1≤(n:Int))(hn2:(n:Int)≤64)(w:World):Calls Tryz.prog 79 #[.int .i64 n] w fun e w'=>e = .returned (.pointer (some ⟨w.heap.size+1,0,none⟩)) ∧
 ∃ hb c hp,Tq (fun q=>q<w.heap.size) w' (w.heap.size+1) hb w.heap.size n c hp (fun _ => .slice none 0 0) (fun _ => []) (fun _=>false) 0 0∧Below w.heap.size w w':=by
 have mk:∀ T (w:World),(Instr.makeMap T none).run Tryz.prog w = .ok (.map (some w.heap.size)) (w.alloc (.map #[] 0)):=fun T w=>rfl
 have S0:=hid (Nw.start w (fun _=>0))
 go_enter Tryz.func79,Tryz.ntmps79
 go_wp2_with fail
 clear mk
 obtain⟨t,ht⟩:∃ x,x=w.heap.size+1:=⟨_,rfl⟩
 have HT:=hid ht
 rw[←ht]
 clear ht
 go_loopw [10] (fun x wr=>∃(i:Nat) (hp:Nat→Nat) (vr:Value),i≤n∧x = .int .i64 i∧Hid (Nw w hp vr i wr)) (fun x _=>n - (intOf x).toNat)
 case atStart=>exact⟨0,_,_,Nat.zero_le _,rfl,S0⟩
 case round=>
  clear S0
  obtain⟨i,hp,vr,hi,rfl,F⟩:=hrel
  by_cases hlt:i<n
  ·obtain⟨i0,h0,hz0,hz1,hz2⟩:=info_parts infoHp2
   have c0:wr.cell? ⟨t,0,none⟩=some vr:=by rw[HT.out];exact cell_ent F.out.box rfl
   have OWN:=hid ((F.out.own.alloc (.cells #[.slice none 0 0] 193)).alloc (.cells #[.pointer (some ⟨wr.heap.size,0,none⟩)] 178))
   have NB:=hid (show ((wr.alloc (.cells #[.slice none 0 0] 193)).alloc (.cells #[.pointer (some ⟨wr.heap.size,0,none⟩)] 178)).heap[wr.heap.size+1]? = some (.cells #[.pointer (some ⟨wr.heap.size,0,none⟩)] 178 (0,0)) by
    have:=Deep.blk_alloc_new (wr.alloc (.cells #[.slice none 0 0] 193)) (.cells #[.pointer (some ⟨wr.heap.size,0,none⟩)] 178)
    rw[World.size_alloc]at this
    exact this)
   have B1:=hid (show i+1≤maxLen by unfold maxLen;omega)
   have B2:=hid (show (i+1)*8≤140737488355328 by omega)
   have B3:=hid (show w.heap.size+2≤((wr.alloc (.cells #[.slice none 0 0] 193)).alloc (.cells #[.pointer (some ⟨wr.heap.size,0,none⟩)] 178)).heap.size by
    have h1:=F.out.box
    obtain⟨hl,_⟩:=Array.getElem?_eq_some_iff.1 h1
    simp;omega)
   go_wp2_with (at_builtin;refine wpList_append_lies _ rfl _ _ 175 rfl (w.heap.size+2) 178 i0 (.pointer none) 1 8 Tryz.underlying175 h0 hz0 hz1 hz2 rfl (by decide) vr i _ rfl OWN.out ⟨wr.heap.size+1,0,none⟩ 1 1 [.pointer (some ⟨wr.heap.size,0,none⟩)] rfl rfl (World.news_of_block (cs := #[.pointer (some ⟨wr.heap.size,0,none⟩)]) (t:=178) (fr:=(0,0)) NB.out) (by simp[Value.oneCell']) (by omega) B1.out B2.out B3.out (wr.heap.size+2) (by simp) ?_;intro gg cap w4 hown hgrow hat hl4;have F4:=hid (F.out.step hown hgrow hat hl4);obtain⟨y0,f0⟩:=F.out.keep hgrow;rw[←HT.out]at y0 f0 F4;clear hown hgrow hat hl4 c0)
   go_roundw
   case rel=>exact⟨i+1,_,_,by omega,by go_num,F4⟩
   case measure=>simp[intOf];omega
  ·obtain rfl:i=n:=by omega
   go_wp2
   go_ret
   exact⟨(show Ending.returned (.pointer (some ⟨t,0,none⟩))=_ by rw[HT.out]),F.out.fin (by omega)⟩
def hasG (L:List En)(g:Int):Bool:=decide (g ∈ L.map fun e=>e.2.2)
def Te (Z:Nat→Prop)(w:World)(t n:Nat)(es:Nat→List En)(L:List En)(ad:Nat):Prop:=
 (∃ hb mb c hp v,Tq Z w t hb mb n c hp v es (hasG L) L.length ad)∧sortE (allE n es)=L∧(L.map fun e=>e.2.2).Nodup
section
variable {Z:Nat→Prop}{w w':World}{t n ad:Nat}{es:Nat→List En}{L l:List En}
theorem len_allE{p:Nat}:∀ n,p<n→(es p).length≤(allE n es).length
 | 0,h=>by omega
 | n + 1,h=>by
   rw[allE_succ,List.length_append]
   rcases Nat.lt_or_ge p n with h1|h1
   ·have:=len_allE n h1;omega
   ·obtain rfl:p=n:=by omega
    omega
theorem hasG_ins(x:En)(L:List En)(g:Int):hasG (insF x L) g=(decide (g=x.2.2) || hasG L g):=by
 have h:=((insF_perm x L).map fun e=>e.2.2).mem_iff (a:=g)
 simp only[hasG]
 rw[←Bool.decide_or]
 exact decide_eq_decide.2 (h.trans (by simp))
theorem len_ins(x:En)(L:List En):(insF x L).length=L.length+1:=(insF_perm x L).length_eq
theorem Te.below(h:Te Z w t n es L ad)(hb:Below w.heap.size w w'):Te Z w' t n es L ad:=by
 obtain⟨⟨hb',mb,c,hp,v,h1⟩,h2⟩:=h
 exact⟨⟨hb',mb,c,hp,v,h1.below hb⟩,h2⟩
theorem te_has(h:Te Z w t n es L ad)(a:Int)(r:Bool)(hr:hasG L a=r):Calls Tryz.prog 213 #[.pointer (some ⟨t,0,none⟩), .int .i64 a] w fun e w'=>e = .returned (.bool r)∧w'=w:=by
 obtain⟨⟨hb',mb,c,hp,v,h1⟩,h2⟩:=h
 rw[←hr]
 exact thas h1 a
def TeAdd(Z:Nat→Prop)(w:World)(t n:Nat)(es:Nat→List En)(L:List En)(ad p:Nat)(y:En)(w':World):Prop:=
 FrZ Z w w' ∧ ∃ T,T.Perm (y :: es p)∧Te Z w' t n (updN es p T) (insF y L) (ad+1)
theorem te_add(h:Te Z w t n es L ad)(hz:∀ q,Z q→q<w.heap.size)(p g:Nat)(hpn:p<n)(hg:g<4096)(x:Int)(hi:hasG L g=false)(hl:L.length<100000)(had:ad<1000000) :
 Calls Tryz.prog 212 #[.pointer (some ⟨t,0,none⟩), .int .i64 p, .int .i64 g, .int .i64 x] w fun e w'=>e = .returned (.int .i64 0)∧TeAdd Z w t n es L ad p (x,(ad:Int),(g:Int)) w':=by
 obtain⟨⟨hb',mb,c,hp,v,h1⟩,h2,h3⟩:=h
 have hlen:(es p).length<100000:=by
  have a:=len_allE (es:=es) n hpn
  have b:=sort_len (allE n es)
  rw[h2]at b;omega
 refine(tadd h1 hz p g hpn hg x hi hlen had).mono ?_
 rintro e w2 ⟨rfl,hf,v',T,hT,hq⟩
 refine⟨rfl,hf,T,hT,⟨hb',mb,c,hp,updN v p v',?_⟩,?_,?_⟩
 ·rw[len_ins]
  rw[show hasG (insF (x,(ad:Int),(g:Int)) L)=updI (hasG L) g true from funext fun a=>by rw[hasG_ins];by_cases ha:a=g <;> simp[updI,ha]]
  exact hq
 ·rw[sort_perm (allE_add hT n hpn),insF_sort,h2]
 ·rw[((insF_perm _ L).map fun e=>e.2.2).nodup_iff]
  simp only[List.map_cons,List.nodup_cons]
  exact⟨by simpa[hasG] using hi,h3⟩
theorem te_addI(h:Te Z w t n es L ad)(hz:∀ q,Z q→q<w.heap.size)(p g:Int)(hp0:0≤p)(hpn:p<n)(hg0:0≤g)(hg:g<4096)(x:Int)(hi:hasG L g=false)(hl:L.length<100000)(had:ad<1000000) :
 Calls Tryz.prog 212 #[.pointer (some ⟨t,0,none⟩), .int .i64 p, .int .i64 g, .int .i64 x] w fun e w'=>e = .returned (.int .i64 0)∧TeAdd Z w t n es L ad p.toNat (x,(ad:Int),g) w':=by
 obtain⟨p,rfl⟩:=Int.eq_ofNat_of_zero_le hp0
 obtain⟨g,rfl⟩:=Int.eq_ofNat_of_zero_le hg0
 exact te_add h hz p g (by omega) (by omega) x hi hl had
theorem te_none(h:Te Z w t n es L ad)(now:Int)(hs:∀ x l,L=x :: l→now<x.1):Calls Tryz.prog 177 #[.pointer (some ⟨t,0,none⟩), .int .i64 now] w (NonePost w):=by
 obtain⟨⟨hb',mb,c,hp,v,h1⟩,h2,h3⟩:=h
 exact ttake_none h1 now (fun x l e=>hs x l (h2.symm.trans e))
def TeTake(Z:Nat→Prop)(w:World)(t n:Nat)(es:Nat→List En)(l:List En)(ad:Nat)(y:En)(w':World):Prop:=
 FrZ Z w w' ∧ ∃ m T,m<n∧(es m).Perm (y :: T)∧Te Z w' t n (updN es m T) l ad
theorem te_take{x1 x2 x3:Int}(h:Te Z w t n es ((x1,x2,x3) :: l) ad)(hz:∀ q,Z q→q<w.heap.size)(now:Int)(hnow:x1≤now) :
 Calls Tryz.prog 177 #[.pointer (some ⟨t,0,none⟩), .int .i64 now] w fun e w'=>e = .returned (.tuple #[.agg #[.int .i64 x1, .int .u64 x2, .int .i64 x3], .bool true])∧TeTake Z w t n es l ad (x1,x2,x3) w':=by
 obtain⟨⟨hb',mb,c,hp,v,h1⟩,h2,h3⟩:=h
 simp only[List.map_cons,List.nodup_cons]at h3
 refine(ttake_some h1 hz h2 now hnow (by simp[hasG])).mono ?_
 rintro e w2 ⟨rfl,hf,m,v',T,hm,hT,hq⟩
 refine⟨rfl,hf,m,T,hm,hT,⟨hb',mb,c,hp,updN v m v',?_⟩,?_,h3.2⟩
 ·rw[show hasG l=updI (hasG ((x1,x2,x3) :: l)) x3 false from funext fun a=>by
   by_cases ha:a=x3
   ·subst ha;simp only[updI,if_true,hasG];exact decide_eq_false h3.1
   ·simp[updI,ha,hasG]]
  exact hq
 ·have p1:(x1,x2,x3) :: l=sortE (allE n es):=h2.symm
  have p2:((x1,x2,x3) :: l).Perm ((x1,x2,x3) :: allE n (updN es m T)):=by rw[p1];exact(sortE_perm _).trans (allE_take hT hm)
  have p3:=(List.perm_cons _).1 p2
  have hs:((x1,x2,x3) :: l).Pairwise leE:=by rw[p1];exact sortE_ord _
  exact ord_unique _ _ ((sortE_perm _).trans p3.symm) (sortE_ord _) (List.pairwise_cons.1 hs).2
def dueL (L:List En)(x:Int):Bool:=match L with | []=>false|y :: _=>decide (y.1≤x)
theorem te_due(h:Te Z w t n es L ad)(x:Int)(r:Bool)(hr:dueL L x=r):Calls Tryz.prog 108 #[.pointer (some ⟨t,0,none⟩), .int .i64 x] w fun e w'=>e = .returned (.bool r)∧Below w.heap.size w w':=by
 obtain⟨⟨hb',mb,c,hp,v,h1⟩,h2,h3⟩:=h
 rcases L with _|⟨⟨x1,x2,x3⟩,l⟩
 ·obtain rfl:r=false:=hr.symm
  exact tdue_none h1 h2 x
 ·exact tdue_some h1 h2 x r hr
theorem te_new(n:Nat)(hn:1≤(n:Int))(hn2:(n:Int)≤64)(w:World):Calls Tryz.prog 79 #[.int .i64 n] w fun e w'=>e = .returned (.pointer (some ⟨w.heap.size+1,0,none⟩)) ∧
 Te (fun q=>q<w.heap.size) w' (w.heap.size+1) n (fun _ => []) [] 0∧Below w.heap.size w w':=by
 refine(tnew n hn hn2 w).mono ?_
 rintro e w2 ⟨rfl,hb',c,hp,h1,h2⟩
 have e0:allE n (fun _=>([]:List En)) = []:=allE_nil (fun _ _=>rfl)
 exact⟨rfl,⟨⟨hb',_,c,hp,_,by rw[show hasG []=fun _=>false from funext fun a=>by simp[hasG]];exact h1⟩,by rw[e0];simp[sortE],by simp⟩,h2⟩
end
theorem Te.reZ{Z:Nat→Prop}{w:World}{t n ad:Nat}{es:Nat→List En}{L:List En}(h:Te Z w t n es L ad){b:Nat}(hb:w.heap.size≤b):Te (fun q=>Z q∨q=b) w t n es L ad:=by
 obtain⟨⟨hb',mb,c,hp,v,h1⟩,h2⟩:=h
 obtain⟨l1,l2,l3⟩:=h1.lt
 obtain⟨z1,z2,z3⟩:=h1.zf
 refine⟨⟨hb',mb,c,hp,v,⟨h1.box,h1.row,h1.hc,h1.mp,h1.he,h1.ord,h1.fix,h1.hpx,h1.hpi,h1.own,⟨?_,?_,?_⟩,?_,?_⟩⟩,h2⟩
 ·rintro (h|h); · exact z1.1 h
  ·omega
 ·rintro (h|h); · exact z1.2.1 h
  ·omega
 ·rintro (h|h); · exact z1.2.2 h
  ·omega
 ·rintro i hi (h|h); · exact z2 i hi h
  ·have:=(h1.he i hi).lt;omega
 ·rintro i hi q hq (h|h); · exact z3 i hi q hq h
  ·have:=own_lt0 (h1.he i hi) hq;omega
theorem Te.weak{Z Z':Nat→Prop}{w:World}{t n ad:Nat}{es:Nat→List En}{L:List En}(h:Te Z' w t n es L ad)(hz:∀ q,Z q→Z' q):Te Z w t n es L ad:=by
 obtain⟨⟨hb',mb,c,hp,v,h1⟩,h2⟩:=h
 obtain⟨z1,z2,z3⟩:=h1.zf
 exact⟨⟨hb',mb,c,hp,v,⟨h1.box,h1.row,h1.hc,h1.mp,h1.he,h1.ord,h1.fix,h1.hpx,h1.hpi,h1.own,⟨fun h=>z1.1 (hz _ h),fun h=>z1.2.1 (hz _ h),fun h=>z1.2.2 (hz _ h)⟩,fun i hi h=>z2 i hi (hz _ h),fun i hi q hq h=>z3 i hi q hq (hz _ h)⟩⟩,h2⟩
theorem mem_ins{e x:En}{L:List En}:e ∈ insF x L ↔ e=x∨e ∈ L:=(insF_perm x L).mem_iff.trans (by simp)
theorem Te.only{Z:Nat→Prop}{w w':World}{t n ad:Nat}{es:Nat→List En}{L:List En}(h:Te Z w t n es L ad){b:Nat}(o:Only b b w w')(hz:Z b):Te Z w' t n es L ad:=by
 obtain⟨⟨hb',m2,c,hp,v,q1⟩,q2⟩:=h
 have n1:=q1.zf.1
 exact⟨⟨hb',m2,c,hp,v,q1.other o ⟨fun e=>n1.1 (e ▸ hz),fun e=>n1.2.1 (e ▸ hz),fun e=>n1.2.2 (e ▸ hz)⟩ (fun i hi e=>q1.zf.2.1 i hi (e ▸ hz)) (fun i hi e=>q1.zf.2.2 i hi b e hz)⟩,q2⟩
end Go.Proofs.YtkhigkcmgcafdaaGreatDoor
namespace Go.Proofs.YtkhigkcmgcafdaaGreatDoor
open Go.RowKit Go.MapKept
open Go.ChangeMaps (setBlock)
structure RgI(w:World)(b r:Nat)(q:IntKind)(g:Int→Option Value)(n:Nat)(left:Int→Bool)(cnt:Nat):Prop where
 h : ∃ es clock since seen c0,w.heap[b]? = some (.map es clock)∧Stamped es clock∧(∀ x ∈ es.toList,IsKey (.int q) x.key)∧es.size=n∧(∀ a v,g a=some v ↔ ∃ x ∈ es.toList,x.key = .int q a∧x.val=v) ∧
   w.heap[r]? = some (.mapIter (some b) since seen c0)∧(∀ x ∈ es.toList,x.born<since)∧(leftOf es seen).size=cnt∧(∀ a,left a=true ↔ ∃ x ∈ es.toList,x.key = .int q a∧seen.contains x.born=false)∧since≤c0∧since≤clock
def leftI(w:World)(b r:Nat):Nat:=
 match w.heap[b]?,w.heap[r]? with
 | some (.map es _),some (.mapIter _ _ seen _)=>(leftOf es seen).size
 | _,_=>0
theorem entry_eq:∀ {l:List MapEntry},l.Pairwise (fun x y=>x.key≠y.key) → ∀ {x y:MapEntry},x ∈ l→y ∈ l→x.key=y.key→x=y
 | [],_,_,_,hx,_,_=>by simp at hx
 | a :: r,hp,x,y,hx,hy,h=>by
   obtain⟨h1,h2⟩:=List.pairwise_cons.1 hp
   rcases List.mem_cons.1 hx with ex|hx'
   ·rcases List.mem_cons.1 hy with ey|hy'
    ·rw[ex,ey]
    ·exact absurd (ex ▸ h) (h1 y hy')
   ·rcases List.mem_cons.1 hy with ey|hy'
    ·exact absurd (ey ▸ h).symm (h1 x hx')
    ·exact entry_eq h2 hx' hy' h
def strike(left:Int→Bool)(a:Int):Int→Bool:=fun x=>left x && !(x == a)
namespace RgI
variable {w w':World}{b r n cnt:Nat}{q:IntKind}{g:Int→Option Value}{left:Int→Bool}{P:Program}
theorem map(h:RgI w b r q g n left cnt):MapI w b q g n:=by
 obtain⟨es,clock,since,seen,c0,h1,h2,h3,h4,h5,_⟩:=h.h
 exact⟨es,clock,h1,h2,h3,h4,h5⟩
theorem left_eq(h:RgI w b r q g n left cnt):leftI w b r=cnt:=by
 obtain⟨es,clock,since,seen,c0,h1,h2,h3,h4,h5,h6,h7,h8,_⟩:=h.h
 simp only[leftI,h1,h6];exact h8
theorem lt(h:RgI w b r q g n left cnt):b<w.heap.size∧r<w.heap.size∧r≠b:=by
 obtain⟨es,clock,since,seen,c0,h1,h2,h3,h4,h5,h6,_⟩:=h.h
 refine⟨(Array.getElem?_eq_some_iff.1 h1).1,(Array.getElem?_eq_some_iff.1 h6).1,fun e => ?_⟩
 rw[e,h1]at h6;cases h6
theorem start{t kt et:TypeId}(h:MapI w b q g n)(hm:P.underlying t=some (.map kt et)) :
 ∃ o,(Instr.range t (.map (some b))).run P w = .ok (.pointer (some ⟨w.heap.size,0,none⟩)) (w.alloc o)∧RgI (w.alloc o) b w.heap.size q g n (fun a=>(g a).isSome) n:=by
 have hlt:=h.lt
 obtain⟨es,clock,h1,h2,h3,h4,h5⟩:=h.h
 refine⟨_,run_range_map w t kt et b es clock hm h1,es,clock,clock, #[],clock,((MapKept.heap_alloc w _).2 b hlt).trans h1,h2,h3,h4,h5,(MapKept.heap_alloc w _).1,h2.1,by unfold leftOf;rw[Array.filter_eq_self.2 (fun x _=>by simp)];exact h4,fun a => ?_,Nat.le_refl _,Nat.le_refl _⟩
 constructor
 ·intro hs
  obtain⟨v,hv⟩:=Option.isSome_iff_exists.1 hs
  obtain⟨x,hx,hk,_⟩:=(h5 a v).1 hv
  exact⟨x,hx,hk,by simp⟩
 ·rintro⟨x,hx,hk,_⟩
  exact Option.isSome_iff_exists.2 ⟨x.val,(h5 a x.val).2 ⟨x,hx,hk,rfl⟩⟩
theorem next(h:RgI w b r q g n left cnt) :
 (cnt=0∧(∀ a,left a=false) ∧ ∀ ty,(Instr.next (.pointer (some ⟨r,0,none⟩)) false ty).run P w = .ok (.tuple #[.bool false]) w) ∨
 ∃ a v w' cnt',left a=true∧g a=some v∧(∀ ty,(Instr.next (.pointer (some ⟨r,0,none⟩)) false ty).run P w = .ok (.tuple #[.bool true, .int q a,v]) w') ∧
   RgI w' b r q g n (strike left a) cnt'∧cnt'<cnt∧Only r r w w'∧(Instr.entry (.pointer (some ⟨r,0,none⟩))).run P w' = .ok (.tuple #[.int q a,v]) w':=by
 have hne:=h.lt.2.2
 obtain⟨es,clock,since,seen,c0,h1,h2,h3,h4,h5,h6,h7,rfl,h9,h10,h11⟩:=h.h
 have hst:=(stamped_iff es clock).1 h2
 rcases run_next_at (P:=P) w 0 r b since c0 seen es clock h6 h1 h7 h10 with⟨e0,hrun⟩|⟨e,he,w1,hal,hrun⟩
 ·refine .inl ⟨e0,fun a => ?_,fun ty=>hrun⟩
  cases hk:left a
  ·rfl
  ·obtain⟨x,hx,_,hc⟩:=(h9 a).1 hk
   rw[all_seen es seen e0 x hx]at hc
   cases hc
 ·obtain⟨hem,hes⟩:=mem_left he
  obtain⟨a,hka⟩:∃ a,e.key = .int q a:=by
   have:=h3 e hem
   cases hk:e.key <;> simp[hk,IsKey]at this ⊢
   exact this
  have hr1:w1.heap[r]? = some (.mapIter (some b) since seen c0):=by rcases hal with rfl|rfl <;> exact h6
  have hb1:w1.heap[b]? = some (.map es clock):=by rcases hal with rfl|rfl <;> exact h1
  have hset:=Go.MapKept.heap_set (o' := .mapIter (some b) since (seen.push e.born) clock) hr1
  have hb':(setBlock w1 r (.mapIter (some b) since (seen.push e.born) clock)).heap[b]? = some (.map es clock):=(hset.2 b (fun e1=>hne e1.symm)).trans hb1
  have hkeys:∀ x ∈ es.toList,x.key = .int q a→x=e:=fun x hx hxk=>entry_eq hst.2.2 hx hem (hxk.trans hka.symm)
  refine .inr ⟨a,e.val,_,_,(h9 a).2 ⟨e,hem,hka,hes⟩,(h5 a e.val).2 ⟨e,hem,hka,rfl⟩,fun ty=>by rw[←hka];exact hrun,
   ⟨es,clock,since,seen.push e.born,clock,hb',h2,h3,h4,h5,hset.1,h7,rfl,fun c => ?_,h11,h11⟩,left_shrinks es seen e he,?_,by
    rw[←hka];exact run_entry_at _ r b since seen es clock e hset.1 hb' hem hst.2.1⟩
  ·simp only[strike,Bool.and_eq_true,Bool.not_eq_true',beq_eq_false_iff_ne]
   rw[h9 c]
   constructor
   ·rintro⟨⟨x,hx,hxk,hxc⟩,hca⟩
    refine⟨x,hx,hxk,?_⟩
    rw[contains_push,hxc,Bool.false_or,beq_eq_false_iff_ne]
    intro hb2
    have:=born_inj hst.2.1 hx hem hb2
    subst this
    rw[hxk]at hka
    simp only[Value.int.injEq]at hka
    exact hca hka.2
   ·rintro⟨x,hx,hxk,hxc⟩
    rw[contains_push,Bool.or_eq_false_iff]at hxc
    refine⟨⟨x,hx,hxk,hxc.1⟩,fun hca => ?_⟩
    subst hca
    have:=hkeys x hx hxk
    subst this
    simp at hxc
  ·rcases hal with rfl|rfl <;> exact⟨rfl,rfl,rfl,by simp[setBlock],fun i _ hi _=>hset.2 i hi⟩
end RgI
end Go.Proofs.YtkhigkcmgcafdaaGreatDoor
namespace Go.Proofs.YtkhigkcmgcafdaaGreatDoor
open Go.RowKit Go.MapKept
structure KeyT(P:Program)(kt:TypeId)(κ:Type)(enc : κ → Value):Prop where
 inj:∀ a b,enc a=enc b→a=b
 chk:∀ e w a,(Instr.checkKey e 10000 kt (enc a)).run P w = .ok () w
 fnd:∀ w a (l:List MapEntry),(∀ x ∈ l,∃ b,x.key=enc b) →
  ((Instr.findKey kt (enc a) l).run P w = .ok none w ∧ ∀ x ∈ l,x.key≠enc a) ∨ ∃ j e,(Instr.findKey kt (enc a) l).run P w = .ok (some (j,e.val)) w∧l[j]? = some e∧e.key=enc a
 stay:∀ a w,(Instr.keyThatStays (enc a) (enc a)).run P w = .ok (enc a) w
variable {κ:Type}
structure MapK(w:World)(b:Nat)(enc : κ → Value)(g : κ → Option Value)(n:Nat):Prop where
 h:∃ es clock,w.heap[b]? = some (.map es clock)∧Stamped es clock∧(∀ x ∈ es.toList,∃ c,x.key=enc c)∧es.size=n ∧ ∀ a v,g a=some v ↔ ∃ x ∈ es.toList,x.key=enc a∧x.val=v
structure MapS(w:World)(b:Nat)(enc : κ → Value)(g : κ → Option Value)(n:Nat)(a : κ)(s:Nat):Prop where
 h:∃ es clock,w.heap[b]? = some (.map es clock)∧Stamped es clock∧(∀ x ∈ es.toList,∃ c,x.key=enc c)∧es.size=n∧(∀ a v,g a=some v ↔ ∃ x ∈ es.toList,x.key=enc a∧x.val=v) ∧ ∃ x ∈ es.toList,x.key=enc a∧x.born=s
def updK [DecidableEq κ](g : κ → Option Value)(a : κ)(v:Option Value) : κ → Option Value:=fun x=>if x=a then v else g x
theorem updK_updK[DecidableEq κ](g : κ → Option Value)(a : κ)(u v:Option Value):updK (updK g a u) a v=updK g a v:=by
 funext x;unfold updK;split <;> simp_all
theorem modify_mem{es:Array MapEntry}{clock:Nat}(hs:Stamped es clock){j:Nat}{e:MapEntry}(hj:es[j]? = some e)(f:MapEntry→MapEntry)(x:MapEntry) :
 x ∈ (es.modify j f).toList ↔ (x ∈ es.toList∧x.key≠e.key)∨x=f e:=by
 have hp:=((stamped_iff es clock).1 hs).2.2
 have e2:es.toList[j]? = some e:=by rw[Array.getElem?_toList];exact hj
 constructor
 ·intro hx
  obtain⟨i,hi⟩:=List.mem_iff_getElem?.1 hx
  rw[Array.getElem?_toList,Array.getElem?_modify]at hi
  split at hi
  ·rename_i e';subst e'
   rw[hj]at hi;simp only[Option.map_some,Option.some.injEq]at hi
   exact .inr hi.symm
  ·rename_i hne
   refine .inl ⟨by rw[←Array.getElem?_toList]at hi;exact List.mem_of_getElem? hi,fun hxk => ?_⟩
   have hi':es.toList[i]? = some x:=by rw[Array.getElem?_toList];exact hi
   obtain⟨hi1,hi2⟩:=List.getElem?_eq_some_iff.1 hi'
   obtain⟨hj1,hj2⟩:=List.getElem?_eq_some_iff.1 e2
   rcases Nat.lt_or_gt_of_ne hne with h|h
   ·exact List.pairwise_iff_getElem.1 hp j i hj1 hi1 h (by rw[hi2,hj2,hxk])
   ·exact List.pairwise_iff_getElem.1 hp i j hi1 hj1 h (by rw[hi2,hj2,hxk])
 ·rintro (⟨hx,hxk⟩|rfl)
  ·obtain⟨i,hi⟩:=List.mem_iff_getElem?.1 hx
   have hne:j≠i:=fun q=>by
    subst q
    rw[e2]at hi;simp only[Option.some.injEq]at hi;subst hi;exact hxk rfl
   refine List.mem_iff_getElem?.2 ⟨i,?_⟩
   rw[Array.getElem?_toList,Array.getElem?_modify,if_neg hne, ←Array.getElem?_toList];exact hi
  ·refine List.mem_iff_getElem?.2 ⟨j,?_⟩
   rw[Array.getElem?_toList,Array.getElem?_modify,if_pos rfl,hj];rfl
namespace MapK
variable {w:World}{b:Nat}{enc : κ → Value}{g : κ → Option Value}{n:Nat}
variable {P:Program}{t kt et:TypeId}
theorem set_only{o:Obj}{w:World}{b:Nat}{es:Array MapEntry}{clock:Nat}(h1:w.heap[b]? = some (.map es clock)):Only b b w { w with heap:=w.heap.setIfInBounds b o }:=
 ⟨rfl,rfl,rfl,by simp,fun k _ hk _=>(heap_set h1).2 k hk⟩
theorem push_spec[DecidableEq κ]{es:Array MapEntry}(hg:∀ a v,g a=some v ↔ ∃ x ∈ es.toList,x.key=enc a∧x.val=v)(hinj:∀ a b,enc a=enc b→a=b)(a : κ)(v:Value)(s:Nat)(e2:∀ x ∈ es.toList,x.key≠enc a) :
 ∀ c u,updK g a (some v) c=some u ↔ ∃ x ∈ (es.push { key:=enc a,val:=v,born:=s }).toList,x.key=enc c∧x.val=u:=by
 intro c u
 simp only[Array.toList_push,List.mem_append,List.mem_singleton,updK]
 split
 ·rename_i e;subst e
  constructor
  ·intro hu;simp only[Option.some.injEq]at hu;exact⟨_, .inr rfl,rfl,hu⟩
  ·rintro⟨x,hx|rfl,hxk,hxv⟩
   ·exact absurd hxk (e2 x hx)
   ·rw[←hxv]
 ·rename_i hne
  rw[hg]
  constructor
  ·rintro⟨x,hx,r⟩;exact⟨x, .inl hx,r⟩
  ·rintro⟨x,hx|rfl,hxk,hxv⟩
   ·exact⟨x,hx,hxk,hxv⟩
   ·exact absurd (hinj _ _ hxk).symm hne
theorem modify_spec[DecidableEq κ]{es:Array MapEntry}{clock:Nat}(hs:Stamped es clock)(hg:∀ a v,g a=some v ↔ ∃ x ∈ es.toList,x.key=enc a∧x.val=v)(hinj:∀ a b,enc a=enc b→a=b)(a : κ)(v:Value){j:Nat}{e:MapEntry}
 (hj:es[j]? = some e)(e3:e.key=enc a)(f:MapEntry→MapEntry)(fk:(f e).key=enc a)(fv:(f e).val=v) :
 ∀ c u,updK g a (some v) c=some u ↔ ∃ x ∈ (es.modify j f).toList,x.key=enc c∧x.val=u:=by
 intro c u
 have hmem:=modify_mem hs hj f
 simp only[updK]
 split
 ·rename_i ec;subst ec
  constructor
  ·intro hu;simp only[Option.some.injEq]at hu;exact⟨_,(hmem _).2 (.inr rfl),fk,fv.trans hu⟩
  ·rintro⟨x,hx,hxk,hxv⟩
   rcases (hmem x).1 hx with⟨_,h⟩|rfl
   ·exact absurd hxk (by rw[←e3];exact h)
   ·rw[←hxv,fv]
 ·rename_i hne
  rw[hg]
  constructor
  ·rintro⟨x,hx,hxk,hxv⟩
   exact⟨x,(hmem x).2 (.inl ⟨hx,fun h=>hne (hinj _ _ (by rw[←hxk,h,e3]))⟩),hxk,hxv⟩
  ·rintro⟨x,hx,hxk,hxv⟩
   rcases (hmem x).1 hx with⟨h,_⟩|rfl
   ·exact⟨x,h,hxk,hxv⟩
   ·exact absurd (hinj _ _ (hxk.symm.trans fk)) hne
theorem key_modify{es:Array MapEntry}{clock:Nat}(hs:Stamped es clock)(hk:∀ x ∈ es.toList,∃ c,x.key=enc c){j:Nat}{e:MapEntry}(hj:es[j]? = some e)(f:MapEntry→MapEntry)(a : κ)(fk:(f e).key=enc a) :
 ∀ x ∈ (es.modify j f).toList,∃ c,x.key=enc c:=fun x hx=>by
 rcases (modify_mem hs hj f x).1 hx with⟨h,_⟩|rfl
 ·exact hk x h
 ·exact⟨a,fk⟩
theorem none_of{es:Array MapEntry}(hg:∀ a v,g a=some v ↔ ∃ x ∈ es.toList,x.key=enc a∧x.val=v){a : κ}(e2:∀ x ∈ es.toList,x.key≠enc a):g a=none:=by
 rcases hga:g a with _|v
 ·rfl
 ·obtain⟨x,hx,hk,_⟩:=(hg a v).1 hga
  exact absurd hk (e2 x hx)
theorem entry[DecidableEq κ](h:MapK w b enc g n)(K:KeyT P kt κ enc)(hm:P.underlying t=some (.map kt et)){z:Value}(hz:∀ w,(zeroValue et).run P w = .ok z w)(a : κ) :
 ∃ w' s,(Instr.mapEntry t (.map (some b)) (enc a)).run P w = .ok (.tuple #[(g a).getD z, .int .i64 (s:Nat)]) w'∧MapS w' b enc (updK g a (some ((g a).getD z))) (if g a=none then n+1 else n) a s∧Only b b w w':=by
 obtain⟨es,clock,h1,hs,hk,hn,hg⟩:=h.h
 rcases K.fnd w a es.toList hk with⟨e1,e2⟩|⟨j,e,e1,e2,e3⟩
 ·have hga:=none_of hg e2
  rw[if_pos hga]
  refine⟨{ w with heap:=w.heap.setIfInBounds b (.map (es.push { key:=enc a,val:=z,born:=clock }) (clock+1)) },clock,by simp[Instr.mapEntry,run_underlying hm,MapKept.run_getObj_map h1,K.chk,e1,hz,run_setObj_map _ h1,Result.andThen,hga,goInt],⟨_,_,(heap_set h1).1,stamped_push hs e2,?_,by simp[hn],by rw[hga];exact push_spec hg K.inj a z clock e2,?_⟩,set_only h1⟩
  ·intro x hx
   simp only[Array.toList_push,List.mem_append,List.mem_singleton]at hx
   rcases hx with hx|rfl
   ·exact hk x hx
   ·exact⟨a,rfl⟩
  ·exact⟨{ key:=enc a,val:=z,born:=clock },by simp,rfl,rfl⟩
 ·have hj:es[j]? = some e:=by simpa using e2
  have hga:g a=some e.val:=(hg a e.val).2 ⟨e,List.mem_of_getElem? e2,e3,rfl⟩
  have hkey:∀ e',es[j]? = some e'→({ e' with key:=enc a }:MapEntry).key=e'.key:=fun e' he'=>by rw[hj]at he';cases he';exact e3.symm
  rw[if_neg (by rw[hga];simp)]
  refine⟨{ w with heap:=w.heap.setIfInBounds b (.map (es.modify j fun e => { e with key:=enc a }) clock) },e.born,by simp[Instr.mapEntry,run_underlying hm,MapKept.run_getObj_map h1,K.chk,e1,hj,e3,K.stay,run_setObj_map _ h1,Result.andThen,hga,goInt],⟨_,_,(heap_set h1).1,stamped_modify hs _ _ (fun _ _=>rfl) (fun e' _ he'=>hkey e' he'),key_modify hs hk hj _ a rfl,by simpa using hn,by rw[hga];exact modify_spec hs hg K.inj a _ hj e3 _ rfl rfl,?_⟩,set_only h1⟩
  exact⟨{ e with key:=enc a },(modify_mem hs hj _ _).2 (.inr rfl),rfl,rfl⟩
end MapK
theorem MapS.put[DecidableEq κ]{w:World}{b:Nat}{enc : κ → Value}{g : κ → Option Value}{n:Nat}{a : κ}{s:Nat}(h:MapS w b enc g n a s){P:Program}{t kt:TypeId}(K:KeyT P kt κ enc)(v:Value) :
 ∃ w',(Instr.entryStore t (.map (some b)) (.int .i64 (s:Nat)) v).run P w = .ok () w'∧MapK w' b enc (updK g a (some v)) n∧Only b b w w':=by
 obtain⟨es,clock,h1,hs,hk,hn,hg,x,hx,hxk,hxs⟩:=h.h
 have hst:=(stamped_iff es clock).1 hs
 obtain⟨j,hj⟩:=List.mem_iff_getElem?.1 hx
 obtain⟨hjl,hjx⟩:=List.getElem?_eq_some_iff.1 hj
 have hfi:es.findIdx? (fun e=>(e.born:Int) == ((s:Nat):Int))=some j:=by
  rw[Array.findIdx?_eq_some_iff_getElem]
  refine⟨by simpa using hjl,by simp only[Array.getElem_toList]at hjx;rw[hjx,hxs];simp,fun i hi => ?_⟩
  have hil:i<es.toList.length:=by omega
  have hnd:=hst.2.1
  have:(es.toList.map (·.born))[i]'(by simpa using hil)≠(es.toList.map (·.born))[j]'(by simpa using hjl):=List.pairwise_iff_getElem.1 hnd i j _ _ hi
  simp only[List.getElem_map,hjx,hxs,Array.getElem_toList]at this
  intro hc
  exact this (by simp at hc;simpa using (by omega:es[i].born=s))
 have hj':es[j]? = some x:=by rw[←Array.getElem?_toList];exact hj
 refine⟨{ w with heap:=w.heap.setIfInBounds b (.map (es.modify j fun e => { e with val:=v }) clock) },by simp[Instr.entryStore,MapKept.run_getObj_map h1,hfi,run_setObj_map _ h1,Result.andThen,asInt,asIntOf],⟨_,_,(heap_set h1).1,stamped_modify hs _ _ (fun _ _=>rfl) (fun e' _ he'=>rfl),MapK.key_modify hs hk hj' _ a hxk,by simpa using hn,MapK.modify_spec hs hg K.inj a v hj' hxk _ hxk rfl⟩,MapK.set_only h1⟩
end Go.Proofs.YtkhigkcmgcafdaaGreatDoor
namespace Go.Proofs.YtkhigkcmgcafdaaGreatDoor
open Go.RowKit Go.MapKept
abbrev encI(q:IntKind):Int→Value:=fun a => .int q a
theorem keyI{P:Program}{kt:TypeId}{q:IntKind}(hd:P.underlying kt=some (.int q)):KeyT P kt Int (encI q) where
 inj:=fun a b h=>by simp only[encI,Value.int.injEq]at h;exact h.2
 chk:=fun e w a=>run_checkKey (P:=P) (w:=w) hd (MapI.isKey q a) e 9999
 fnd:=fun w a l hl=>by
  have h3:∀ x ∈ l,IsKey (.int q) x.key:=fun x hx=>by obtain⟨c,hc⟩:=hl x hx;rw[hc];exact MapI.isKey q c
  rcases findNow_spec (MapI.isKey q a) l 0 h3 with⟨e1,e2⟩|⟨j,e,e1,e2,e3⟩
  ·exact .inl ⟨run_findKey hd e1,e2⟩
  ·exact .inr ⟨j,e,by have:=run_findKey (P:=P) (w:=w) hd e1;simpa using this,by simpa using e2,e3⟩
 stay:=fun a w=>run_keyThatStays (MapI.isKey q a)
theorem isKey_int{q:IntKind}{k:Value}(h:IsKey (.int q) k):∃ a,k = .int q a:=by
 cases k <;> simp[IsKey]at h ⊢
 exact h
namespace MapI
variable {w:World}{b:Nat}{q:IntKind}{g:Int→Option Value}{n:Nat}{P:Program}{t kt et:TypeId}
theorem toK(h:MapI w b q g n):MapK w b (encI q) g n:=by
 obtain⟨es,clock,h1,h2,h3,h4,h5⟩:=h.h
 exact⟨es,clock,h1,h2,fun x hx=>isKey_int (h3 x hx),h4,h5⟩
theorem ofK(h:MapK w b (encI q) g n):MapI w b q g n:=by
 obtain⟨es,clock,h1,h2,h3,h4,h5⟩:=h.h
 exact⟨es,clock,h1,h2,fun x hx=>by obtain⟨c,hc⟩:=h3 x hx;rw[hc];exact MapI.isKey q c,h4,h5⟩
theorem updK_is(g:Int→Option Value)(a:Int)(v:Option Value):updK g a v=updG g a v:=rfl
theorem put2(h:MapI w b q g n)(hm:P.underlying t=some (.map kt et))(hd:P.underlying kt=some (.int q)){z:Value}(hz:∀ w,(zeroValue et).run P w = .ok z w)(a:Int)(v:Value) :
 ∃ w1 s w2,(Instr.mapEntry t (.map (some b)) (.int q a)).run P w = .ok (.tuple #[(g a).getD z, .int .i64 (s:Nat)]) w1∧Only b b w w1 ∧
   (Instr.entryStore t (.map (some b)) (.int .i64 (s:Nat)) v).run P w1 = .ok () w2∧MapI w2 b q (updG g a (some v)) (if g a=none then n+1 else n)∧Only b b w1 w2:=by
 obtain⟨w1,s,r1,m1,o1⟩:=h.toK.entry (keyI hd) hm hz a
 obtain⟨w2,r2,m2,o2⟩:=m1.put (P:=P) (t:=t) (kt:=kt) (keyI hd) v
 rw[updK_updK,updK_is]at m2
 exact⟨w1,s,w2,r1,o1,r2,ofK m2,o2⟩
end MapI
end Go.Proofs.YtkhigkcmgcafdaaGreatDoor
namespace Go.Proofs.YtkhigkcmgcafdaaGreatDoor
open Go.RowKit
structure Pq(Z:Nat→Prop)(w:World)(p b1 b2 b3:Nat)(W:List (Int × Int))(R:List Int):Prop where
 box:w.heap[p]? = some (.cells #[.map (some b1), .map (some b2), .map (some b3)] 185 (0,0))
 m1:∃ g,MapI w b1 .u16 g W.length ∧ ∀ a v,g a=some v ↔ ∃ y,(a,y) ∈ W∧v = .int .i64 y
 m2:∃ g,MapI w b2 .i64 g W.length ∧ ∀ a v,g a=some v ↔ ∃ x,(x,a) ∈ W∧v = .int .u16 x
 m3:∃ g,MapI w b3 .u16 g R.length ∧ ∀ a,g a=if a ∈ R then some (.bool true) else none
 n1:(W.map Prod.fst).Nodup
 n2:(W.map Prod.snd).Nodup
 n3:R.Nodup
 ne:p≠b1∧p≠b2∧p≠b3∧b1≠b2∧b1≠b3∧b2≠b3
 zf:¬Z p∧¬Z b1∧¬Z b2∧¬Z b3
def waitsF(W:List (Int × Int))(fd:Int):Bool:=decide (fd ∈ W.map Prod.fst)
def waitsG(W:List (Int × Int))(g:Int):Bool:=decide (g ∈ W.map Prod.snd)
def plen (W:List (Int × Int))(R:List Int):Nat:=W.length+(R.filter fun a => !waitsF W a).length
section
variable {Z:Nat→Prop}{w w':World}{p b1 b2 b3:Nat}{W:List (Int × Int)}{R:List Int}
theorem und1:Tryz.prog.underlying 180=some (.map 129 3):=by kernel_rfl
theorem und2:Tryz.prog.underlying 182=some (.map 3 129):=by kernel_rfl
theorem und3:Tryz.prog.underlying 183=some (.map 129 4):=by kernel_rfl
theorem undF:Tryz.prog.underlying 129=some (.int .u16):=by kernel_rfl
theorem undG:Tryz.prog.underlying 3=some (.int .i64):=by kernel_rfl
theorem zero1(w:World):(zeroValue 3).run Tryz.prog w = .ok (.int .i64 0) w:=by kernel_rfl
theorem zero2(w:World):(zeroValue 129).run Tryz.prog w = .ok (.int .u16 0) w:=by kernel_rfl
theorem zero3(w:World):(zeroValue 4).run Tryz.prog w = .ok (.bool false) w:=by kernel_rfl
theorem Pq.lt(h:Pq Z w p b1 b2 b3 W R):p<w.heap.size∧b1<w.heap.size∧b2<w.heap.size∧b3<w.heap.size:=by
 obtain⟨g1,q1,_⟩:=h.m1
 obtain⟨g2,q2,_⟩:=h.m2
 obtain⟨g3,q3,_⟩:=h.m3
 exact⟨(Array.getElem?_eq_some_iff.1 h.box).1,q1.lt,q2.lt,q3.lt⟩
theorem Pq.kept(h:Pq Z w p b1 b2 b3 W R)(e0:w'.heap[p]? = w.heap[p]?)(e1:w'.heap[b1]? = w.heap[b1]?)(e2:w'.heap[b2]? = w.heap[b2]?)(e3:w'.heap[b3]? = w.heap[b3]?):Pq Z w' p b1 b2 b3 W R:=by
 obtain⟨g1,q1,r1⟩:=h.m1
 obtain⟨g2,q2,r2⟩:=h.m2
 obtain⟨g3,q3,r3⟩:=h.m3
 exact⟨e0.trans h.box,⟨g1,q1.kept e1,r1⟩,⟨g2,q2.kept e2,r2⟩,⟨g3,q3.kept e3,r3⟩,h.n1,h.n2,h.n3,h.ne,h.zf⟩
theorem Pq.below(h:Pq Z w p b1 b2 b3 W R)(hb:Below w.heap.size w w'):Pq Z w' p b1 b2 b3 W R:=
 h.kept (hb.block _ h.lt.1) (hb.block _ h.lt.2.1) (hb.block _ h.lt.2.2.1) (hb.block _ h.lt.2.2.2)
theorem pair_snd{l:List (Int × Int)}(hn:(l.map Prod.fst).Nodup){a y z:Int}(h1:(a,y) ∈ l)(h2:(a,z) ∈ l):y=z:=by
 induction l with
 | nil=>cases h1
 | cons c l ih=>
   simp only[List.map_cons,List.nodup_cons]at hn
   rcases List.mem_cons.1 h1 with e1|h1
   ·rcases List.mem_cons.1 h2 with e2|h2
    ·rw[←e1]at e2;injection e2 with _ e2;exact e2.symm
    ·exact absurd (List.mem_map.2 ⟨_,h2,by rw[←e1]⟩) hn.1
   ·rcases List.mem_cons.1 h2 with e2|h2
    ·exact absurd (List.mem_map.2 ⟨_,h1,by rw[←e2]⟩) hn.1
    ·exact ih hn.2 h1 h2
theorem waitsF_mem{a:Int}(h:waitsF W a=true):∃ y,(a,y) ∈ W:=by
 obtain⟨e,he,rfl⟩:=List.mem_map.1 (of_decide_eq_true h)
 exact⟨e.2,he⟩
theorem Pq.who_yes(h:Pq Z w p b1 b2 b3 W R){a y:Int}(hw:(a,y) ∈ W)(ok:Bool):(Instr.lookup 180 (.map (some b1)) (.int .u16 a) ok).run Tryz.prog w = .ok (if ok then .tuple #[.int .i64 y, .bool true] else .int .i64 y) w:=by
 obtain⟨g,q,r⟩:=h.m1
 exact q.look_hit und1 undF ((r a _).2 ⟨y,hw,rfl⟩) ok
theorem Pq.who_no(h:Pq Z w p b1 b2 b3 W R){a:Int}(hw:waitsF W a=false)(ok:Bool):(Instr.lookup 180 (.map (some b1)) (.int .u16 a) ok).run Tryz.prog w = .ok (if ok then .tuple #[.int .i64 0, .bool false] else .int .i64 0) w:=by
 obtain⟨g,q,r⟩:=h.m1
 refine q.look_miss und1 undF zero1 ?_ ok
 rcases hg:g a with _|v
 ·rfl
 ·obtain⟨y,hy,_⟩:=(r a v).1 hg
  exact absurd (List.mem_map.2 ⟨_,hy,rfl⟩) (of_decide_eq_false hw)
theorem Pq.which_yes(h:Pq Z w p b1 b2 b3 W R){a x:Int}(hw:(x,a) ∈ W)(ok:Bool):(Instr.lookup 182 (.map (some b2)) (.int .i64 a) ok).run Tryz.prog w = .ok (if ok then .tuple #[.int .u16 x, .bool true] else .int .u16 x) w:=by
 obtain⟨g,q,r⟩:=h.m2
 exact q.look_hit und2 undG ((r a _).2 ⟨x,hw,rfl⟩) ok
theorem Pq.which_no(h:Pq Z w p b1 b2 b3 W R){a:Int}(hw:waitsG W a=false)(ok:Bool):(Instr.lookup 182 (.map (some b2)) (.int .i64 a) ok).run Tryz.prog w = .ok (if ok then .tuple #[.int .u16 0, .bool false] else .int .u16 0) w:=by
 obtain⟨g,q,r⟩:=h.m2
 refine q.look_miss und2 undG zero2 ?_ ok
 rcases hg:g a with _|v
 ·rfl
 ·obtain⟨y,hy,_⟩:=(r a v).1 hg
  exact absurd (List.mem_map.2 ⟨_,hy,rfl⟩) (of_decide_eq_false hw)
theorem Pq.rdy(h:Pq Z w p b1 b2 b3 W R)(a:Int)(r:Bool)(hr:decide (a ∈ R)=r):(Instr.lookup 183 (.map (some b3)) (.int .u16 a) false).run Tryz.prog w = .ok (.bool r) w:=by
 obtain⟨g,q,s⟩:=h.m3
 by_cases ha:a ∈ R
 ·obtain rfl:r=true:=by rw[←hr];exact decide_eq_true ha
  exact q.look_hit und3 undF (by rw[s,if_pos ha]) false
 ·obtain rfl:r=false:=by rw[←hr];exact decide_eq_false ha
  exact q.look_miss und3 undF zero3 (by rw[s,if_neg ha]) false
theorem phas(h:Pq Z w p b1 b2 b3 W R)(a:Int):Calls Tryz.prog 211 #[.pointer (some ⟨p,0,none⟩), .int .i64 a] w fun e w'=>e = .returned (.bool (waitsG W a))∧w'=w:=by
 have c1:w.cell? ⟨p,1,none⟩=some (.map (some b2)):=cellx h.box rfl
 rcases hg:waitsG W a with _|_
 ·have L:=h.which_no hg true
  clear h
  go_enter Tryz.func211,Tryz.ntmps211
  go_wp2
  go_ret
  exact⟨rfl,rfl⟩
 ·obtain⟨e,he,h2⟩:=List.mem_map.1 (of_decide_eq_true hg)
  obtain⟨x,y⟩:=e
  simp only at h2
  subst h2
  have L:=h.which_yes he true
  clear h he
  go_enter Tryz.func211,Tryz.ntmps211
  go_wp2
  go_ret
  exact⟨rfl,rfl⟩
def cntR (W:List (Int × Int))(R:List Int)(left:Int→Bool):Nat:=(R.filter fun a => !left a && !waitsF W a).length
theorem filt_step{α:Type}{f f' : α → Bool}{a : α}:∀ {R:List α},R.Nodup→a ∈ R→f a=false→f' a=true→(∀ x,x ∈ R→x≠a→f' x=f x)→(R.filter f').length=(R.filter f).length+1
 | [],_,h,_,_,_=>by cases h
 | c :: R,hn,h,h1,h2,h3=>by
   obtain⟨n1,n2⟩:=List.nodup_cons.1 hn
   rcases List.mem_cons.1 h with e|h
   ·subst e
    rw[List.filter_cons,List.filter_cons,h1,h2]
    have:R.filter f'=R.filter f:=List.filter_congr fun x hx=>h3 x (List.mem_cons_of_mem _ hx) (fun e=>n1 (e ▸ hx))
    simp[this]
   ·have hca:c≠a:=fun e=>n1 (e ▸ h)
    have ih:=filt_step n2 h h1 h2 (fun x hx=>h3 x (List.mem_cons_of_mem _ hx))
    rw[List.filter_cons,List.filter_cons,h3 c List.mem_cons_self hca]
    split <;> simp[ih]
theorem filt_same{f f':Int→Bool}{R:List Int}(h:∀ x ∈ R,f' x=f x):(R.filter f').length=(R.filter f).length:=by rw[List.filter_congr h]
end
section
variable {Z:Nat→Prop}{w w':World}{p b1 b2 b3:Nat}{W:List (Int × Int)}{R:List Int}
structure Pr(Z:Nat→Prop)(w0:World)(p b1 b2 b3:Nat)(W:List (Int × Int))(R:List Int)(b r:Nat)(q:IntKind)(g:Int→Option Value)(n:Nat)(left:Int→Bool)(cnt:Nat)(wr:World):Prop where
 pq:Pq Z wr p b1 b2 b3 W R
 rg:RgI wr b r q g n left cnt
 bl:Below w0.heap.size w0 wr
 rw0:r=w0.heap.size
 far:p<r∧b1<r∧b2<r∧b3<r
theorem Pr.next{w0:World}{b r:Nat}{q:IntKind}{g:Int→Option Value}{n:Nat}{left:Int→Bool}{cnt:Nat}{wr:World}(h:Pr Z w0 p b1 b2 b3 W R b r q g n left cnt wr){P:Program} :
 (cnt=0∧(∀ a,left a=false) ∧ ∀ ty,(Instr.next (.pointer (some ⟨r,0,none⟩)) false ty).run P wr = .ok (.tuple #[.bool false]) wr) ∨
 ∃ a v w' cnt',left a=true∧g a=some v∧(∀ ty,(Instr.next (.pointer (some ⟨r,0,none⟩)) false ty).run P wr = .ok (.tuple #[.bool true, .int q a,v]) w') ∧
   Pr Z w0 p b1 b2 b3 W R b r q g n (strike left a) cnt' w'∧cnt'<cnt∧(Instr.entry (.pointer (some ⟨r,0,none⟩))).run P w' = .ok (.tuple #[.int q a,v]) w':=by
 rcases h.rg.next (P:=P) with h1|⟨a,v,w',cnt',e1,e2,e3,e4,e5,e6,e7⟩
 ·exact .inl h1
 ·obtain⟨f1,f2,f3,f4⟩:=h.far
  obtain⟨l1,l2,l3,l4⟩:=h.pq.lt
  have k:∀ x,x<r→x<wr.heap.size→w'.heap[x]? = wr.heap[x]?:=fun x hx hl=>e6.block x hl (by omega) (by omega)
  exact .inr ⟨a,v,w',cnt',e1,e2,e3,⟨h.pq.kept (k _ f1 l1) (k _ f2 l2) (k _ f3 l3) (k _ f4 l4),e4,h.bl.trans (e6.below (by rw[h.rw0];exact Nat.le_refl _) (by rw[h.rw0];exact Nat.le_refl _) h.bl.size),h.rw0,h.far⟩,e5,e7⟩
theorem Pr.start(h:Pq Z w p b1 b2 b3 W R){b:Nat}{q:IntKind}{g:Int→Option Value}{n:Nat}(hm:MapI w b q g n){P:Program}{t kt et:TypeId}(hu:P.underlying t=some (.map kt et)) :
 ∃ o,(Instr.range t (.map (some b))).run P w = .ok (.pointer (some ⟨w.heap.size,0,none⟩)) (w.alloc o)∧Pr Z w p b1 b2 b3 W R b w.heap.size q g n (fun a=>(g a).isSome) n (w.alloc o):=by
 obtain⟨o,h1,h2⟩:=RgI.start (P:=P) (t:=t) hm hu
 obtain⟨l1,l2,l3,l4⟩:=h.lt
 exact⟨o,h1,h.below (bl_al w o),h2,bl_al w o,rfl,by omega⟩
theorem cntR_zero(left:Int→Bool)(hl:∀ a,a ∈ R→left a=true):cntR W R left=0:=by
 unfold cntR
 rw[List.filter_eq_nil_iff.2 fun a ha=>by simp[hl a ha]];rfl
theorem cntR_all(left:Int→Bool)(hl:∀ a,left a=false):cntR W R left=(R.filter fun a => !waitsF W a).length:=by
 unfold cntR
 exact filt_same fun x hx=>by simp[hl x]
theorem cntR_on{left:Int→Bool}{a:Int}(hn:R.Nodup)(ha:a ∈ R)(hl:left a=true)(hw:waitsF W a=false):cntR W R (strike left a)=cntR W R left+1:=
 filt_step hn ha (by simp[hl]) (by simp[strike,hw]) (fun x _ hx=>by
  have:(x == a)=false:=by simpa using hx
  simp[strike,this])
theorem cntR_off{left:Int→Bool}{a:Int}(hw:waitsF W a=true):cntR W R (strike left a)=cntR W R left:=
 filt_same fun x hx=>by
  by_cases hxa:x=a
  ·subst hxa;simp[hw]
  ·have:(x == a)=false:=by simpa using hxa
   simp[strike,this]
theorem plen_r(h:Pq Z w p b1 b2 b3 W R)(hl:W.length<1000000∧R.length<1000000):Calls Tryz.prog 188 #[.pointer (some ⟨p,0,none⟩)] w fun e w'=>e = .returned (.int .i64 (plen W R))∧Below w.heap.size w w':=by
 obtain⟨g3,q3,s3⟩:=h.m3
 obtain⟨g1,q1,s1⟩:=h.m1
 have L1:=q1.len und1
 have c0:w.cell? ⟨p,0,none⟩=some (.map (some b1)):=cellx h.box rfl
 have c2:w.cell? ⟨p,2,none⟩=some (.map (some b3)):=cellx h.box rfl
 obtain⟨o,hrg,S0⟩:=Pr.start h q3 und3
 have HS:=hid S0
 have H3:=hid s3
 have HN:=hid h.n3
 obtain⟨m0,hm0⟩:∃ m0,m0=W.length:=⟨_,rfl⟩
 have HM:=hid hm0
 have hm0':m0<1000000:=by omega
 have hrl:=hl.2
 rw[←hm0]at L1
 clear h q3 q1 s1 S0 s3 hm0 hl
 go_enter Tryz.func188,Tryz.ntmps188
 go_wp2_with fail
 obtain⟨r,hr⟩:∃ r,r=w.heap.size:=⟨_,rfl⟩
 rw[←hr]at HS
 rw[←hr]
 clear hr hrg
 go_loopw [3] (fun v wr=>∃(left:Int→Bool) (cnt m:Nat),v = .int .i64 m∧m≤m0+R.length∧Hid (m=m0+cntR W R left)∧Hid (Pr Z w p b1 b2 b3 W R b3 r .u16 g3 R.length left cnt wr)) (fun _ wr=>leftI wr b3 r)
 case atStart=>
  refine⟨_,_,m0,rfl,by omega,hid ?_,HS⟩
  rw[cntR_zero _ (fun a ha=>by rw[H3.out,if_pos ha];rfl)];rfl
 case round=>
  clear HS
  obtain⟨left,cnt,m,rfl,hmm,HC,F⟩:=hrel
  rcases F.out.next (P:=Tryz.prog) with⟨h0,hl,hnx⟩|⟨a,v,w',cnt',e1,e2,hnx,F',hlt,hen⟩
  ·have FIN:=hid (show (m:Int)=(plen W R:Int) by
    have:=HC.out
    rw[cntR_all left hl,HM.out]at this
    unfold plen;omega)
   have BL:=hid F.out.bl
   clear F h0 hl HC
   go_wp2
   go_ret
   exact⟨by rw[←FIN.out];rfl,BL.out⟩
  ·have e2':=e2
   rw[H3.out]at e2'
   by_cases haR:a ∈ R
   ·rw[if_pos haR]at e2'
    obtain rfl:v = .bool true:=by injection e2' with e;exact e.symm
    have c0':w'.cell? ⟨p,0,none⟩=some (.map (some b1)):=cellx F'.pq.box rfl
    have LE:=hid (And.intro F.out.rg.left_eq F'.rg.left_eq)
    have HLT:=hid hlt
    rcases hw:waitsF W a with _|_
    ·have lk:=F'.pq.who_no hw true
     have HC2:=hid (show m+1=m0+cntR W R (strike left a) by rw[cntR_on HN.out haR e1 hw,HC.out];rfl)
     have hm2:m+1≤m0+R.length:=by rw[HC2.out];unfold cntR;have:=List.length_filter_le (fun x => !(strike left a) x && !waitsF W x) R;omega
     have F2:=hid F'
     clear F HC F' e2 e2' e1 hw haR hlt
     go_wp2
     go_roundw
     case rel=>exact⟨_,cnt',m+1,by go_num,hm2,HC2,F2⟩
     case measure=>have:=LE.out.1;have:=LE.out.2;have:=HLT.out;omega
    ·obtain⟨y,hy⟩:=waitsF_mem hw
     have lk:=F'.pq.who_yes hy true
     have HC2:=hid (show m=m0+cntR W R (strike left a) by rw[cntR_off hw,HC.out])
     have F2:=hid F'
     clear F HC F' e2 e2' e1 hw haR hlt hy
     go_wp2
     go_roundw
     case rel=>exact⟨_,cnt',m,rfl,hmm,HC2,F2⟩
     case measure=>have:=LE.out.1;have:=LE.out.2;have:=HLT.out;omega
   ·rw[if_neg haR]at e2';cases e2'
theorem pfull(h:Pq Z w p b1 b2 b3 W R)(hl:W.length<1000000∧R.length<1000000)(a:Int)(r:Bool)(hr:(!waitsF W a && !decide (a ∈ R) && decide (1024≤plen W R))=r) :
 Calls Tryz.prog 155 #[.pointer (some ⟨p,0,none⟩), .int .u16 a] w fun e w'=>e = .returned (.bool r)∧Below w.heap.size w w':=by
 have c0:w.cell? ⟨p,0,none⟩=some (.map (some b1)):=cellx h.box rfl
 have c2:w.cell? ⟨p,2,none⟩=some (.map (some b3)):=cellx h.box rfl
 have LN:=hid (plen_r h hl)
 rcases hw:waitsF W a with _|_
 ·have lk:=h.who_no hw true
  rcases ha:decide (a ∈ R) with _|_
  ·have rl:=h.rdy a false ha
   rw[hw,ha]at hr
   simp only[Bool.not_false,Bool.true_and]at hr
   obtain⟨m,hm⟩:∃ m,m=plen W R:=⟨_,rfl⟩
   rw[←hm]at LN hr
   have hr2:decide (1024≤m)=r:=hr
   clear h hw ha hm hr
   go_enter Tryz.func155,Tryz.ntmps155
   go_wp2_with fail
   refine(LN.out).mono ?_
   rintro e w2 ⟨rfl,b2'⟩
   have B:=hid b2'
   have E:=hid (show decide ((1024:Int)≤(m:Int))=r by rw[←hr2];exact decide_eq_decide.2 (by omega))
   clear b2' LN lk rl c0 c2 hr2
   go_wp2
   go_ret
   exact⟨(show Ending.returned (.bool (decide ((1024:Int)≤(m:Int))))=_ by rw[E.out]),B.out⟩
  ·have rl:=h.rdy a true ha
   obtain rfl:r=false:=by rw[←hr,hw,ha];rfl
   clear h hw ha hr LN
   go_enter Tryz.func155,Tryz.ntmps155
   go_wp2
   go_ret
   exact⟨rfl,Below.refl _ _⟩
 ·obtain⟨y,hy⟩:=waitsF_mem hw
  have lk:=h.who_yes hy true
  obtain rfl:r=false:=by rw[←hr,hw];rfl
  clear h hw hr LN hy
  go_enter Tryz.func155,Tryz.ntmps155
  go_wp2
  go_ret
  exact⟨rfl,Below.refl _ _⟩
def dueP (W:List (Int × Int))(R:List Int)(a:Int):Bool:=waitsF W a && decide (a ∈ R)
def LePost(W:List (Int × Int))(R:List Int)(w:World)(e:Ending)(w':World):Prop:=
 (e = .returned (.tuple #[.int .u16 0, .bool false])∧(∀ a,dueP W R a=false)∧Below w.heap.size w w') ∨
 ∃ m,e = .returned (.tuple #[.int .u16 m, .bool true])∧dueP W R m=true∧(∀ a,dueP W R a=true→m≤a)∧Below w.heap.size w w'
theorem le_none{left:Int→Bool}(h:∀ a,waitsF W a=true→left a=false→a ∉ R){a:Int}(ha:a ∉ R):∀ x,waitsF W x=true→strike left a x=false→x ∉ R:=fun x hw hl=>by
 simp only[strike,Bool.and_eq_false_iff,Bool.not_eq_false',beq_iff_eq]at hl
 rcases hl with hl|rfl
 ·exact h x hw hl
 ·exact ha
theorem le_first{left:Int→Bool}(h:∀ a,waitsF W a=true→left a=false→a ∉ R)(a:Int):∀ x,waitsF W x=true→strike left a x=false→x ∈ R→a≤x:=fun x hw hl hx=>by
 simp only[strike,Bool.and_eq_false_iff,Bool.not_eq_false',beq_iff_eq]at hl
 rcases hl with hl|rfl
 ·exact absurd hx (h x hw hl)
 ·exact Int.le_refl _
theorem le_more{left:Int→Bool}{m n a:Int}(h:∀ a,waitsF W a=true→left a=false→a ∈ R→m≤a)(hn:n≤m)(ha:a ∈ R→n≤a):∀ x,waitsF W x=true→strike left a x=false→x ∈ R→n≤x:=fun x hw hl hx=>by
 simp only[strike,Bool.and_eq_false_iff,Bool.not_eq_false',beq_iff_eq]at hl
 rcases hl with hl|rfl
 ·have:=h x hw hl hx;omega
 ·exact ha hx
theorem pleast(h:Pq Z w p b1 b2 b3 W R):Calls Tryz.prog 154 #[.pointer (some ⟨p,0,none⟩)] w (LePost W R w):=by
 obtain⟨g1,q1,s1⟩:=h.m1
 have c0:w.cell? ⟨p,0,none⟩=some (.map (some b1)):=cellx h.box rfl
 obtain⟨o,hrg,S0⟩:=Pr.start h q1 und1
 have HS:=hid S0
 have H1:=hid s1
 clear h q1 S0 s1
 go_enter Tryz.func154,Tryz.ntmps154
 go_wp2_with fail
 obtain⟨r,hr⟩:∃ r,r=w.heap.size:=⟨_,rfl⟩
 rw[←hr]at HS
 rw[←hr]
 clear hr hrg
 go_loopw [2,3] (fun v s wr=>∃(left:Int→Bool) (cnt:Nat),((v = .int .u16 0∧s = .bool false∧Hid (∀ a,waitsF W a=true→left a=false→a ∉ R)) ∨ ∃ m:Int,v = .int .u16 m∧s = .bool true∧Hid (dueP W R m=true ∧ ∀ a,waitsF W a=true→left a=false→a ∈ R→m≤a))∧Hid (Pr Z w p b1 b2 b3 W R b1 r .u16 g1 W.length left cnt wr)) (fun _ _ wr=>leftI wr b1 r)
 case atStart=>
  refine⟨_,_, .inl ⟨rfl,rfl,hid (fun a hw hl => ?_)⟩,HS⟩
  obtain⟨y,hy⟩:=waitsF_mem hw
  rw[(H1.out a _).2 ⟨y,hy,rfl⟩]at hl;cases hl
 case round=>
  clear HS
  obtain⟨left,cnt,hst,F⟩:=hrel
  rcases F.out.next (P:=Tryz.prog) with⟨h0,hl,hnx⟩|⟨a,v,w',cnt',e1,e2,hnx,F',hlt,hen⟩
  ·have HL:=hid hl
   have BL:=hid F.out.bl
   clear F h0 hl
   rcases hst with⟨rfl,rfl,HC⟩|⟨m,rfl,rfl,HC⟩
   ·go_wp2
    go_ret2
    refine .inl ⟨rfl,fun a => ?_,BL.out⟩
    rcases hw:waitsF W a with _|_
    ·simp[dueP,hw]
    ·have:=HC.out a hw (HL.out a)
     simp[dueP,this]
   ·go_wp2
    go_ret2
    refine .inr ⟨m,rfl,HC.out.1,fun a ha => ?_,BL.out⟩
    simp only[dueP,Bool.and_eq_true,decide_eq_true_eq]at ha
    exact HC.out.2 a ha.1 (HL.out a) ha.2
  ·obtain⟨y,hy,rfl⟩:=(H1.out a v).1 e2
   have hwa:waitsF W a=true:=decide_eq_true (List.mem_map.2 ⟨_,hy,rfl⟩)
   have c2':w'.cell? ⟨p,2,none⟩=some (.map (some b3)):=cellx F'.pq.box rfl
   have LE:=hid (And.intro F.out.rg.left_eq F'.rg.left_eq)
   have HLT:=hid hlt
   have HWA:=hid hwa
   have F2:=hid F'
   by_cases haR:a ∈ R
   ·have rl:=F'.pq.rdy a true (decide_eq_true haR)
    have HAR:=hid haR
    clear F F' e1 e2 hy hwa haR hlt
    rcases hst with⟨rfl,rfl,HC⟩|⟨m,rfl,rfl,HC⟩
    ·have HC2:=hid (And.intro (show dueP W R a=true by simp[dueP,HWA.out,HAR.out]) (le_first HC.out a))
     go_wp2
     go_roundw
     case rel=>exact⟨_,cnt', .inr ⟨a,rfl,rfl,HC2⟩,F2⟩
     case measure=>have:=LE.out.1;have:=LE.out.2;have:=HLT.out;omega
    ·by_cases ham:a<m
     ·have HC2:=hid (And.intro (show dueP W R a=true by simp[dueP,HWA.out,HAR.out]) (le_more (n:=a) (a:=a) HC.out.2 (by omega) (fun _=>Int.le_refl _)))
      go_wp2
      go_roundw
      case rel=>exact⟨_,cnt', .inr ⟨a,rfl,rfl,HC2⟩,F2⟩
      case measure=>have:=LE.out.1;have:=LE.out.2;have:=HLT.out;omega
     ·have HC2:=hid (And.intro HC.out.1 (le_more (n:=m) (a:=a) HC.out.2 (by omega) (fun _=>by omega)))
      have d1:decide (a<m)=false:=decide_eq_false ham
      go_wp2
      go_roundw
      case rel=>exact⟨_,cnt', .inr ⟨m,rfl,rfl,HC2⟩,F2⟩
      case measure=>have:=LE.out.1;have:=LE.out.2;have:=HLT.out;omega
   ·have rl:=F'.pq.rdy a false (decide_eq_false haR)
    have HAR:=hid haR
    clear F F' e1 e2 hy hwa haR hlt
    rcases hst with⟨rfl,rfl,HC⟩|⟨m,rfl,rfl,HC⟩
    ·have HC2:=hid (le_none HC.out HAR.out)
     go_wp2
     go_roundw
     case rel=>exact⟨_,cnt', .inl ⟨rfl,rfl,HC2⟩,F2⟩
     case measure=>have:=LE.out.1;have:=LE.out.2;have:=HLT.out;omega
    ·have HC2:=hid (And.intro HC.out.1 (le_more (n:=m) (a:=a) HC.out.2 (Int.le_refl _) (fun h=>absurd h HAR.out)))
     go_wp2
     go_roundw
     case rel=>exact⟨_,cnt', .inr ⟨m,rfl,rfl,HC2⟩,F2⟩
     case measure=>have:=LE.out.1;have:=LE.out.2;have:=HLT.out;omega
def anyDue(W:List (Int × Int))(R:List Int):Bool:=W.any fun e=>decide (e.1 ∈ R)
theorem anyDue_no(h:∀ a,dueP W R a=false):anyDue W R=false:=by
 rw[anyDue,List.any_eq_false]
 intro e he
 have:=h e.1
 have hw:waitsF W e.1=true:=decide_eq_true (List.mem_map.2 ⟨e,he,rfl⟩)
 simpa[dueP,hw] using this
theorem anyDue_yes{m:Int}(h:dueP W R m=true):anyDue W R=true:=by
 simp only[dueP,Bool.and_eq_true,decide_eq_true_eq]at h
 obtain⟨y,hy⟩:=waitsF_mem h.1
 exact List.any_eq_true.2 ⟨_,hy,decide_eq_true h.2⟩
theorem pdue(h:Pq Z w p b1 b2 b3 W R):Calls Tryz.prog 109 #[.pointer (some ⟨p,0,none⟩)] w fun e w'=>e = .returned (.bool (anyDue W R))∧Below w.heap.size w w':=by
 have LT:=hid (pleast h)
 clear h
 go_enter Tryz.func109,Tryz.ntmps109
 go_wp2_with fail
 refine(LT.out).mono ?_
 rintro e w2 (⟨rfl,h2,h3⟩|⟨m,rfl,h2,_,h3⟩)
 ·have B:=hid h3
  have H:=hid (anyDue_no h2)
  clear h2 h3 LT
  go_wp2
  go_ret
  exact⟨by rw[H.out];rfl,B.out⟩
 ·have B:=hid h3
  have H:=hid (anyDue_yes h2)
  clear h2 h3 LT
  go_wp2
  go_ret
  exact⟨by rw[H.out];rfl,B.out⟩
end
section
variable {Z:Nat→Prop}{w w':World}{p b1 b2 b3:Nat}{W:List (Int × Int)}{R:List Int}
theorem put_is{g:Int→Option Value}{fd y:Int}(hw:waitsF W fd=false)(h:∀ a v,g a=some v ↔ ∃ y,(a,y) ∈ W∧v = .int .i64 y):g fd=none:=by
 rcases hg:g fd with _|v
 ·rfl
 ·obtain⟨y,hy,_⟩:=(h fd v).1 hg
  exact absurd (List.mem_map.2 ⟨_,hy,rfl⟩) (of_decide_eq_false hw)
theorem put_is2{g:Int→Option Value}{a x:Int}(hw:waitsG W a=false)(h:∀ a v,g a=some v ↔ ∃ x,(x,a) ∈ W∧v = .int .u16 x):g a=none:=by
 rcases hg:g a with _|v
 ·rfl
 ·obtain⟨y,hy,_⟩:=(h a v).1 hg
  exact absurd (List.mem_map.2 ⟨_,hy,rfl⟩) (of_decide_eq_false hw)
def WaPost(Z:Nat→Prop)(w:World)(p b1 b2 b3:Nat)(W:List (Int × Int))(R:List Int)(fd a:Int)(w':World):Prop:=FrZ Z w w'∧Pq Z w' p b1 b2 b3 ((fd,a) :: W) R
theorem pwait(h:Pq Z w p b1 b2 b3 W R)(hl:W.length<1000000∧R.length<1000000)(fd a:Int)(h0:0≤a)(h1:a<4096)(hw:waitsF W fd=false)(hg:waitsG W a=false)(hf:(!waitsF W fd && !decide (fd ∈ R) && decide (1024≤plen W R))=false) :
 Calls Tryz.prog 214 #[.pointer (some ⟨p,0,none⟩), .int .u16 fd, .int .i64 a] w fun e w'=>e = .returned (.int .i64 0)∧WaPost Z w p b1 b2 b3 W R fd a w':=by
 have d0:decide (a<0)=false:=decide_eq_false (by omega)
 have d1:decide (4096≤a)=false:=decide_eq_false (by omega)
 have c0:w.cell? ⟨p,0,none⟩=some (.map (some b1)):=cellx h.box rfl
 have lk:=h.who_no hw true
 have HH:=phas h a
 rw[hg]at HH
 have HAS:=hid HH
 have FU:=hid (pfull h hl fd false hf)
 have HQ:=hid h
 have HW:=hid hw
 have HG:=hid hg
 clear h hl hw hg hf HH
 go_enter Tryz.func214,Tryz.ntmps214
 go_wp2_with fail
 refine(HAS.out).mono ?_
 rintro e w2 ⟨rfl,rfl⟩
 go_wp2_with fail
 refine(FU.out).mono ?_
 rintro e w3 ⟨rfl,b3'⟩
 have F3:=hid (FrZ.of_below (Z:=Z) b3')
 have Q3:=HQ.out.below b3'
 have Q4:=hid (Q3.below (bl_drw w3 w3.heap.size))
 have F4:=hid (F3.out.trans (FrZ.of_below (bl_drw w3 w3.heap.size)))
 obtain⟨g1,m1,s1⟩:=Q4.out.m1
 obtain⟨g2,m2,s2⟩:=Q4.out.m2
 obtain⟨wa,sa,wb,r1,o1,r2,n1,o2⟩:=m1.put2 und1 undF zero1 fd (.int .i64 a)
 have oo:=o1.trans o2
 obtain⟨l1,l2,l3,l4⟩:=Q4.out.lt
 obtain⟨e1,e2,e3,e4,e5,e6⟩:=Q4.out.ne
 have m2b:MapI wb b2 .i64 g2 W.length:=m2.kept (oo.block _ l3 e4.symm e4.symm)
 obtain⟨wc,sc,wd,r3,o3,r4,n3,o4⟩:=m2b.put2 und2 undG zero2 a (.int .u16 fd)
 have op:=o3.trans o4
 have cw:w3.drew.cell? ⟨p,0,none⟩=some (.map (some b1)):=cellx Q4.out.box rfl
 have cw':w3.cell? ⟨p,0,none⟩=some (.map (some b1)):=cellx Q4.out.box rfl
 have cx:w3.drew.cell? ⟨p,1,none⟩=some (.map (some b2)):=cellx Q4.out.box rfl
 have cx':w3.cell? ⟨p,1,none⟩=some (.map (some b2)):=cellx Q4.out.box rfl
 have FIN:Hid (WaPost Z w2 p b1 b2 b3 W R fd a wd):=by
  obtain⟨z0,z1,z2,z3⟩:=Q4.out.zf
  have ga:=put_is (y:=0) HW.out s1
  have gb:=put_is2 (x:=0) HG.out s2
  rw[if_pos ga]at n1
  rw[if_pos gb]at n3
  refine hid ⟨(F4.out.trans (.of_only oo z1)).trans (.of_only op z2),⟨?_,⟨_,n1.kept ((op.block _ (Nat.lt_of_lt_of_le l2 oo.size) e4 e4)),?_⟩,⟨_,n3,?_⟩,?_,?_,?_,Q4.out.n3,Q4.out.ne,Q4.out.zf⟩⟩
  ·rw[op.block _ (Nat.lt_of_lt_of_le l1 oo.size) e2 e2,oo.block _ l1 e1 e1];exact Q4.out.box
  ·intro c v
   simp only[updG]
   by_cases hc:c=fd
   ·subst hc
    simp only[if_true,Option.some.injEq]
    constructor
    ·intro e;exact⟨a,List.mem_cons_self,e.symm⟩
    ·rintro⟨y,hy,rfl⟩
     rcases List.mem_cons.1 hy with e|hy
     ·have e2:y=a:=congrArg Prod.snd e
      rw[e2]
     ·exact absurd (List.mem_map.2 ⟨_,hy,rfl⟩) (of_decide_eq_false HW.out)
   ·rw[if_neg hc,s1]
    constructor
    ·rintro⟨y,hy,rfl⟩;exact⟨y,List.mem_cons_of_mem _ hy,rfl⟩
    ·rintro⟨y,hy,rfl⟩
     rcases List.mem_cons.1 hy with e|hy
     ·exact absurd (congrArg Prod.fst e) hc
     ·exact⟨y,hy,rfl⟩
  ·intro c v
   simp only[updG]
   by_cases hc:c=a
   ·subst hc
    simp only[if_true,Option.some.injEq]
    constructor
    ·intro e;exact⟨fd,List.mem_cons_self,e.symm⟩
    ·rintro⟨y,hy,rfl⟩
     rcases List.mem_cons.1 hy with e|hy
     ·have e2:y=fd:=congrArg Prod.fst e
      rw[e2]
     ·exact absurd (List.mem_map.2 ⟨_,hy,rfl⟩) (of_decide_eq_false HG.out)
   ·rw[if_neg hc,s2]
    constructor
    ·rintro⟨y,hy,rfl⟩;exact⟨y,List.mem_cons_of_mem _ hy,rfl⟩
    ·rintro⟨y,hy,rfl⟩
     rcases List.mem_cons.1 hy with e|hy
     ·exact absurd (congrArg Prod.snd e) hc
     ·exact⟨y,hy,rfl⟩
  ·obtain⟨g,q,s⟩:=Q4.out.m3
   exact⟨g,q.kept (by rw[op.block _ (Nat.lt_of_lt_of_le l4 oo.size) e6.symm e6.symm,oo.block _ l4 e5.symm e5.symm]),s⟩
  ·exact List.nodup_cons.2 ⟨of_decide_eq_false HW.out,Q4.out.n1⟩
  ·exact List.nodup_cons.2 ⟨of_decide_eq_false HG.out,Q4.out.n2⟩
 have k1:wa.cell? ⟨p,0,none⟩=some (.map (some b1)):=cellx (only_blk o1 Q4.out.box e1) rfl
 have k2:wa.cell? ⟨p,1,none⟩=some (.map (some b2)):=cellx (only_blk o1 Q4.out.box e1) rfl
 have k3:wb.cell? ⟨p,1,none⟩=some (.map (some b2)):=cellx (only_blk oo Q4.out.box e1) rfl
 clear Q3 b3' m1 m2 s1 s2 o1 o2 n1 oo m2b o3 o4 n3 op l1 l2 l3 l4 e1 e2 e3 e4 e5 e6 HAS FU lk c0
 go_wp2_with fail
 go_region
 all_goals
  clear r1 r2 r3 r4 cw cw' cx cx' k1 k2 k3
  go_wp2
  go_ret
  exact⟨rfl,FIN.out⟩
end
section
variable {Z:Nat→Prop}{w w':World}{p b1 b2 b3:Nat}{W:List (Int × Int)}{R:List Int}
theorem pwait_same(h:Pq Z w p b1 b2 b3 W R)(fd a:Int)(h0:0≤a)(h1:a<4096)(hs:waitsF W fd=true∨waitsG W a=true):Calls Tryz.prog 214 #[.pointer (some ⟨p,0,none⟩), .int .u16 fd, .int .i64 a] w fun e w'=>e = .returned (.int .i64 8)∧w'=w:=by
 have d0:decide (a<0)=false:=decide_eq_false (by omega)
 have d1:decide (4096≤a)=false:=decide_eq_false (by omega)
 have c0:w.cell? ⟨p,0,none⟩=some (.map (some b1)):=cellx h.box rfl
 rcases hw:waitsF W fd with _|_
 ·have hg : waitsG W a = true := by rcases hs with e|e; · rw[hw]at e;cases e
                                    ·exact e
  have lk:=h.who_no hw true
  have HH:=phas h a
  rw[hg]at HH
  have HAS:=hid HH
  clear h hs hw hg HH
  go_enter Tryz.func214,Tryz.ntmps214
  go_wp2_with fail
  refine(HAS.out).mono ?_
  rintro e w2 ⟨rfl,rfl⟩
  go_wp2
  go_ret
  exact⟨rfl,rfl⟩
 ·obtain⟨y,hy⟩:=waitsF_mem hw
  have lk:=h.who_yes hy true
  clear h hs hw hy
  go_enter Tryz.func214,Tryz.ntmps214
  go_wp2
  go_ret
  exact⟨rfl,rfl⟩
theorem pwait_full(h:Pq Z w p b1 b2 b3 W R)(hl:W.length<1000000∧R.length<1000000)(fd a:Int)(h0:0≤a)(h1:a<4096)(hw:waitsF W fd=false)(hg:waitsG W a=false)(hf:(!waitsF W fd && !decide (fd ∈ R) && decide (1024≤plen W R))=true) :
 Calls Tryz.prog 214 #[.pointer (some ⟨p,0,none⟩), .int .u16 fd, .int .i64 a] w fun e w'=>e = .returned (.int .i64 2)∧Below w.heap.size w w':=by
 have d0:decide (a<0)=false:=decide_eq_false (by omega)
 have d1:decide (4096≤a)=false:=decide_eq_false (by omega)
 have c0:w.cell? ⟨p,0,none⟩=some (.map (some b1)):=cellx h.box rfl
 have lk:=h.who_no hw true
 have HH:=phas h a
 rw[hg]at HH
 have HAS:=hid HH
 have FU:=hid (pfull h hl fd true hf)
 clear h hl hw hg hf HH
 go_enter Tryz.func214,Tryz.ntmps214
 go_wp2_with fail
 refine(HAS.out).mono ?_
 rintro e w2 ⟨rfl,rfl⟩
 go_wp2_with fail
 refine(FU.out).mono ?_
 rintro e w3 ⟨rfl,b3'⟩
 have B:=hid b3'
 clear b3' HAS FU lk c0
 go_wp2
 go_ret
 exact⟨rfl,B.out⟩
def addR (R:List Int)(fd:Int):List Int:=if fd ∈ R then R else fd :: R
def RePost(Z:Nat→Prop)(w:World)(p b1 b2 b3:Nat)(W:List (Int × Int))(R:List Int)(w':World):Prop:=FrZ Z w w'∧Pq Z w' p b1 b2 b3 W R
theorem pready_full(h:Pq Z w p b1 b2 b3 W R)(hl:W.length<1000000∧R.length<1000000)(fd:Int)(hf:(!waitsF W fd && !decide (fd ∈ R) && decide (1024≤plen W R))=true) :
 Calls Tryz.prog 113 #[.pointer (some ⟨p,0,none⟩), .int .u16 fd] w fun e w'=>e = .returned (.int .i64 2)∧Below w.heap.size w w':=by
 have FU:=hid (pfull h hl fd true hf)
 clear h hl hf
 go_enter Tryz.func113,Tryz.ntmps113
 go_wp2_with fail
 refine(FU.out).mono ?_
 rintro e w3 ⟨rfl,b3'⟩
 have B:=hid b3'
 clear b3' FU
 go_wp2
 go_ret
 exact⟨rfl,B.out⟩
theorem pready(h:Pq Z w p b1 b2 b3 W R)(hl:W.length<1000000∧R.length<1000000)(fd:Int)(hf:(!waitsF W fd && !decide (fd ∈ R) && decide (1024≤plen W R))=false) :
 Calls Tryz.prog 113 #[.pointer (some ⟨p,0,none⟩), .int .u16 fd] w fun e w'=>e = .returned (.int .i64 0)∧RePost Z w p b1 b2 b3 W (addR R fd) w':=by
 have FU:=hid (pfull h hl fd false hf)
 have HQ:=hid h
 clear h hl hf
 go_enter Tryz.func113,Tryz.ntmps113
 go_wp2_with fail
 refine(FU.out).mono ?_
 rintro e w3 ⟨rfl,b3'⟩
 have F3:=FrZ.of_below (Z:=Z) b3'
 have Q3:=HQ.out.below b3'
 obtain⟨g,m,s⟩:=Q3.m3
 obtain⟨w4,r4,m4,o4⟩:=m.store und3 undF fd (.bool true)
 have c2:w3.cell? ⟨p,2,none⟩=some (.map (some b3)):=cellx Q3.box rfl
 have FIN:Hid (RePost Z w p b1 b2 b3 W (addR R fd) w4):=by
  obtain⟨z0,z1,z2,z3⟩:=Q3.zf
  obtain⟨l1,l2,l3,l4⟩:=Q3.lt
  obtain⟨e1,e2,e3,e4,e5,e6⟩:=Q3.ne
  obtain⟨g1,q1,s1⟩:=Q3.m1
  obtain⟨g2,q2,s2⟩:=Q3.m2
  refine hid ⟨F3.trans (.of_only o4 z3),⟨(o4.block _ l1 e3 e3).trans Q3.box,⟨g1,q1.kept (o4.block _ l2 e5 e5),s1⟩,⟨g2,q2.kept (o4.block _ l3 e6 e6),s2⟩,?_,Q3.n1,Q3.n2,?_,Q3.ne,Q3.zf⟩⟩
  ·by_cases hin:fd ∈ R
   ·rw[if_neg (by rw[s,if_pos hin];simp)]at m4
    refine⟨_,by rw[addR,if_pos hin];exact m4,fun a => ?_⟩
    rw[addR,if_pos hin]
    simp only[updG]
    by_cases ha:a=fd
    ·subst ha;simp[hin]
    ·rw[if_neg ha,s]
   ·rw[if_pos (by rw[s,if_neg hin])]at m4
    refine⟨_,by rw[addR,if_neg hin];exact m4,fun a => ?_⟩
    rw[addR,if_neg hin]
    simp only[updG]
    by_cases ha:a=fd
    ·subst ha;simp
    ·rw[if_neg ha,s];simp[ha]
  ·unfold addR
   split
   ·exact Q3.n3
   ·rename_i hin;exact List.nodup_cons.2 ⟨hin,Q3.n3⟩
 clear Q3 F3 b3' m s m4 o4 FU
 go_wp2
 go_ret
 exact⟨rfl,FIN.out⟩
def PnoPost(w:World)(e:Ending)(w':World):Prop:=e = .returned (.tuple #[.int .u16 0, .int .i64 0, .bool false])∧Below w.heap.size w w'
theorem ptake_none(h:Pq Z w p b1 b2 b3 W R)(hd:anyDue W R=false):Calls Tryz.prog 178 #[.pointer (some ⟨p,0,none⟩)] w (PnoPost w):=by
 have LT:=hid (pleast h)
 have HD:=hid hd
 clear h hd
 go_enter Tryz.func178,Tryz.ntmps178
 go_wp2_with fail
 refine(LT.out).mono ?_
 rintro e w2 (⟨rfl,h2,h3⟩|⟨m,rfl,h2,_,h3⟩)
 ·have B:=hid h3
  clear h2 h3 LT
  go_wp2
  go_ret3
  exact⟨rfl,B.out⟩
 ·exfalso
  have:=anyDue_yes h2
  rw[HD.out]at this;cases this
def PkPost(Z:Nat→Prop)(w:World)(p b1 b2 b3:Nat)(W:List (Int × Int))(R:List Int)(e:Ending)(w':World):Prop:=
 ∃ m y,e = .returned (.tuple #[.int .u16 m, .int .i64 y, .bool true])∧(m,y) ∈ W∧m ∈ R∧(∀ a,dueP W R a=true→m≤a)∧FrZ Z w w'∧Pq Z w' p b1 b2 b3 (W.filter fun e => !(e.1 == m)) (R.filter fun a => !(a == m))
theorem len_drop{m y:Int}(hn:(W.map Prod.fst).Nodup)(h:(m,y) ∈ W):(W.filter fun e => !(e.1 == m)).length=W.length - 1:=by
 have h1:=filt_step (R:=W) (f:=fun e => !(e.1 == m)) (f':=fun _=>true) (a:=(m,y)) (List.Pairwise.of_map _ (fun a b hab e=>hab (by rw[e])) hn) h (by simp) rfl (fun x hx hne=>by
  have:¬x.1=m:=fun e=>hne (by
   obtain⟨x1,x2⟩:=x
   simp only at e;subst e
   rw[pair_snd hn hx h])
  simp[this])
 have:W.filter (fun _=>true)=W:=List.filter_eq_self.2 (fun _ _=>rfl)
 rw[this]at h1;omega
theorem len_drop2{m:Int}(hn:R.Nodup)(h:m ∈ R):(R.filter fun a => !(a == m)).length=R.length - 1:=by
 have h1:=filt_step (R:=R) (f:=fun a => !(a == m)) (f':=fun _=>true) (a:=m) hn h (by simp) rfl (fun x hx hne=>by simp[hne])
 have:R.filter (fun _=>true)=R:=List.filter_eq_self.2 (fun _ _=>rfl)
 rw[this]at h1;omega
theorem take_pq{m y:Int}{wa wb wc:World}{ga gb gc:Int→Option Value}(h:Pq Z w p b1 b2 b3 W R)(hm:(m,y) ∈ W)(hr:m ∈ R)
 (s1:∀ a v,ga a=some v ↔ ∃ y,(a,y) ∈ W∧v = .int .i64 y)(n1:MapI wa b1 .u16 (updG ga m none) (if ga m=none then W.length else W.length - 1))(o1:Only b1 b1 w wa)
 (s2:∀ a v,gb a=some v ↔ ∃ x,(x,a) ∈ W∧v = .int .u16 x)(n2:MapI wb b2 .i64 (updG gb y none) (if gb y=none then W.length else W.length - 1))(o2:Only b2 b2 wa wb)
 (s3:∀ a,gc a=if a ∈ R then some (.bool true) else none)(n3:MapI wc b3 .u16 (updG gc m none) (if gc m=none then R.length else R.length - 1))(o3:Only b3 b3 wb wc) :
 FrZ Z w wc∧Pq Z wc p b1 b2 b3 (W.filter fun e => !(e.1 == m)) (R.filter fun a => !(a == m)):=by
 obtain⟨z0,z1,z2,z3⟩:=h.zf
 obtain⟨l1,l2,l3,l4⟩:=h.lt
 obtain⟨e1,e2,e3,e4,e5,e6⟩:=h.ne
 have t1:=o1.size
 have t2:=o2.size
 have k1:ga m=some (.int .i64 y):=(s1 m _).2 ⟨y,hm,rfl⟩
 have k2:gb y=some (.int .u16 m):=(s2 y _).2 ⟨m,hm,rfl⟩
 have k3:gc m=some (.bool true):=by rw[s3,if_pos hr]
 rw[if_neg (by rw[k1];simp), ←len_drop h.n1 hm]at n1
 rw[if_neg (by rw[k2];simp), ←len_drop h.n1 hm]at n2
 rw[if_neg (by rw[k3];simp), ←len_drop2 h.n3 hr]at n3
 have nd2:∀ a x x':Int,(x,a) ∈ W→(x',a) ∈ W→x=x':=fun a x x' q q'=>by
  have hsw:((W.map Prod.swap).map Prod.fst).Nodup:=by
   rw[List.map_map];exact h.n2
  exact pair_snd (l:=W.map Prod.swap) hsw (a:=a) (List.mem_map.2 ⟨_,q,rfl⟩) (List.mem_map.2 ⟨_,q',rfl⟩)
 refine⟨((FrZ.of_only o1 z1).trans (.of_only o2 z2)).trans (.of_only o3 z3),⟨?_,⟨_,n1.kept ?_,?_⟩,⟨_,n2.kept ?_,?_⟩,⟨_,n3,?_⟩,?_,?_,?_,h.ne,h.zf⟩⟩
 ·rw[o3.block _ (by omega) e3 e3,o2.block _ (by omega) e2 e2,o1.block _ l1 e1 e1];exact h.box
 ·rw[o3.block _ (by omega) e5 e5,o2.block _ (by omega) e4 e4]
 ·intro c v
  simp only[updG,List.mem_filter]
  by_cases hc:c=m
  ·subst hc;simp
  ·rw[if_neg hc,s1];simp[hc]
 ·rw[o3.block _ (by omega) e6 e6]
 ·intro c v
  simp only[updG,List.mem_filter]
  by_cases hc:c=y
  ·subst hc
   constructor
   ·intro e;simp at e
   ·rintro⟨x,⟨hx,hx2⟩,_⟩
    have:=nd2 _ _ _ hx hm
    subst this;simp at hx2
  ·rw[if_neg hc,s2]
   constructor
   ·rintro⟨x,hx,rfl⟩
    refine⟨x,⟨hx,?_⟩,rfl⟩
    by_cases hxm:x=m
    ·subst hxm;exact absurd (pair_snd h.n1 hx hm) hc
    ·simp[hxm]
   ·rintro⟨x,⟨hx,_⟩,rfl⟩;exact⟨x,hx,rfl⟩
 ·intro c
  simp only[updG,List.mem_filter]
  by_cases hc:c=m
  ·subst hc;simp
  ·rw[if_neg hc,s3];simp[hc]
 ·exact h.n1.sublist (List.filter_sublist.map _)
 ·exact h.n2.sublist (List.filter_sublist.map _)
 ·exact h.n3.sublist List.filter_sublist
theorem ptake(h:Pq Z w p b1 b2 b3 W R)(hd:anyDue W R=true):Calls Tryz.prog 178 #[.pointer (some ⟨p,0,none⟩)] w (PkPost Z w p b1 b2 b3 W R):=by
 have LT:=hid (pleast h)
 have HD:=hid hd
 have HQ:=hid h
 clear h hd
 go_enter Tryz.func178,Tryz.ntmps178
 go_wp2_with fail
 refine(LT.out).mono ?_
 rintro e w2 (⟨rfl,h2,h3⟩|⟨m,rfl,h2,hle,h3⟩)
 ·exfalso
  obtain⟨e,he,hr⟩:=List.any_eq_true.1 HD.out
  have:=h2 e.1
  rw[dueP,show waitsF W e.1=true from decide_eq_true (List.mem_map.2 ⟨e,he,rfl⟩),hr]at this
  cases this
 ·have hdu:=h2
  simp only[dueP,Bool.and_eq_true,decide_eq_true_eq]at hdu
  obtain⟨y,hy⟩:=waitsF_mem hdu.1
  have F2:=FrZ.of_below (Z:=Z) h3
  have Q2:=HQ.out.below h3
  obtain⟨ga,m1,s1⟩:=Q2.m1
  obtain⟨gb,m2,s2⟩:=Q2.m2
  obtain⟨gc,m3,s3⟩:=Q2.m3
  obtain⟨l1,l2,l3,l4⟩:=Q2.lt
  obtain⟨e1,e2,e3,e4,e5,e6⟩:=Q2.ne
  have lk:=Q2.who_yes hy false
  obtain⟨wa,ra,na,oa⟩:=m1.del und1 undF 0 m
  have m2a:=m2.kept (oa.block _ l3 e4.symm e4.symm)
  obtain⟨wb,rb,nb,ob⟩:=m2a.del und2 undG 0 y
  have m3a:=m3.kept ((ob.block _ (Nat.lt_of_lt_of_le l4 oa.size) e6.symm e6.symm).trans (oa.block _ l4 e5.symm e5.symm))
  obtain⟨wc,rc,nc,oc⟩:=m3a.del und3 undF 0 m
  have c0:w2.cell? ⟨p,0,none⟩=some (.map (some b1)):=cellx Q2.box rfl
  have boxa:=only_blk oa Q2.box e1
  have c1:wa.cell? ⟨p,1,none⟩=some (.map (some b2)):=cellx boxa rfl
  have boxb:=only_blk ob boxa e2
  have c2:wb.cell? ⟨p,2,none⟩=some (.map (some b3)):=cellx boxb rfl
  obtain⟨f,q⟩:=take_pq Q2 hy hdu.2 s1 na oa s2 nb ob s3 nc oc
  have FIN:Hid (PkPost Z w p b1 b2 b3 W R (.returned (.tuple #[.int .u16 m, .int .i64 y, .bool true])) wc):=hid ⟨m,y,rfl,hy,hdu.2,hle,F2.trans f,q⟩
  clear f q boxa boxb m3a nc oc m2a nb ob na oa e1 e2 e3 e4 e5 e6 l1 l2 l3 l4 m1 m2 m3 s1 s2 s3 Q2 F2 hy hdu h2 hle h3 LT
  go_wp2
  go_ret3
  exact FIN.out
end
theorem pnew(w:World):Calls Tryz.prog 80 #[] w fun e w'=>e = .returned (.pointer (some ⟨w.heap.size+3,0,none⟩))∧Pq (fun q=>q<w.heap.size) w' (w.heap.size+3) w.heap.size (w.heap.size+1) (w.heap.size+2) [] []∧Below w.heap.size w w':=by
 have mk:∀ T (w:World),(Instr.makeMap T none).run Tryz.prog w = .ok (.map (some w.heap.size)) (w.alloc (.map #[] 0)):=fun T w=>rfl
 have FIN:Hid (Pq (fun q=>q<w.heap.size) ((((w.alloc (.map #[] 0)).alloc (.map #[] 0)).alloc (.map #[] 0)).alloc (.cells #[.map (some w.heap.size), .map (some (w.heap.size+1)), .map (some (w.heap.size+2))] 185)) (w.heap.size+3) w.heap.size (w.heap.size+1) (w.heap.size+2) [] []):=by
  have a1:=MapI.new w .u16
  have a2:=MapI.new (w.alloc (.map #[] 0)) .i64
  have a3:=MapI.new ((w.alloc (.map #[] 0)).alloc (.map #[] 0)) .u16
  have a4:=fun o=>(Go.MapKept.heap_alloc (((w.alloc (.map #[] 0)).alloc (.map #[] 0)).alloc (.map #[] 0)) o).1
  have a4:=a4 (.cells #[.map (some w.heap.size), .map (some (w.heap.size+1)), .map (some (w.heap.size+2))] 185)
  simp only[World.size_alloc]at a2 a3 a4
  have b1:=(((a1.kept (Below.heap_alloc _ (.map #[] 0) _ (by simp only[World.size_alloc];omega))).kept (Below.heap_alloc _ (.map #[] 0) _ (by simp only[World.size_alloc];omega))).kept (Below.heap_alloc _ (.cells #[.map (some w.heap.size), .map (some (w.heap.size+1)), .map (some (w.heap.size+2))] 185) _ (by simp only[World.size_alloc];omega)))
  have b2:=((a2.kept (Below.heap_alloc _ (.map #[] 0) _ (by simp only[World.size_alloc];omega))).kept (Below.heap_alloc _ (.cells #[.map (some w.heap.size), .map (some (w.heap.size+1)), .map (some (w.heap.size+2))] 185) _ (by simp only[World.size_alloc];omega)))
  have b3:=a3.kept (Below.heap_alloc _ (.cells #[.map (some w.heap.size), .map (some (w.heap.size+1)), .map (some (w.heap.size+2))] 185) _ (by simp only[World.size_alloc];omega))
  exact hid ⟨a4,⟨_,b1,by simp⟩,⟨_,b2,by simp⟩,⟨_,b3,by simp⟩,by simp,by simp,by simp,by omega,by omega⟩
 go_enter Tryz.func80,Tryz.ntmps80
 go_wp2
 go_ret
 exact⟨rfl,FIN.out,((((bl_al w _).trans ((bl_al _ _).mono (by simp only[World.size_alloc];omega))).trans ((bl_al _ _).mono (by simp only[World.size_alloc];omega))).trans ((bl_al _ _).mono (by simp only[World.size_alloc];omega)))⟩
def PnPost(w:World)(e:Ending)(w':World):Prop:=
 ∃ Z p b1 b2 b3,e = .returned (.pointer (some ⟨p,0,none⟩))∧Pq Z w' p b1 b2 b3 [] []∧Below w.heap.size w w'∧(∀ q,q<w.heap.size→Z q) ∧ ∀ q,Z q→q<w.heap.size
theorem pnewZ(w:World):Calls Tryz.prog 80 #[] w (PnPost w):=(pnew w).mono fun e w' ⟨h1,h2,h3⟩=>⟨_,_,_,_,_,h1,h2,h3,fun q h=>h,fun q h=>h⟩
theorem Pq.only{Z:Nat→Prop}{w w':World}{p b1 b2 b3:Nat}{W:List (Int × Int)}{R:List Int}(h:Pq Z w p b1 b2 b3 W R){b:Nat}(o:Only b b w w')(hz:Z b):Pq Z w' p b1 b2 b3 W R:=by
 obtain⟨l1,l2,l3,l4⟩:=h.lt
 obtain⟨z1,z2,z3,z4⟩:=h.zf
 have k:∀ x,¬Z x→x<w.heap.size→w'.heap[x]? = w.heap[x]?:=fun x hx hl=>o.block x hl (fun e=>hx (e ▸ hz)) (fun e=>hx (e ▸ hz))
 exact h.kept (k _ z1 l1) (k _ z2 l2) (k _ z3 l3) (k _ z4 l4)
def Zp (p b1 b2 b3:Nat):Nat→Prop:=fun q=>q≠p∧q≠b1∧q≠b2∧q≠b3
def Zt (Z:Nat→Prop)(s p b1 b2 b3:Nat):Nat→Prop:=fun q=>Z q∨q=s∨q=p∨q=b1∨q=b2∨q=b3
structure Sq(Z:Nat→Prop)(w:World)(s t p b1 b2 b3 n:Nat)(now:Int)(es:Nat→List En)(L:List En)(ad:Nat)(W:List (Int × Int))(R:List Int):Prop where
 box:w.heap[s]? = some (.cells #[.int .i64 now, .pointer (some ⟨t,0,none⟩), .pointer (some ⟨p,0,none⟩), .int .i64 n, .int .i64 W.length] 103 (0,0))
 te:Te (Zt Z s p b1 b2 b3) w t n es L ad
 pq:Pq (Zp p b1 b2 b3) w p b1 b2 b3 W R
 now:inI now
 whn:∀ e ∈ L,inI e.1
 dis:∀ g,hasG L g=true→waitsG W g=false
 zf:¬Z s∧¬Z p∧¬Z b1∧¬Z b2∧¬Z b3
 ne:s≠p∧s≠b1∧s≠b2∧s≠b3
 hz:∀ q,Z q→q<w.heap.size
section
variable {Z:Nat→Prop}{w w':World}{s t p b1 b2 b3 n:Nat}{now:Int}{es:Nat→List En}{L:List En}{ad:Nat}{W:List (Int × Int)}{R:List Int}
theorem Sq.below(h:Sq Z w s t p b1 b2 b3 n now es L ad W R)(hb:Below w.heap.size w w'):Sq Z w' s t p b1 b2 b3 n now es L ad W R:=
 ⟨(hb.block _ (Array.getElem?_eq_some_iff.1 h.box).1).trans h.box,h.te.below hb,h.pq.below hb,h.now,h.whn,h.dis,h.zf,h.ne,fun q hq=>Nat.lt_of_lt_of_le (h.hz q hq) hb.size⟩
theorem Sq.lt(h:Sq Z w s t p b1 b2 b3 n now es L ad W R):s<w.heap.size:=(Array.getElem?_eq_some_iff.1 h.box).1
theorem Sq.hzt(h:Sq Z w s t p b1 b2 b3 n now es L ad W R):∀ q,Zt Z s p b1 b2 b3 q→q<w.heap.size:=fun q hq=>by
 obtain⟨l1,l2,l3,l4⟩:=h.pq.lt
 have l0:=h.lt
 rcases hq with hq|hq|hq|hq|hq|hq
 ·exact h.hz q hq
 all_goals omega
def dueS (now:Int)(L:List En)(W:List (Int × Int))(R:List Int):Bool:=dueL L now || anyDue W R
theorem snow(h:Sq Z w s t p b1 b2 b3 n now es L ad W R):Calls Tryz.prog 21 #[.pointer (some ⟨s,0,none⟩)] w fun e w'=>e = .returned (.int .i64 now)∧w'=w:=by
 have A:=hid (cnow s now w (cellx h.box rfl))
 clear h
 go_enter Tryz.func21,Tryz.ntmps21
 go_wp2_with fail
 refine(A.out).mono ?_
 rintro e w' ⟨rfl,rfl⟩
 go_wp2
 go_ret
 exact⟨rfl,rfl⟩
end
section
variable {Z:Nat→Prop}{w w':World}{s t p b1 b2 b3 n:Nat}{now:Int}{es:Nat→List En}{L:List En}{ad:Nat}{W:List (Int × Int)}{R:List Int}
theorem sdue(h:Sq Z w s t p b1 b2 b3 n now es L ad W R)(r:Bool)(hr:dueS now L W R=r):Calls Tryz.prog 64 #[.pointer (some ⟨s,0,none⟩)] w fun e w'=>e = .returned (.bool r)∧Below w.heap.size w w':=by
 have c1:w.cell? ⟨s,1,none⟩=some (.pointer (some ⟨t,0,none⟩)):=cellx h.box rfl
 have c1':w.drew.cell? ⟨s,1,none⟩=some (.pointer (some ⟨t,0,none⟩)):=cellx h.box rfl
 have NW:=hid (snow (h.below (bl_drw w _)))
 have HQ:=hid h
 unfold dueS at hr
 rcases hd:dueL L now with _|_
 ·rw[hd,Bool.false_or]at hr
  have TD:=hid (te_due (h.below (bl_drw w _)).te now false hd)
  have HR:=hid hr
  clear h hr hd
  go_enter Tryz.func64,Tryz.ntmps64
  go_wp2_with fail
  go_region_with (first
   | (go_at_call 21;refine(NW.out).mono ?_;rintro e w3 ⟨rfl,rfl⟩)
   | (go_at_call 108;refine(TD.out).mono ?_;rintro e w4 ⟨rfl,b4⟩;have B4:=hid ((bl_drw w w.heap.size).trans b4);have c2:w4.cell? ⟨s,2,none⟩=some (.pointer (some ⟨p,0,none⟩)):=cellx (HQ.out.below B4.out).box rfl)
   | (go_at_call 109;refine(pdue (HQ.out.below B4.out).pq).mono ?_;rintro e w5 ⟨rfl,b5⟩;have B5:=hid (B4.out.trans (b5.mono B4.out.size));clear b5))
  all_goals
   go_wp2
   go_ret
   exact⟨by rw[←HR.out];rfl,B5.out⟩
 ·obtain rfl:r=true:=by rw[←hr,hd];rfl
  have NX:=hid (fun(y:World) (hb:Below w.heap.size w y)=>snow (h.below hb))
  have TX:=hid (fun(y:World) (hb:Below w.heap.size w y)=>te_due (h.below hb).te now true hd)
  have SX:=hid (fun(y:World) (hb:Below w.heap.size w y)=>(show y.cell? ⟨s,1,none⟩=some (.pointer (some ⟨t,0,none⟩)) from cellx (h.below hb).box rfl))
  have HD:=hid (bl_drw w w.heap.size)
  clear h hr hd NW HQ
  go_enter Tryz.func64,Tryz.ntmps64
  go_upto_region 1 with (fail)
  refine wp_region_held_drew (S:=fun w'=>w'.cell? ⟨s,1,none⟩=some (.pointer (some ⟨t,0,none⟩))) (by kernel_rfl) (SX.out _ HD.out) (fun hHeld => ?_)
  refine wpAnyH_take (i:=0) (oi:=_) (v := ?_) rfl (by kernel_rfl) (by kernel_rfl) (by kernel_rfl) (fun _ _ _ h=>h) (Or.inl ⟨by rfl,?_⟩) (by assumption) ?_
  rotate_left
  ·intro w hSw
   try dsimp only at hSw
   go_simp
   with_reducible rfl
  try simp only[Act.put,List.getElem_toArray,List.getElem_cons_zero,List.getElem_cons_succ,List.setIfInBounds_toArray,List.set_cons_zero,List.set_cons_succ]
  refine wpAnyH_take (i:=1) (oi:=_) (v := ?_) rfl (by kernel_rfl) (by kernel_rfl) (by kernel_rfl) (fun _ _ _ h=>h) (Or.inl ⟨by rfl,?_⟩) (by assumption) ?_
  rotate_left
  ·intro w hSw
   try dsimp only at hSw
   go_simp
   with_reducible rfl
  try simp only[Act.put,List.getElem_toArray,List.getElem_cons_zero,List.getElem_cons_succ,List.setIfInBounds_toArray,List.set_cons_zero,List.set_cons_succ]
  refine wpAnyH_take (i:=2) (oi:=_) (v := ?_) rfl (by kernel_rfl) (by kernel_rfl) (by kernel_rfl) (fun _ _ _ h=>h) (Or.inl ⟨by rfl,?_⟩) (by assumption) ?_
  rotate_left
  ·intro w hSw
   try dsimp only at hSw
   go_simp
   with_reducible rfl
  try simp only[Act.put,List.getElem_toArray,List.getElem_cons_zero,List.getElem_cons_succ,List.setIfInBounds_toArray,List.set_cons_zero,List.set_cons_succ]
  refine wpAnyH_take (i:=3) (oi:=_) (v := ?_) rfl (by kernel_rfl) (by kernel_rfl) (by kernel_rfl) (fun _ _ _ h=>h) (Or.inl ⟨by rfl,?_⟩) (by assumption) ?_
  rotate_left
  ·intro w hSw
   try dsimp only at hSw
   go_simp
   with_reducible rfl
  try simp only[Act.put,List.getElem_toArray,List.getElem_cons_zero,List.getElem_cons_succ,List.setIfInBounds_toArray,List.set_cons_zero,List.set_cons_succ]
  refine wpAnyH_take (i:=4) (oi:=_) (v := ?_) rfl (by kernel_rfl) (by kernel_rfl) (by kernel_rfl) (fun _ _ _ h=>h) (Or.inl ⟨by rfl,?_⟩) (by assumption) ?_
  rotate_left
  ·intro w hSw
   try dsimp only at hSw
   go_simp
   with_reducible rfl
  try simp only[Act.put,List.getElem_toArray,List.getElem_cons_zero,List.getElem_cons_succ,List.setIfInBounds_toArray,List.set_cons_zero,List.set_cons_succ]
  refine wpAnyH_ready (rs := [5]) (by kernel_rfl) (by simp) ?_
  refine AllReadyH.cons (o:=_) rfl (fun K hK => ?_) AllReadyH.nil
  go_simp
  go_at_call 21
  refine(NX.out _ HD.out).mono ?_
  rintro e w7 ⟨rfl,rfl⟩
  go_wp2_with fail
  refine hK.out _ _ (SX.out _ HD.out) (fun hHeld => ?_)
  clear hK K
  try simp only[Act.put,List.getElem_toArray,List.getElem_cons_zero,List.getElem_cons_succ,List.setIfInBounds_toArray,List.set_cons_zero,List.set_cons_succ]
  refine wpAnyH_ready (rs := [6]) (by kernel_rfl) (by simp) ?_
  refine AllReadyH.cons (o:=_) rfl (fun K hK => ?_) AllReadyH.nil
  go_simp
  go_at_call 108
  refine(TX.out _ HD.out).mono ?_
  rintro e w8 ⟨rfl,h8⟩
  have B8:=hid (HD.out.trans (h8.mono HD.out.size))
  clear h8
  go_wp2_with fail
  refine hK.out _ _ (SX.out _ B8.out) (fun hHeld => ?_)
  clear hK K
  try simp only[Act.put,List.getElem_toArray,List.getElem_cons_zero,List.getElem_cons_succ,List.setIfInBounds_toArray,List.set_cons_zero,List.set_cons_succ]
  refine wpAnyH_take (i:=7) (oi:=_) (v := ?_) rfl (by kernel_rfl) (by kernel_rfl) (by kernel_rfl) (fun _ _ _ h=>h) (Or.inl ⟨by rfl,?_⟩) (by assumption) ?_
  rotate_left
  ·intro w hSw
   try dsimp only at hSw
   go_simp
   with_reducible rfl
  try simp only[Act.put,List.getElem_toArray,List.getElem_cons_zero,List.getElem_cons_succ,List.setIfInBounds_toArray,List.set_cons_zero,List.set_cons_succ]
  refine wpAnyH_take (i:=8) (oi:=_) (v:=undef) rfl (by kernel_rfl) (by kernel_rfl) (by kernel_rfl) (fun _ _ _ h=>h) (Or.inr ⟨by rfl,rfl⟩) (by assumption) ?_
  try simp only[Act.put,List.getElem_toArray,List.getElem_cons_zero,List.getElem_cons_succ,List.setIfInBounds_toArray,List.set_cons_zero,List.set_cons_succ]
  refine wpAnyH_take (i:=9) (oi:=_) (v:=undef) rfl (by kernel_rfl) (by kernel_rfl) (by kernel_rfl) (fun _ _ _ h=>h) (Or.inr ⟨by rfl,rfl⟩) (by assumption) ?_
  try simp only[Act.put,List.getElem_toArray,List.getElem_cons_zero,List.getElem_cons_succ,List.setIfInBounds_toArray,List.set_cons_zero,List.set_cons_succ]
  refine wpAnyH_take (i:=10) (oi:=_) (v:=undef) rfl (by kernel_rfl) (by kernel_rfl) (by kernel_rfl) (fun _ _ _ h=>h) (Or.inr ⟨by rfl,rfl⟩) (by assumption) ?_
  try simp only[Act.put,List.getElem_toArray,List.getElem_cons_zero,List.getElem_cons_succ,List.setIfInBounds_toArray,List.set_cons_zero,List.set_cons_succ]
  refine wpAnyH_take (i:=11) (oi:=_) (v:=undef) rfl (by kernel_rfl) (by kernel_rfl) (by kernel_rfl) (fun _ _ _ h=>h) (Or.inr ⟨by rfl,rfl⟩) (by assumption) ?_
  try simp only[Act.put,List.getElem_toArray,List.getElem_cons_zero,List.getElem_cons_succ,List.setIfInBounds_toArray,List.set_cons_zero,List.set_cons_succ]
  refine wpAnyH_take (i:=12) (oi:=_) (v:=undef) rfl (by kernel_rfl) (by kernel_rfl) (by kernel_rfl) (fun _ _ _ h=>h) (Or.inr ⟨by rfl,rfl⟩) (by assumption) ?_
  try simp only[Act.put,List.getElem_toArray,List.getElem_cons_zero,List.getElem_cons_succ,List.setIfInBounds_toArray,List.set_cons_zero,List.set_cons_succ]
  refine wpAnyH_take (i:=13) (oi:=_) (v := ?_) rfl (by kernel_rfl) (by kernel_rfl) (by kernel_rfl) (fun _ _ _ h=>h) (Or.inl ⟨by rfl,?_⟩) (by assumption) ?_
  rotate_left
  ·intro w hSw
   try dsimp only at hSw
   go_simp
   with_reducible rfl
  try simp only[Act.put,List.getElem_toArray,List.getElem_cons_zero,List.getElem_cons_succ,List.setIfInBounds_toArray,List.set_cons_zero,List.set_cons_succ]
  refine wpAnyH_take (i:=14) (oi:=_) (v := ?_) rfl (by kernel_rfl) (by kernel_rfl) (by kernel_rfl) (fun _ _ _ h=>h) (Or.inl ⟨by rfl,?_⟩) (by assumption) ?_
  rotate_left
  ·intro w hSw
   try dsimp only at hSw
   go_simp
   with_reducible rfl
  try simp only[Act.put,List.getElem_toArray,List.getElem_cons_zero,List.getElem_cons_succ,List.setIfInBounds_toArray,List.set_cons_zero,List.set_cons_succ]
  refine wpAnyH_done (by kernel_rfl) ?_ _
  go_wp2
  go_ret
  exact⟨rfl,B8.out⟩
def OkPost(Z:Nat→Prop)(w0:World)(s t p b1 b2 b3 n:Nat)(now:Int)(es:Nat→List En)(L:List En)(ad:Nat)(W:List (Int × Int))(R:List Int)(w':World):Prop:=FrZ Z w0 w'∧Sq Z w' s t p b1 b2 b3 n now es L ad W R
theorem Sq.tick(h:Sq Z w s t p b1 b2 b3 n now es L ad W R){m:Int}(hm:inI m):Sq Z (w.setCell ⟨s,0,none⟩ (.int .i64 m)) s t p b1 b2 b3 n m es L ad W R∧FrZ Z w (w.setCell ⟨s,0,none⟩ (.int .i64 m)):=by
 have o:Only s s w (w.setCell ⟨s,0,none⟩ (.int .i64 m)):=⟨rfl,rfl,rfl,by simp[World.setCell],fun k _ h1 _=>Below.heap_setCell _ _ _ _ h1⟩
 exact⟨⟨by simp[World.setCell,Array.getElem?_modify,h.box],h.te.only o (.inr (.inl rfl)),h.pq.only o ⟨h.ne.1,h.ne.2.1,h.ne.2.2.1,h.ne.2.2.2⟩,hm,h.whn,h.dis,h.zf,h.ne,fun q hq=>Nat.lt_of_lt_of_le (h.hz q hq) o.size⟩, .of_only o h.zf.1⟩
theorem stick(h:Sq Z w s t p b1 b2 b3 n now es L ad W R)(d:Int)(hd:inI d)(r:Bool)(hr:dueS (sat now (max d 0)) L W R=r) :
 Calls Tryz.prog 30 #[.pointer (some ⟨s,0,none⟩), .int .i64 d] w fun e w'=>e = .returned (.bool r)∧OkPost Z w s t p b1 b2 b3 n (sat now (max d 0)) es L ad W R w':=by
 have A:=hid (ctick s now d w (cellx h.box rfl) (by have:=h.box;simp[World.frozen?,this]) h.now hd)
 obtain⟨q,f⟩:=h.tick (sat_inI now (max d 0))
 have D:=hid (sdue q r hr)
 have QQ:=hid q
 have FF:=hid f
 clear h hd hr q f
 generalize sat now (max d 0)=y at *
 go_enter Tryz.func30,Tryz.ntmps30
 go_wp2_with fail
 refine(A.out).mono ?_
 rintro e w2 ⟨⟨v,rfl⟩,rfl⟩
 go_wp2_with fail
 refine(D.out).mono ?_
 rintro e w3 ⟨rfl,b3'⟩
 have FIN:=hid (show OkPost Z w s t p b1 b2 b3 n y es L ad W R w3 from⟨FF.out.trans (.of_below b3'),QQ.out.below b3'⟩)
 clear b3' D QQ FF A
 go_wp2
 go_ret
 exact⟨rfl,FIN.out⟩
theorem Te.frP(h:Te (Zt Z s p b1 b2 b3) w t n es L ad)(hf:FrZ (Zp p b1 b2 b3) w w'):Te (Zt Z s p b1 b2 b3) w' t n es L ad:=by
 obtain⟨⟨hb',mb,c,hp,v,h1⟩,h2⟩:=h
 obtain⟨z1,z2,z3⟩:=h1.zf
 obtain⟨l1,l2,l3⟩:=h1.lt
 have k:∀ x,x<w.heap.size→¬Zt Z s p b1 b2 b3 x→w'.heap[x]? = w.heap[x]?:=fun x hx hz=>hf.block x hx ⟨fun e=>hz (by subst e;simp[Zt]),fun e=>hz (by subst e;simp[Zt]),fun e=>hz (by subst e;simp[Zt]),fun e=>hz (by subst e;simp[Zt])⟩
 exact⟨⟨hb',mb,c,hp,v,h1.kept (k _ l1 z1.1) (k _ l2 z1.2.1) (k _ l3 z1.2.2) hf.size (fun i hi=>k _ (h1.he i hi).lt (z2 i hi)) (fun i hi q hq=>k _ (own_lt0 (h1.he i hi) hq) (z3 i hi q hq))⟩,h2⟩
theorem FrZ.ofP(h:FrZ (Zp p b1 b2 b3) w w')(hz:¬Z p∧¬Z b1∧¬Z b2∧¬Z b3):FrZ Z w w':=
 ⟨h.os,h.tape,h.output,h.size,fun x hx hzx=>h.block x hx ⟨fun e=>hz.1 (e ▸ hzx),fun e=>hz.2.1 (e ▸ hzx),fun e=>hz.2.2.1 (e ▸ hzx),fun e=>hz.2.2.2 (e ▸ hzx)⟩⟩
theorem FrZ.ofT(h:FrZ (Zt Z s p b1 b2 b3) w w'):FrZ Z w w':=⟨h.os,h.tape,h.output,h.size,fun x hx hzx=>h.block x hx (.inl hzx)⟩
theorem Pq.max{Y:Nat→Prop}(h:Pq Y w p b1 b2 b3 W R):Pq (Zp p b1 b2 b3) w p b1 b2 b3 W R:=⟨h.box,h.m1,h.m2,h.m3,h.n1,h.n2,h.n3,h.ne,fun h=>h.1 rfl,fun h=>h.2.1 rfl,fun h=>h.2.2.1 rfl,fun h=>h.2.2.2 rfl⟩
theorem Sq.ready{R':List Int}(h:Sq Z w s t p b1 b2 b3 n now es L ad W R)(hr:RePost (Zp p b1 b2 b3) w p b1 b2 b3 W R' w'):Sq Z w' s t p b1 b2 b3 n now es L ad W R'∧FrZ Z w w':=
 ⟨⟨(hr.1.block _ h.lt h.ne).trans h.box,Te.frP h.te hr.1,hr.2,h.now,h.whn,h.dis,h.zf,h.ne,fun q hq=>Nat.lt_of_lt_of_le (h.hz q hq) hr.1.size⟩,hr.1.ofP h.zf.2⟩
theorem sready(h:Sq Z w s t p b1 b2 b3 n now es L ad W R)(hl:W.length<1000000∧R.length<1000000)(fd:Int)(hf:(!waitsF W fd && !decide (fd ∈ R) && decide (1024≤plen W R))=false)(r:Bool)(hr:dueS now L W (addR R fd)=r) :
 Calls Tryz.prog 69 #[.pointer (some ⟨s,0,none⟩), .int .u16 fd] w fun e w'=>e = .returned (.tuple #[.bool r, .int .i64 0])∧OkPost Z w s t p b1 b2 b3 n now es L ad W (addR R fd) w':=by
 have c2:w.cell? ⟨s,2,none⟩=some (.pointer (some ⟨p,0,none⟩)):=cellx h.box rfl
 have A:=hid (pready h.pq hl fd hf)
 have HQ:=hid h
 have HR:=hid hr
 clear h hl hf hr
 go_enter Tryz.func69,Tryz.ntmps69
 go_wp2_with fail
 refine(A.out).mono ?_
 rintro e w2 ⟨rfl,hr2⟩
 obtain⟨q2,f2⟩:=HQ.out.ready hr2
 have Q2:=hid q2
 have F2:=hid f2
 have D:=hid (sdue q2 r HR.out)
 clear hr2 q2 f2 A c2
 go_wp2_with fail
 refine(D.out).mono ?_
 rintro e w3 ⟨rfl,b3'⟩
 have FIN:=hid (show OkPost Z w s t p b1 b2 b3 n now es L ad W (addR R fd) w3 from⟨F2.out.trans (.of_below b3'),Q2.out.below b3'⟩)
 clear b3' D Q2 F2
 go_wp2
 go_ret2
 exact⟨rfl,FIN.out⟩
theorem sready_full(h:Sq Z w s t p b1 b2 b3 n now es L ad W R)(hl:W.length<1000000∧R.length<1000000)(fd:Int)(hf:(!waitsF W fd && !decide (fd ∈ R) && decide (1024≤plen W R))=true) :
 Calls Tryz.prog 69 #[.pointer (some ⟨s,0,none⟩), .int .u16 fd] w fun e w'=>e = .returned (.tuple #[.bool false, .int .i64 2])∧Below w.heap.size w w':=by
 have c2:w.cell? ⟨s,2,none⟩=some (.pointer (some ⟨p,0,none⟩)):=cellx h.box rfl
 have A:=hid (pready_full h.pq hl fd hf)
 clear h hl hf
 go_enter Tryz.func69,Tryz.ntmps69
 go_wp2_with fail
 refine(A.out).mono ?_
 rintro e w2 ⟨rfl,b2'⟩
 have B:=hid b2'
 clear b2' A c2
 go_wp2
 go_ret2
 exact⟨rfl,B.out⟩
end
section
variable {Z:Nat→Prop}{w w':World}{s t p b1 b2 b3 n:Nat}{now:Int}{es:Nat→List En}{L l:List En}{ad:Nat}{W:List (Int × Int)}{R:List Int}
theorem Sq.frT(h:Sq Z w s t p b1 b2 b3 n now es L ad W R)(hf:FrZ (Zt Z s p b1 b2 b3) w w'):w'.heap[s]? = w.heap[s]? ∧ Pq (Zp p b1 b2 b3) w' p b1 b2 b3 W R:=by
 obtain⟨l1,l2,l3,l4⟩:=h.pq.lt
 exact⟨hf.block _ h.lt (by simp[Zt]),h.pq.kept (hf.block _ l1 (by simp[Zt])) (hf.block _ l2 (by simp[Zt])) (hf.block _ l3 (by simp[Zt])) (hf.block _ l4 (by simp[Zt]))⟩
theorem Sq.add{q:Nat}{x g:Int}(h:Sq Z w s t p b1 b2 b3 n now es L ad W R)(ha:TeAdd (Zt Z s p b1 b2 b3) w t n es L ad q (x,(ad:Int),g) w')(hx:inI x)(hw:waitsG W g=false) :
 ∃ es',Sq Z w' s t p b1 b2 b3 n now es' (insF (x,(ad:Int),g) L) (ad+1) W R∧FrZ Z w w':=by
 obtain⟨hf,T,_,ht⟩:=ha
 obtain⟨e1,q1⟩:=h.frT hf
 refine⟨_,⟨e1.trans h.box,ht,q1,h.now,fun e he => ?_,fun a ha => ?_,h.zf,h.ne,fun q hq=>Nat.lt_of_lt_of_le (h.hz q hq) hf.size⟩,hf.ofT⟩
 ·rcases mem_ins.1 he with rfl|he
  ·exact hx
  ·exact h.whn e he
 ·rw[hasG_ins,Bool.or_eq_true]at ha
  rcases ha with ha|ha
  ·have:a=g:=of_decide_eq_true ha
   rw[this];exact hw
  ·exact h.dis a ha
def SlPost(Z:Nat→Prop)(w0:World)(s t p b1 b2 b3 n:Nat)(now:Int)(L:List En)(ad:Nat)(W:List (Int × Int))(R:List Int)(w':World):Prop:=∃ es,OkPost Z w0 s t p b1 b2 b3 n now es L ad W R w'
theorem ssleep(h:Sq Z w s t p b1 b2 b3 n now es L ad W R)(q g d:Int)(hq0:0≤q)(hqn:q<n)(hg0:0≤g)(hg:g<4096)(hd:inI d)(hi:hasG L g=false)(hw:waitsG W g=false)(hl:L.length<100000)(had:ad<1000000)
 (r:Bool)(hr:dueS now (insF (sat now (max d 0),(ad:Int),g) L) W R=r) :
 Calls Tryz.prog 201 #[.pointer (some ⟨s,0,none⟩), .int .i64 q, .int .i64 g, .int .i64 d] w fun e w'=>e = .returned (.tuple #[.bool r, .int .i64 0])∧SlPost Z w s t p b1 b2 b3 n now (insF (sat now (max d 0),(ad:Int),g) L) (ad+1) W R w':=by
 have c2:w.cell? ⟨s,2,none⟩=some (.pointer (some ⟨p,0,none⟩)):=cellx h.box rfl
 have c1:w.cell? ⟨s,1,none⟩=some (.pointer (some ⟨t,0,none⟩)):=cellx h.box rfl
 have c1':w.drew.cell? ⟨s,1,none⟩=some (.pointer (some ⟨t,0,none⟩)):=cellx h.box rfl
 have PH:=phas h.pq g
 rw[hw]at PH
 have HPH:=hid PH
 have H1:=h.below (bl_drw w w.heap.size)
 have HQ:=hid H1
 have hx:=sat_inI now (max d 0)
 have AF:=cafter s now d w.drew (cellx H1.box rfl) h.now hd
 obtain⟨x,hxx⟩:∃ x,x=sat now (max d 0):=⟨_,rfl⟩
 rw[←hxx]at AF hx hr ⊢
 have HX:=hid hx
 have HAF:=hid AF
 have AD:=hid (te_addI H1.te H1.hzt q g hq0 hqn hg0 hg x hi hl had)
 have HR:=hid hr
 have HW:=hid hw
 have F1:=hid (FrZ.of_below (Z:=Z) (bl_drw w w.heap.size))
 have e0:decide (0≤q)=true:=decide_eq_true hq0
 clear h hd hi hw hl had hr AF H1 hxx PH hx hg hg0
 go_enter Tryz.func201,Tryz.ntmps201
 go_wp2_with fail
 refine(HPH.out).mono ?_
 rintro e w' ⟨rfl,rfl⟩
 go_wp2_with fail
 go_region_with (first
  | (go_at_call 107;refine(HAF.out).mono ?_;rintro e w3 ⟨rfl,rfl⟩)
  | (go_at_call 212;refine(AD.out).mono ?_;rintro e w4 ⟨rfl,h4⟩;have H4:=hid h4;clear h4))
 all_goals
  obtain⟨es4,q4,f4⟩:=HQ.out.add H4.out HX.out HW.out
  have D:=hid (sdue q4 r HR.out)
  have Q4:=hid q4
  have F4:=hid (F1.out.trans f4)
  clear q4 f4 H4 c1 c1' c2
  go_wp2_with fail
  refine(D.out).mono ?_
  rintro e w5 ⟨rfl,b5⟩
  have FIN:=hid (show SlPost Z w' s t p b1 b2 b3 n now (insF (x,(ad:Int),g) L) (ad+1) W R w5 from⟨es4,F4.out.trans (.of_below b5),Q4.out.below b5⟩)
  clear b5 D Q4 F4
  go_wp2
  go_ret2
  exact⟨rfl,FIN.out⟩
end
section
variable {Z:Nat→Prop}{w w':World}{s t p b1 b2 b3 n:Nat}{now:Int}{es:Nat→List En}{L l:List En}{ad:Nat}{W:List (Int × Int)}{R:List Int}
theorem Sq.setW(h:Sq Z w s t p b1 b2 b3 n now es L ad W R){V:List (Int × Int)}{S:List Int}{k:Int}(hf:FrZ (Zp p b1 b2 b3) w w')(hq:Pq (Zp p b1 b2 b3) w' p b1 b2 b3 V S)(hk:k=V.length)(hd:∀ g,hasG L g=true→waitsG V g=false) :
 w'.cell? ⟨s,4,none⟩=some (.int .i64 W.length)∧w'.frozen? ⟨s,4,none⟩=false∧Sq Z (w'.setCell ⟨s,4,none⟩ (.int .i64 k)) s t p b1 b2 b3 n now es L ad V S∧FrZ Z w (w'.setCell ⟨s,4,none⟩ (.int .i64 k)):=by
 subst hk
 have hb:=(hf.block _ h.lt h.ne).trans h.box
 have o:Only s s w' (w'.setCell ⟨s,4,none⟩ (.int .i64 V.length)):=⟨rfl,rfl,rfl,by simp[World.setCell],fun k _ h1 _=>Below.heap_setCell _ _ _ _ h1⟩
 refine⟨cellx hb rfl,by simp[World.frozen?,hb],⟨by simp[World.setCell,Array.getElem?_modify,hb],(Te.frP h.te hf).only o (.inr (.inl rfl)),hq.only o h.ne,h.now,h.whn,hd,h.zf,h.ne,fun q hq=>Nat.lt_of_lt_of_le (Nat.lt_of_lt_of_le (h.hz q hq) hf.size) o.size⟩,(hf.ofP h.zf.2).trans (.of_only o h.zf.1)⟩
theorem swait(h:Sq Z w s t p b1 b2 b3 n now es L ad W R)(hl:W.length<1000000∧R.length<1000000)(fd a:Int)(h0:0≤a)(h1:a<4096)(hw:waitsF W fd=false)(hg:waitsG W a=false)(hh:hasG L a=false)(hf:(!waitsF W fd && !decide (fd ∈ R) && decide (1024≤plen W R))=false)
 (r:Bool)(hr:dueS now L ((fd,a) :: W) R=r) :
 Calls Tryz.prog 202 #[.pointer (some ⟨s,0,none⟩), .int .u16 fd, .int .i64 a] w fun e w'=>e = .returned (.tuple #[.bool r, .int .i64 0])∧OkPost Z w s t p b1 b2 b3 n now es L ad ((fd,a) :: W) R w':=by
 have c1:w.cell? ⟨s,1,none⟩=some (.pointer (some ⟨t,0,none⟩)):=cellx h.box rfl
 have c2:w.cell? ⟨s,2,none⟩=some (.pointer (some ⟨p,0,none⟩)):=cellx h.box rfl
 have HS:=hid (te_has h.te a false hh)
 have PW:=hid (pwait h.pq hl fd a h0 h1 hw hg hf)
 have HQ:=hid h
 have HR:=hid hr
 have HD:=hid (show ∀ g,hasG L g=true→waitsG ((fd,a) :: W) g=false from fun g hgl=>by
  unfold waitsG
  refine decide_eq_false fun hm => ?_
  rcases List.mem_cons.1 hm with e|hm
  ·have e:g=a:=e
   rw[e,hh]at hgl;cases hgl
  ·have:=h.dis g hgl
   exact(of_decide_eq_false this) hm)
 obtain⟨m,hm⟩:∃ m,m=W.length:=⟨_,rfl⟩
 have HM:=hid hm
 have hm6:m<1000000:=by rw[hm];exact hl.1
 clear h hl hw hg hh hf hr hm
 go_enter Tryz.func202,Tryz.ntmps202
 go_wp2_with fail
 refine(HS.out).mono ?_
 rintro e w' ⟨rfl,rfl⟩
 go_wp2_with fail
 refine(PW.out).mono ?_
 rintro e w3 ⟨rfl,f3,q3⟩
 obtain⟨k4,z4,s4,f4⟩:=HQ.out.setW (k:=(m:Int)+1) f3 q3 (by rw[HM.out];simp) HD.out
 rw[←HM.out]at k4
 have D:=hid (sdue s4 r HR.out)
 have Q4:=hid s4
 have F4:=hid f4
 clear f3 q3 s4 f4 c1 c2 HS PW
 go_wp2_with fail
 refine(D.out).mono ?_
 rintro e w5 ⟨rfl,b5⟩
 have FIN:=hid (show OkPost Z w' s t p b1 b2 b3 n now es L ad ((fd,a) :: W) R w5 from⟨F4.out.trans (.of_below b5),Q4.out.below b5⟩)
 clear b5 D Q4 F4 k4 z4
 go_wp2
 go_ret2
 exact⟨rfl,FIN.out⟩
theorem swait_err(h:Sq Z w s t p b1 b2 b3 n now es L ad W R)(fd a:Int)(hh:hasG L a=false)(c:Int)(hc:c≠0)
 (PW:Calls Tryz.prog 214 #[.pointer (some ⟨p,0,none⟩), .int .u16 fd, .int .i64 a] w fun e w'=>e = .returned (.int .i64 c)∧Below w.heap.size w w') :
 Calls Tryz.prog 202 #[.pointer (some ⟨s,0,none⟩), .int .u16 fd, .int .i64 a] w fun e w'=>e = .returned (.tuple #[.bool false, .int .i64 c])∧Below w.heap.size w w':=by
 have c1:w.cell? ⟨s,1,none⟩=some (.pointer (some ⟨t,0,none⟩)):=cellx h.box rfl
 have c2:w.cell? ⟨s,2,none⟩=some (.pointer (some ⟨p,0,none⟩)):=cellx h.box rfl
 have HS:=hid (te_has h.te a false hh)
 have HP:=hid PW
 have hcb:(c == 0)=false:=by simpa using hc
 clear h hh PW
 go_enter Tryz.func202,Tryz.ntmps202
 go_wp2_with fail
 refine(HS.out).mono ?_
 rintro e w' ⟨rfl,rfl⟩
 go_wp2_with fail
 refine(HP.out).mono ?_
 rintro e w3 ⟨rfl,b3'⟩
 have B:=hid b3'
 clear b3' HS HP c1 c2
 go_wp2
 go_ret2
 exact⟨rfl,B.out⟩
end
def SnPost(n:Nat)(w:World)(e:Ending)(w':World):Prop:=
 ∃ Z s t p b1 b2 b3,e = .returned (.pointer (some ⟨s,0,none⟩))∧Sq Z w' s t p b1 b2 b3 n 0 (fun _ => []) [] 0 [] []∧Below w.heap.size w w'∧(∀ q,q<w.heap.size→Z q) ∧ ∀ q,Z q→q<w.heap.size
theorem snew_fin{w w2 w3 : World}{t p b1 b2 b3 n:Nat}{es:Nat→List En}{Y:Nat→Prop}(ht:Te (fun q=>q<w.heap.size) w2 t n es [] 0)(hb2:Below w.heap.size w w2)(hq:Pq Y w3 p b1 b2 b3 [] [])(hb3:Below w2.heap.size w2 w3)(hy:∀ q,q<w2.heap.size→Y q) :
 Sq (fun q=>q<w.heap.size) (w3.alloc (.cells #[.int .i64 0, .pointer (some ⟨t,0,none⟩), .pointer (some ⟨p,0,none⟩), .int .i64 n, .int .i64 0] 103)) w3.heap.size t p b1 b2 b3 n 0 es [] 0 [] [] ∧
 Below w.heap.size w (w3.alloc (.cells #[.int .i64 0, .pointer (some ⟨t,0,none⟩), .pointer (some ⟨p,0,none⟩), .int .i64 n, .int .i64 0] 103)):=by
 obtain⟨z1,z2,z3,z4⟩:=hq.zf
 obtain⟨l1,l2,l3,l4⟩:=hq.lt
 have s2:=hb2.size
 have s3:=hb3.size
 have g1 : w2.heap.size ≤ p := by rcases Nat.lt_or_ge p w2.heap.size with h|h; · exact absurd (hy _ h) z1
                                  ·exact h
 have g2 : w2.heap.size ≤ b1 := by rcases Nat.lt_or_ge b1 w2.heap.size with h|h; · exact absurd (hy _ h) z2
                                   ·exact h
 have g3 : w2.heap.size ≤ b2 := by rcases Nat.lt_or_ge b2 w2.heap.size with h|h; · exact absurd (hy _ h) z3
                                   ·exact h
 have g4 : w2.heap.size ≤ b3 := by rcases Nat.lt_or_ge b3 w2.heap.size with h|h; · exact absurd (hy _ h) z4
                                   ·exact h
 have te:Te (Zt (fun q=>q<w.heap.size) w3.heap.size p b1 b2 b3) w2 t n es [] 0:=by
  have r:=((((ht.reZ (b:=w3.heap.size) (by omega)).reZ (b:=p) g1).reZ (b:=b1) g2).reZ (b:=b2) g3).reZ (b:=b3) g4
  refine r.weak fun q hq => ?_
  rcases hq with hq|hq|hq|hq|hq|hq
  ·exact .inl (.inl (.inl (.inl (.inl hq))))
  ·exact .inl (.inl (.inl (.inl (.inr hq))))
  ·exact .inl (.inl (.inl (.inr hq)))
  ·exact .inl (.inl (.inr hq))
  ·exact .inl (.inr hq)
  ·exact .inr hq
 refine⟨⟨Deep.blk_alloc_new _ _,(te.below hb3).below (bl_al w3 _),(Pq.max hq).below (bl_al w3 _),by unfold inI;omega,fun e he=>(by cases he),fun g hg=>(by simp[hasG]at hg),⟨by omega,by omega,by omega,by omega,by omega⟩,⟨by omega,by omega,by omega,by omega⟩,fun q hq=>by simp only[World.size_alloc];omega⟩,(hb2.trans (hb3.mono s2)).trans ((bl_al w3 _).mono (by omega))⟩
theorem snew(n:Nat)(hn:1≤(n:Int))(hn2:(n:Int)≤64)(w:World):Calls Tryz.prog 52 #[.int .i64 n] w (SnPost n w):=by
 have A:=hid (te_new n hn hn2 w)
 go_enter Tryz.func52,Tryz.ntmps52
 go_wp2_with fail
 refine(A.out).mono ?_
 rintro e w2 ⟨rfl,ht,hb2⟩
 have HT:=hid ht
 have HB2:=hid hb2
 obtain⟨t,htt⟩:∃ t,t=w.heap.size+1:=⟨_,rfl⟩
 rw[←htt]at HT
 rw[←htt]
 clear ht hb2 A htt
 go_wp2_with fail
 refine(pnewZ _).mono ?_
 rintro e w3 ⟨Y,p,b1,b2,b3,rfl,q3,bl3,hz,_⟩
 have FIN:=hid (snew_fin HT.out HB2.out q3 bl3 hz)
 clear q3 bl3 hz HT HB2
 go_wp2
 go_ret
 exact⟨_,_,t,p,b1,b2,b3,rfl,FIN.out.1,FIN.out.2,fun q h=>h,fun q h=>h⟩
section
variable {Z:Nat→Prop}{w w':World}{s t p b1 b2 b3 n:Nat}{now:Int}{es:Nat→List En}{L l:List En}{ad:Nat}{W:List (Int × Int)}{R:List Int}
theorem Sq.takeT{x:En}(h:Sq Z w s t p b1 b2 b3 n now es (x :: l) ad W R)(ha:TeTake (Zt Z s p b1 b2 b3) w t n es l ad x w') :
 ∃ es',Sq Z w' s t p b1 b2 b3 n now es' l ad W R∧FrZ Z w w':=by
 obtain⟨hf,m,T,_,_,ht⟩:=ha
 obtain⟨e1,q1⟩:=h.frT hf
 refine⟨_,⟨e1.trans h.box,ht,q1,h.now,fun e he=>h.whn e (List.mem_cons_of_mem _ he),fun a ha=>h.dis a ?_,h.zf,h.ne,fun q hq=>Nat.lt_of_lt_of_le (h.hz q hq) hf.size⟩,hf.ofT⟩
 have:=of_decide_eq_true ha
 exact decide_eq_true (List.mem_cons_of_mem _ this)
def StPost(Z:Nat→Prop)(w0:World)(s t p b1 b2 b3 n:Nat)(now:Int)(l:List En)(ad:Nat)(W:List (Int × Int))(R:List Int)(w':World):Prop:=∃ es,OkPost Z w0 s t p b1 b2 b3 n now es l ad W R w'
abbrev Z98:Obj := .cells #[.int .i64 0, .int .u64 0, .int .i64 0] 237
abbrev st98(w:World)(q:Nat)(x y z:Int):World:=((w.setCell ⟨q,0,none⟩ (.int .i64 x)).setCell ⟨q,1,none⟩ (.int .u64 y)).setCell ⟨q,2,none⟩ (.int .i64 z)
theorem only98(w:World)(q i:Nat)(v:Value):Only q q w (w.setCell ⟨q,i,none⟩ v):=⟨rfl,rfl,rfl,by simp[World.setCell],fun k _ h1 _=>Below.heap_setCell _ _ _ _ h1⟩
theorem st98_only(w:World)(q:Nat)(x y z:Int):Only q q w (st98 w q x y z):=((only98 w q 0 _).trans (only98 _ q 1 _)).trans (only98 _ q 2 _)
theorem st98_blk{w:World}{q:Nat}(h:w.heap[q]? = some Z98)(x y z:Int):(st98 w q x y z).heap[q]? = some (.cells #[.int .i64 x, .int .u64 y, .int .i64 z] 237):=by
 simp[World.setCell,Array.getElem?_modify,h]
theorem z98_new(w:World):(w.alloc Z98).drew.heap[w.heap.size]? = some Z98:=Deep.blk_alloc_new w Z98
theorem al_lt(w:World)(o:Obj):w.heap.size<(w.alloc o).heap.size:=by
 show _<(w.heap.push o).size
 rw[Array.size_push];omega
theorem bl_ald(w:World):Below w.heap.size w (w.alloc Z98).drew:=(bl_al w Z98).trans (bl_drw _ _)
theorem z98_of{B:Nat}{w w4:World}(f:Below (w.alloc Z98).drew.heap.size (w.alloc Z98).drew w4):w4.heap[w.heap.size]? = some Z98:=
 (f.block _ (al_lt w Z98)).trans (z98_new w)
theorem bl_st98{w w4:World}(f:Below (w.alloc Z98).drew.heap.size (w.alloc Z98).drew w4)(x y z:Int):Below w.heap.size w (st98 w4 w.heap.size x y z):=
 ((bl_ald w).trans (f.mono (Nat.le_of_lt (al_lt w Z98)))).trans ((st98_only w4 w.heap.size x y z).below (Nat.le_refl _) (Nat.le_refl _) (Nat.le_of_lt (Nat.lt_of_lt_of_le (al_lt w Z98) f.size)))
theorem Sq.reZ(h:Sq Z w s t p b1 b2 b3 n now es L ad W R):Sq (fun q=>Z q∨q=w.heap.size) (w.alloc Z98).drew s t p b1 b2 b3 n now es L ad W R:=by
 have g:=h.below (bl_ald w)
 have l0:=h.lt
 obtain⟨l1,l2,l3,l4⟩:=h.pq.lt
 obtain⟨z0,z1,z2,z3,z4⟩:=h.zf
 refine⟨g.box,?_,g.pq,h.now,h.whn,h.dis,⟨?_,?_,?_,?_,?_⟩,h.ne,?_⟩
 ·refine ((h.te.reZ (Nat.le_refl _)).below (bl_ald w)).weak ?_
  rintro q ((hq|hq)|hq|hq|hq|hq|hq)
  ·exact .inl (.inl hq)
  ·exact .inr hq
  ·exact .inl (.inr (.inl hq))
  ·exact .inl (.inr (.inr (.inl hq)))
  ·exact .inl (.inr (.inr (.inr (.inl hq))))
  ·exact .inl (.inr (.inr (.inr (.inr (.inl hq)))))
  ·exact .inl (.inr (.inr (.inr (.inr (.inr hq)))))
 ·rintro (e|e)
  ·exact z0 e
  ·omega
 ·rintro (e|e)
  ·exact z1 e
  ·omega
 ·rintro (e|e)
  ·exact z2 e
  ·omega
 ·rintro (e|e)
  ·exact z3 e
  ·omega
 ·rintro (e|e)
  ·exact z4 e
  ·omega
 ·rintro q (hq|rfl)
  ·exact Nat.lt_trans (h.hz q hq) (al_lt w Z98)
  ·exact al_lt w Z98
theorem Sq.weak{Z':Nat→Prop}(h:Sq Z' w s t p b1 b2 b3 n now es L ad W R)(hz:∀ q,Z q→Z' q):Sq Z w s t p b1 b2 b3 n now es L ad W R:=
 ⟨h.box,h.te.weak (fun q hq=>hq.imp (hz q) id),h.pq,h.now,h.whn,h.dis,⟨fun e=>h.zf.1 (hz _ e),fun e=>h.zf.2.1 (hz _ e),fun e=>h.zf.2.2.1 (hz _ e),fun e=>h.zf.2.2.2.1 (hz _ e),fun e=>h.zf.2.2.2.2 (hz _ e)⟩,h.ne,fun q hq=>h.hz q (hz q hq)⟩
theorem Sq.only(h:Sq Z w s t p b1 b2 b3 n now es L ad W R){b:Nat}(o:Only b b w w')(hb:Z b):Sq Z w' s t p b1 b2 b3 n now es L ad W R:=by
 obtain⟨z0,z1,z2,z3,z4⟩:=h.zf
 exact⟨only_blk o h.box (fun e=>z0 (e ▸ hb)),h.te.only o (.inl hb),h.pq.only o ⟨fun e=>z1 (e ▸ hb),fun e=>z2 (e ▸ hb),fun e=>z3 (e ▸ hb),fun e=>z4 (e ▸ hb)⟩,h.now,h.whn,h.dis,h.zf,h.ne,fun q hq=>Nat.lt_of_lt_of_le (h.hz q hq) o.size⟩
theorem st98_sq{w4:World}{hz:∀ q,Z q→q<w.heap.size}{es4:Nat→List En}(q4:Sq (fun q=>Z q∨q=w.heap.size) w4 s t p b1 b2 b3 n now es4 l ad W R)(f4:FrZ (fun q=>Z q∨q=w.heap.size) (w.alloc Z98).drew w4)(x y z:Int) :
 Sq Z (st98 w4 w.heap.size x y z) s t p b1 b2 b3 n now es4 l ad W R∧FrZ Z w (st98 w4 w.heap.size x y z):=by
 refine⟨(q4.only (st98_only w4 _ x y z) (.inr rfl)).weak (fun q => .inl),((FrZ.of_below (bl_ald w)).trans ⟨f4.os,f4.tape,f4.output,f4.size,fun k hk hq=>f4.block k hk (.inl hq)⟩).trans (.of_only (st98_only w4 _ x y z) (fun hq=>Nat.lt_irrefl _ (hz _ hq)))⟩
theorem stake_t{x1 x2 x3:Int}(h:Sq Z w s t p b1 b2 b3 n now es ((x1,x2,x3) :: l) ad W R)(hx:x1≤now) :
 Calls Tryz.prog 142 #[.pointer (some ⟨s,0,none⟩)] w fun e w'=>e = .returned (.tuple #[.int .i64 x3, .bool true])∧StPost Z w s t p b1 b2 b3 n now l ad W R w':=by
 have c1:w.cell? ⟨s,1,none⟩=some (.pointer (some ⟨t,0,none⟩)):=cellx h.box rfl
 have c1':∀ o:Obj,(w.alloc o).cell? ⟨s,1,none⟩=some (.pointer (some ⟨t,0,none⟩)):=fun o=>cellx ((h.below (bl_al w o)).box) rfl
 have NW:=hid (snow (h.below (bl_drw w _)))
 have NA:=hid (snow (h.below (bl_ald w)))
 have H1:=hid (h.below (bl_drw w w.heap.size))
 have HA:=hid h.reZ
 have F1:=hid (FrZ.of_below (Z:=Z) (bl_drw w w.heap.size))
 have TK:=hid (te_take (now:=now) H1.out.te H1.out.hzt hx)
 have TA:=hid (te_take (now:=now) HA.out.te HA.out.hzt hx)
 have HZ:=hid h.hz
 clear h hx
 go_enter Tryz.func142,Tryz.ntmps142
 go_wp2_with fail
 go_region_with (first
  | (go_at_call 21;refine(NW.out).mono ?_;rintro e w3 ⟨rfl,rfl⟩)
  | (go_at_call 21;refine(NA.out).mono ?_;rintro e w3 ⟨rfl,rfl⟩)
  | (go_at_call 177;refine(TK.out).mono ?_;rintro e w4 ⟨rfl,h4⟩;have H4:=hid (H1.out.takeT h4);clear h4)
  | (go_at_call 177;refine(TA.out).mono ?_;rintro e w4 ⟨rfl,h4⟩;have H4:=hid (HA.out.takeT h4);clear h4;have ZB:=hid (show w4.heap[w.heap.size]? = some Z98 from by obtain⟨_,_,f4⟩:=H4.out;exact(f4.block _ (al_lt w Z98) (.inr rfl)).trans (z98_new w));have z0:w4.frozen? ⟨w.heap.size,0,none⟩=false:=by simp[World.frozen?,ZB.out]
     have z1:w4.frozen? ⟨w.heap.size,1,none⟩=false:=by simp[World.frozen?,ZB.out]
     have z2:w4.frozen? ⟨w.heap.size,2,none⟩=false:=by simp[World.frozen?,ZB.out]
     have k0:w4.cell? ⟨w.heap.size,0,none⟩=some (.int .i64 0):=cellx ZB.out rfl
     have k1:w4.cell? ⟨w.heap.size,1,none⟩=some (.int .u64 0):=cellx ZB.out rfl
     have k2:w4.cell? ⟨w.heap.size,2,none⟩=some (.int .i64 0):=cellx ZB.out rfl))
 all_goals first
  | (have FIN:=hid (show StPost Z w s t p b1 b2 b3 n now l ad W R (w4.alloc (.cells #[.int .i64 x1, .int .u64 x2, .int .i64 x3] 237)) from by obtain⟨es4,q4,f4⟩:=H4.out;exact⟨es4,(F1.out.trans f4).trans (.of_below (bl_al w4 _)),q4.below (bl_al w4 _)⟩)
     have e2:(w4.alloc (.cells #[.int .i64 x1, .int .u64 x2, .int .i64 x3] 237)).cell? ⟨w4.heap.size,2,none⟩=some (.int .i64 x3):=cellx (Deep.blk_alloc_new _ _) rfl
     clear H4 c1 c1'
     go_wp2
     go_ret2
     exact⟨rfl,FIN.out⟩)
  | (have FIN:=hid (show StPost Z w s t p b1 b2 b3 n now l ad W R (st98 w4 w.heap.size x1 x2 x3) from by obtain⟨es4,q4,f4⟩:=H4.out;obtain⟨q5,f5⟩:=st98_sq (hz:=HZ.out) q4 f4 x1 x2 x3;exact⟨es4,f5,q5⟩)
     have e2:(st98 w4 w.heap.size x1 x2 x3).cell? ⟨w.heap.size,2,none⟩=some (.int .i64 x3):=cellx (st98_blk ZB.out x1 x2 x3) rfl
     clear H4 c1 c1' z0 z1 z2 k0 k1 k2
     go_wp2
     go_ret2
     exact⟨rfl,FIN.out⟩)
def SpPost(Z:Nat→Prop)(w0:World)(s t p b1 b2 b3 n:Nat)(now:Int)(es:Nat→List En)(L:List En)(ad:Nat)(W:List (Int × Int))(R:List Int)(e:Ending)(w':World):Prop:=
 ∃ m y,e = .returned (.tuple #[.int .i64 y, .bool true])∧(m,y) ∈ W∧m ∈ R∧(∀ a,dueP W R a=true→m≤a)∧OkPost Z w0 s t p b1 b2 b3 n now es L ad (W.filter fun e => !(e.1 == m)) (R.filter fun a => !(a == m)) w'
theorem dueL_no{L:List En}{x:Int}(h:dueL L x=false):∀ y l,L=y :: l→x<y.1:=by
 rintro y l rfl
 have:=of_decide_eq_false (show decide (y.1≤x)=false from h)
 omega
theorem dis_filter{g m:Int}(h:waitsG W g=false):waitsG (W.filter fun e => !(e.1 == m)) g=false:=by
 unfold waitsG
 refine decide_eq_false fun hm=>(of_decide_eq_false h) ?_
 obtain⟨e,he,h2⟩:=List.mem_map.1 hm
 exact List.mem_map.2 ⟨e,(List.mem_filter.1 he).1,h2⟩
theorem stake_p(h:Sq Z w s t p b1 b2 b3 n now es L ad W R)(hd:dueL L now=false)(ha:anyDue W R=true)(hl:W.length<1000000) :
 Calls Tryz.prog 142 #[.pointer (some ⟨s,0,none⟩)] w (SpPost Z w s t p b1 b2 b3 n now es L ad W R):=by
 have c1:w.cell? ⟨s,1,none⟩=some (.pointer (some ⟨t,0,none⟩)):=cellx h.box rfl
 have c1':∀ o:Obj,(w.alloc o).cell? ⟨s,1,none⟩=some (.pointer (some ⟨t,0,none⟩)):=fun o=>cellx ((h.below (bl_al w o)).box) rfl
 have NW:=hid (snow (h.below (bl_drw w _)))
 have NA:=hid (snow (h.below (bl_ald w)))
 have H0:=hid h
 have TK:=hid (te_none (h.below (bl_drw w w.heap.size)).te now (dueL_no hd))
 have TA:=hid (te_none (h.below (bl_ald w)).te now (dueL_no hd))
 have HA:=hid ha
 obtain⟨k,hk⟩:∃ k,k=W.length:=⟨_,rfl⟩
 have HK:=hid hk
 have hk6:k<1000000:=by omega
 clear h hd ha hl hk
 go_enter Tryz.func142,Tryz.ntmps142
 go_wp2_with fail
 go_region_with (first
  | (go_at_call 21;refine(NW.out).mono ?_;rintro e w3 ⟨rfl,rfl⟩)
  | (go_at_call 21;refine(NA.out).mono ?_;rintro e w3 ⟨rfl,rfl⟩)
  | (go_at_call 177;refine(TK.out).mono ?_;rintro e w4 ⟨rfl,h4⟩;have H4:=hid ((bl_drw w w.heap.size).trans h4);clear h4)
  | (go_at_call 177;refine(TA.out).mono ?_;rintro e w4 ⟨rfl,h4⟩;have H4:=hid (show Below (w.alloc Z98).drew.heap.size (w.alloc Z98).drew w4 from h4);clear h4;have ZB:=hid (show w4.heap[w.heap.size]? = some Z98 from z98_of (B:=0) H4.out);have z0:w4.frozen? ⟨w.heap.size,0,none⟩=false:=by simp[World.frozen?,ZB.out]
     have z1:w4.frozen? ⟨w.heap.size,1,none⟩=false:=by simp[World.frozen?,ZB.out]
     have z2:w4.frozen? ⟨w.heap.size,2,none⟩=false:=by simp[World.frozen?,ZB.out]
     have k0:w4.cell? ⟨w.heap.size,0,none⟩=some (.int .i64 0):=cellx ZB.out rfl
     have k1:w4.cell? ⟨w.heap.size,1,none⟩=some (.int .u64 0):=cellx ZB.out rfl
     have k2:w4.cell? ⟨w.heap.size,2,none⟩=some (.int .i64 0):=cellx ZB.out rfl))
 all_goals first
  | (have B5:=hid (H4.out.trans ((bl_al w4 Z98).mono H4.out.size))
     have H5:=hid (H0.out.below B5.out)
     have c2:(w4.alloc Z98).cell? ⟨s,2,none⟩=some (.pointer (some ⟨p,0,none⟩)):=cellx H5.out.box rfl
     clear c1 c1' H4 NW NA TK TA
     have PT:=hid (ptake H5.out.pq HA.out)
     go_wp2_with fail
     refine(PT.out).mono ?_
     rintro e w6 ⟨m,y,rfl,hm,hmr,hle,f6,q6⟩
     have hpos:0<k:=by rw[HK.out];exact List.length_pos_of_mem hm
     obtain⟨k4,z4,s4,f4⟩:=H5.out.setW (k:=(k:Int) - 1) f6 q6 (by rw[len_drop H5.out.pq.n1 hm, ←HK.out];omega) (fun g hg=>dis_filter (H5.out.dis g hg))
     rw[←HK.out]at k4
     have FIN:=hid (show SpPost Z w s t p b1 b2 b3 n now es L ad W R (.returned (.tuple #[.int .i64 y, .bool true])) (w6.setCell ⟨s,4,none⟩ (.int .i64 ((k:Int) - 1))) from⟨m,y,rfl,hm,hmr,hle,(FrZ.of_below B5.out).trans f4,s4⟩)
     clear f6 q6 hm hmr hle s4 f4 PT H5 c2
     go_wp2
     go_ret2
     exact FIN.out)
  | (have B5:=hid (bl_st98 H4.out 0 0 0)
     have H5:=hid (H0.out.below B5.out)
     have c2:(st98 w4 w.heap.size 0 0 0).cell? ⟨s,2,none⟩=some (.pointer (some ⟨p,0,none⟩)):=cellx H5.out.box rfl
     clear c1 c1' H4 NW NA TK TA z0 z1 z2 k0 k1 k2
     have PT:=hid (ptake H5.out.pq HA.out)
     go_wp2_with fail
     refine(PT.out).mono ?_
     rintro e w6 ⟨m,y,rfl,hm,hmr,hle,f6,q6⟩
     have hpos:0<k:=by rw[HK.out];exact List.length_pos_of_mem hm
     obtain⟨k4,z4,s4,f4⟩:=H5.out.setW (k:=(k:Int) - 1) f6 q6 (by rw[len_drop H5.out.pq.n1 hm, ←HK.out];omega) (fun g hg=>dis_filter (H5.out.dis g hg))
     rw[←HK.out]at k4
     have FIN:=hid (show SpPost Z w s t p b1 b2 b3 n now es L ad W R (.returned (.tuple #[.int .i64 y, .bool true])) (w6.setCell ⟨s,4,none⟩ (.int .i64 ((k:Int) - 1))) from⟨m,y,rfl,hm,hmr,hle,(FrZ.of_below B5.out).trans f4,s4⟩)
     clear f6 q6 hm hmr hle s4 f4 PT H5 c2
     go_wp2
     go_ret2
     exact FIN.out)
theorem stake_n(h:Sq Z w s t p b1 b2 b3 n now es L ad W R)(hd:dueL L now=false)(ha:anyDue W R=false) :
 Calls Tryz.prog 142 #[.pointer (some ⟨s,0,none⟩)] w fun e w'=>e = .returned (.tuple #[.int .i64 0, .bool false])∧Below w.heap.size w w':=by
 have c1:w.cell? ⟨s,1,none⟩=some (.pointer (some ⟨t,0,none⟩)):=cellx h.box rfl
 have c1':∀ o:Obj,(w.alloc o).cell? ⟨s,1,none⟩=some (.pointer (some ⟨t,0,none⟩)):=fun o=>cellx ((h.below (bl_al w o)).box) rfl
 have NW:=hid (snow (h.below (bl_drw w _)))
 have NA:=hid (snow (h.below (bl_ald w)))
 have H0:=hid h
 have TK:=hid (te_none (h.below (bl_drw w w.heap.size)).te now (dueL_no hd))
 have TA:=hid (te_none (h.below (bl_ald w)).te now (dueL_no hd))
 have HA:=hid ha
 clear h hd ha
 go_enter Tryz.func142,Tryz.ntmps142
 go_wp2_with fail
 go_region_with (first
  | (go_at_call 21;refine(NW.out).mono ?_;rintro e w3 ⟨rfl,rfl⟩)
  | (go_at_call 21;refine(NA.out).mono ?_;rintro e w3 ⟨rfl,rfl⟩)
  | (go_at_call 177;refine(TK.out).mono ?_;rintro e w4 ⟨rfl,h4⟩;have H4:=hid ((bl_drw w w.heap.size).trans h4);clear h4)
  | (go_at_call 177;refine(TA.out).mono ?_;rintro e w4 ⟨rfl,h4⟩;have H4:=hid (show Below (w.alloc Z98).drew.heap.size (w.alloc Z98).drew w4 from h4);clear h4;have ZB:=hid (show w4.heap[w.heap.size]? = some Z98 from z98_of (B:=0) H4.out);have z0:w4.frozen? ⟨w.heap.size,0,none⟩=false:=by simp[World.frozen?,ZB.out]
     have z1:w4.frozen? ⟨w.heap.size,1,none⟩=false:=by simp[World.frozen?,ZB.out]
     have z2:w4.frozen? ⟨w.heap.size,2,none⟩=false:=by simp[World.frozen?,ZB.out]
     have k0:w4.cell? ⟨w.heap.size,0,none⟩=some (.int .i64 0):=cellx ZB.out rfl
     have k1:w4.cell? ⟨w.heap.size,1,none⟩=some (.int .u64 0):=cellx ZB.out rfl
     have k2:w4.cell? ⟨w.heap.size,2,none⟩=some (.int .i64 0):=cellx ZB.out rfl))
 all_goals first
  | (have B5:=hid (H4.out.trans ((bl_al w4 Z98).mono H4.out.size))
     have H5:=hid (H0.out.below B5.out)
     have c2:(w4.alloc Z98).cell? ⟨s,2,none⟩=some (.pointer (some ⟨p,0,none⟩)):=cellx H5.out.box rfl
     clear c1 c1' H4 NW NA TK TA
     have PT:=hid (ptake_none H5.out.pq HA.out)
     go_wp2_with fail
     refine(PT.out).mono ?_
     rintro e w6 ⟨rfl,b6⟩
     have B6:=hid (B5.out.trans (b6.mono B5.out.size))
     clear b6 PT H5 c2 B5
     go_wp2
     go_ret2
     exact⟨rfl,B6.out⟩)
  | (have B5:=hid (bl_st98 H4.out 0 0 0)
     have H5:=hid (H0.out.below B5.out)
     have c2:(st98 w4 w.heap.size 0 0 0).cell? ⟨s,2,none⟩=some (.pointer (some ⟨p,0,none⟩)):=cellx H5.out.box rfl
     clear c1 c1' H4 NW NA TK TA z0 z1 z2 k0 k1 k2
     have PT:=hid (ptake_none H5.out.pq HA.out)
     go_wp2_with fail
     refine(PT.out).mono ?_
     rintro e w6 ⟨rfl,b6⟩
     have B6:=hid (B5.out.trans (b6.mono B5.out.size))
     clear b6 PT H5 c2 B5
     go_wp2
     go_ret2
     exact⟨rfl,B6.out⟩)
end
@[reducible] def wbV (b1 b2 rb tb q sb ib mb rc:Nat) (lg:Value):Array Value := #[.int .i64 1, .int .i64 1, .int .i64 1, .pointer (some ⟨b1,0,none⟩), .pointer (some ⟨b2,0,none⟩), .int .i64 6, .int .i64 7, .int .i64 8, .int .i64 1, .slice (some ⟨rb,0,none⟩) 1 rc, .slice (some ⟨tb,0,none⟩) 1 1, .pointer (some ⟨q,0,none⟩), .pointer (some ⟨sb,0,none⟩), .pointer (some ⟨ib,0,none⟩), .slice (some ⟨mb,0,none⟩) 1 1,lg]
structure Wb(w:World)(W b1 b2 rb tb q sb ib mb rc:Nat)(lg:Value):Prop where
 h:w.heap[W]? = some (.cells (wbV b1 b2 rb tb q sb ib mb rc lg) 84 (0,0))
structure OnL(S:List Nat)(w w':World):Prop where
 os:w'.os=w.os
 tape:w'.tape=w.tape
 output:w'.output=w.output
 size:w.heap.size≤w'.heap.size
 block:∀ k,k<w.heap.size→k ∉ S→w'.heap[k]? = w.heap[k]?
theorem OnL.trans{S:List Nat}{a b c:World}(h:OnL S a b)(k:OnL S b c):OnL S a c:=
 ⟨k.os.trans h.os,k.tape.trans h.tape,k.output.trans h.output,Nat.le_trans h.size k.size,fun i hi hn=>(k.block i (Nat.lt_of_lt_of_le hi h.size) hn).trans (h.block i hi hn)⟩
theorem OnL.of_below{S:List Nat}{w w':World}(h:Below w.heap.size w w'):OnL S w w':=⟨h.os,h.tape,h.output,h.size,fun k hk _=>h.block k hk⟩
theorem OnL.mono{S S':List Nat}{w w':World}(h:OnL S w w')(hs:∀ k ∈ S,k ∈ S'):OnL S' w w':=⟨h.os,h.tape,h.output,h.size,fun k hk hn=>h.block k hk (fun e=>hn (hs k e))⟩
theorem OnL.of_only{S:List Nat}{b g:Nat}{w w':World}(h:Only b g w w')(hb:b ∈ S)(hg:g ∈ S):OnL S w w':=
 ⟨h.os,h.tape,h.output,h.size,fun k hk hn=>h.block k hk (fun e=>hn (e ▸ hb)) (fun e=>hn (e ▸ hg))⟩
theorem OnL.below{S:List Nat}{B:Nat}{w w':World}(h:OnL S w w')(hS:∀ k ∈ S,B≤k)(hB:B≤w.heap.size):Below B w w':=
 ⟨h.os,h.tape,h.output,h.size,fun k hk=>h.block k (by omega) (fun e=>by have:=hS k e;omega)⟩
section
variable {w w':World}{W b1 b2 rb tb q sb ib mb rc:Nat}{lg:Value}
variable {pl p g nx got tg ii:Int}{sp inn:Bool}{rest:Value}{bk af ag s0 s1 s2 s3 s4:Int}{yes:Bool}{un:Int}
@[reducible] def cloV (pw pi:Nat):Value := .func (.func 98) #[] #[.pointer (some ⟨pw,0,none⟩), .pointer (some ⟨pi,0,none⟩)]
end
section
variable {w w':World}{W b1 b2 rb tb q sb ib mb rc:Nat}{lg:Value}
theorem thas_in0(f n g:Int)(w:World)(h0:0≤g)(h1:g<n):Calls Tryz.prog 88 #[.agg #[.int .i64 f, .int .i64 n], .int .i64 g] w fun e w'=>e = .returned (.bool true)∧Below w.heap.size w w':=by
 have t1:decide (0≤g)=true:=decide_eq_true h0
 have t2:decide (g<n)=true:=decide_eq_true h1
 go_enter Tryz.func88,Tryz.ntmps88
 go_wp2
 go_ret
 exact⟨rfl,(Below.refl _ _).alloc (Nat.le_refl _) _⟩
structure Sb(w:World)(W pw pe pt:Nat)(k g m p x s:Int):Prop where
 a:w.heap[pw]? = some (.cells #[.pointer (some ⟨W,0,none⟩)] 24 (0,0))
 b:w.heap[pe]? = some (.cells #[.int .i64 k, .int .i64 g, .int .i64 m, .int .i64 p, .int .i64 x] 38 (0,0))
 c:w.heap[pt]? = some (.cells #[.int .u64 s] 72 (0,0))
theorem Sb.kept{W pw pe pt:Nat}{k g m p x s:Int}(h:Sb w W pw pe pt k g m p x s)(e1:w'.heap[pw]? = w.heap[pw]?)(e2:w'.heap[pe]? = w.heap[pe]?)(e3:w'.heap[pt]? = w.heap[pt]?):Sb w' W pw pe pt k g m p x s:=⟨e1.trans h.a,e2.trans h.b,e3.trans h.c⟩
end
theorem Mem.blocks{w w':World}{b g:Nat}{xs:List Int}{c:Nat}(h:Mem w b g xs c)(e1:w'.heap[b]? = w.heap[b]?)(e2:w'.heap[g]? = w.heap[g]?):Mem w' b g xs c:=by
 obtain⟨cap,cur,hb,hg,h1⟩:=h.h
 exact⟨⟨cap,cur,e1.trans hb,e2.trans hg,h1⟩,h.ne,h.len,h.cnt⟩
section
variable {w w':World}{W b1 b2 rb tb q sb ib mb rc:Nat}{lg:Value}
variable {pl p g nx got tg ii:Int}{sp inn:Bool}{rest:Value}{bk af ag s0 s1 s2 s3 s4:Int}{yes:Bool}{un:Int}
def RcOK (ra:Option Addr)(rc:Nat):Prop:=rc≤maxLen∧((ra=none∧rc=0) ∨ ∃ ad,ra=some ad)
end
structure Bs where
 W:Nat
 b1:Nat
 g1:Nat
 b2:Nat
 g2:Nat
 rb:Nat
 tb:Nat
 rg:Nat
 q:Nat
 qp:Nat
 sb:Nat
 ib:Nat
 mb:Nat
 rc:Nat
def Bs.l (B:Bs):List Nat := [B.W,B.b1,B.g1,B.b2,B.g2,B.rb,B.tb,B.rg,B.q,B.qp,B.mb]
structure Wd(w0 w:World)(B:Bs)(r:Option Nat)(lg:Value)(xs ys:List Int)(c d n:Nat)(evs:List Value)(qs:List Int)(pl g got:Int)(inn:Bool)(rest:Value)(bk s0 s1 s2 s3 s4:Int)(yes:Bool):Prop where
 wb:Wb w B.W B.b1 B.b2 B.rb B.tb B.q B.sb B.ib B.mb B.rc lg
 mc:Mc w B.mb pl 0 g (-1) got (-1) 0 false inn rest bk 0 0 s0 s1 s2 s3 s4 yes 0
 m1:Mem w B.b1 B.g1 xs c
 m2:Mem w B.b2 B.g2 ys d
 l1:xs.length=9
 l2:ys.length=9
 c1:c≤1000
 c2:d≤1000
 tl:B.tb<w.heap.size
 qu:Qu w B.q B.qp 1 r qs
 lgr:Lg w w0.heap.size lg n evs
 n1:n<1000
 T1:MaPlaces w
 T2:EvNames w
 T3:EvSteps w
 U1:0<w0.heap.size
 U2:2<w0.heap.size
 U3:1<w0.heap.size
 bl:Below w0.heap.size w0 w
 nd:∀ i j:Nat,i<j→j<11→B.l.getD i 0≠B.l.getD j 0
 ge:∀ k ∈ B.l,w0.heap.size≤k
 al:∀ k ∈ B.l,k<w.heap.size
 ro:∀ k,r=some k→k ∉ B.l∧w0.heap.size≤k
 lo:∀ k,lg.ownBlock=some k→k ∉ B.l∧r≠some k
section
variable {w0 w w':World}{B:Bs}{r r':Option Nat}{lg:Value}{xs xs' ys:List Int}{c c' d n:Nat}{evs:List Value}{qs qs':List Int}{pl pl' g g' got got':Int}{inn inn':Bool}{rest rest':Value}{bk bk' s0 s1 s2 s3 s4 t0 t1 t2 t3 t4:Int}{yes yes':Bool}
theorem tabs(h1:MaPlaces w)(h2:EvNames w)(h3:EvSteps w)(e1:w'.heap[0]? = w.heap[0]?)(e2:w'.heap[2]? = w.heap[2]?)(e3:w'.heap[1]? = w.heap[1]?):MaPlaces w'∧EvNames w'∧EvSteps w':=by
 refine⟨fun k hk => ?_,fun k hk => ?_,fun k hk => ?_⟩
 ·have:=h1 k hk
  simpa[World.cell?,e1] using this
 ·have:=h2 k hk
  simpa[World.cell?,e2] using this
 ·have:=h3 k hk
  simpa[World.cell?,e3] using this
end
@[reducible] def ev0:List Value := [.int .i64 0, .int .i64 0, .int .i64 (-1), .int .i64 (-1), .int .i64 0]
def Rn (w:World)(B:Bs):Prop:=w.cell? ⟨B.rb,0,none⟩=some (.pointer (some ⟨B.rg,0,none⟩))∧Rg w B.rg [] 0 false 0
def At (w0:World)(B:Bs):Nat→World→Prop
 | 0,w=>∃ r lg ra rn rcc bk s0 s1 s2 s3 s4 yes,Wd w0 w B r lg [0,0,0,0,0,0,0,0,1] [0,0,0,0,0,0,0,0,1] 1 1 1 ev0 [0] 1 (-1) (-1) false (.slice ra rn rcc) bk s0 s1 s2 s3 s4 yes∧w.cell? ⟨B.tb,0,none⟩=some (.int .i64 0)∧w.frozen? ⟨B.tb,0,none⟩=false∧Rn w B
 | 1,w=>∃ r lg ra rn rcc bk s0 s1 s2 s3 s4 yes,Wd w0 w B r lg [0,0,0,0,0,0,0,0,1] [0,0,0,0,0,0,0,0,1] 1 1 1 ev0 [0] 3 (-1) (-1) false (.slice ra rn rcc) bk s0 s1 s2 s3 s4 yes∧Rn w B
 | 2,w=>∃ r lg ra rn rcc bk yes,Wd w0 w B r lg [0,0,1,0,0,0,0,0,1] [0,0,0,0,0,0,0,0,1] 2 1 1 ev0 [0] 3 (-1) (-1) true (.slice ra rn rcc) bk 2 3 1 0 0 yes∧Rn w B
 | 3,w=>∃ r lg ra rn rcc bk yes,Wd w0 w B r lg [0,0,1,0,0,0,0,0,1] [0,0,0,0,0,0,0,0,1] 3 1 1 ev0 [0] 3 (-1) (-1) true (.slice ra rn rcc) bk 2 3 2 0 0 yes∧Rn w B
 | 4,w=>∃ r lg ra rn rcc bk,Wd w0 w B r lg [0,0,1,0,0,0,0,0,1] [0,0,0,0,0,0,0,0,1] 3 1 1 ev0 [0] 3 (-1) (-1) true (.slice ra rn rcc) bk 2 3 3 0 1 false
 | 5,w=>∃ r lg ra rn rcc bk,Wd w0 w B r lg [0,0,1,1,0,0,0,0,1] [0,0,0,0,0,0,0,0,1] 5 1 1 ev0 [0] 4 (-1) (-1) false (.slice ra rn rcc) bk 0 0 0 0 0 false
 | 6,w=>∃ r lg ra rn rcc bk,Wd w0 w B r lg [1,0,1,1,0,0,0,0,1] [0,0,0,0,0,0,0,0,1] 6 1 1 ev0 [0] 4 (-1) (-1) true (.slice ra rn rcc) bk 0 1 1 0 0 false
 | 7,w=>∃ r lg ra rn rcc bk,Wd w0 w B r lg [1,0,1,1,0,0,0,0,1] [0,0,0,0,0,0,0,0,1] 7 1 1 ev0 [0] 4 (-1) (-1) true (.slice ra rn rcc) bk 0 1 2 0 0 false
 | 8,w=>∃ r lg ra rcc bk,RcOK ra rcc∧Wd w0 w B r lg [1,0,1,1,0,0,0,0,1] [0,0,0,0,0,0,0,0,1] 7 1 1 ev0 [] 4 (-1) 0 true (.slice ra 0 rcc) bk 0 1 3 0 1 true
 | 9,w=>∃ r lg ra rcc,RcOK ra rcc∧Wd w0 w B r lg [1,1,1,1,0,0,0,0,1] [0,0,0,0,0,0,0,0,1] 9 1 1 ev0 [] 20 (-1) 0 false (.slice ra 0 rcc) 20 0 0 0 0 0 true
 | _,w=>∃ ra rcc lg,RcOK ra rcc∧Wb w B.W B.b1 B.b2 B.rb B.tb B.q B.sb B.ib B.mb B.rc lg∧Mc w B.mb 0 0 0 (-1) (-1) (-1) 0 false false (.slice ra 0 rcc) 20 0 0 0 0 0 0 0 true 0∧Mem w B.b2 B.g2 [0,0,0,0,0,0,0,0,2] 2∧Lg w w0.heap.size lg 2 (ev0 ++ [.int .i64 2, .int .i64 0, .int .i64 0, .int .i64 0, .int .i64 0])∧lg.ownBlock≠some B.W∧Below w0.heap.size w0 w∧(∀ k,lg.ownBlock=some k→k≠B.b2∧k≠B.g2)∧B.W≠B.b2∧B.W≠B.g2
theorem bla(w:World)(o:Obj):Below w.heap.size w (w.alloc o):=(Below.refl _ _).alloc (Nat.le_refl _) _
theorem infoRgp:(Tryz.prog.info? 146).map (fun i=>(i.zero,i.size,i.bytes))=some (some (.pointer none),1,8):=by kernel_rfl
section
variable {w w':World}{W b1 b2 tb q sb ib mb:Nat}{rv lv:Value}
theorem cell_alloc_lt{w:World}{k i:Nat}{v:Value}(o:Obj)(hk:k<w.heap.size)(h:w.cell? ⟨k,i,none⟩=some v):(w.alloc o).cell? ⟨k,i,none⟩=some v:=by
 rw[←h];exact World.cell?_of_block (Below.heap_alloc _ _ _ hk)
theorem step_call_law{P:Program}{ops:Array Oper}{o:Oper}{a:Act}{w:World}{K:Act→World→Prop}{Q:Exit→Act→World→Prop}{E:Prop}(hgd:o.guard=none)
 (f:FuncId)(args:Array Value)(hrun:(execOp a.eval o).run P w = .ok (.enter f args) w){R:Value→World→Prop}(hc:Calls P f args w fun e y=>∃ v,e = .returned v∧R v y)(h:∀ v y,R v y→K (a.put o.dst v) y) :
 if Region.wanted o (yielded ops a.tmps)=true then Oper.wp P o a w K Q else E:=by
 have hw:Region.wanted o (yielded ops a.tmps)=true:=by simp[Region.wanted,hgd]
 rw[if_pos hw]
 unfold Oper.wp
 rw[hrun,Oper.upon_enter]
 refine hc.mono fun e y hh => ?_
 obtain⟨v,rfl,hv⟩:=hh
 exact h _ _ hv
@[reducible] def mz:Array Value := #[.int .i64 0, .int .i64 0, .int .i64 0, .int .i64 0, .int .i64 0, .int .i64 0, .int .i64 0, .bool false, .bool false, .slice none 0 0, .int .i64 0, .int .i64 0, .int .i64 0, .int .i64 0, .int .i64 0, .int .i64 0, .int .u64 0, .int .i64 0, .bool false, .int .i64 0]
@[reducible] def mf (pl p:Int):Array Value := #[.int .i64 pl, .int .i64 p, .int .i64 (-1), .int .i64 (-1), .int .i64 (-1), .int .i64 (-1), .int .i64 0, .bool false, .bool false, .slice none 0 0, .int .i64 0, .int .i64 0, .int .i64 0, .int .i64 0, .int .i64 0, .int .i64 0, .int .u64 0, .int .i64 0, .bool false, .int .i64 0]
end
def up (f:Nat→Option Nat)(i k:Nat):Nat→Option Nat:=fun j=>if j=i then some k else f j
section
variable {w0 y y':World}{bx:Nat}{f f':Nat→Option Nat}
theorem up_some{i j k l:Nat}(h:up f i k j=some l):(j=i∧l=k)∨(j≠i∧f j=some l):=by
 unfold up at h
 split at h
 ·injection h with h;exact .inl ⟨by assumption,h.symm⟩
 ·exact .inr ⟨by assumption,h⟩
end
theorem infoInt3:(Tryz.prog.info? 3).map (fun i=>(i.zero,i.size,i.bytes))=some (some (.int .i64 0),1,8):=by kernel_rfl
theorem infoMc:(Tryz.prog.info? 118).map (fun i=>(i.zero,i.size))=some (some (.agg mz),20):=by kernel_rfl
theorem infoMcB:(Tryz.prog.info? 118).map (fun i=>decide (i.bytes≤1000))=some true:=by kernel_rfl
def opsN:Array Oper := #[{ dst:=some 21,op:=Op.load 61 (Operand.tmp 1),type:=61,pos := "world.go:81",after := #[],guard:=none }, { dst:=some 22,op:=Op.move (Operand.tmp 6),type:=3,pos := "world.go:81",after := #[],guard:=none }, { dst:=some 23,op:=Op.fieldAddr 61 (Operand.tmp 1) 2,type:=0,pos := "world.go:81",after := #[],guard:=none }, { dst:=some 24,op:=Op.load 3 (Operand.tmp 23),type:=3,pos := "world.go:81",after := #[{ on:=2,ground:=Ground.data }],guard:=none }, { dst:=some 25,op:=Op.binOp BinOp.add 3 (Operand.tmp 22) (Operand.tmp 24) 3,type:=3,pos := "world.go:81",after := #[{ on:=1,ground:=Ground.data }, { on:=3,ground:=Ground.data }],guard:=none }, { dst:=some 26,op:=Op.call { callee:=Callee.value (Operand.func 50),args := #[Operand.tmp 25],argTypes := #[3] },type:=32,pos := "world.go:83",after := #[{ on:=4,ground:=Ground.data }],guard:=none }, { dst:=some 27,op:=Op.move (Operand.tmp 6),type:=3,pos := "world.go:81",after := #[],guard:=none }, { dst:=some 28,op:=Op.fieldAddr 61 (Operand.tmp 1) 2,type:=0,pos := "world.go:81",after := #[],guard:=none }, { dst:=some 29,op:=Op.load 3 (Operand.tmp 28),type:=3,pos := "world.go:81",after := #[{ on:=7,ground:=Ground.data }],guard:=none }, { dst:=some 30,op:=Op.binOp BinOp.add 3 (Operand.tmp 27) (Operand.tmp 29) 3,type:=3,pos := "world.go:81",after := #[{ on:=6,ground:=Ground.data }, { on:=8,ground:=Ground.data }],guard:=none }, { dst:=some 31,op:=Op.call { callee:=Callee.value (Operand.func 50),args := #[Operand.tmp 30],argTypes := #[3] },type:=32,pos := "world.go:84",after := #[{ on:=9,ground:=Ground.data }, { on:=5,ground:=Ground.chain }],guard:=none }, { dst:=some 32,op:=Op.move (Operand.tmp 4),type:=3,pos := "world.go:81",after := #[],guard:=none }, { dst:=some 33,op:=Op.move (Operand.tmp 5),type:=3,pos := "world.go:81",after := #[],guard:=none }, { dst:=some 34,op:=Op.move (Operand.tmp 6),type:=3,pos := "world.go:81",after := #[],guard:=none }, { dst:=some 35,op:=Op.fieldAddr 61 (Operand.tmp 1) 2,type:=0,pos := "world.go:81",after := #[],guard:=none }, { dst:=some 36,op:=Op.load 3 (Operand.tmp 35),type:=3,pos := "world.go:81",after := #[{ on:=14,ground:=Ground.data }],guard:=none }, { dst:=some 37,op:=Op.build 76 #[(0,Operand.tmp 34),(1,Operand.tmp 36)],type:=76,pos := "world.go:81",after := #[{ on:=13,ground:=Ground.data }, { on:=15,ground:=Ground.data }],guard:=none }, { dst:=some 38,op:=Op.fieldAddr 61 (Operand.tmp 1) 0,type:=0,pos := "world.go:81",after := #[],guard:=none }, { dst:=some 39,op:=Op.load 3 (Operand.tmp 38),type:=3,pos := "world.go:81",after := #[{ on:=17,ground:=Ground.data }],guard:=none }, { dst:=some 40,op:=Op.makeSlice 63 (Operand.tmp 39) (Operand.tmp 39),type:=63,pos := "world.go:81",after := #[{ on:=18,ground:=Ground.data }, { on:=18,ground:=Ground.data }],guard:=none }, { dst:=some 41,op:=Op.fieldAddr 61 (Operand.tmp 1) 0,type:=0,pos := "world.go:81",after := #[],guard:=none }, { dst:=some 42,op:=Op.load 3 (Operand.tmp 41),type:=3,pos := "world.go:81",after := #[{ on:=20,ground:=Ground.data }],guard:=none }, { dst:=some 43,op:=Op.call { callee:=Callee.value (Operand.func 51),args := #[Operand.tmp 42],argTypes := #[3] },type:=78,pos := "world.go:89",after := #[{ on:=21,ground:=Ground.data }, { on:=10,ground:=Ground.chain }],guard:=none }, { dst:=some 44,op:=Op.fieldAddr 61 (Operand.tmp 1) 0,type:=0,pos := "world.go:81",after := #[],guard:=none }, { dst:=some 45,op:=Op.load 3 (Operand.tmp 44),type:=3,pos := "world.go:81",after := #[{ on:=23,ground:=Ground.data }],guard:=none }, { dst:=some 46,op:=Op.call { callee:=Callee.value (Operand.func 52),args := #[Operand.tmp 45],argTypes := #[3] },type:=47,pos := "world.go:90",after := #[{ on:=24,ground:=Ground.data }, { on:=22,ground:=Ground.chain }],guard:=none }, { dst:=some 47,op:=Op.fieldAddr 61 (Operand.tmp 1) 0,type:=0,pos := "world.go:81",after := #[],guard:=none }, { dst:=some 48,op:=Op.load 3 (Operand.tmp 47),type:=3,pos := "world.go:81",after := #[{ on:=26,ground:=Ground.data }],guard:=none }, { dst:=some 49,op:=Op.fieldAddr 61 (Operand.tmp 1) 1,type:=0,pos := "world.go:81",after := #[],guard:=none }, { dst:=some 50,op:=Op.load 3 (Operand.tmp 49),type:=3,pos := "world.go:81",after := #[{ on:=28,ground:=Ground.data }],guard:=none }, { dst:=some 51,op:=Op.call { callee:=Callee.value (Operand.func 53),args := #[Operand.tmp 48,Operand.tmp 50],argTypes := #[3,3] },type:=79,pos := "world.go:91",after := #[{ on:=27,ground:=Ground.data }, { on:=29,ground:=Ground.data }, { on:=25,ground:=Ground.chain }],guard:=none }, { dst:=some 52,op:=Op.fieldAddr 61 (Operand.tmp 1) 1,type:=0,pos := "world.go:81",after := #[],guard:=none }, { dst:=some 53,op:=Op.load 3 (Operand.tmp 52),type:=3,pos := "world.go:81",after := #[{ on:=31,ground:=Ground.data }],guard:=none }, { dst:=some 54,op:=Op.makeSlice 80 (Operand.tmp 53) (Operand.tmp 53),type:=80,pos := "world.go:81",after := #[{ on:=32,ground:=Ground.data }, { on:=32,ground:=Ground.data }],guard:=none }, { dst:=some 55,op:=Op.build 84 #[(0,Operand.tmp 21),(1,Operand.tmp 26),(2,Operand.tmp 31),(3,Operand.tmp 32),(4,Operand.tmp 33),(5,Operand.tmp 37),(7,Operand.tmp 40),(8,Operand.tmp 43),(9,Operand.tmp 46),(10,Operand.tmp 51),(11,Operand.tmp 54)],type:=84,pos := "world.go:81",after := #[{ on:=0,ground:=Ground.data }, { on:=5,ground:=Ground.data }, { on:=10,ground:=Ground.data }, { on:=11,ground:=Ground.data }, { on:=12,ground:=Ground.data }, { on:=16,ground:=Ground.data }, { on:=19,ground:=Ground.data }, { on:=22,ground:=Ground.data }, { on:=25,ground:=Ground.data }, { on:=30,ground:=Ground.data }, { on:=33,ground:=Ground.data }],guard:=none }, { dst:=some 56,op:=Op.box 84 (Operand.tmp 55),type:=24,pos := "world.go:81",after := #[{ on:=34,ground:=Ground.data }],guard:=none }, { dst:=some 7,op:=Op.assign (Operand.tmp 56),type:=24,pos := "world.go:81",after := #[{ on:=35,ground:=Ground.data }, { on:=30,ground:=Ground.chain }, { on:=0,ground:=Ground.phase }, { on:=1,ground:=Ground.phase }, { on:=2,ground:=Ground.phase }, { on:=3,ground:=Ground.phase }, { on:=4,ground:=Ground.phase }, { on:=5,ground:=Ground.phase }, { on:=6,ground:=Ground.phase }, { on:=7,ground:=Ground.phase }, { on:=8,ground:=Ground.phase }, { on:=9,ground:=Ground.phase }, { on:=10,ground:=Ground.phase }, { on:=11,ground:=Ground.phase }, { on:=12,ground:=Ground.phase }, { on:=13,ground:=Ground.phase }, { on:=14,ground:=Ground.phase }, { on:=15,ground:=Ground.phase }, { on:=16,ground:=Ground.phase }, { on:=17,ground:=Ground.phase }, { on:=18,ground:=Ground.phase }, { on:=19,ground:=Ground.phase }, { on:=20,ground:=Ground.phase }, { on:=21,ground:=Ground.phase }, { on:=22,ground:=Ground.phase }, { on:=23,ground:=Ground.phase }, { on:=24,ground:=Ground.phase }, { on:=25,ground:=Ground.phase }, { on:=26,ground:=Ground.phase }, { on:=27,ground:=Ground.phase }, { on:=28,ground:=Ground.phase }, { on:=29,ground:=Ground.phase }, { on:=30,ground:=Ground.phase }, { on:=31,ground:=Ground.phase }, { on:=32,ground:=Ground.phase }, { on:=33,ground:=Ground.phase }, { on:=34,ground:=Ground.phase }, { on:=35,ground:=Ground.phase }],guard:=none }]
@[reducible] def ptr (b:Nat):Value := .pointer (some ⟨b,0,none⟩)
theorem step_run_law{P:Program}{ops:Array Oper}{o:Oper}{a:Act}{w:World}{K:Act→World→Prop}{Q:Exit→Act→World→Prop}{E:Prop}(hgd:o.guard=none)
 (v:Value)(w':World)(hrun:(execOp a.eval o).run P w = .ok (.value v) w')(h:K (a.put o.dst v) w') :
 if Region.wanted o (yielded ops a.tmps)=true then Oper.wp P o a w K Q else E:=by
 have hw:Region.wanted o (yielded ops a.tmps)=true:=by simp[Region.wanted,hgd]
 rw[if_pos hw]
 unfold Oper.wp
 rw[hrun]
 exact h
def OkC (p m g:Int):Prop:=1≤p∧p≤64∧p≤m∧m≤128∧1≤g∧g≤4096
instance (p m g:Int):Decidable (OkC p m g):=by unfold OkC;infer_instance
theorem right_yes(p m g:Int)(h:OkC p m g)(w:World):Calls Tryz.prog 49 #[.agg #[.int .i64 p, .int .i64 m, .int .i64 g]] w fun e w'=>e = .returned (.bool true)∧Below w.heap.size w w':=by
 obtain⟨h1,h2,h3,h4,h5,h6⟩:=h
 go_enter Tryz.func49,Tryz.ntmps49
 go_wp2
 go_ret
 exact⟨rfl,(Below.refl _ _).alloc (Nat.le_refl _) _⟩
theorem mk_tun(n:Nat)(h:n≤1000)(w:World):(Instr.makeSlice 63 (.int .i64 n) (.int .i64 n)).run Tryz.prog w = .ok (.slice (some ⟨w.heap.size,0,none⟩) n n) (w.alloc (.cells (madeCells #[.int .i64 0] n) 3)):=
 run_make_row' (P:=Tryz.prog) 63 3 (.int .i64 0) 8 Tryz.underlying63 infoInt3 rfl .i64 .i64 n (by omega) (by omega) w
theorem mk_man(n:Nat)(h:n≤1000)(w:World):(Instr.makeSlice 80 (.int .i64 n) (.int .i64 n)).run Tryz.prog w = .ok (.slice (some ⟨w.heap.size,0,none⟩) n n) (w.alloc (.cells (madeCells mz (n*20)) 118)):=by
 obtain⟨i,hi,hz⟩:=Option.map_eq_some_iff.1 infoMc
 obtain⟨i',hi',hb⟩:=Option.map_eq_some_iff.1 infoMcB
 rw[hi]at hi'
 cases hi'
 simp only[Prod.mk.injEq]at hz
 have hb:=of_decide_eq_true hb
 have hb2:(i.bytes:Int)*n≤1000*1000:=by
  rw[←Int.natCast_mul]
  exact Int.ofNat_le.2 (Nat.mul_le_mul hb h)
 have:=run_make (P:=Tryz.prog) w 80 118 i (.agg mz) Tryz.underlying80 hi hz.1 .i64 .i64 n n (by omega) (by omega) (by omega) (by omega)
 rw[hz.2]at this
 exact this
end Go.Proofs.YtkhigkcmgcafdaaGreatDoor
