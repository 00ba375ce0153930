/- Of Structs, Ui, RdE. -/
import Derived.Deep.Fields
import Derived.Deep.Slices
import Derived.Test.YtkhigkcmgcafdaaGreatDoorZ34
set_option linter.unusedVariables false
set_option linter.unusedSimpArgs false
set_option maxHeartbeats 16000000
set_option maxRecDepth 20000
namespace Go.Proofs.YtkhigkcmgcafdaaGreatDoor
open Go.RowKit Go.ChangeShapes Go.WideShapes Go.Deep
def IsStructs(ks:List IntKind)(w:World)(a:Option Addr)(len cap:Nat)(Z:Nat→Nat→Int):Prop:=
 (a=none∧len=0∧cap=0) ∨
 ∃ x,a=some x∧len≤cap∧cap≤maxLen ∧ ∀ i,i<len → ∀ j k,ks[j]? = some k→w.cell? (x.add (i*ks.length+j))=some (.int k (Z i j))∧(Lit.int k (Z i j)).wf=true
theorem open_structs{H:Type}{enc:TypeId × Value→H}{P:Program}{w:World}{base:Nat}{spare:Nat→Bool}{held:Bool}{t e:TypeId}{fs:Array Field}{fuel:Nat}{x:DataW H × List MemPlace}
 {a:Option Addr}{len cap:Nat}(ks:List IntKind)(ht:P.underlying t=some (.slice e))(he:P.underlying e=some (.struct fs))(hC:P.cellsOf e=ks.length)
 (hk:∀(j:Nat) (k:IntKind),ks[j]? = some k → ∃ f:Field,fs[j]? = some f∧f.offset=j∧P.underlying f.type=some (.int k)∧P.cellsOf f.type=1)
 (h:DataW.trod enc P w base spare held fuel t [.slice a len cap]=some x):∃ Z,IsStructs ks w a len cap Z:=by
 rcases open_slice ht h with⟨hcs,_⟩|⟨x',l,c,m,n,D,Pl,hcs,hb,hl,hm,hmm,hx,hi⟩
 ·simp at hcs
  obtain⟨rfl,rfl,rfl⟩:=hcs
  exact⟨fun _ _=>0, .inl ⟨rfl,rfl,rfl⟩⟩
 ·simp at hcs
  obtain⟨rfl,rfl,rfl⟩:=hcs
  refine⟨fun i j=>match w.cell? (x'.add (i*ks.length+j)) with|some (.int _ q)=>q|_=>0, .inr ⟨x',rfl,hl,hm,fun i hil j k hj => ?_⟩⟩
  have him:i<m:=by rw[hmm];split <;> omega
  obtain⟨cs',hc,ht'⟩:=hi i him
  rw[hC]at hc
  obtain⟨xs,n',_,_,hlen,hxl,hf⟩:=DataW.trod_struct he ht'
  obtain⟨_,hcl,hat⟩:=World.cells?_some hc
  obtain⟨f,hf1,hf2,hf3,hf4⟩:=hk j k hj
  have hjl:j<ks.length:=(List.getElem?_eq_some_iff.1 hj).1
  have hjf:j<fs.size:=(Array.getElem?_eq_some_iff.1 hf1).1
  have h1:=hf j f hf1
  rw[hf2,hf4]at h1
  have hcell:=hat j hjl
  have hjc:j<cs'.length:=by omega
  have hone:(cs'.drop j).take 1 = [cs'[j]]:=by rw[List.drop_eq_getElem_cons hjc];rfl
  rw[hone,List.getElem?_eq_getElem (by omega:j<xs.length)]at h1
  obtain⟨q,hq,_,hwf⟩:=DataW.trod_int hf3 h1
  simp only[List.cons.injEq,and_true]at hq
  rw[add_add,List.getElem?_eq_getElem hjc,hq]at hcell
  simp only[hcell]
  exact⟨trivial,hwf⟩
theorem IsStructs.open{ks:List IntKind}{w:World}{a:Option Addr}{len cap:Nat}{Z:Nat→Nat→Int}(h:IsStructs ks w a len cap Z)(h0:0<len)(hk:0<ks.length) :
 ∃ bx off,a=some ⟨bx,off,none⟩ ∧ ∀ w',Below w.heap.size w w' → ∀ i,i<len → ∀ j k,ks[j]? = some k→w'.cell? ⟨bx,off+(i*ks.length+j),none⟩=some (.int k (Z i j))∧(Lit.int k (Z i j)).wf=true:=by
 rcases h with⟨_,h,_⟩|⟨⟨bx,off,spot⟩,rfl,hl,hm,hc⟩
 ·omega
 ·obtain⟨k0,hk0⟩:∃ k,ks[0]? = some k:=⟨ks[0],List.getElem?_eq_getElem hk⟩
  have hc0:=(hc 0 h0 0 k0 hk0).1
  have hspot:spot=none:=by simpa[Addr.add] using World.cell?_spot hc0
  subst hspot
  refine⟨bx,off,rfl,fun w' hb i hi j k hj => ?_⟩
  obtain⟨h1,h2⟩:=hc i hi j k hj
  refine⟨?_,h2⟩
  have he:(⟨bx,off,none⟩:Addr).add (i*ks.length+j)=⟨bx,off+(i*ks.length+j),none⟩:=by
   by_cases hj0:i*ks.length+j=0
   ·rw[hj0];simp[Addr.add]
   ·simp only[Addr.add,if_neg hj0]
  rw[he]at h1
  have hlt:bx<w.heap.size:=by
   rcases Nat.lt_or_ge bx w.heap.size with h|h
   ·exact h
   ·simp[World.cell?,Array.getElem?_eq_none h]at h1
  rw[hb.cell (p:=⟨bx,off+(i*ks.length+j),none⟩) hlt]
  exact h1
end Go.Proofs.YtkhigkcmgcafdaaGreatDoor
namespace Go.Proofs.YtkhigkcmgcafdaaGreatDoor
open Go.RowKit
theorem run_app(v:Y.V)(l m:List Y.St):v.run (l ++ m)=(v.run l).run m:=by
 induction l generalizing v with
 | nil=>rfl
 | cons s l ih=>exact ih _
theorem cnt_app(v:Y.V)(l m:List Y.St):v.cnt (l ++ m)=v.cnt l+(v.run l).cnt m:=by
 induction l generalizing v with
 | nil=>simp[Y.V.cnt,Y.V.run]
 | cons s l ih=>
   show (if (v.step s).2 then 1 else 0)+(v.step s).1.cnt (l ++ m)=_
   rw[ih]
   show _=(if (v.step s).2 then 1 else 0)+(v.step s).1.cnt l+((v.step s).1.run l).cnt m
   omega
def stAt (l:List Y.St)(i:Nat):Y.St:=l.getD i ⟨0,0,0,0,0⟩
theorem take_st{l:List Y.St}{k:Nat}(h:k<l.length):l.take (k+1)=l.take k ++ [stAt l k]:=by
 rw[List.take_succ_eq_append_getElem h]
 simp[stAt,h]
theorem run_take{v:Y.V}{l:List Y.St}{k:Nat}(h:k<l.length):v.run (l.take (k+1))=((v.run (l.take k)).step (stAt l k)).1:=by
 rw[take_st h,run_app];rfl
theorem cnt_take{v:Y.V}{l:List Y.St}{k:Nat}(h:k<l.length):v.cnt (l.take (k+1))=v.cnt (l.take k)+if ((v.run (l.take k)).step (stAt l k)).2 then 1 else 0:=by
 rw[take_st h,cnt_app];simp[Y.V.cnt]
theorem cnt_le(v:Y.V)(l:List Y.St):v.cnt l≤l.length:=by
 induction l generalizing v with
 | nil=>exact Nat.le_refl _
 | cons s l ih=>
   show (if (v.step s).2 then 1 else 0)+(v.step s).1.cnt l≤l.length+1
   have:=ih (v.step s).1
   split <;> omega
def Stp (o:Nat→Nat)(w:World)(a:Option Addr)(l:List Y.St):Prop:=
 (∀ i,i<l.length→Y.Sok (stAt l i))∧(0<l.length → ∃ g off,a=some ⟨g,off,none⟩∧g<w.heap.size∧o g=0 ∧ ∀ i,i<l.length →
  w.cell? ⟨g,off+i*5,none⟩=some (.int .u8 (stAt l i).kd)∧w.cell? ⟨g,off+i*5+1,none⟩=some (.int .u8 (stAt l i).act)∧w.cell? ⟨g,off+i*5+2,none⟩=some (.int .i64 (stAt l i).a)∧w.cell? ⟨g,off+i*5+3,none⟩=some (.int .i64 (stAt l i).x)∧w.cell? ⟨g,off+i*5+4,none⟩=some (.int .i64 (stAt l i).d))
theorem Stp.ek{o o':Nat→Nat}{w w':World}{a:Option Addr}{l:List Y.St}(h:Stp o w a l)(e:Ek o o' w w'):Stp o' w' a l:=by
 refine⟨h.1,fun h0 => ?_⟩
 obtain⟨g,off,e1,e2,e3,e4⟩:=h.2 h0
 have hk:=e.keep g e2 e3
 have hc:∀ j,w'.cell? ⟨g,j,none⟩=w.cell? ⟨g,j,none⟩:=fun j=>World.cell?_of_block (a:=⟨g,j,none⟩) hk
 refine⟨g,off,e1,Nat.lt_of_lt_of_le e2 e.size,(e.old g e2).trans e3,fun i hi => ?_⟩
 rw[hc,hc,hc,hc,hc]
 exact e4 i hi
theorem inv_run{N r g:Nat}{v:Y.V}(a:Y.All N v)(x:Y.Xt r g v)(l:List Y.St)(hl:∀ i,i<l.length→Y.Sok (stAt l i))(k:Nat)(hk:k≤l.length)(hN:N+2*l.length<1000000):Y.All (N+2*k) (v.run (l.take k))∧Y.Xt (r+k) (g+k) (v.run (l.take k)):=by
 induction k with
 | zero=>simpa[Y.V.run] using And.intro a x
 | succ k ih=>
   obtain⟨i1,i2⟩:=ih (by omega)
   rw[run_take (by omega)]
   exact⟨Y.all_step i1 (by omega) (by omega) _,i2.step i1.i _ (hl k (by omega))⟩
section
variable {B:Bk}{o o':Nat→Nat}{N n n' r g:Nat}{v v':Y.V}{w w' wx:World}{C:Nat→Prop}{i p:Nat}{tm:Int}
def RunI (B:Bk)(o:Nat→Nat)(n:Nat)(v:Y.V)(l:List Y.St)(w:World)(k:Nat)(wr:World):Prop:=∃ o',WR B o' (n+2*k) (v.run (l.take k)) wr∧Ek o o' w wr
theorem wrun(h:WR B o n v w)(a:Y.All N v)(x:Y.Xt r g v)(ra:Option Addr)(rc:Nat)(l:List Y.St)(hs:Stp o w ra l)(hN:N+2*l.length<1000000)(hn:n+2*l.length+4<1000000)(hr:r+l.length<1000000)(hg:g+l.length<1000) :
 Calls Tryz.prog 10 #[.pointer (some ⟨B.W,0,none⟩), .slice ra l.length rc] w (Po B o (n+2*l.length) (.int .i64 (v.cnt l:Nat)) (v.run l) w):=by
 have IR:=hid (fun k hk=>inv_run a x l hs.1 k hk hN)
 have HS:=hid hs
 have HC:=hid (fun k=>cnt_le v (l.take k))
 obtain⟨len,hlen⟩:∃ len,len=l.length:=⟨_,rfl⟩
 have HL:=hid hlen
 have BD:=hid (And.intro hN (And.intro hn (And.intro hr hg)))
 have S0:=hid (show RunI B o n v l w 0 w from⟨o,h,Ek.refl o w⟩)
 rw[←hlen]
 clear h a x hs hN hn hr hg hlen
 go_enter Tryz.func10,Tryz.ntmps10
 go_wp2_with fail
 go_loopw [5,10] (fun x5 x10 wr=>∃(k c:Nat),k≤len∧x5 = .int .i64 c∧x10 = .int .i64 k∧Hid (RunI B o n v l w k wr∧c=v.cnt (l.take k))) (fun _ x10 _=>len - (intOf x10).toNat)
 case atStart=>exact⟨0,0,Nat.zero_le _,rfl,rfl,hid ⟨S0.out,rfl⟩⟩
 case round=>
  clear S0
  obtain⟨k,c,hk,rfl,rfl,F⟩:=hrel
  by_cases hlt:k<len
  ·have tlt:decide ((k:Int)<(len:Int))=true:=decide_eq_true (by omega)
   have hk0:(0:Int)≤(k:Int):=by omega
   have hk1:(k:Int)<(len:Int):=by omega
   have hkl:k<l.length:=by rw[←HL.out];exact hlt
   have KL:=hid hkl
   obtain⟨⟨o1,h1,e1⟩,hc⟩:=F.out
   obtain⟨gb,off,rfl,g1,g2,gc⟩:=(HS.out.ek e1).2 (by omega)
   obtain⟨q0,q1,q2,q3,q4⟩:=gc k hkl
   obtain⟨i1,i2⟩:=IR.out k (by omega)
   obtain⟨st,hst⟩:∃ st,st=stAt l k:=⟨_,rfl⟩
   have hcb:=HC.out k
   have hcl:c≤1000000:=by
    rw[hc]
    have:=BD.out.1
    rw[List.length_take]at hcb
    omega
   have hwc:IntKind.i64.wrap ((c:Int)+1)=((c+1:Nat):Int):=by rw[IntWalk.i64_in _ (by omega)];omega
   have hlk:k≤1000000:=by have:=BD.out.1;omega
   have CS:=hid ((wstep (h1.below (stp_box h1 st)) i1 i2 (by have:=BD.out.1;omega) (by have:=BD.out.2.1;omega) (by have:=BD.out.2.2.1;omega) (by have:=BD.out.2.2.2;omega) st (by rw[hst];exact HS.out.1 k hkl)).mono (R':=fun e w'=>e = .returned (.bool ((v.run (l.take k)).step st).2)∧RunI B o n v l w (k+1) w') fun e w' hx=>by
    obtain⟨he,o3,h3,e3⟩:=hx
    refine⟨he,o3,?_,(e1.trans (Ek.of_below (stp_box h1 st))).trans e3⟩
    rw[run_take hkl, ←hst]
    exact h3)
   have HCC:=hid (show v.cnt (l.take (k+1))=c+if ((v.run (l.take k)).step st).2 then 1 else 0 by rw[cnt_take hkl,hc,hst])
   rw[←hst]at q0 q1 q2 q3 q4
   obtain⟨kd,act,sa,sx,d⟩:=st
   generalize ((v.run (l.take k)).step ⟨kd,act,sa,sx,d⟩).2=b at CS HCC
   clear h1 e1 i1 i2 hst gc hcb hc F g2 hkl
   go_wp2_with fail
   refine CS.out.mono ?_
   rintro e y ⟨rfl,R1⟩
   have R2:=hid R1
   clear R1 CS q0 q1 q2 q3 q4
   rcases b with _|_
   ·have HQ:=hid (show RunI B o n v l w (k+1) y∧c=v.cnt (l.take (k+1)) from⟨R2.out,by rw[HCC.out];simp⟩)
    clear HCC hwc
    go_wp2_with fail
    go_roundw
    case rel=>exact⟨k+1,c,by omega,rfl,by go_num,HQ⟩
    case measure=>simp[intOf];omega
   ·have HQ:=hid (show RunI B o n v l w (k+1) y∧c+1=v.cnt (l.take (k+1)) from⟨R2.out,by rw[HCC.out];simp⟩)
    clear HCC
    go_wp2_with fail
    go_roundw
    case rel=>exact⟨k+1,c+1,by omega,by go_num,by go_num,HQ⟩
    case measure=>simp[intOf];omega
  ·have hkk:k=len:=by omega
   have tlt:decide ((k:Int)<(len:Int))=false:=decide_eq_false (by omega)
   have FIN:=hid (show Po B o (n+2*len) (.int .i64 (v.cnt l:Nat)) (v.run l) w (.returned (.int .i64 (c:Nat))) wr by
    obtain⟨⟨o1,h1,e1⟩,hc⟩:=F.out
    have ht:l.take k=l:=by rw[hkk,HL.out];exact List.take_length
    rw[ht]at h1 hc
    rw[hc]
    exact⟨rfl,o1,by rw[hkk]at h1;exact h1,e1⟩)
   clear F hkk
   go_wp2
   go_ret
   exact FIN.out
end
abbrev Ev:=Int × Int × Int × Int × Int
def evc (e:Ev):List Value := [.int .i64 e.1, .int .i64 e.2.1, .int .i64 e.2.2.1, .int .i64 e.2.2.2.1, .int .i64 e.2.2.2.2]
def fe (es:List Ev):List Value:=es.flatMap evc
theorem fe_cons(e:Ev)(es:List Ev):fe (e :: es) = .int .i64 e.1 :: .int .i64 e.2.1 :: .int .i64 e.2.2.1 :: .int .i64 e.2.2.2.1 :: .int .i64 e.2.2.2.2 :: fe es:=by simp[fe,evc]
theorem fe_len:∀ es:List Ev,(fe es).length=es.length*5
 | []=>rfl
 | e :: es=>by rw[fe_cons];simp[fe_len es];omega
def evAt (es:List Ev)(i:Nat):Ev:=es.getD i (0,0,0,0,0)
theorem fe_get:∀(es:List Ev) (i:Nat),i<es.length →
 (fe es)[i*5]? = some (.int .i64 (evAt es i).1)∧(fe es)[i*5+1]? = some (.int .i64 (evAt es i).2.1)∧(fe es)[i*5+2]? = some (.int .i64 (evAt es i).2.2.1)∧(fe es)[i*5+3]? = some (.int .i64 (evAt es i).2.2.2.1)∧(fe es)[i*5+4]? = some (.int .i64 (evAt es i).2.2.2.2)
 | [],i,h=>by simp at h
 | e :: es,0,_=>by rw[fe_cons];simp[evAt]
 | e :: es,i+1,h=>by
   have:=fe_get es i (by simpa using h)
   rw[fe_cons]
   simp only[show (i+1)*5=i*5+1+1+1+1+1 by omega,List.getElem?_cons_succ]
   simpa[evAt] using this
theorem fe_ones(es:List Ev):∀ u ∈ fe es,u.oneCell'=true:=by
 intro u hu
 obtain⟨e,_,he⟩:=List.mem_flatMap.1 hu
 simp[evc]at he
 rcases he with rfl|rfl|rfl|rfl|rfl <;> rfl
theorem cell_ltE{w:World}{a:Addr}{v:Value}(h:w.cell? a=some v):a.block<w.heap.size:=by
 rcases Nat.lt_or_ge a.block w.heap.size with h'|h'
 ·exact h'
 ·simp[World.cell?,Array.getElem?_eq_none h']at h
def RdE (w:World)(v:Value)(es:List Ev):Prop:=
 ∃ a c,v = .slice a es.length c∧(es.length≤c∧c≤maxLen∧((a=none∧c=0) ∨ ∃ ad,a=some ad))∧(0<es.length → ∃ g off,a=some ⟨g,off,none⟩∧g<w.heap.size ∧ ∀ i,i<es.length →
   w.cell? ⟨g,off+i*5,none⟩=some (.int .i64 (evAt es i).1)∧w.cell? ⟨g,off+i*5+1,none⟩=some (.int .i64 (evAt es i).2.1)∧w.cell? ⟨g,off+i*5+2,none⟩=some (.int .i64 (evAt es i).2.2.1)∧w.cell? ⟨g,off+i*5+3,none⟩=some (.int .i64 (evAt es i).2.2.2.1)∧w.cell? ⟨g,off+i*5+4,none⟩=some (.int .i64 (evAt es i).2.2.2.2))
theorem RdE.below{w w':World}{v:Value}{es:List Ev}(h:RdE w v es)(hb:Below w.heap.size w w'):RdE w' v es:=by
 obtain⟨a,c,h1,h2,h4⟩:=h
 refine⟨a,c,h1,h2,fun h0 => ?_⟩
 obtain⟨g,off,e,hg,hc⟩:=h4 h0
 have hs:=hb.size
 refine⟨g,off,e,by omega,fun i hi => ?_⟩
 obtain⟨q0,q1,q2,q3,q4⟩:=hc i hi
 exact⟨(hb.cell (p:=⟨g,_,none⟩) hg).trans q0,(hb.cell (p:=⟨g,_,none⟩) hg).trans q1,(hb.cell (p:=⟨g,_,none⟩) hg).trans q2,(hb.cell (p:=⟨g,_,none⟩) hg).trans q3,(hb.cell (p:=⟨g,_,none⟩) hg).trans q4⟩
theorem own_rdE{w:World}{base:Nat}{t:TypeId}{v:Value}{es:List Ev}(h:w.ownsRow base t 5 v es.length (fe es)):RdE w v es:=by
 obtain⟨h0,⟨h1,h2⟩|⟨q,cap,cur,h1,h2,h3,h4,h5,h6,h7⟩⟩:=id h
 ·exact⟨none,0,by rw[h1,h2],⟨by omega,by simp, .inl ⟨rfl,rfl⟩⟩,fun h=>by omega⟩
 ·refine⟨_,cap,h1,⟨h4,h5, .inr ⟨_,rfl⟩⟩,fun hn=>⟨q,0,rfl,by obtain⟨hl,_⟩:=Array.getElem?_eq_some_iff.1 h3;exact hl,fun i hi => ?_⟩⟩
  subst h1
  obtain⟨k0,k1,k2,k3,k4⟩:=fe_get es i hi
  have k:=fun j=>h.cellAt (g:=q) (cap:=cap) j
  have hl:=fe_len es
  simp only[Nat.zero_add]
  exact⟨(k _ (by omega)).trans k0,(k _ (by omega)).trans k1,(k _ (by omega)).trans k2,(k _ (by omega)).trans k3,(k _ (by omega)).trans k4⟩
end Go.Proofs.YtkhigkcmgcafdaaGreatDoor
