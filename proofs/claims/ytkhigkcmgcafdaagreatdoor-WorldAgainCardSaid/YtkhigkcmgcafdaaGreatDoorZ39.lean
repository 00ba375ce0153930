/- Of Uv, Uw, Ux, Uy, Yw. -/
import Derived.Test.YtkhigkcmgcafdaaGreatDoorZ35
import Derived.Test.YtkhigkcmgcafdaaGreatDoorZ37
import Derived.Test.YtkhigkcmgcafdaaGreatDoorZ38
set_option linter.unusedVariables false
set_option linter.unusedSimpArgs false
set_option maxHeartbeats 16000000
set_option maxRecDepth 20000
namespace Go.Proofs.YtkhigkcmgcafdaaGreatDoor
open Go.RowKit
def NewP (P M G:Nat)(w:World)(w':World)(B:Bk)(o:Nat→Nat):Prop:=B.N0=w.heap.size∧WR B o 1 (Y.V.new P M G) w'∧Below w.heap.size w w'
theorem wnew_W(P M G:Nat)(hok:OkC P M G)(w:World)(T:DbTab w)(T1:MaPlaces w)(T2:EvNames w)(T3:EvSteps w)(U1:0<w.heap.size)(U2:2<w.heap.size)(U3:1<w.heap.size) :
 Calls Tryz.prog 25 #[.agg #[.int .i64 (P:Int), .int .i64 (M:Int), .int .i64 (G:Int)]] w fun e w'=>∃ B o,e = .returned (.tuple #[.pointer (some ⟨B.W,0,none⟩), .int .i64 0])∧NewP P M G w w' B o:=by
 refine(wnew_nat P M G hok w T T2 T3 U2 U3).mono ?_
 rintro e y ⟨x,rfl,h⟩
 obtain⟨B,o,rfl,h1,h2⟩:=wr_new h hok T1 T2 T3 U1 U2 U3 T.lt
 exact⟨B,o,rfl,h1,h2,h.1⟩
def st0:Y.St:=⟨0,0,0,0,0⟩
def sts0:List Y.St:=List.replicate 10 st0
theorem sts0_at{i:Nat}(hi:i<10):stAt sts0 i=st0:=by
 have h:i<(List.replicate 10 st0).length:=by rw[List.length_replicate];exact hi
 unfold stAt sts0
 rw[List.getD_eq_getElem?_getD,List.getElem?_eq_getElem h]
 exact List.eq_of_mem_replicate (List.getElem_mem h)
theorem sts0_ok:∀ i,i<sts0.length→Y.Sok (stAt sts0 i):=fun i hi=>by
 have hi':i<10:=hi
 rw[sts0_at hi']
 exact⟨⟨by decide,by decide⟩,⟨by decide,by decide⟩,⟨by decide,by decide⟩,⟨by decide,by decide⟩,⟨by decide,by decide⟩⟩
theorem ten_true:∀ i,i<10→(((Y.V.new 1 1 1).run (sts0.take i)).step st0).2=true:=by decide
theorem ten_end:(((Y.V.new 1 1 1).run (sts0.take 10)).mach 0).g=0∧(((Y.V.new 1 1 1).run (sts0.take 10)).mach 0).pl=0∧((Y.V.new 1 1 1).run (sts0.take 10)).stat 0=2∧((Y.V.new 1 1 1).run (sts0.take 10)).lg.length=2∧((Y.V.new 1 1 1).run (sts0.take 10)).M=1∧((Y.V.new 1 1 1).run (sts0.take 10)).G=1∧(((Y.V.new 1 1 1).run (sts0.take 10)).mach 0).rest.length=0:=by decide
def Ten (B:Bk)(w0:World)(i:Nat)(w:World):Prop:=∃ o,WR B o (1+2*i) ((Y.V.new 1 1 1).run (sts0.take i)) w∧Below B.N0 w0 w
theorem ten_next{B:Bk}{w0 w:World}{i:Nat}(hi:i<10)(h:Ten B w0 i w):Calls Tryz.prog 8 #[.pointer (some ⟨B.W,0,none⟩),stV st0] w fun e w'=>e = .returned (.bool true)∧Ten B w0 (i+1) w':=by
 obtain⟨o,h,hb⟩:=h
 have cfg:Y.Cfg 1 1 1:=⟨by decide,by decide,by decide,by decide,by decide,by decide⟩
 obtain⟨a,x⟩:=inv_run (Y.all_new cfg) (Y.new_xt cfg) sts0 sts0_ok i (by show i≤10;omega) (by show 1+2*10<_;decide)
 refine(wstep h a x (by omega) (by omega) (by omega) (by omega) st0 (sts0_at hi ▸ sts0_ok i hi)).mono ?_
 rintro e y ⟨rfl,o2,h2,e2⟩
 rw[ten_true i hi]
 refine⟨rfl,o2,?_,hb.trans (e2.below h)⟩
 rw[run_take (show i<sts0.length from hi),sts0_at hi]
 exact h2
theorem fieldV0(m:Y.Mh)(a:Option Addr)(n c:Nat)(w:World):(Instr.field 70 (.agg (mgV m (.slice a n c))) 0).run Tryz.prog w = .ok (.int .i64 m.pl) w:=by kernel_rfl
theorem fieldV2(m:Y.Mh)(a:Option Addr)(n c:Nat)(w:World):(Instr.field 70 (.agg (mgV m (.slice a n c))) 2).run Tryz.prog w = .ok (.int .i64 m.g) w:=by kernel_rfl
theorem ten_told{B:Bk}{w0 w:World}(h:Ten B w0 10 w):∃ m:Y.Mh,m.g=0∧m.pl=0 ∧
 (∀ y,Ten B w0 10 y→Calls Tryz.prog 26 #[.pointer (some ⟨B.W,0,none⟩), .int .i64 0] y fun e w'=>∃ a' n' c',e = .returned (.agg (mgV m (.slice a' n' c')))∧Ten B w0 10 w') ∧
 (∀ y,Ten B w0 10 y→Calls Tryz.prog 27 #[.pointer (some ⟨B.W,0,none⟩), .int .i64 0] y fun e w'=>e = .returned (.int .u64 2)∧Below B.N0 w0 w'∧Calls Tryz.prog 9 #[.pointer (some ⟨B.W,0,none⟩)] w' fun e w2=>∃ a c,e = .returned (.slice a 2 c)∧Below B.N0 w0 w2):=by
 obtain⟨t1,t2,t3,t4,t5,t6,t7⟩:=ten_end
 have cfg:Y.Cfg 1 1 1:=⟨by decide,by decide,by decide,by decide,by decide,by decide⟩
 obtain⟨a,x⟩:=inv_run (Y.all_new cfg) (Y.new_xt cfg) sts0 sts0_ok 10 (by decide) (by show 1+2*10<_;decide)
 refine⟨((Y.V.new 1 1 1).run (sts0.take 10)).mach 0,t1,t2,fun y hy => ?_,fun y hy => ?_⟩
 ·obtain⟨o,h,hb⟩:=hy
  refine(wmachine h (i:=0) (by rw[t5];decide) (by rw[t7];decide)).mono ?_
  rintro e z ⟨a',n',c',he,hz⟩
  exact⟨a',n',c',he,o,h.below hz,hb.trans (hz.mono (h.N0))⟩
 ·obtain⟨o,h,hb⟩:=hy
  have s:Sm (1+2*10) (1+2*10) (0+10) (1+10) _:=⟨a.i,x,by decide,by decide,by decide,by decide⟩
  refine(wstatus h s.few (j:=0) (by decide) (by rw[t6];decide) (by rw[t3];decide)).mono ?_
  rintro e z ⟨rfl,o2,h2,e2⟩
  rw[t3]
  refine⟨rfl,hb.trans (e2.below h),?_⟩
  refine(wevents h2 (by rw[t4];decide) (by rw[t4];decide)).mono ?_
  rintro e u ⟨va,rfl,⟨ad,c,hv,_⟩,hu,_⟩
  refine⟨ad,c,?_,(hb.trans (e2.below h)).trans (hu.mono h2.N0)⟩
  rw[hv,List.length_map,t4]
theorem lives20(w:World)(T:DbTab w)(T1:MaPlaces w)(T2:EvNames w)(T3:EvSteps w)(U1:0<w.heap.size)(U2:2<w.heap.size)(U3:1<w.heap.size) :
 Calls Tryz.prog 6 #[] w fun e w'=>e = .returned (.bool true)∧Below w.heap.size w w':=by
 have NW:=hid (wnew_W 1 1 1 ⟨by decide,by decide,by decide,by decide,by decide,by decide⟩ w T T1 T2 T3 U1 U2 U3)
 rw[show (((1:Nat):Int))=1 from rfl]at NW
 clear T T1 T2 T3 U1 U2 U3
 go_enter Tryz.func6,Tryz.ntmps6
 go_wp2_with fail
 refine NW.out.mono ?_
 rintro e w2 ⟨B,o,rfl,hN,hA,hb⟩
 have A0:=hid (show Ten B w 0 w2 from⟨o,hA,by rw[hN];exact hb⟩)
 have HN:=hid hN
 obtain⟨W,hW⟩:∃ W,W=B.W:=⟨_,rfl⟩
 rw[←hW]
 have HW:=hid hW
 clear NW hA hW hN hb
 go_wp2_with fail
 go_loopw [14] (fun x wr=>∃ i:Nat,i≤10∧x = .int .i64 i∧Hid (Ten B w i wr)) (fun x _=>10 - (intOf x).toNat)
 case atStart=>exact⟨0,by omega,rfl,A0⟩
 case round=>
  clear A0
  obtain⟨i,hi,rfl,A⟩:=hrel
  by_cases hlt:i<10
  ·have ST:=hid (ten_next hlt A.out)
   rw[←HW.out]at ST
   clear A
   go_wp2_with fail
   refine ST.out.mono ?_
   rintro e w3 ⟨rfl,h3⟩
   have H3:=hid h3
   clear h3 ST
   go_wp2_with fail
   go_roundw
   case rel=>exact⟨i+1,by omega,by go_num,H3⟩
   case measure=>simp[intOf];omega
  ·obtain rfl:i=10:=by omega
   obtain⟨m,hm1,hm2,TM,TS⟩:=ten_told A.out
   have TM:=hid TM
   have TS:=hid TS
   rw[←HW.out]at TM TS
   have M1:=hid (TM.out _ A.out)
   have fr2:=fun a n c w=>fieldV2 m a n c w
   have fr0:=fun a n c w=>fieldV0 m a n c w
   rw[hm1]at fr2
   rw[hm2]at fr0
   clear A hlt hi hm1 hm2
   go_wp2_with fail
   refine M1.out.mono ?_
   rintro e w3 ⟨a1,n1,c1,rfl,hA3⟩
   have M2:=hid (TM.out _ hA3)
   clear M1 hA3
   go_wp2_with fail
   refine M2.out.mono ?_
   rintro e w4 ⟨a2,n2,c2,rfl,hA4⟩
   have M3:=hid (TS.out _ hA4)
   clear M2 hA4
   go_wp2_with fail
   refine M3.out.mono ?_
   rintro e w5 ⟨rfl,_,hE⟩
   have M4:=hid hE
   clear M3 hE
   go_wp2_with fail
   refine M4.out.mono ?_
   rintro e w6 ⟨a3,c3,rfl,hb⟩
   have HB:=hid hb
   clear M4 hb
   go_wp2
   go_ret
   exact⟨rfl,HN.out ▸ HB.out⟩
end Go.Proofs.YtkhigkcmgcafdaaGreatDoor
namespace Go.Proofs.YtkhigkcmgcafdaaGreatDoor.MemC
open Go.RowKit
theorem clone_post{w':World}{e:TypeId}{base:Nat}{v:Value}{n:Nat}{vs:List Value}(h:w'.ownsRow base e 1 v n vs)(hv:v ≠ .slice none 0 0) :
 ∃ g cap cur,v = .slice (some ⟨g,0,none⟩) n cap∧base≤g∧w'.heap[g]? = some (.cells cur e (0,0))∧n≤cap∧cap≤maxLen∧cur.size=cap∧cur.toList.take n=vs:=by
 obtain⟨_,⟨h1,_⟩|⟨g,cap,cur,h1,h2,h3,h4,h5,h6,h7⟩⟩:=h
 ·exact absurd h1 hv
 ·exact⟨g,cap,cur,h1,h2,h3,h4,h5,by simpa using h6,by simpa using h7⟩
def CloneU64(xs:List Int)(w:World)(e:Ending)(w':World):Prop:=
 ∃ g' cap' cur,e = .returned (.slice (some ⟨g',0,none⟩) xs.length cap')∧w.heap.size≤g'∧w'.heap[g']? = some (.cells cur 66 (0,0))∧xs.length≤cap'∧cap'≤maxLen∧cur.size=cap'∧cur.toList.take xs.length=xs.map (Value.int .u64)∧Below w.heap.size w w'
theorem clone_u64(g:Nat)(n cap:Nat)(xs:List Int)(w:World)(hn:n=xs.length)(hl:xs.length≤65536)
 (hc:∀ i,i<xs.length→w.cell? ⟨g,i,none⟩=some (.int .u64 (xs.getD i 0))) :
 Calls Tryz.prog 72 #[.slice (some ⟨g,0,none⟩) n cap] w (CloneU64 xs w):=by
 subst hn
 obtain⟨i0,hi,hz0,hz1,hz2⟩:=info_parts infoU64
 have hnil:=fun(w:World)=>Lib.run_eql_slice_nil (P:=Tryz.prog) w 89 66 (some ⟨g,0,none⟩) xs.length cap 0 0 Tryz.underlying89
 simp only[Option.isNone_some]at hnil
 have hown:(w.alloc (.cells #[] 66)).ownsRow w.heap.size 66 1 (.slice (some ⟨w.heap.size,0,none⟩) 0 0) 0 []:=World.ownsRow_made w #[] 0 (Nat.le_refl _) (by omega) rfl
 have HC:=hid hc
 clear hc
 go_enter Tryz.func72,Tryz.ntmps72
 go_wp2_with (at_builtin;refine wpList_append_own _ rfl _ _ 89 rfl w.heap.size 66 i0 (.int .u64 0) 1 8 Tryz.underlying89 hi hz0 hz1 hz2 rfl (by decide) _ _ _ rfl hown ⟨g,0,none⟩ xs.length cap (xs.map (Value.int .u64)) rfl ?c0 ?c1 ?c2 ?c3 ?c4 ?c5 ?_)
 case c0=>simp
 case c1=>
  intro j u hj
  rw[List.getElem?_map]at hj
  rcases hx:xs[j]? with _|x
  ·rw[hx]at hj;simp at hj
  ·rw[hx]at hj
   obtain⟨hlt,hx'⟩:=List.getElem?_eq_some_iff.1 hx
   have hcj:=HC.out j hlt
   have hgb:g<w.heap.size:=by
    rcases Nat.lt_or_ge g w.heap.size with h|h
    ·exact h
    ·simp[World.cell?,Array.getElem?_eq_none h]at hcj
   have he:(⟨g,0,none⟩:Addr).add j=⟨g,j,none⟩:=by
    by_cases hj0:j=0
    ·subst hj0;simp[Addr.add]
    ·simp[Addr.add,hj0]
   rw[he,World.cell?_of_block (w:=w) (Below.heap_alloc _ _ _ hgb),hcj]
   simp only[Option.map_some,Option.some.injEq]at hj
   rw[←hj,List.getD_eq_getElem?_getD,hx];rfl
 case c2=>
  intro u hu
  obtain⟨x,_,rfl⟩:=List.mem_map.1 hu
  rfl
 case c3=>unfold maxLen;omega
 case c4=>omega
 case c5=>simp
 intro v' w1 hown' hgrow hnn
 obtain⟨g',cap',cur,rfl,hg',hcur,h1,h2,h3,h4⟩:=clone_post hown' hnn
 have hbel:Below w.heap.size w w1:=((Below.refl w.heap.size w).alloc (Nat.le_refl _) (.cells #[] 66)).grown hgrow (by simp) (fun k hk=>by simp[Value.ownBlock]at hk;omega)
 clear hown hown' hgrow hnn hnil
 go_wp2
 go_ret
 exact⟨g',cap',cur,rfl,hg',hcur,h1,h2,h3,h4,hbel⟩
def CopyPost(xs:List Int)(c:Nat)(w:World)(e:Ending)(w':World):Prop:=
 ∃ b' g',e = .returned (.pointer (some ⟨b',0,none⟩))∧Mem w' b' g' xs c∧w.heap.size≤b'∧w.heap.size≤g'∧Below w.heap.size w w'
theorem copy_end{xs:List Int}{c g' cap':Nat}{cur:Array Value}{w w1:World}(hl:xs.length≤65536)(hc:c≤1000000000)
 (q1:w.drew.heap.size≤g')(q2:w1.heap[g']? = some (.cells cur 66 (0,0)))(q3:xs.length≤cap')(q4:cap'≤maxLen)(q5:cur.size=cap')(q6:cur.toList.take xs.length=xs.map (Value.int .u64))(q7:Below w.drew.heap.size w.drew w1) :
 CopyPost xs c w (.returned (.pointer (some ⟨w1.heap.size,0,none⟩))) (w1.alloc (.cells #[.slice (some ⟨g',0,none⟩) xs.length cap', .int .i64 c] 91)):=by
 have hlt:g'<w1.heap.size:=by rw[Array.getElem?_eq_some_iff]at q2;exact q2.1
 have hs:=q7.size
 refine⟨w1.heap.size,g',rfl,⟨⟨cap',cur,Deep.blk_alloc_new _ _,?_,q3,q4,q5,q6⟩,by omega,hl,hc⟩,by simpa using hs,by simpa using q1,?_⟩
 ·rw[Below.heap_alloc _ _ _ hlt];exact q2
 ·exact (((Below.refl w.heap.size w).drew).trans (q7.mono (by simp))).alloc (by simpa using hs) _
theorem copy_any(b g:Nat)(xs:List Int)(c:Nat)(w:World)(hm:Mem w b g xs c) :
 Calls Tryz.prog 34 #[.pointer (some ⟨b,0,none⟩)] w (CopyPost xs c w):=by
 obtain⟨cap,h0,_,_⟩:=hm.c0
 have h1:=hm.c1
 have sb:=hm.sb
 have sg:=hm.sg
 have HM:=hid hm
 clear hm
 go_enter Tryz.func34,Tryz.ntmps34
 go_wp2_with fail
 go_region_with (go_at_call 72;refine(clone_u64 g _ cap xs _ rfl HM.out.len (fun i hi=>by simpa using HM.out.cg i hi)).mono ?_;rintro e w1 ⟨g',cap',cur,rfl,q1,q2,q3,q4,q5,q6,q7⟩;have k1:=(q7.cell (p:=⟨b,0,none⟩) (by simpa using sb)).trans (by simpa using h0);have k2:=(q7.cell (p:=⟨b,1,none⟩) (by simpa using sb)).trans (by simpa using h1))
 all_goals
  go_wp2
  go_ret
  exact copy_end HM.out.len HM.out.cnt q1 q2 q3 q4 q5 q6 q7
theorem take_eq_succ{xs ys:List Int}{k:Nat}(h:xs.take k=ys.take k)(h1:k<xs.length)(h2:k<ys.length)(hx:xs.getD k 0=ys.getD k 0):xs.take (k+1)=ys.take (k+1):=by
 rw[List.take_succ_eq_append_getElem h1,List.take_succ_eq_append_getElem h2,h]
 simp only[List.getD_eq_getElem?_getD,List.getElem?_eq_getElem h1,List.getElem?_eq_getElem h2,Option.getD_some]at hx
 rw[hx]
theorem ne_of_getD{xs ys:List Int}{k:Nat}(h:xs.getD k 0≠ys.getD k 0):decide (xs=ys)=false:=
 decide_eq_false fun e=>h (by rw[e])
theorem eq_of_take{xs ys:List Int}{k:Nat}(h1:xs.length≤k)(h2:ys.length≤k)(h:xs.take k=ys.take k):xs=ys:=by
 rwa[List.take_of_length_le h1,List.take_of_length_le h2]at h
theorem equal_u64(g1 g2:Nat)(n1 c1 n2 c2:Nat)(xs ys:List Int)(r:Bool)(w:World)(h1:n1=xs.length)(h2:n2=ys.length)(hr:r=decide (xs=ys))
 (hl1:xs.length≤65536)(hl2:ys.length≤65536)
 (hc1:∀ i,i<xs.length→w.cell? ⟨g1,i,none⟩=some (.int .u64 (xs.getD i 0)))(hc2:∀ i,i<ys.length→w.cell? ⟨g2,i,none⟩=some (.int .u64 (ys.getD i 0))) :
 Calls Tryz.prog 36 #[.slice (some ⟨g1,0,none⟩) n1 c1, .slice (some ⟨g2,0,none⟩) n2 c2] w fun e w'=>e = .returned (.bool r)∧Quiet w w':=by
 subst h1 h2
 by_cases hlen:xs.length=ys.length
 ·have HL := hid hlen
  have HR:=hid hr
  have H1:=hid hc1
  have H2:=hid hc2
  have e1:((xs.length:Int) != (ys.length:Int))=false:=by rw[hlen];simp
  clear hlen hr hc1 hc2
  go_enter Tryz.func36,Tryz.ntmps36
  go_wp2_with fail
  go_loopw [13] (fun i wr=>∃(k:Nat),k≤xs.length∧i = .int .i64 k∧Quiet w wr∧xs.take k=ys.take k) (fun i _=>xs.length - (intOf i).toNat)
  case atStart=>exact⟨0,Nat.zero_le _,rfl,Quiet.refl _,by simp⟩
  case round=>
   obtain⟨k,hk,rfl,hq,ht⟩:=hrel
   by_cases hlt:k<xs.length
   ·have hk2:k<ys.length:=by have:=HL.out;omega
    obtain⟨x,hx⟩:∃ x,x=xs.getD k 0:=⟨_,rfl⟩
    obtain⟨y,hy⟩:∃ y,y=ys.getD k 0:=⟨_,rfl⟩
    have q1:=(hq.cell ⟨g1,k,none⟩).trans (H1.out k hlt)
    have q2:=(hq.cell ⟨g2,k,none⟩).trans (H2.out k hk2)
    rw[←hx]at q1
    rw[←hy]at q2
    have HX:=hid hx
    have HY:=hid hy
    have HT:=hid ht
    clear hx hy ht
    by_cases hxy:x=y
    ·have exy:(x != y)=false:=by simpa using hxy
     have HXY:=hid hxy
     clear hxy
     go_wp2_with fail
     go_quiet (fail)
     all_goals
      go_wp2
      go_roundw
      case rel=>exact⟨k+1,by omega,by go_num,hq.drewN _,take_eq_succ HT.out hlt hk2 (HX.out ▸ HY.out ▸ HXY.out)⟩
      case measure=>simp[intOf];omega
    ·have exy:(x != y)=true:=by simpa using hxy
     have HXY:=hid hxy
     clear hxy
     go_wp2_with fail
     go_quiet (fail)
     all_goals
      go_wp2
      go_ret
      exact⟨ret_bool (by rw[HR.out];exact ne_of_getD (by rw[←HX.out, ←HY.out];exact HXY.out)),hq.drewN _⟩
   ·go_wp2
    go_ret
    exact⟨ret_bool (by rw[HR.out];exact decide_eq_true (eq_of_take (by omega) (by have:=HL.out;omega) ht)),hq⟩
 ·have e1:((xs.length:Int) != (ys.length:Int))=true:=by simp;omega
  have HR:=hid hr
  have HL:=hid hlen
  clear hr hlen hc1 hc2
  go_enter Tryz.func36,Tryz.ntmps36
  go_wp2
  go_ret
  exact⟨ret_bool (by rw[HR.out];exact(decide_eq_false (fun(h:xs=ys)=>HL.out (by rw[h])))),Quiet.refl _⟩
theorem nil_eq{xs ys:List Int}(h:xs.length=ys.length)(h0:xs.length=0):xs=ys:=by
 have h1:ys.length=0:=by omega
 rw[List.length_eq_zero_iff]at h0 h1
 rw[h0,h1]
theorem same_any(b g b' g':Nat)(xs ys:List Int)(c c':Nat)(r:Bool)(w:World)(hm:Mem w b g xs c)(hm':Mem w b' g' ys c')(hr:r=decide (xs=ys)) :
 Calls Tryz.prog 12 #[.pointer (some ⟨b,0,none⟩), .pointer (some ⟨b',0,none⟩)] w fun e w'=>e = .returned (.bool r)∧Quiet w w':=by
 have HR:=hid hr
 clear hr
 by_cases hlen:xs.length=ys.length
 ·have e1:((xs.length:Int) != (ys.length:Int))=false:=by rw[hlen];simp
  have HL:=hid hlen
  clear hlen
  obtain⟨cap,h0,_,_⟩:=hm.c0
  obtain⟨cap',h0',_,_⟩:=hm'.c0
  by_cases hz:xs.length=0
  ·have e2:((xs.length:Int) == 0)=true:=by simpa using hz
   have HZ:=hid hz
   clear hz
   go_enter Tryz.func12,Tryz.ntmps12
   go_wp2_with fail
   refine(len_any _ _ _ _ _ hm).mono ?_
   rintro e w' ⟨rfl,rfl⟩
   go_wp2_with fail
   refine(len_any _ _ _ _ _ hm').mono ?_
   rintro e w' ⟨rfl,rfl⟩
   go_wp2_with fail
   go_quiet ((go_at_call 35;exact quiet_call0 (len_any _ _ _ _ _ (hm.quiet ⟨_,rfl⟩))))
   all_goals
    go_wp2
    go_ret
    exact⟨ret_bool (by rw[HR.out];exact decide_eq_true (nil_eq HL.out HZ.out)),⟨_,rfl⟩⟩
  ·have e2:((xs.length:Int) == 0)=false:=by simpa using hz
   have HZ:=hid hz
   clear hz
   go_enter Tryz.func12,Tryz.ntmps12
   go_wp2_with fail
   refine(len_any _ _ _ _ _ hm).mono ?_
   rintro e w' ⟨rfl,rfl⟩
   go_wp2_with fail
   refine(len_any _ _ _ _ _ hm').mono ?_
   rintro e w' ⟨rfl,rfl⟩
   go_wp2_with fail
   go_quiet ((first | (go_at_call 35;exact quiet_call0 (len_any _ _ _ _ _ (hm.quiet ⟨_,rfl⟩))) | (go_at_call 36;exact quiet_call (equal_u64 g g' _ _ _ _ xs ys r _ rfl rfl HR.out hm.len hm'.len (fun i hi=>by simpa using hm.cg i hi) (fun i hi=>by simpa using hm'.cg i hi)))))
   all_goals
    go_wp2
    go_ret
    exact⟨rfl,⟨_,rfl⟩⟩
 ·have e1:((xs.length:Int) != (ys.length:Int))=true:=by simp;omega
  have HL:=hid hlen
  clear hlen
  go_enter Tryz.func12,Tryz.ntmps12
  go_wp2_with fail
  refine(len_any _ _ _ _ _ hm).mono ?_
  rintro e w' ⟨rfl,rfl⟩
  go_wp2_with fail
  refine(len_any _ _ _ _ _ hm').mono ?_
  rintro e w' ⟨rfl,rfl⟩
  go_wp2
  go_ret
  exact⟨ret_bool (by rw[HR.out];exact(decide_eq_false (fun(h:xs=ys)=>HL.out (by rw[h])))),Quiet.refl _⟩
end Go.Proofs.YtkhigkcmgcafdaaGreatDoor.MemC
namespace Go.Proofs.YtkhigkcmgcafdaaGreatDoor
open Go.RowKit
theorem equalIn_ev(a b c d e a' b' c' d' e':Int)(w:World):(Op.equalIn 10000 38 (.agg #[.int .i64 a, .int .i64 b, .int .i64 c, .int .i64 d, .int .i64 e]) (.agg #[.int .i64 a', .int .i64 b', .int .i64 c', .int .i64 d', .int .i64 e'])).run Tryz.prog w = .ok (decide (((a,b,c,d,e):Ev)=(a',b',c',d',e'))) w:=by
 have u0:=Tryz.underlying36
 have u1:=Tryz.underlying3
 have u2:=Tryz.underlying2
 have hS:Tryz.prog.underlying 38=some (.struct (Tryz.prog.fieldsOf 38)):=by kernel_rfl
 have hp:Tryz.prog.stoodInHeld 38=false:=by kernel_rfl
 rw[show (10000:Nat)=9999+1 from rfl,run_equalIn_agg w 9999 38 _ _ hS hp]
 simp only[Program.fieldsOf,Tryz.underlying38]
 go_simp
 by_cases h1:a=a' <;> by_cases h2:b=b' <;> by_cases h3:c=c' <;> by_cases h4:d=d' <;> by_cases h5:e=e' <;> simp[h1,h2,h3,h4,h5]
theorem wSmall(p m g:Int)(hp:0≤p∧p≤255)(hm:0≤m∧m≤255)(hg:0≤g∧g≤255)(w:World):Calls Tryz.prog 28 #[.int .u8 p, .int .u8 m, .int .u8 g] w fun e w'=>e = .returned (.agg #[.int .i64 (1+p % 4), .int .i64 (1+p % 4+m % 3), .int .i64 (1+g % 12)])∧Below w.heap.size w w':=by
 have ep:p.tmod 4=p % 4:=Int.tmod_eq_emod_of_nonneg hp.1
 have em:m.tmod 3=m % 3:=Int.tmod_eq_emod_of_nonneg hm.1
 have eg:g.tmod 12=g % 12:=Int.tmod_eq_emod_of_nonneg hg.1
 have w1:IntKind.i64.wrap (1+p % 4)=1+p % 4:=IntWalk.i64_in _ (by omega)
 have w2:IntKind.i64.wrap (1+p % 4+m % 3)=1+p % 4+m % 3:=IntWalk.i64_in _ (by omega)
 have w3:IntKind.i64.wrap (1+g % 12)=1+g % 12:=IntWalk.i64_in _ (by omega)
 have v1:IntKind.i64.wrap (p % 4)=p % 4:=IntWalk.i64_in _ (by omega)
 have v2:IntKind.i64.wrap (m % 3)=m % 3:=IntWalk.i64_in _ (by omega)
 have v3:IntKind.i64.wrap (g % 12)=g % 12:=IntWalk.i64_in _ (by omega)
 have u1:IntKind.u8.wrap (p % 4)=p % 4:=by simp[IntKind.wrap,IntKind.bits,IntKind.signed];omega
 have u2:IntKind.u8.wrap (m % 3)=m % 3:=by simp[IntKind.wrap,IntKind.bits,IntKind.signed];omega
 have u3:IntKind.u8.wrap (g % 12)=g % 12:=by simp[IntKind.wrap,IntKind.bits,IntKind.signed];omega
 go_enter Tryz.func28,Tryz.ntmps28
 go_wp2
 refine bodyPost_ret (v := .agg #[.int .i64 (1+p % 4), .int .i64 (1+p % 4+m % 3), .int .i64 (1+g % 12)]) (by simp[results,Tryz.results28,go_sem]) rfl ⟨rfl,(Below.refl _ _).alloc (Nat.le_refl _) _⟩
def smP (p:Int):Nat:=1+(p % 4).toNat
def smM (p m:Int):Nat:=1+(p % 4).toNat+(m % 3).toNat
def smG (g:Int):Nat:=1+(g % 12).toNat
theorem sm_cfg(p m g:Int):Y.Cfg (smP p) (smM p m) (smG g):=by unfold Y.Cfg smP smM smG;omega
theorem sm_ok(p m g:Int):OkC (smP p) (smM p m) (smG g):=by unfold OkC smP smM smG;omega
theorem wBegin(p m g:Int)(hp:0≤p∧p≤255)(hm:0≤m∧m≤255)(hg:0≤g∧g≤255)(w:World)(T:DbTab w)(T1:MaPlaces w)(T2:EvNames w)(T3:EvSteps w)(U1:0<w.heap.size)(U2:2<w.heap.size)(U3:1<w.heap.size) :
 Calls Tryz.prog 7 #[.int .u8 p, .int .u8 m, .int .u8 g] w fun e w'=>∃ B o,e = .returned (.pointer (some ⟨B.W,0,none⟩))∧w.heap.size≤B.N0∧WR B o 1 (Y.V.new (smP p) (smM p m) (smG g)) w'∧Below w.heap.size w w':=by
 have SM:=hid (wSmall p m g hp hm hg w)
 have NW:=hid (fun(y:World) (hb:Below w.heap.size w y)=>(show Calls Tryz.prog 25 #[.agg #[.int .i64 (1+p % 4), .int .i64 (1+p % 4+m % 3), .int .i64 (1+g % 12)]] y fun e w'=>∃ B o,e = .returned (.tuple #[.pointer (some ⟨B.W,0,none⟩), .int .i64 0])∧w.heap.size≤B.N0∧WR B o 1 (Y.V.new (smP p) (smM p m) (smG g)) w'∧Below w.heap.size w w' by
  have e1:((smP p:Nat):Int)=1+p % 4:=by unfold smP;omega
  have e2:((smM p m:Nat):Int)=1+p % 4+m % 3:=by unfold smM;omega
  have e3:((smG g:Nat):Int)=1+g % 12:=by unfold smG;omega
  have hs:=hb.size
  have:=wnew_W (smP p) (smM p m) (smG g) (sm_ok p m g) y (T.at hb) (T1.at hb) (T2.at hb) (T3.at hb) (by omega) (by omega) (by omega)
  rw[e1,e2,e3]at this
  refine this.mono ?_
  rintro e z ⟨B,o,rfl,hN,h,hz⟩
  exact⟨B,o,rfl,by rw[hN];exact hs,h,hb.trans (hz.mono hs)⟩))
 generalize Y.V.new (smP p) (smM p m) (smG g)=v at NW ⊢
 clear T T1 T2 T3 U1 U2 U3 hp hm hg
 go_enter Tryz.func7,Tryz.ntmps7
 go_wp2_with fail
 refine SM.out.mono ?_
 rintro e y ⟨rfl,hb⟩
 have N2:=hid (NW.out y hb)
 clear hb SM NW
 go_wp2_with fail
 refine N2.out.mono ?_
 rintro e z ⟨B,o,rfl,h1,h2,h3⟩
 have FIN:=hid (And.intro h1 (And.intro h2 h3))
 clear h1 h2 h3 N2
 go_wp2
 go_ret
 exact⟨B,o,rfl,FIN.out.1,FIN.out.2.1,FIN.out.2.2⟩
section
variable {B Bx By:Bk}{o o' ox oy:Nat→Nat}{n n' nx ny:Nat}{v v' vx vy:Y.V}{w w' w0:World}
theorem WR.far(h:WR B o n v w)(h1:w'.os=w.os)(h2:w'.tape=w.tape)(h3:w'.output=w.output)(hs:w.heap.size≤w'.heap.size)(hk:∀ k,k<w.heap.size→o k≠0→w'.heap[k]? = w.heap[k]?)(ht:∀ k,k=0∨k=2∨k=1∨k=3→w'.heap[k]? = w.heap[k]?):WR B o n v w':=by
 have hf:Fm o (fun c=>c=0) w w':=⟨h1,h2,h3,hs,hk⟩
 have hx:Ox o o (fun c=>c=0) w w' := .refl h hs
 obtain⟨T1,T2,T3⟩:=tabs h.c0.T1 h.c0.T2 h.c0.T3 (ht _ (.inl rfl)) (ht _ (.inr (.inl rfl))) (ht _ (.inr (.inr (.inl rfl))))
 refine⟨⟨fun k hk=>⟨(h.c0.ow k hk).1,Nat.lt_of_lt_of_le (h.c0.ow k hk).2 hs⟩,T1,T2,T3,h.c0.U1,h.c0.U2,h.c0.U3,h.c0.U4⟩,h.c1.keep hf hx (by decide) ⟨rfl,rfl,rfl,rfl⟩,h.c2.keep hf hx (by decide) ⟨rfl,rfl⟩,h.c3.keep (Nat.le_refl _) hf hx (by decide) rfl,h.c4.keep hf hx (by decide) rfl,h.c5.keep hf hx (by decide) ⟨rfl,rfl⟩,h.c6.keep hf hx (by decide) (by decide) ⟨rfl,rfl⟩,h.c8.keep hf hx ⟨by decide,by decide⟩ ⟨rfl,rfl⟩,h.c10.keep hf hx (by decide) ⟨rfl,rfl⟩,?_⟩
 have c:=h.c11
 unfold C11 at c ⊢
 refine c.rez (fun k k1 k2=>hk k k2 (fun e=>k1 ⟨k2,by rw[e];decide⟩)) (ht _ (.inr (.inr (.inr rfl)))) (fun k k1 k2 k3=>k1 ⟨k2,k3.2⟩) (fun k hk=>hk.1) ⟨Nat.lt_of_lt_of_le h.bruijn.1 hs,by rw[h.bruijn.2];decide⟩
def Tw (w0:World)(Bx By:Bk)(nx ny:Nat)(vx vy:Y.V)(w:World):Prop:=
 ∃ ox oy,WR Bx ox nx vx w∧WR By oy ny vy w∧(∀ k,ox k≠0→oy k=0)∧Below w0.heap.size w0 w∧w0.heap.size≤Bx.N0∧w0.heap.size≤By.N0
theorem Tw.below(h:Tw w0 Bx By nx ny vx vy w)(hb:Below w.heap.size w w'):Tw w0 Bx By nx ny vx vy w':=by
 obtain⟨ox,oy,h1,h2,h3,h4,h5,h6⟩:=h
 exact⟨ox,oy,h1.below hb,h2.below hb,h3,h4.trans (hb.mono h4.size),h5,h6⟩
theorem Tw.x(h:Tw w0 Bx By nx ny vx vy w){f:Nat}{args:Array Value}{x:Value}{v':Y.V}(hc:∀ o,WR Bx o nx vx w→(∀ k,k<w0.heap.size→o k=0)→Calls Tryz.prog f args w (Po Bx o n' x v' w)):Calls Tryz.prog f args w fun e w'=>e = .returned x∧Tw w0 Bx By n' ny v' vy w':=by
 obtain⟨ox,oy,h1,h2,h3,h4,h5,h6⟩:=h
 refine(hc ox h1 (fun k hk=>h1.low (by omega))).mono ?_
 rintro e y ⟨rfl,o2,k1,k2⟩
 have tab:∀ k,k<By.N0→k<Bx.N0→y.heap[k]? = w.heap[k]?:=fun k _ hk=>k2.keep k (Nat.lt_of_lt_of_le hk h1.N0) (h1.low hk)
 refine⟨rfl,o2,oy,k1,h2.far k2.os k2.tape k2.output k2.size (fun k hk ho=>k2.keep k hk ?_) (fun k hk => ?_),fun k hk => ?_,h4.trans ((k2.below h1).mono (by omega)),h5,h6⟩
 ·by_cases e:ox k=0
  ·exact e
  ·exact absurd (h3 k e) ho
 ·have a1:=h1.c0.U1
  have a2:=h1.c0.U2
  have a3:=h1.c0.U3
  have a4:=h1.c0.U4
  have hN:=h1.N0
  rcases hk with rfl|rfl|rfl|rfl
  ·exact k2.keep _ (by omega) (h1.low a1)
  ·exact k2.keep _ (by omega) (h1.low a2)
  ·exact k2.keep _ (by omega) (h1.low a3)
  ·exact k2.keep _ (by omega) (h1.low a4)
 ·by_cases hl:k<w.heap.size
  ·rw[k2.old k hl]at hk;exact h3 k hk
  ·exact h2.fresh (by omega)
theorem Tw.two(h1:WR Bx ox nx vx w)(hb1:Below w0.heap.size w0 w)(h5:w0.heap.size≤Bx.N0)(h2:WR By oy ny vy w')(hb:Below w.heap.size w w')(hN:w.heap.size≤By.N0):Tw w0 Bx By nx ny vx vy w':=by
 have:=hb1.size
 refine⟨ox,oy,h1.below hb,h2,fun k hk=>h2.low ?_,hb1.trans (hb.mono hb1.size),h5,by omega⟩
 have:=(h1.c0.ow k hk).2
 omega
theorem wmemory(h:WR B o n v w):Calls Tryz.prog 11 #[.pointer (some ⟨B.W,0,none⟩)] w (MemC.CopyPost v.ms v.mc w):=by
 have a3:=h.w3
 have C1:=hid (MemC.copy_any B.b1 B.g1 v.ms v.mc w h.c2.2)
 generalize v.ms=ms at C1 ⊢
 generalize v.mc=mc at C1 ⊢
 clear h
 go_enter Tryz.func11,Tryz.ntmps11
 go_wp2_with fail
 refine C1.out.mono ?_
 rintro e y ⟨b',g',rfl,h⟩
 have H:=hid h
 clear h C1
 go_wp2
 go_ret
 exact⟨b',g',rfl,H.out⟩
end
theorem RdE.blocks{w w':World}{v:Value}{es:List Ev}(h:RdE w v es)(hs:w.heap.size≤w'.heap.size)(hk:∀ k,v.ownBlock=some k→k<w.heap.size→w'.heap[k]? = w.heap[k]?):RdE w' v es:=by
 obtain⟨a,c,h1,h2,h4⟩:=h
 refine⟨a,c,h1,h2,fun h0 => ?_⟩
 obtain⟨g,off,e,hg,hc⟩:=h4 h0
 have hb:w'.heap[g]? = w.heap[g]?:=hk g (by rw[h1,e];rfl) hg
 have hcc:∀ j,w'.cell? ⟨g,j,none⟩=w.cell? ⟨g,j,none⟩:=fun j=>World.cell?_of_block (a:=⟨g,j,none⟩) hb
 refine⟨g,off,e,by omega,fun i hi => ?_⟩
 rw[hcc,hcc,hcc,hcc,hcc]
 exact hc i hi
def stsOf(Z:Nat→Nat→Int)(n:Nat):List Y.St:=(List.range n).map fun i=>⟨Z i 0,Z i 1,Z i 2,Z i 3,Z i 4⟩
theorem stsOf_len(Z:Nat→Nat→Int)(n:Nat):(stsOf Z n).length=n:=by simp[stsOf]
theorem stsOf_at(Z:Nat→Nat→Int)(n i:Nat)(h:i<n):stAt (stsOf Z n) i=⟨Z i 0,Z i 1,Z i 2,Z i 3,Z i 4⟩:=by
 unfold stAt stsOf
 simp[h]
theorem stp_of{w w':World}{a:Option Addr}{len cap:Nat}{Z:Nat→Nat→Int}(h:IsStructs [.u8, .u8, .i64, .i64, .i64] w a len cap Z)(hb:Below w.heap.size w w')(o:Nat→Nat)(ho:∀ k,k<w.heap.size→o k=0):Stp o w' a (stsOf Z len):=by
 have hs:=hb.size
 refine⟨fun i hi => ?_,fun h0 => ?_⟩
 ·rw[stsOf_len]at hi
  rw[stsOf_at _ _ _ hi]
  obtain⟨bx,off,_,hc⟩:=h.open (by omega) (by decide)
  have hc:=hc w (Below.refl _ _) i hi
  exact⟨bounds_u8 (hc 0 .u8 rfl).2,bounds_u8 (hc 1 .u8 rfl).2,bounds_i64 (hc 2 .i64 rfl).2,bounds_i64 (hc 3 .i64 rfl).2,bounds_i64 (hc 4 .i64 rfl).2⟩
 ·rw[stsOf_len]at h0
  obtain⟨bx,off,rfl,hc⟩:=h.open h0 (by decide)
  have hlt:bx<w.heap.size:=cell_ltE (hc w (Below.refl _ _) 0 h0 0 .u8 rfl).1
  refine⟨bx,off,rfl,by omega,ho bx hlt,fun i hi => ?_⟩
  rw[stsOf_len]at hi
  rw[stsOf_at _ _ _ hi]
  have q0:=(hc w' hb i hi 0 .u8 rfl).1
  have q1:=(hc w' hb i hi 1 .u8 rfl).1
  have q2:=(hc w' hb i hi 2 .i64 rfl).1
  have q3:=(hc w' hb i hi 3 .i64 rfl).1
  have q4:=(hc w' hb i hi 4 .i64 rfl).1
  simp only[List.length_cons,List.length_nil,Nat.reduceAdd,Nat.add_zero, ←Nat.add_assoc]at q0 q1 q2 q3 q4
  exact⟨q0,q1,q2,q3,q4⟩
section
variable {B Bx By:Bk}{o o' ox oy:Nat→Nat}{n n' nx ny:Nat}{v v' vx vy:Y.V}{w w' w0 w1 wr:World}
theorem Tw.y2(h:Tw w0 Bx By nx ny vx vy wr)(hb:Below wr.heap.size wr w1){f:Nat}{args:Array Value}{x:Value}{v':Y.V}(hc:∀ o,WR By o ny vy w1→(∀ k,k<w0.heap.size→o k=0)→Calls Tryz.prog f args w1 (Po By o n' x v' w1)) :
 Calls Tryz.prog f args w1 fun e w2=>e = .returned x∧Tw w0 Bx By nx n' vx v' w2∧w1.heap.size≤w2.heap.size ∧ ∀ k,wr.heap.size≤k→k<w1.heap.size→w2.heap[k]? = w1.heap[k]?:=by
 obtain⟨ox,oy,h1,h2,h3,h4,h5,h6⟩:=h
 have k1:=h1.below hb
 have k2:=h2.below hb
 have hs:=hb.size
 have ds:∀ k,oy k≠0→ox k=0:=fun k hk=>by
  by_cases e:ox k=0
  ·exact e
  ·exact absurd (h3 k e) hk
 refine(hc oy k2 (fun k hk=>k2.low (by omega))).mono ?_
 rintro e y ⟨rfl,o2,m1,m2⟩
 refine⟨rfl,⟨ox,o2,k1.far m2.os m2.tape m2.output m2.size (fun k hk ho=>m2.keep k hk (h3 k ho)) (fun k hk => ?_),m1,fun k hk => ?_,(h4.trans (hb.mono h4.size)).trans ((m2.below k2).mono (by omega)),h5,h6⟩,m2.size,fun k a b=>m2.keep k b (h2.fresh a)⟩
 ·have a1:=k2.c0.U1
  have a2:=k2.c0.U2
  have a3:=k2.c0.U3
  have a4:=k2.c0.U4
  have hN:=k2.N0
  rcases hk with rfl|rfl|rfl|rfl
  ·exact m2.keep _ (by omega) (k2.low a1)
  ·exact m2.keep _ (by omega) (k2.low a2)
  ·exact m2.keep _ (by omega) (k2.low a3)
  ·exact m2.keep _ (by omega) (k2.low a4)
 ·by_cases hl:k<w1.heap.size
  ·rw[m2.old k hl];exact h3 k hk
  ·exact absurd (k1.fresh (by omega)) hk
end
end Go.Proofs.YtkhigkcmgcafdaaGreatDoor
namespace Go.Proofs.YtkhigkcmgcafdaaGreatDoor.Y
def Pf (v v':V):Prop:=v.lg <+: v'.lg
section
variable {i:Nat}{v v' v2:V}
theorem Pf.refl(v:V):Pf v v:=List.prefix_refl _
theorem Pf.trans(h:Pf v v')(k:Pf v' v2):Pf v v2:=List.IsPrefix.trans h k
theorem Pf.same(h:Pf v v')(e:v2.lg=v'.lg):Pf v v2:=by unfold Pf;rw[e];exact h
theorem Pf.see(h:Pf v v')(e:Ev):Pf v (v'.see e):=List.IsPrefix.trans h (List.prefix_append _ _)
theorem pf1{c:Prop}[Decidable c]{a b:V × Bool}(h1:c→Pf v a.1)(h2:¬c→Pf v b.1):Pf v (if c then a else b).1:=by
 split
 ·rename_i hc;exact h1 hc
 ·rename_i hc;exact h2 hc
theorem pf2{c:Prop}[Decidable c]{a b:V}(h1:c→Pf v a)(h2:¬c→Pf v b):Pf v (if c then a else b):=by
 split
 ·rename_i hc;exact h1 hc
 ·rename_i hc;exact h2 hc
theorem Pf.leave(h:Pf v v')(k x:Int):Pf v (v'.leave i k x):=(h.see _).same rfl
theorem pf_release:Pf v (v.release i):=by
 unfold V.release
 exact pf2 (fun _=>(Pf.refl v).same rfl) fun _=>(Pf.refl v).same rfl
theorem pf_stop:Pf v (v.stop i):=by
 unfold V.stop
 exact pf2 (fun _=>(Pf.refl v).same rfl) fun _=>(Pf.refl v).same rfl
theorem pf_find(tm:Int):Pf v (v.find i tm).1:=by
 unfold V.find
 refine pf1 (fun _=>(Pf.refl v).same rfl) fun _ => ?_
 refine pf1 (fun _ => ?_) fun _=>Pf.refl v
 exact pf1 (fun _=>(Pf.refl v).same rfl) fun _=>(Pf.refl v).same rfl
theorem pf_give(tm:Int):Pf v (v.give i tm).1:=by
 unfold V.give
 refine pf1 (fun _=>(Pf.refl v).same rfl) fun _ => ?_
 refine pf1 (fun _=>(Pf.refl v).same rfl) fun _ => ?_
 refine pf1 (fun _=>(Pf.refl v).same rfl) fun _ => ?_
 refine pf1 (fun _=>(Pf.refl v).same rfl) fun _ => ?_
 refine pf1 (fun _=>pf_find tm) fun _ => ?_
 refine pf1 (fun _ => ?_) fun _ => ?_
 ·unfold V.park
  exact pf1 (fun _=>(Pf.refl v).leave _ _) fun _=>(Pf.refl v).same rfl
 refine pf1 (fun _ => ?_) fun _=>Pf.refl v
 unfold V.await
 exact pf1 (fun _=>(Pf.refl v).leave _ _) fun _=>(Pf.refl v).same rfl
theorem one_lg:v.one.2.lg=v.lg:=by
 unfold V.one
 split <;> rfl
theorem pf_with(tm:Int):Pf v (v.with' i tm).1:=by
 have S:∀ {v2:V},v2.lg=v.lg→Pf v v2:=fun e=>(Pf.refl v).same e
 unfold V.with'
 refine pf1 (fun _=>S one_lg) fun _ => ?_
 refine pf1 (fun _=>S rfl) fun _ => ?_
 refine pf1 (fun _=>S rfl) fun _ => ?_
 refine pf1 (fun _=>S rfl) fun _ => ?_
 refine pf1 (fun _=>pf_release) fun _ => ?_
 refine pf1 (fun _=>S rfl) fun _ => ?_
 refine pf1 (fun _=>S rfl) fun _ => ?_
 refine pf1 (fun _=>S rfl) fun _ => ?_
 refine pf1 (fun _=>pf_stop) fun _ => ?_
 refine pf1 (fun _=>S rfl) fun _ => ?_
 refine pf1 (fun _=>S rfl) fun _ => ?_
 refine pf1 (fun _=>S rfl) fun _=>pf_give tm
theorem pf_sect:Pf v (v.sect i):=by
 unfold V.sect
 refine pf2 (fun _=>(Pf.refl v).same rfl) fun _ => ?_
 refine pf2 (fun _=>(Pf.refl v).same rfl) fun _ => ?_
 refine pf2 (fun _ => ?_) fun _ => ?_
 ·exact(pf_with (v.mach i).tm).same rfl
 exact pf2 (fun _=>(Pf.refl v).same rfl) fun _=>Pf.refl v
theorem pf_locked:Pf v (v.locked i):=by
 unfold V.locked
 split
 ·exact pf_sect
 ·exact Pf.trans ((Pf.refl v).same (v2:=v.onM i fun m=>m.into (m.lock v.P)) rfl) pf_sect
theorem pf_pass:Pf v (v.pass i):=by
 have S:∀ {v2:V},v2.lg=v.lg→Pf v v2:=fun e=>(Pf.refl v).same e
 unfold V.pass
 refine pf2 (fun _=>S rfl) fun _ => ?_
 refine pf2 (fun _=>S rfl) fun _ => ?_
 refine pf2 (fun _=>S rfl) fun _ => ?_
 refine pf2 (fun _=>S rfl) fun _ => ?_
 refine pf2 (fun _=>S rfl) fun _ => ?_
 refine pf2 (fun _=>S rfl) fun _ => ?_
 refine pf2 (fun _=>((Pf.refl v).see _).same rfl) fun _ => ?_
 refine pf2 (fun _=>S rfl) fun _ => ?_
 refine pf2 (fun _=>S rfl) fun _ => ?_
 refine pf2 (fun _=>S rfl) fun _ => ?_
 exact pf2 (fun _=>((Pf.refl v).see _).same rfl) fun _=>Pf.refl v
theorem pf_bring(k x f:Int):Pf v (v.bring i k x f).1:=by
 unfold V.bring
 exact pf1 (fun _=>Pf.refl v) fun _=>((Pf.refl v).see _).same rfl
theorem pf_act(s:St):Pf v (v.act i s).1:=by
 unfold V.act
 refine pf1 (fun _=>Pf.refl v) fun _ => ?_
 refine pf1 (fun _ => ?_) fun _ => ?_
 ·exact(Pf.leave (v':=v.onM i fun m => { m with got:=m.g }) ((Pf.refl v).same rfl) 3 0).same rfl
 refine pf1 (fun _=>((Pf.refl v).leave 4 0).same rfl) fun _ => ?_
 refine pf1 (fun _=>((Pf.refl v).leave 7 0).same rfl) fun _ => ?_
 refine pf1 (fun _=>pf_bring _ _ _) fun _ => ?_
 refine pf1 (fun _=>pf_bring _ _ _) fun _ => ?_
 refine pf1 (fun _=>(Pf.refl v).same rfl) fun _ => ?_
 refine pf1 (fun _ => ?_) fun _=>Pf.refl v
 exact pf1 (fun _=>(Pf.refl v).same rfl) fun _=>Pf.refl v
theorem pf_tell:Pf v v.tell:=by
 unfold V.tell
 split
 ·exact(Pf.refl v).same rfl
 ·exact Pf.refl v
theorem pf_step(s:St):Pf v (v.step s).1:=by
 unfold V.step
 refine pf1 (fun _ => ?_) fun _ => ?_
 ·unfold V.pick
  refine pf1 (fun _=>Pf.refl v) fun _ => ?_
  unfold V.pickAt
  refine pf1 (fun _=>pf_act s) fun _ => ?_
  exact pf1 (fun _=>pf_locked) fun _=>pf_pass
 refine pf1 (fun _=>Pf.trans ((Pf.refl v).same (v2:=v.putS (v.sr.tick s.d)) rfl) pf_tell) fun _ => ?_
 refine pf1 (fun _ => ?_) fun _=>Pf.refl v
 refine pf1 (fun _ => ?_) fun _=>Pf.refl v
 split
 ·exact Pf.refl v
 ·rename_i t _
  exact Pf.trans ((Pf.refl v).same (v2:=v.putS t) rfl) pf_tell
theorem pf_run(l:List St):Pf v (v.run l):=by
 induction l generalizing v with
 | nil=>exact Pf.refl v
 | cons s l ih=>exact Pf.trans (pf_step s) ih
theorem lg_pos{P M G:Nat}(l:List St):0<((V.new P M G).run l).lg.length:=by
 have:=(pf_run (v:=V.new P M G) l).length_le
 have e:(V.new P M G).lg.length=1:=rfl
 omega
end
end Go.Proofs.YtkhigkcmgcafdaaGreatDoor.Y
