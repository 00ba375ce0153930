/- Of Us. -/
import Derived.Test.YtkhigkcmgcafdaaGreatDoorZ17
set_option linter.unusedVariables false
set_option linter.unusedSimpArgs false
set_option maxHeartbeats 16000000
set_option maxRecDepth 20000
namespace Go.Proofs.YtkhigkcmgcafdaaGreatDoor
open Go.RowKit
section
variable {B:Bk}{o o':Nat→Nat}{N n n' r g:Nat}{v v':Y.V}{w w' wx:World}{C:Nat→Prop}{i p:Nat}{tm:Int}
theorem tofw(b g:Nat)(xs:List Int)(c:Nat)(f n j v:Int)(w:World)(hm:Mem w b g xs c)(hc:c<1000000)(hf:0≤f)(j0:0≤j)(j1:j<n)(hl:f+j<xs.length)(hx:xs.length≤100000)(hv:xs.getD (f+j).toNat 0=v)(hv7:v<7) :
 Calls Tryz.prog 57 #[.agg #[.int .i64 f, .int .i64 n], .pointer (some ⟨b,0,none⟩), .int .i64 j] w fun e w'=>e = .returned (.int .u64 v)∧Mem w' b g xs (c+1)∧Only b g w w':=by
 have hwr:IntKind.i64.wrap (f+j)=f+j:=IntWalk.i64_in _ (by omega)
 have B0:=hid (bla w (.cells #[.int .i64 f, .int .i64 n] 76))
 have BX:=hid (heap_alloc_new w (.cells #[.int .i64 f, .int .i64 n] 76))
 have TH:=hid (fun y:World=>thas_in0 f n j y j0 j1)
 have LD:=hid (fun(y:World) (hy:Mem y b g xs c)=>load_in b g xs c (f+j) y hy (by omega) (by omega) (by omega))
 rw[hv]at LD
 have HM:=hid hm
 clear hm hc hf j0 j1 hl hx hv
 go_enter Tryz.func57,Tryz.ntmps57
 go_wp2_with fail
 refine(TH.out _).mono ?_
 rintro e w2 ⟨rfl,hb⟩
 have B2:=hid (B0.out.trans (hb.mono B0.out.size))
 have X2:=(hb.block _ (by simp)).trans BX.out
 have c0:w2.cell? ⟨w.heap.size,0,none⟩=some (.int .i64 f):=by simp[World.cell?,X2]
 have M2:=hid (HM.out.below B2.out HM.out.sb HM.out.sg)
 clear hb X2
 go_wp2_with fail
 refine(LD.out _ M2.out).mono ?_
 rintro e w3 ⟨rfl,hm3,ho3⟩
 have M3:=hid hm3
 have O3:=hid ((Only.of_below B2.out).trans ho3)
 clear hm3 ho3 c0 M2
 go_wp2
 go_ret
 exact⟨rfl,M3.out,O3.out⟩
theorem wstatus(h:WR B o n v w)(hf:Few n v){j:Int}(j0:0≤j)(j1:j<v.G)(h7:v.stat j<7) :
 Calls Tryz.prog 27 #[.pointer (some ⟨B.W,0,none⟩), .int .i64 j] w (Po B o (n+1) (.int .u64 (v.stat j)) v w):=by
 have a4:=h.w4
 have a7:=h.w7
 have a8:=h.w8
 obtain⟨_,d,hd,m2⟩:=h.c3
 have hw:v.wds=v.sts+v.G:=rfl
 have hwd:=hf.wd
 have hns:=hf.ns
 have hn:=hf.n
 have hv:v.ns.getD ((v.sts:Nat)+j).toNat 0=v.stat j:=by
  unfold Y.V.stat
  rw[if_pos ⟨j0,j1⟩,show ((v.sts:Nat)+j).toNat=v.sts+j.toNat by omega]
 have TS:=hid (fun(y:World) (hq:Quiet w y)=>(tofw B.b2 B.g2 v.ns d (v.sts:Nat) v.G j (v.stat j) y (m2.quiet hq) (by omega) (by omega) j0 j1 (by omega) (by omega) hv h7).mono (R':=Po B o (n+1) (.int .u64 (v.stat j)) v w) fun e w' hx=>⟨hx.1,o,h.mem2 (Nat.le_succ n) (by omega) hx.2.1 ((Only.of_quiet hq).trans hx.2.2)⟩)
 generalize v.stat j=z at TS
 generalize hst:((v.sts:Nat):Int)=st at a7 TS
 generalize hgg:((v.G:Nat):Int)=gg at a8 TS
 clear h hf j0 j1 h7 m2 hw hwd hns hn hv hd hst hgg
 go_enter Tryz.func27,Tryz.ntmps27
 go_wp2_with fail
 go_region_with (go_at_call 57;refine(TS.out _ ⟨_,rfl⟩).mono ?_;rintro e w5 ⟨rfl,o5,h5,e5⟩)
 all_goals
  have H5:=hid h5
  have E5:=hid e5
  clear h5 e5
  go_wp2
  go_ret
  exact⟨rfl,o5,H5.out,E5.out⟩
end
end Go.Proofs.YtkhigkcmgcafdaaGreatDoor
