/- Of WhE. -/
import Derived.Test.YtkhigkcmgcafdaaGreatDoorZ7
set_option linter.unusedVariables false
set_option linter.unusedSimpArgs false
set_option maxHeartbeats 16000000
set_option maxRecDepth 20000
namespace Go.Proofs.YtkhigkcmgcafdaaGreatDoor
open Go.RowKit
theorem wnew_nat(P M:Nat)(g:Int)(hok:OkC P M g)(w:World)(T:DbTab w)(T2:EvNames w)(T3:EvSteps w)(U2:2<w.heap.size)(U3:1<w.heap.size) :
 Calls Tryz.prog 25 #[.agg #[.int .i64 (P:Int), .int .i64 (M:Int), .int .i64 g]] w fun e w'=>∃ x,e = .returned (.tuple #[.pointer (some ⟨x,0,none⟩), .int .i64 0])∧Nw0 w P M g x w':=by
 have hok':=hok
 obtain⟨h1,h2,h3,h4,h5,h6⟩:=hok'
 obtain⟨wd,hwd⟩:∃ wd:Nat,(wd:Int)=2*((P:Int)+2)+1+(M:Int)+g:=⟨(2*((P:Int)+2)+1+(M:Int)+g).toNat,by omega⟩
 refine wnew_yes P M g hok w (JW w P M wd g) (fun x w'=>Nw0 w P M g x w') (jw_ok w P M wd g _ hok hwd rfl T) (fun y hb hs=>jw_0 w y P M wd g hb hs) (fun y b1 b2 tb q sb ib mb hJ => ?_)
 obtain⟨g1,g2,p,r,lo,hi,hA⟩:=jw_all hJ
 have U:=T.lt
 have hge:=hA.ge
 have hmb:=blk_lt hA.ma
 have a4:=hA.a4
 have hh:=hA.hh
 obtain⟨y1,hy1⟩:∃ y1,y1=y.alloc (.cells (wcG P M g (2*((P:Int)+2)) (2*((P:Int)+2)+1) (2*((P:Int)+2)+1+(M:Int)) b1 b2 tb q sb ib mb) 84):=⟨_,rfl⟩
 have hb:Below y.heap.size y y1:=by rw[hy1];exact bla y _
 have hnew:y1.heap[y.heap.size]? = some (.cells (wcR P M g (2*((P:Int)+2)) (2*((P:Int)+2)+1) (2*((P:Int)+2)+1+(M:Int)) b1 b2 (.slice none 0 0) tb q sb ib mb (.slice none 0 0)) 84 (0,0)):=by rw[hy1];exact heap_alloc_new y _
 have hs1:y1.heap.size=y.heap.size+1:=by rw[hy1];simp
 rw[←hy1]
 clear hy1
 have L:L1 y1 y.heap.size lo hi P M g (2*((P:Int)+2)) (2*((P:Int)+2)+1) (2*((P:Int)+2)+1+(M:Int)) b1 b2 tb q sb ib mb (.slice none 0 0) [] [] 0 0 y1:=
  ⟨hnew,World.ownsRow_nil _ _ _ _,⟨fun g hg=>by simp at hg,List.nodup_nil⟩,⟨fun k=>k<lo∨(hi≤k∧k<y1.heap.size),by
   rw[idf_0]
   exact hA.id.rez (fun k _ h2=>hb.block k h2) (hb.block _ (by omega)) (fun k h1 h2=>by omega) (fun k h1=>by
    have:=hA.id.zl
    rcases h1 with h1|h1
    ·have:=this k (.inl h1);omega
    ·exact h1.2) (.inl (by omega)),fun k h1 h2=>by omega,fun k hk=>by simp[Value.ownBlock]at hk⟩,OnS.refl _ _,⟨by omega,hh,by omega,by have:=hA.bl.size;omega⟩⟩
 exact begin_gen (Ps w P M wd g (2*((P:Int)+2)) (2*((P:Int)+2)+1) (2*((P:Int)+2)+1+(M:Int)) y.heap.size b1 g1 b2 g2 tb q p sb ib mb y1.heap.size) _ (by omega) (by omega) (by omega) (by omega) L ((hb.block _ hmb).trans hA.ma) hmb a4.2.2.2.2.2.2 (by omega)
  (fun rv gs w3 hL=>psg_1 hA hb hs1 (by omega) U hL) (fun w4 h=>psg_2 hok hwd h T2 T3 U2 U3)
end Go.Proofs.YtkhigkcmgcafdaaGreatDoor
