/- Of Pre2. -/
import Derived.BigFrame
import Derived.ChangeSame
import Derived.Deep.AppendLies
import Derived.Deep.CutRange
import Derived.Deep.RegionHeld3
import Derived.Deep.RegionLaw
import Derived.Deep.WholeRow
import Derived.Laws.Bits128
import Derived.Laws.Bits64b
import Derived.Laws.BitsAllLaws
import Derived.Laws.Rows
import Derived.Laws.ShiftsVarLaws
import Derived.Lib.TrailingZeros
import Derived.WideShapes
import Derived.Test.YtkhigkcmgcafdaaGreatDoorZ1
set_option linter.unusedVariables false
set_option linter.unusedSimpArgs false
set_option maxHeartbeats 16000000
set_option maxRecDepth 100000
namespace Go.Proofs.YtkhigkcmgcafdaaGreatDoor
open Go.RowKit
def RNew (w:World)(e:Ending)(w':World):Prop:=∃ p,e = .returned (.pointer (some ⟨p,0,none⟩))∧Rg w' p [] 0 false 0∧w.heap.size≤p∧Below w.heap.size w w'
theorem get_rep(n:Nat)(v:Value)(l:List Value):(∀ i,i<n→(List.replicate n v ++ l).toArray[i]? = some v) ∧ ∀ i,(List.replicate n v ++ l).toArray[n+i]? = l[i]?:=by
 refine⟨fun i hi => ?_,fun i => ?_⟩
 ·rw[List.getElem?_toArray,List.getElem?_append_left (by simp;omega),List.getElem?_replicate,if_pos hi]
 ·rw[List.getElem?_toArray,List.getElem?_append_right (by simp)]
  simp
theorem zero_is:Tryz.zeroCells198=(List.replicate 256 (Value.int .i64 0) ++ ([.int .i64 0, .int .i64 0, .int .i64 0, .bool false, .int .i64 0]:List Value)).toArray:=by kernel_rfl
theorem rg_zero(w:World):Rg (w.alloc (.cells Tryz.zeroCells198 198)) w.heap.size [] 0 false 0:=by
 rw[zero_is]
 exact⟨⟨fun _=>0,0,⟨⟨_,Deep.blk_alloc_new _ _,(get_rep _ _ _).1,(get_rep 256 _ _).2 0,(get_rep 256 _ _).2 1,(get_rep 256 _ _).2 2,(get_rep 256 _ _).2 3,(get_rep 256 _ _).2 4⟩,by omega,by simp,fun cs t fr hc=>by
  rw[Deep.blk_alloc_new]at hc
  simp only[Option.some.injEq,Obj.cells.injEq]at hc
  rw[←hc.1,List.size_toArray,List.length_append,List.length_replicate];rfl⟩,fun i h=>by simp at h⟩⟩
theorem new_r(w:World):Calls Tryz.prog 82 #[] w (RNew w):=by
 go_enter Tryz.func82,Tryz.ntmps82
 go_wp2
 go_ret
 exact⟨w.heap.size,rfl,rg_zero w,Nat.le_refl _,(Below.refl _ _).alloc (Nat.le_refl _) _⟩
theorem putall_r(p:Nat)(xs ys:List Int)(v:Value)(nx:Int)(hs:Bool)(st:Int)(w:World)(H:Rg w p xs nx hs st)(hy:Stay w p none v ys)(hyl:ys.length≤100000) :
 Calls Tryz.prog 179 #[.pointer (some ⟨p,0,none⟩),v] w (RTold p (ys.drop (256 - xs.length)) (xs ++ ys.take (256 - xs.length)) nx hs st w):=by
 obtain⟨a1,c1,rfl,hcap,_⟩:=hy.rd
 obtain⟨n,hn⟩:∃ n,n=ys.length:=⟨_,rfl⟩
 have hle:=H.le
 have HN:=hid hn
 have HY:=hid hy
 have HR:=hid H
 have hcm:=hcap.2.1
 unfold maxLen at hcm
 have hcm2:=hcm
 have hnc:=hcap.1
 rw[←hn]at hyl HY hnc ⊢
 obtain⟨l,hl⟩:∃ l,l=xs.length:=⟨_,rfl⟩
 have HL:=hid hl
 rw[←hl]at hle
 rw[←hl]
 clear H hy hn hcap hl
 go_enter Tryz.func179,Tryz.ntmps179
 go_wp2_with fail
 go_loopw [9] (fun i wr=>∃(j:Nat),j≤n∧l+j≤256∧i = .int .i64 j∧Hid (Rg wr p (xs ++ ys.take j) nx hs st)∧Hid (OnlyO p none w wr))
  (fun i _=>n - (intOf i).toNat)
 case atStart=>exact⟨0,by omega,by omega,rfl,hid (by simpa using HR.out),hid (OnlyO.refl _ _ _)⟩
 case round=>
  obtain⟨j,hj,hlj,rfl,HRr,HX⟩:=hrel
  have HJL:=hid (show (xs ++ ys.take j).length=l+j by rw[List.length_append,List.length_take, ←HL.out, ←HN.out];omega)
  by_cases hlt:j<n
  ·have hjy:j<ys.length:=by rw[←HN.out];exact hlt
   obtain⟨a',c',he,_,hrd⟩:=(HY.out.only HX.out).rd
   simp only[Value.slice.injEq]at he
   obtain⟨g,o,h2,h3,h4⟩:=hrd (by omega)
   have he1:=he.1
   rw[h2]at he1
   clear he h2
   subst he1
   obtain⟨y,hy⟩:∃ y,y=ys.getD j 0:=⟨_,rfl⟩
   have q1:=h4 j hjy
   rw[←hy]at q1
   have HT:=hid (lst_take_snoc ys j hjy)
   rw[←hy]at HT
   clear hy h4 hrd hjy
   by_cases hfull:l+j=256
   ·have C:=hid (push_full p (xs ++ ys.take j) nx hs st y wr HRr.out (by rw[HJL.out];exact hfull))
    have hjl:j=256 - l:=by omega
    have HRD:Hid (Reads wr (.slice (some ⟨g,o+j,none⟩) (n - j) (c1 - j)) (ys.drop j)):=by
     obtain⟨a',c',he,hcc,hrd⟩:=(HY.out.only HX.out).rd
     simp only[Value.slice.injEq]at he
     have hlen:(ys.drop j).length=n - j:=by rw[List.length_drop, ←HN.out]
     refine⟨some ⟨g,o+j,none⟩,c1 - j,by rw[hlen],⟨by rw[hlen];omega,by unfold maxLen;omega, .inr ⟨_,rfl⟩⟩,fun hp => ?_⟩
     obtain⟨g',o',h2,h3,h4⟩:=hrd (by have:=HN.out;omega)
     rw[←he.1]at h2
     simp only[Option.some.injEq,Addr.mk.injEq]at h2
     obtain⟨rfl,rfl,_⟩:=h2
     refine⟨g,o+j,rfl,h3,fun i hi => ?_⟩
     rw[hlen]at hi
     have:=h4 (j+i) (by have:=HN.out;omega)
     rw[Nat.add_assoc,this]
     simp[List.getD_eq_getElem?_getD]
    obtain⟨i0,hi,hz0,hz1,hz2⟩:=info_parts infoInt
    have HI:=hid hi
    have HZ0:=hid hz0
    have HZ1:=hid hz1
    have HZ2:=hid hz2
    have B1:=hid (show 0+(ys.drop j).length≤maxLen by rw[List.length_drop];have:=HN.out;unfold maxLen;omega)
    have B2:=hid (show (0+(ys.drop j).length)*8≤140737488355328 by rw[List.length_drop];have:=HN.out;omega)
    have B3:=hid HX.out.size
    have HJE:=hid hjl
    have hjc:j<c1:=by omega
    clear hi hz0 hz1 hz2 hjl hfull h3
    go_wp2_with fail
    refine C.out.mono ?_
    rintro e w2 ⟨rfl,rfl⟩
    go_wp2_with (with_reducible refine wpList_append_reads rfl (.const (.slice none 0 0)) (.tmp 20) 63 rfl w.heap.size 3 i0 (.int .i64 0) 8 Tryz.underlying63 HI.out HZ0.out HZ1.out HZ2.out (by decide) (.slice none 0 0) 0 [] rfl (World.ownsRow_nil _ _ _ _) (ys.drop j) (.slice (some ⟨g,o+j,none⟩) (n - j) (c1 - j)) rfl HRD.out B1.out B2.out B3.out ?_)
    intro v6 w6 hown6 hgr6 _
    have ho6:Owns w6 w.heap.size v6 (ys.drop j):=by unfold Owns;simpa using hown6
    have hpl:=HRr.out.lt
    have hb6:Below w.heap.size wr w6:=(Below.refl w.heap.size wr).grown hgr6 HX.out.size (fun q hq=>by simp[Value.ownBlock]at hq)
    have FIN:Hid (RTold p (ys.drop (256 - l)) (xs ++ ys.take (256 - l)) nx hs st w (.returned v6) w6):=by
     rw[←HJE.out]
     exact⟨_,rfl,ho6,HRr.out.kept (hgr6.block p hpl (by simp[Value.ownBlock])),HX.out.beyond hb6⟩
    obtain⟨va,vm,vc,rfl⟩:=ho6.slice3
    clear hown6 hgr6 ho6 hb6 hpl
    go_wp2
    go_ret
    exact FIN.out
   ·have C:=hid (push_any p (xs ++ ys.take j) nx hs st y wr HRr.out (by rw[HJL.out];omega))
    have hlj1:l+(j+1)≤256:=by omega
    clear hfull
    go_wp2_with fail
    refine C.out.mono ?_
    rintro e w2 ⟨rfl,hr2,hx2⟩
    have HR2:=hid (show Rg w2 p (xs ++ ys.take (j+1)) nx hs st by rw[HT.out, ←List.append_assoc];exact hr2)
    have HX2:=hid (HX.out.trans hx2 (.inl rfl))
    clear hr2 hx2
    go_wp2
    go_roundw
    case rel=>exact⟨j+1,by omega,hlj1,by go_num,HR2,HX2⟩
    case measure=>simp[intOf];omega
  ·obtain rfl:j=n:=by omega
   have FIN:Hid (RTold p (ys.drop (256 - l)) (xs ++ ys.take (256 - l)) nx hs st w (.returned (.slice none 0 0)) wr):=by
    have e1:ys.drop (256 - l) = []:=List.drop_eq_nil_of_le (by rw[←HN.out];omega)
    have e2:ys.take (256 - l)=ys.take j:=by rw[List.take_of_length_le (by rw[←HN.out];omega),List.take_of_length_le (by rw[←HN.out];exact Nat.le_refl _)]
    rw[e1,e2]
    exact⟨_,rfl,owns_nil _ _,HRr.out,HX.out⟩
   go_wp2
   go_ret
   exact FIN.out
def maPlace0:Nat→ByteArray
 | 0 => { data := #[101,120,101,99] }
 | 1 => { data := #[115,99,104,101,100] }
 | 2 => { data := #[111,110,101] }
 | 3 => { data := #[108,111,99,97,108] }
 | 4 => { data := #[103,108,111,98,97,108] }
 | 5 => { data := #[115,112,105,110,117,112] }
 | 6 => { data := #[115,116,101,97,108] }
 | 7 => { data := #[114,101,108,101,97,115,101] }
 | 8 => { data := #[100,114,111,112] }
 | 9 => { data := #[108,111,111,107] }
 | 10 => { data := #[108,111,111,107,103,108,111,98,97,108] }
 | 11 => { data := #[114,101,116,97,107,101] }
 | 12 => { data := #[115,112,105,110,98,97,99,107] }
 | 13 => { data := #[115,116,111,112] }
 | 14 => { data := #[99,104,101,99,107] }
 | 15 => { data := #[117,110,112,111,108,108] }
 | 16 => { data := #[115,108,101,101,112] }
 | 17 => { data := #[112,117,116,114,101,115,116] }
 | 18 => { data := #[112,117,116,111,118,101,114] }
 | 19 => { data := #[117,110,115,112,105,110] }
 | 20 => { data := #[100,105,115,112,97,116,99,104] }
 | 21 => { data := #[108,111,97,100] }
 | 22 => { data := #[99,108,97,105,109] }
 | 23 => { data := #[102,105,110,100] }
 | 24 => { data := #[119,97,107,101] }
 | 25 => { data := #[100,101,108,105,118,101,114] }
 | 26 => { data := #[109,97,114,107] }
 | 27 => { data := #[112,117,116,111,110,101] }
 | 28 => { data := #[112,117,116,110,101,120,116] }
 | 29 => { data := #[112,97,114,107] }
 | 30 => { data := #[97,119,97,105,116] }
 | _ => { data := #[] }
def maPlace1:Nat→Int
 | 0=>0
 | 1=>0
 | 2=>1
 | 3=>2
 | 4=>1
 | 5=>0
 | 6=>3
 | 7=>1
 | 8=>0
 | 9=>4
 | 10=>1
 | 11=>1
 | 12=>0
 | 13=>1
 | 14=>5
 | 15=>1
 | 16=>0
 | 17=>2
 | 18=>1
 | 19=>0
 | 20=>0
 | 21=>0
 | 22=>0
 | 23=>1
 | 24=>0
 | 25=>5
 | 26=>0
 | 27=>1
 | 28=>2
 | 29=>5
 | 30=>5
 | _=>0
def MaPlaces(w:World):Prop:=∀ k,k<31→w.cell? ⟨0,k*2,none⟩=some (.string (maPlace0 k))∧w.cell? ⟨0,k*2+1,none⟩=some (.int .i64 (maPlace1 k))
theorem MaPlaces.of{l:List (String × DataW Unit)}{w:World}(h:laidMetH Tryz.prog l w)(hp:(l.all fun x=>x.2.handleName?.isNone)=true)(j:Nat)(hm:l[j]? = some ("hostler/mach.places",Rows.laid_hostler_mach_places)):MaPlaces w:=by
 have hg:Tryz.prog.globalNamed "hostler/mach.places" = some 0:=by kernel_rfl
 have ht:(Tryz.prog.globals[0]?).map (·.type)=some 160:=by kernel_rfl
 intro k hk
 exact match k,hk with
 | 0,_=>⟨laid_at h hp j hm hg ht 8 0 (by kernel_rfl),laid_at h hp j hm hg ht 8 1 (by kernel_rfl)⟩
 | 1,_=>⟨laid_at h hp j hm hg ht 8 2 (by kernel_rfl),laid_at h hp j hm hg ht 8 3 (by kernel_rfl)⟩
 | 2,_=>⟨laid_at h hp j hm hg ht 8 4 (by kernel_rfl),laid_at h hp j hm hg ht 8 5 (by kernel_rfl)⟩
 | 3,_=>⟨laid_at h hp j hm hg ht 8 6 (by kernel_rfl),laid_at h hp j hm hg ht 8 7 (by kernel_rfl)⟩
 | 4,_=>⟨laid_at h hp j hm hg ht 8 8 (by kernel_rfl),laid_at h hp j hm hg ht 8 9 (by kernel_rfl)⟩
 | 5,_=>⟨laid_at h hp j hm hg ht 8 10 (by kernel_rfl),laid_at h hp j hm hg ht 8 11 (by kernel_rfl)⟩
 | 6,_=>⟨laid_at h hp j hm hg ht 8 12 (by kernel_rfl),laid_at h hp j hm hg ht 8 13 (by kernel_rfl)⟩
 | 7,_=>⟨laid_at h hp j hm hg ht 8 14 (by kernel_rfl),laid_at h hp j hm hg ht 8 15 (by kernel_rfl)⟩
 | 8,_=>⟨laid_at h hp j hm hg ht 8 16 (by kernel_rfl),laid_at h hp j hm hg ht 8 17 (by kernel_rfl)⟩
 | 9,_=>⟨laid_at h hp j hm hg ht 8 18 (by kernel_rfl),laid_at h hp j hm hg ht 8 19 (by kernel_rfl)⟩
 | 10,_=>⟨laid_at h hp j hm hg ht 8 20 (by kernel_rfl),laid_at h hp j hm hg ht 8 21 (by kernel_rfl)⟩
 | 11,_=>⟨laid_at h hp j hm hg ht 8 22 (by kernel_rfl),laid_at h hp j hm hg ht 8 23 (by kernel_rfl)⟩
 | 12,_=>⟨laid_at h hp j hm hg ht 8 24 (by kernel_rfl),laid_at h hp j hm hg ht 8 25 (by kernel_rfl)⟩
 | 13,_=>⟨laid_at h hp j hm hg ht 8 26 (by kernel_rfl),laid_at h hp j hm hg ht 8 27 (by kernel_rfl)⟩
 | 14,_=>⟨laid_at h hp j hm hg ht 8 28 (by kernel_rfl),laid_at h hp j hm hg ht 8 29 (by kernel_rfl)⟩
 | 15,_=>⟨laid_at h hp j hm hg ht 8 30 (by kernel_rfl),laid_at h hp j hm hg ht 8 31 (by kernel_rfl)⟩
 | 16,_=>⟨laid_at h hp j hm hg ht 8 32 (by kernel_rfl),laid_at h hp j hm hg ht 8 33 (by kernel_rfl)⟩
 | 17,_=>⟨laid_at h hp j hm hg ht 8 34 (by kernel_rfl),laid_at h hp j hm hg ht 8 35 (by kernel_rfl)⟩
 | 18,_=>⟨laid_at h hp j hm hg ht 8 36 (by kernel_rfl),laid_at h hp j hm hg ht 8 37 (by kernel_rfl)⟩
 | 19,_=>⟨laid_at h hp j hm hg ht 8 38 (by kernel_rfl),laid_at h hp j hm hg ht 8 39 (by kernel_rfl)⟩
 | 20,_=>⟨laid_at h hp j hm hg ht 8 40 (by kernel_rfl),laid_at h hp j hm hg ht 8 41 (by kernel_rfl)⟩
 | 21,_=>⟨laid_at h hp j hm hg ht 8 42 (by kernel_rfl),laid_at h hp j hm hg ht 8 43 (by kernel_rfl)⟩
 | 22,_=>⟨laid_at h hp j hm hg ht 8 44 (by kernel_rfl),laid_at h hp j hm hg ht 8 45 (by kernel_rfl)⟩
 | 23,_=>⟨laid_at h hp j hm hg ht 8 46 (by kernel_rfl),laid_at h hp j hm hg ht 8 47 (by kernel_rfl)⟩
 | 24,_=>⟨laid_at h hp j hm hg ht 8 48 (by kernel_rfl),laid_at h hp j hm hg ht 8 49 (by kernel_rfl)⟩
 | 25,_=>⟨laid_at h hp j hm hg ht 8 50 (by kernel_rfl),laid_at h hp j hm hg ht 8 51 (by kernel_rfl)⟩
 | 26,_=>⟨laid_at h hp j hm hg ht 8 52 (by kernel_rfl),laid_at h hp j hm hg ht 8 53 (by kernel_rfl)⟩
 | 27,_=>⟨laid_at h hp j hm hg ht 8 54 (by kernel_rfl),laid_at h hp j hm hg ht 8 55 (by kernel_rfl)⟩
 | 28,_=>⟨laid_at h hp j hm hg ht 8 56 (by kernel_rfl),laid_at h hp j hm hg ht 8 57 (by kernel_rfl)⟩
 | 29,_=>⟨laid_at h hp j hm hg ht 8 58 (by kernel_rfl),laid_at h hp j hm hg ht 8 59 (by kernel_rfl)⟩
 | 30,_=>⟨laid_at h hp j hm hg ht 8 60 (by kernel_rfl),laid_at h hp j hm hg ht 8 61 (by kernel_rfl)⟩
 | k+31,hk=>absurd hk (by omega)
theorem MaPlaces.lt{w:World}(h:MaPlaces w):0<w.heap.size:=lt_of_cell (h 0 (by omega)).1
theorem MaPlaces.at{w w':World}(h:MaPlaces w)(hb:Below w.heap.size w w'):MaPlaces w':=fun k hk=>by
 have e:w'.heap[0]? = w.heap[0]?:=hb.block _ h.lt
 have:=h k hk
 simpa[World.cell?,e] using this
theorem wp_store_new{P:Program}{w:World}{o:Oper}{a:Act}{K:Act→World→Prop}{Q:Exit→Act→World→Prop}(ty:TypeId)(x y:Operand)(ho:o.op = .store ty x y)
 (c cells:Array Value)(t:TypeId)(hx:a.eval x = .pointer (some ⟨w.heap.size,0,none⟩))(hy:a.eval y = .agg cells)
 (hi:(P.info? ty).map (·.size)=some cells.size)(hs:c.size=cells.size)(h1:cells.all (·.oneCell')=true)
 (h:K (a.put o.dst undef) (w.alloc (.cells cells t))):o.wp P a (w.alloc (.cells c t)) K Q:=by
 unfold Oper.wp execOp
 have e:(storeVar ty ⟨w.heap.size,0,none⟩ (.agg cells)).run P (w.alloc (.cells c t)) = .ok () (w.alloc (.cells cells t)):=by
  rw[run_storeVar_row _ _ t ty c cells (heap_alloc_last w _) hi hs h1,World.setRow_alloc_new]
 simp only[ho,hx,hy,Instr.storeAt,Instr.sureAddr,Sem.run_bind,Sem.run_pure,Result.andThen_ok,e]
 exact h
theorem wpList_store_new{P:Program}{w:World}{ops:Array Oper}{rest:List Oper}{o:Oper}{a:Act}{Q:Exit→Act→World→Prop}(hgd:o.guard=none)(ty:TypeId)(x y:Operand)(ho:o.op = .store ty x y)
 (c cells:Array Value)(t:TypeId)(hx:a.eval x = .pointer (some ⟨w.heap.size,0,none⟩))(hy:a.eval y = .agg cells)
 (hi:(P.info? ty).map (·.size)=some cells.size)(hs:c.size=cells.size)(h1:cells.all (·.oneCell')=true)
 (h:wpList P ops Q rest (a.put o.dst undef) (w.alloc (.cells cells t))):wpList P ops Q (o :: rest) a (w.alloc (.cells c t)):=
 wpList_plain hgd fun _ hK=>wp_store_new ty x y ho c cells t hx hy hi hs h1 (hK _ _ h)
theorem blk_lt{k:Nat}{w:World}{o:Obj}(h:w.heap[k]? = some o):k<w.heap.size:=by
 rw[Array.getElem?_eq_some_iff]at h;exact h.1
theorem blk_set{w:World}{g i:Nat}{cs cs':Array Value}{t:TypeId}(v:Value)(hg:w.heap[g]? = some (.cells cs t (0,0)))(he:cs.setIfInBounds i v=cs'):(w.setCell ⟨g,i,none⟩ v).heap[g]? = some (.cells cs' t (0,0)):=by
 have:=heap_setCell_same w g i cs t v hg
 rw[this,he]
theorem blk_cell{w:World}{p i:Nat}{cs:Array Value}{t:TypeId}{fr:Nat × Nat}{v:Value}(h:w.heap[p]? = some (.cells cs t fr))(hi:cs[i]? = some v):w.cell? ⟨p,i,none⟩=some v:=by simp[World.cell?,h,hi]
theorem blk_free{w:World}{p i:Nat}{cs:Array Value}{t:TypeId}(h:w.heap[p]? = some (.cells cs t (0,0))):w.frozen? ⟨p,i,none⟩=false:=by simp[World.frozen?,h]
theorem wpList_load_known{P:Program}{w:World}{ops:Array Oper}{rest:List Oper}{o:Oper}{a:Act}{Q:Exit→Act→World→Prop}(hw:Region.wanted o (yielded ops a.tmps)=true)(ty:TypeId)(x:Operand)(ho:o.op = .load ty x)
 (g:Nat)(hx:a.eval x = .pointer (some ⟨g,0,none⟩))(t:TypeId)(cs:Array Value)(fr:Nat × Nat)(d:TypeDesc)(hg:w.heap[g]? = some (.cells cs t fr))
 (hu:P.underlying ty=some d)(hd:(match d with | .struct _ | .array _ _=>true|_=>false)=true)(hi:(P.info? ty).map (·.size)=some cs.size)
 (h:wpList P ops Q rest (a.put o.dst (.agg cs)) w):wpList P ops Q (o :: rest) a w:=
 BigFrame.wpList_want hw fun _ hK=>wp_load_row ty x ho g hx t cs fr d hg hu hd hi (hK _ _ h)
theorem row_other(w:World)(g:Nat)(cs:Array Value)(k:Nat)(h:k≠g):(w.setRow g cs).heap[k]? = w.heap[k]?:=by
 simp only[World.setRow,Array.getElem?_modify]
 rw[if_neg (fun e=>h e.symm)]
theorem row_size(w:World)(g:Nat)(cs:Array Value):(w.setRow g cs).heap.size=w.heap.size:=by simp[World.setRow]
theorem row_below{B:Nat}{w w':World}{g:Nat}(h:Below B w w')(hg:B≤g)(cs:Array Value):Below B w (w'.setRow g cs):=
 ⟨h.os,h.tape,h.output,by rw[row_size];exact h.size,fun k hk=>by rw[row_other _ _ _ _ (by omega)];exact h.block k hk⟩
def lkOf (r n:Int):Int:=if 0≤r∧r<n then r+1 else -1
def lkAround(p i n:Int):Int:=if 0≤p∧p<n∧0≤i then (p+i % n) % n else -1
def lk (c p i n:Int):Int:=if c=1 then 0 else if c=2 then lkOf p n else if c=3 then lkOf (lkAround p i n) n else if c=4 then lkOf i n else if c=5 then n+1 else -1
theorem lockOf_any(r n:Int)(w:World)(hn:n≤4611686018427387904):Calls Tryz.prog 94 #[.int .i64 r, .int .i64 n] w fun e w'=>e = .returned (.int .i64 (lkOf r n))∧w=w':=by
 by_cases h0:r<0
 ·have e:lkOf r n = -1:=by unfold lkOf;rw[if_neg (by omega)]
  rw[e]
  clear e
  go_enter Tryz.func94,Tryz.ntmps94
  go_wp2
  go_ret
  exact⟨rfl,rfl⟩
 ·by_cases h1:n≤r
  ·have e:lkOf r n = -1:=by unfold lkOf;rw[if_neg (by omega)]
   rw[e]
   clear e
   go_enter Tryz.func94,Tryz.ntmps94
   go_wp2
   go_ret
   exact⟨rfl,rfl⟩
  ·have e:lkOf r n=r+1:=by unfold lkOf;rw[if_pos (by omega)]
   rw[e]
   have hw:IntKind.i64.wrap (r+1)=r+1:=IntWalk.i64_in _ (by omega)
   clear e
   go_enter Tryz.func94,Tryz.ntmps94
   go_wp2
   go_ret
   exact⟨rfl,rfl⟩
theorem around_any(p i n:Int)(w:World)(hn:1≤n)(hn2:n≤4611686018427387904)(hi:i≤9223372036854775807):Calls Tryz.prog 95 #[.int .i64 p, .int .i64 i, .int .i64 n] w fun e w'=>e = .returned (.int .i64 (lkAround p i n))∧w=w':=by
 by_cases h0:p<0
 ·have e:lkAround p i n = -1:=by unfold lkAround;rw[if_neg (by omega)]
  rw[e]
  clear e
  go_enter Tryz.func95,Tryz.ntmps95
  go_wp2
  go_ret
  exact⟨rfl,rfl⟩
 ·by_cases h1:n≤p
  ·have e:lkAround p i n = -1:=by unfold lkAround;rw[if_neg (by omega)]
   rw[e]
   clear e
   go_enter Tryz.func95,Tryz.ntmps95
   go_wp2
   go_ret
   exact⟨rfl,rfl⟩
  ·by_cases h2:i<0
   ·have e:lkAround p i n = -1:=by unfold lkAround;rw[if_neg (by omega)]
    rw[e]
    clear e
    go_enter Tryz.func95,Tryz.ntmps95
    go_wp2
    go_ret
    exact⟨rfl,rfl⟩
   ·obtain⟨j,hj⟩:∃ j,j=i % n:=⟨_,rfl⟩
    have j0:0≤j:=by rw[hj];exact Int.emod_nonneg _ (by omega)
    have j1:j<n:=by rw[hj];exact Int.emod_lt_of_pos _ (by omega)
    have ht:i.tmod n=j:=by rw[Int.tmod_eq_emod_of_nonneg (by omega),hj]
    have hw:IntKind.i64.wrap j=j:=IntWalk.i64_in _ (by omega)
    have hw2:IntKind.i64.wrap (n - p)=n - p:=IntWalk.i64_in _ (by omega)
    have hn0:(n == 0)=false:=beq_eq_false_iff_ne.2 (by omega)
    by_cases h3:n - p≤j
    ·have e:lkAround p i n=j - (n - p):=by
      unfold lkAround;rw[if_pos (by omega), ←hj]
      have:p+j=(j - (n - p))+n:=by omega
      rw[this,Int.add_emod_right]
      exact Int.emod_eq_of_lt (by omega) (by omega)
     rw[e]
     have hw3:IntKind.i64.wrap (j - (n - p))=j - (n - p):=IntWalk.i64_in _ (by omega)
     clear e hj
     go_enter Tryz.func95,Tryz.ntmps95
     go_wp2
     go_ret
     exact⟨rfl,rfl⟩
    ·have e:lkAround p i n=p+j:=by
      unfold lkAround;rw[if_pos (by omega), ←hj]
      exact Int.emod_eq_of_lt (by omega) (by omega)
     rw[e]
     have hw3:IntKind.i64.wrap (p+j)=p+j:=IntWalk.i64_in _ (by omega)
     clear e hj
     go_enter Tryz.func95,Tryz.ntmps95
     go_wp2
     go_ret
     exact⟨rfl,rfl⟩
@[reducible] def mach0 (pl p i:Int):Array Value := #[.int .i64 pl, .int .i64 p, .int .i64 (-1), .int .i64 (-1), .int .i64 (-1), .int .i64 (-1), .int .i64 i, .bool false, .bool false, .slice none 0 0, .int .i64 0, .int .i64 0, .int .i64 0, .int .i64 0, .int .i64 0, .int .i64 0, .int .u64 0, .int .i64 0]
theorem mis_in(k:Nat)(w:World)(hk:k<31):Calls Tryz.prog 93 #[.int .i64 k] w fun e w'=>e = .returned (.bool true)∧w=w':=by
 have t1:decide ((k:Int)<31)=true:=decide_eq_true (by omega)
 have t2:decide ((0:Int)≤k)=true:=decide_eq_true (by omega)
 go_enter Tryz.func93,Tryz.ntmps93
 go_wp2
 go_ret
 exact⟨rfl,rfl⟩
theorem fresh_any(w:World):Calls Tryz.prog 55 #[] w fun e w'=>e = .returned (.agg (mach0 16 (-1) 0))∧Below w.heap.size w w':=by
 go_enter Tryz.func55,Tryz.ntmps55
 go_wp2_with (refine wpList_store_new rfl 70 (.tmp 0) (.tmp 1) rfl _ (mach0 16 (-1) 0) 70 rfl rfl (by kernel_rfl) (by rfl) (by simp[mach0,Value.oneCell']) ?_)
 exact bodyPost_ret (v := .agg (mach0 16 (-1) 0)) (results_cell_row rfl _ _ w.heap.size 70 (mach0 16 (-1) 0) (0,0) _ (by rfl) (heap_alloc_new w _) Tryz.underlying70 rfl (by kernel_rfl)) rfl ⟨rfl,(Below.refl _ _).alloc (Nat.le_refl _) _⟩
theorem maPlace1_le(k:Nat)(hk:k<31):maPlace1 k=0∨maPlace1 k=1∨maPlace1 k=2∨maPlace1 k=3∨maPlace1 k=4∨maPlace1 k=5:=
 match k,hk with
 | 0,_=>by simp[maPlace1]
 | 1,_=>by simp[maPlace1]
 | 2,_=>by simp[maPlace1]
 | 3,_=>by simp[maPlace1]
 | 4,_=>by simp[maPlace1]
 | 5,_=>by simp[maPlace1]
 | 6,_=>by simp[maPlace1]
 | 7,_=>by simp[maPlace1]
 | 8,_=>by simp[maPlace1]
 | 9,_=>by simp[maPlace1]
 | 10,_=>by simp[maPlace1]
 | 11,_=>by simp[maPlace1]
 | 12,_=>by simp[maPlace1]
 | 13,_=>by simp[maPlace1]
 | 14,_=>by simp[maPlace1]
 | 15,_=>by simp[maPlace1]
 | 16,_=>by simp[maPlace1]
 | 17,_=>by simp[maPlace1]
 | 18,_=>by simp[maPlace1]
 | 19,_=>by simp[maPlace1]
 | 20,_=>by simp[maPlace1]
 | 21,_=>by simp[maPlace1]
 | 22,_=>by simp[maPlace1]
 | 23,_=>by simp[maPlace1]
 | 24,_=>by simp[maPlace1]
 | 25,_=>by simp[maPlace1]
 | 26,_=>by simp[maPlace1]
 | 27,_=>by simp[maPlace1]
 | 28,_=>by simp[maPlace1]
 | 29,_=>by simp[maPlace1]
 | 30,_=>by simp[maPlace1]
 | k+31,hk=>absurd hk (by omega)
theorem eis_in(k:Nat)(w:World)(hk:k<8):Calls Tryz.prog 190 #[.int .i64 k] w fun e w'=>e = .returned (.bool true)∧w=w':=by
 have t1:decide ((k:Int)<8)=true:=decide_eq_true (by omega)
 have t2:decide ((0:Int)≤k)=true:=decide_eq_true (by omega)
 go_enter Tryz.func190,Tryz.ntmps190
 go_wp2
 go_ret
 exact⟨rfl,rfl⟩
theorem eis_out(n:Int)(w:World)(hn:n<0∨7<n):Calls Tryz.prog 190 #[.int .i64 n] w fun e w'=>e = .returned (.bool false)∧w=w':=by
 rcases hn with h|h
 ·have t2:decide ((0:Int)≤n)=false:=decide_eq_false (by omega)
  go_enter Tryz.func190,Tryz.ntmps190
  go_wp2
  go_ret
  exact⟨rfl,rfl⟩
 ·have t1:decide ((n:Int)<8)=false:=decide_eq_false (by omega)
  have t2:decide ((0:Int)≤n)=true:=decide_eq_true (by omega)
  go_enter Tryz.func190,Tryz.ntmps190
  go_wp2
  go_ret
  exact⟨rfl,rfl⟩
def evRight(k g m p v:Int):Bool:=(decide (0≤k) && decide (k<8)) && ((decide (0≤g) && decide (g<4096)) && ((decide (-1≤m) && decide (m<128)) && ((decide (-1≤p) && decide (p<64)) && (if k=5 then true else if k=6 then decide (0≤v) && decide (v≤65535) else decide (v=0)))))
theorem within_any(n a b:Int)(w:World):Calls Tryz.prog 191 #[.int .i64 n, .int .i64 a, .int .i64 b] w fun e w'=>e = .returned (.bool (decide (a≤n) && decide (n<b)))∧w=w':=by
 by_cases h:a≤n
 ·by_cases h2:n<b
  ·rw[show (decide (a≤n) && decide (n<b))=true by simp[h,h2]]
   have t1:decide (a≤n)=true:=decide_eq_true h
   have t2:decide (n<b)=true:=decide_eq_true h2
   go_enter Tryz.func191,Tryz.ntmps191
   go_wp2
   go_ret
   exact⟨rfl,rfl⟩
  ·rw[show (decide (a≤n) && decide (n<b))=false by simp[h2]]
   have t1:decide (a≤n)=true:=decide_eq_true h
   have t2:decide (n<b)=false:=decide_eq_false h2
   go_enter Tryz.func191,Tryz.ntmps191
   go_wp2
   go_ret
   exact⟨rfl,rfl⟩
 ·rw[show (decide (a≤n) && decide (n<b))=false by simp[h]]
  have t1:decide (a≤n)=false:=decide_eq_false h
  go_enter Tryz.func191,Tryz.ntmps191
  go_wp2
  go_ret
  exact⟨rfl,rfl⟩
theorem eis_any(n:Int)(w:World):Calls Tryz.prog 190 #[.int .i64 n] w fun e w'=>e = .returned (.bool (decide (0≤n) && decide (n<8)))∧w=w':=by
 by_cases h:n<0∨7<n
 ·rw[show (decide (0≤n) && decide (n<8))=false by simp;omega]
  exact eis_out n w h
 ·obtain⟨k,rfl⟩:∃ k:Nat,n=k:=⟨n.toNat,by omega⟩
  rw[show (decide ((0:Int)≤k) && decide ((k:Int)<8))=true by simp;omega]
  exact eis_in k w (by omega)
theorem valued_any(k g m p v:Int)(w:World):Calls Tryz.prog 192 #[.agg #[.int .i64 k, .int .i64 g, .int .i64 m, .int .i64 p, .int .i64 v]] w fun e w'=>e = .returned (.bool (if k=5 then true else if k=6 then decide (0≤v) && decide (v≤65535) else decide (v=0)))∧Below w.heap.size w w':=by
 have hb:=hid ((Below.refl w.heap.size w).alloc (Nat.le_refl _) (.cells #[.int .i64 k, .int .i64 g, .int .i64 m, .int .i64 p, .int .i64 v] 38))
 by_cases h5:k=5
 ·rw[if_pos h5]
  subst h5
  go_enter Tryz.func192,Tryz.ntmps192
  go_wp2
  go_ret
  exact⟨rfl,hb.out⟩
 ·rw[if_neg h5]
  have q5:(k == 5)=false:=beq_eq_false_iff_ne.2 h5
  by_cases h6:k=6
  ·rw[if_pos h6]
   subst h6
   by_cases h:(0:Int)≤v
   ·by_cases h2:v≤65535
    ·rw[show (decide ((0:Int)≤v) && decide (v≤65535))=true by simp[h,h2]]
     have t1:decide ((0:Int)≤v)=true:=decide_eq_true h
     have t2:decide (v≤65535)=true:=decide_eq_true h2
     go_enter Tryz.func192,Tryz.ntmps192
     go_wp2
     go_ret
     exact⟨rfl,hb.out⟩
    ·rw[show (decide ((0:Int)≤v) && decide (v≤65535))=false by simp[h2]]
     have t1:decide ((0:Int)≤v)=true:=decide_eq_true h
     have t2:decide (v≤65535)=false:=decide_eq_false h2
     go_enter Tryz.func192,Tryz.ntmps192
     go_wp2
     go_ret
     exact⟨rfl,hb.out⟩
   ·rw[show (decide ((0:Int)≤v) && decide (v≤65535))=false by simp[h]]
    have t1:decide ((0:Int)≤v)=false:=decide_eq_false h
    go_enter Tryz.func192,Tryz.ntmps192
    go_wp2
    go_ret
    exact⟨rfl,hb.out⟩
  ·rw[if_neg h6]
   have q6:(k == 6)=false:=beq_eq_false_iff_ne.2 h6
   by_cases hv:v=0
   ·subst hv
    go_enter Tryz.func192,Tryz.ntmps192
    go_wp2
    go_ret
    exact⟨rfl,hb.out⟩
   ·have q7:(v == 0)=false:=beq_eq_false_iff_ne.2 hv
    rw[show decide (v=0)=false by simp[hv]]
    go_enter Tryz.func192,Tryz.ntmps192
    go_wp2
    go_ret
    exact⟨rfl,hb.out⟩
theorem right_any(k g m p v:Int)(w:World):Calls Tryz.prog 162 #[.agg #[.int .i64 k, .int .i64 g, .int .i64 m, .int .i64 p, .int .i64 v]] w fun e w'=>e = .returned (.bool (evRight k g m p v))∧Below w.heap.size w w':=by
 have hb:=hid ((Below.refl w.heap.size w).alloc (Nat.le_refl _) (.cells #[.int .i64 k, .int .i64 g, .int .i64 m, .int .i64 p, .int .i64 v] 38))
 have VA:=hid (fun w=>valued_any k g m p v w)
 have W1:=hid (fun w=>eis_any k w)
 have W2:=hid (fun w=>within_any g 0 4096 w)
 have W3:=hid (fun w=>within_any m (-1) 128 w)
 have W4:=hid (fun w=>within_any p (-1) 64 w)
 unfold evRight
 generalize (if k=5 then true else if k=6 then decide (0≤v) && decide (v≤65535) else decide (v=0))=b5 at VA ⊢
 generalize (decide (0≤k) && decide (k<8))=b1 at W1 ⊢
 generalize (decide (0≤g) && decide (g<4096))=b2 at W2 ⊢
 generalize (decide (-1≤m) && decide (m<128))=b3 at W3 ⊢
 generalize (decide (-1≤p) && decide (p<64))=b4 at W4 ⊢
 go_enter Tryz.func162,Tryz.ntmps162
 go_wp2_with fail
 refine(W1.out _).mono ?_
 rintro e w2 ⟨rfl,rfl⟩
 cases b1
 ·go_wp2
  go_ret
  exact⟨rfl,hb.out⟩
 go_wp2_with fail
 refine(W2.out _).mono ?_
 rintro e w2 ⟨rfl,rfl⟩
 cases b2
 ·go_wp2
  go_ret
  exact⟨rfl,hb.out⟩
 go_wp2_with fail
 refine(W3.out _).mono ?_
 rintro e w2 ⟨rfl,rfl⟩
 cases b3
 ·go_wp2
  go_ret
  exact⟨rfl,hb.out⟩
 go_wp2_with fail
 refine(W4.out _).mono ?_
 rintro e w2 ⟨rfl,rfl⟩
 cases b4
 ·go_wp2
  go_ret
  exact⟨rfl,hb.out⟩
 go_wp2_with fail
 refine(VA.out _).mono ?_
 rintro e w2 ⟨rfl,hb2⟩
 have hF:=hid (hb.out.trans (hb2.mono (by simp)))
 clear hb2 hb
 cases b5
 ·go_wp2
  go_ret
  exact⟨rfl,hF.out⟩
 ·go_wp2
  go_ret
  exact⟨rfl,hF.out⟩
def evName0:Nat→ByteArray
 | 0 => { data := #[115,112,97,119,110] }
 | 1 => { data := #[114,101,97,100,121] }
 | 2 => { data := #[100,105,115,112,97,116,99,104] }
 | 3 => { data := #[121,105,101,108,100] }
 | 4 => { data := #[98,108,111,99,107] }
 | 5 => { data := #[115,108,101,101,112] }
 | 6 => { data := #[119,97,105,116] }
 | 7 => { data := #[101,120,105,116] }
 | _ => { data := #[] }
def EvNames(w:World):Prop:=∀ k,k<8→w.cell? ⟨2,k,none⟩=some (.string (evName0 k))
theorem EvNames.of{l:List (String × DataW Unit)}{w:World}(h:laidMetH Tryz.prog l w)(hp:(l.all fun x=>x.2.handleName?.isNone)=true)(j:Nat)(hm:l[j]? = some ("hostler/event.names",Rows.laid_hostler_event_names)):EvNames w:=by
 have hg:Tryz.prog.globalNamed "hostler/event.names" = some 2:=by kernel_rfl
 have ht:(Tryz.prog.globals[2]?).map (·.type)=some 247:=by kernel_rfl
 intro k hk
 exact match k,hk with
 | 0,_=>laid_at h hp j hm hg ht 8 0 (by kernel_rfl)
 | 1,_=>laid_at h hp j hm hg ht 8 1 (by kernel_rfl)
 | 2,_=>laid_at h hp j hm hg ht 8 2 (by kernel_rfl)
 | 3,_=>laid_at h hp j hm hg ht 8 3 (by kernel_rfl)
 | 4,_=>laid_at h hp j hm hg ht 8 4 (by kernel_rfl)
 | 5,_=>laid_at h hp j hm hg ht 8 5 (by kernel_rfl)
 | 6,_=>laid_at h hp j hm hg ht 8 6 (by kernel_rfl)
 | 7,_=>laid_at h hp j hm hg ht 8 7 (by kernel_rfl)
theorem EvNames.lt{w:World}(h:EvNames w):2<w.heap.size:=lt_of_cell (h 0 (by omega))
theorem EvNames.at{w w':World}(h:EvNames w)(hb:Below w.heap.size w w'):EvNames w':=fun k hk=>by
 have e:w'.heap[2]? = w.heap[2]?:=hb.block _ h.lt
 have:=h k hk
 simpa[World.cell?,e] using this
def evStep0:Nat→Int
 | 0=>0
 | 1=>0
 | 2=>1
 | 3=>2
 | 4=>2
 | 5=>2
 | 6=>2
 | 7=>2
 | _=>0
def evStep1:Nat→Int
 | 0=>1
 | 1=>1
 | 2=>2
 | 3=>1
 | 4=>3
 | 5=>4
 | 6=>5
 | 7=>6
 | _=>0
def EvSteps(w:World):Prop:=∀ k,k<8→w.cell? ⟨1,k*2,none⟩=some (.int .u64 (evStep0 k))∧w.cell? ⟨1,k*2+1,none⟩=some (.int .u64 (evStep1 k))
theorem EvSteps.of{l:List (String × DataW Unit)}{w:World}(h:laidMetH Tryz.prog l w)(hp:(l.all fun x=>x.2.handleName?.isNone)=true)(j:Nat)(hm:l[j]? = some ("hostler/event.steps",Rows.laid_hostler_event_steps)):EvSteps w:=by
 have hg:Tryz.prog.globalNamed "hostler/event.steps" = some 1:=by kernel_rfl
 have ht:(Tryz.prog.globals[1]?).map (·.type)=some 231:=by kernel_rfl
 intro k hk
 exact match k,hk with
 | 0,_=>⟨laid_at h hp j hm hg ht 8 0 (by kernel_rfl),laid_at h hp j hm hg ht 8 1 (by kernel_rfl)⟩
 | 1,_=>⟨laid_at h hp j hm hg ht 8 2 (by kernel_rfl),laid_at h hp j hm hg ht 8 3 (by kernel_rfl)⟩
 | 2,_=>⟨laid_at h hp j hm hg ht 8 4 (by kernel_rfl),laid_at h hp j hm hg ht 8 5 (by kernel_rfl)⟩
 | 3,_=>⟨laid_at h hp j hm hg ht 8 6 (by kernel_rfl),laid_at h hp j hm hg ht 8 7 (by kernel_rfl)⟩
 | 4,_=>⟨laid_at h hp j hm hg ht 8 8 (by kernel_rfl),laid_at h hp j hm hg ht 8 9 (by kernel_rfl)⟩
 | 5,_=>⟨laid_at h hp j hm hg ht 8 10 (by kernel_rfl),laid_at h hp j hm hg ht 8 11 (by kernel_rfl)⟩
 | 6,_=>⟨laid_at h hp j hm hg ht 8 12 (by kernel_rfl),laid_at h hp j hm hg ht 8 13 (by kernel_rfl)⟩
 | 7,_=>⟨laid_at h hp j hm hg ht 8 14 (by kernel_rfl),laid_at h hp j hm hg ht 8 15 (by kernel_rfl)⟩
theorem EvSteps.lt{w:World}(h:EvSteps w):1<w.heap.size:=lt_of_cell (h 0 (by omega)).1
theorem EvSteps.at{w w':World}(h:EvSteps w)(hb:Below w.heap.size w w'):EvSteps w':=fun k hk=>by
 have e:w'.heap[1]? = w.heap[1]?:=hb.block _ h.lt
 have:=h k hk
 simpa[World.cell?,e] using this
theorem ename_in(k:Nat)(w:World)(T2:EvNames w)(hk:k<8):Calls Tryz.prog 160 #[.int .i64 k] w fun e w'=>e = .returned (.string (evName0 k))∧w=w':=by
 have b:=T2 k hk
 obtain⟨s,hs⟩:∃ s,s=evName0 k:=⟨_,rfl⟩
 rw[←hs]at b ⊢
 have h0:(0:Int)≤k:=by omega
 have h8:(k:Int)<8:=by omega
 clear T2 hs
 go_enter Tryz.func160,Tryz.ntmps160
 go_wp2_with fail
 refine(eis_in k _ hk).mono ?_
 rintro e w2 ⟨rfl,rfl⟩
 go_wp2
 go_ret
 exact⟨rfl,rfl⟩
theorem evName_some(k:Nat)(hk:k<8):(evName0 k).toList.isEmpty=false:=
 match k,hk with
 | 0,_=>by kernel_rfl
 | 1,_=>by kernel_rfl
 | 2,_=>by kernel_rfl
 | 3,_=>by kernel_rfl
 | 4,_=>by kernel_rfl
 | 5,_=>by kernel_rfl
 | 6,_=>by kernel_rfl
 | 7,_=>by kernel_rfl
theorem esteps_in(k:Nat)(g m p v:Int)(w:World)(T2:EvNames w)(T3:EvSteps w)(hk:k<8) :
 Calls Tryz.prog 121 #[.agg #[.int .i64 k, .int .i64 g, .int .i64 m, .int .i64 p, .int .i64 v]] w fun e w'=>e = .returned (.tuple #[.int .u64 (evStep0 k), .int .u64 (evStep1 k), .bool true])∧Below w.heap.size w w':=by
 have hb:=(Below.refl w.heap.size w).alloc (Nat.le_refl _) (.cells #[.int .i64 k, .int .i64 g, .int .i64 m, .int .i64 p, .int .i64 v] 38)
 have HT:=hid (T2.at hb)
 have hw2:=T3.lt
 have h0:(0:Int)≤k:=by omega
 have h8:(k:Int)<8:=by omega
 have c0:w.cell? ⟨1,k*2,none⟩=some (.int .u64 (evStep0 k)):=(T3 k hk).1
 have c1:w.cell? ⟨1,k*2+1,none⟩=some (.int .u64 (evStep1 k)):=(T3 k hk).2
 obtain⟨s,hs⟩:∃ s,s=evStep0 k:=⟨_,rfl⟩
 obtain⟨t,ht⟩:∃ t,t=evStep1 k:=⟨_,rfl⟩
 rw[←hs]at c0 ⊢
 rw[←ht]at c1 ⊢
 have HNE:=hid (evName_some k hk)
 clear T2 T3 hs ht
 go_enter Tryz.func121,Tryz.ntmps121
 go_wp2_with fail
 refine(ename_in k _ HT.out hk).mono ?_
 rintro e w2 ⟨rfl,rfl⟩
 have hne:=HNE.out
 generalize evName0 k=str at hne
 go_wp2
 go_quiet (fail)
 go_wp2
 exact bodyPost_ret (v := .tuple #[.int .u64 s, .int .u64 t, .bool true]) (by simp[results,Tryz.results121,go_sem]) rfl ⟨rfl,((Below.refl _ _).alloc (Nat.le_refl _) _).trans (Quiet.below ⟨_,rfl⟩ _)⟩
@[reducible] def machG (pl p g nx got tg i:Int) (sp inn:Bool) (rest:Value) (bk af ag s0 s1 s2 s3 s4:Int):Array Value := #[.int .i64 pl, .int .i64 p, .int .i64 g, .int .i64 nx, .int .i64 got, .int .i64 tg, .int .i64 i, .bool sp, .bool inn,rest, .int .i64 bk, .int .i64 af, .int .i64 ag, .int .i64 s0, .int .i64 s1, .int .i64 s2, .int .u64 s3, .int .i64 s4]
theorem mlock_g(k:Nat)(p g nx got tg i:Int)(sp inn:Bool)(ra:Option Addr)(rn rc:Nat)(bk af ag s0 s1 s2 s3 s4:Int)(n:Int)(w:World)(T:MaPlaces w)(hk:k<31)(hn:1≤n)(hn2:n≤4611686018427387904)(hi:i≤9223372036854775807) :
 Calls Tryz.prog 60 #[.agg (machG k p g nx got tg i sp inn (.slice ra rn rc) bk af ag s0 s1 s2 s3 s4), .int .i64 n] w fun e w'=>e = .returned (.int .i64 (lk (maPlace1 k) p i n))∧Below w.heap.size w w':=by
 have hg:=T.lt
 have c1:w.cell? ⟨0,k*2+1,none⟩=some (.int .i64 (maPlace1 k)):=(T k hk).2
 have hb:=hid ((Below.refl w.heap.size w).alloc (Nat.le_refl _) (.cells (machG k p g nx got tg i sp inn (.slice ra rn rc) bk af ag s0 s1 s2 s3 s4) 70))
 have hcl:=maPlace1_le k hk
 generalize maPlace1 k=c at c1 hcl ⊢
 have h0:(0:Int)≤k:=by omega
 have h31:(k:Int)<31:=by omega
 have hwn:IntKind.i64.wrap (n+1)=n+1:=IntWalk.i64_in _ (by omega)
 have LO:=hid (fun r w=>lockOf_any r n w hn2)
 have LA:=hid (fun w=>around_any p i n w hn hn2 hi)
 have MI:=hid (fun w=>mis_in k w hk)
 clear T
 rcases hcl with rfl|rfl|rfl|rfl|rfl|rfl
 ·rw[show lk 0 p i n=(-1) from rfl]
  go_enter Tryz.func60,Tryz.ntmps60
  go_wp2_with fail
  refine(MI.out _).mono ?_
  rintro e w2 ⟨rfl,rfl⟩
  go_wp2
  go_ret
  exact⟨rfl,hb.out⟩
 ·rw[show lk 1 p i n=0 from rfl]
  go_enter Tryz.func60,Tryz.ntmps60
  go_wp2_with fail
  refine(MI.out _).mono ?_
  rintro e w2 ⟨rfl,rfl⟩
  go_wp2
  go_ret
  exact⟨rfl,hb.out⟩
 ·rw[show lk 2 p i n=lkOf p n from rfl]
  go_enter Tryz.func60,Tryz.ntmps60
  go_wp2_with fail
  refine(MI.out _).mono ?_
  rintro e w2 ⟨rfl,rfl⟩
  go_wp2_with fail
  refine(LO.out p _).mono ?_
  rintro e w3 ⟨rfl,rfl⟩
  go_wp2
  go_ret
  exact⟨rfl,hb.out⟩
 ·rw[show lk 3 p i n=lkOf (lkAround p i n) n from rfl]
  go_enter Tryz.func60,Tryz.ntmps60
  go_wp2_with fail
  refine(MI.out _).mono ?_
  rintro e w2 ⟨rfl,rfl⟩
  go_wp2_with fail
  refine(LA.out _).mono ?_
  rintro e w4 ⟨rfl,rfl⟩
  go_wp2_with fail
  refine(LO.out (lkAround p i n) _).mono ?_
  rintro e w3 ⟨rfl,rfl⟩
  go_wp2
  go_ret
  exact⟨rfl,hb.out⟩
 ·rw[show lk 4 p i n=lkOf i n from rfl]
  go_enter Tryz.func60,Tryz.ntmps60
  go_wp2_with fail
  refine(MI.out _).mono ?_
  rintro e w2 ⟨rfl,rfl⟩
  go_wp2_with fail
  refine(LO.out i _).mono ?_
  rintro e w3 ⟨rfl,rfl⟩
  go_wp2
  go_ret
  exact⟨rfl,hb.out⟩
 ·rw[show lk 5 p i n=n+1 from rfl]
  go_enter Tryz.func60,Tryz.ntmps60
  go_wp2_with fail
  refine(MI.out _).mono ?_
  rintro e w2 ⟨rfl,rfl⟩
  go_wp2
  go_ret
  exact⟨rfl,hb.out⟩
structure Mc(w:World)(mb:Nat)(pl:Int)(p:Int)(g:Int)(nx:Int)(got:Int)(tg:Int)(ii:Int)(sp:Bool)(inn:Bool)(rest:Value)(bk:Int)(af:Int)(ag:Int)(s0:Int)(s1:Int)(s2:Int)(s3:Int)(s4:Int)(yes:Bool)(un:Int):Prop where
 c0:w.cell? ⟨mb,0,none⟩=some (.int .i64 pl)
 c1:w.cell? ⟨mb,1,none⟩=some (.int .i64 p)
 c2:w.cell? ⟨mb,2,none⟩=some (.int .i64 g)
 c3:w.cell? ⟨mb,3,none⟩=some (.int .i64 nx)
 c4:w.cell? ⟨mb,4,none⟩=some (.int .i64 got)
 c5:w.cell? ⟨mb,5,none⟩=some (.int .i64 tg)
 c6:w.cell? ⟨mb,6,none⟩=some (.int .i64 ii)
 c7:w.cell? ⟨mb,7,none⟩=some (.bool sp)
 c8:w.cell? ⟨mb,8,none⟩=some (.bool inn)
 c9:w.cell? ⟨mb,9,none⟩=some (rest)
 c10:w.cell? ⟨mb,10,none⟩=some (.int .i64 bk)
 c11:w.cell? ⟨mb,11,none⟩=some (.int .i64 af)
 c12:w.cell? ⟨mb,12,none⟩=some (.int .i64 ag)
 c13:w.cell? ⟨mb,13,none⟩=some (.int .i64 s0)
 c14:w.cell? ⟨mb,14,none⟩=some (.int .i64 s1)
 c15:w.cell? ⟨mb,15,none⟩=some (.int .i64 s2)
 c16:w.cell? ⟨mb,16,none⟩=some (.int .u64 s3)
 c17:w.cell? ⟨mb,17,none⟩=some (.int .i64 s4)
 c18:w.cell? ⟨mb,18,none⟩=some (.bool yes)
 c19:w.cell? ⟨mb,19,none⟩=some (.int .i64 un)
 fz:∀ i,w.frozen? ⟨mb,i,none⟩=false
theorem infoEv:(Tryz.prog.info? 38).map (fun i=>(i.zero,i.size,i.bytes))=some (some (.agg #[.int .i64 0, .int .i64 0, .int .i64 0, .int .i64 0, .int .i64 0]),5,40):=by kernel_rfl
structure Lg(w:World)(base:Nat)(v:Value)(n:Nat)(xs:List Value):Prop where
 own:w.ownsRow base 38 5 v n xs
theorem Lg.kept{w w':World}{base n:Nat}{v:Value}{xs:List Value}(h:Lg w base v n xs)(hk:∀ q,v.ownBlock=some q→w'.heap[q]? = w.heap[q]?):Lg w' base v n xs:=by
 obtain⟨h0,h1|⟨q,cap,cur,h1,h2,h3,h4⟩⟩:=h.own
 ·exact⟨h0, .inl h1⟩
 ·exact⟨h0, .inr ⟨q,cap,cur,h1,h2,(hk q (by rw[h1];rfl)).trans h3,h4⟩⟩
theorem Lg.lt{w:World}{base n:Nat}{v:Value}{xs:List Value}(h:Lg w base v n xs):∀ q,v.ownBlock=some q→base≤q∧q<w.heap.size:=World.ownsRow.lt h.own
def LogP (p o base:Nat)(v:Value)(n:Nat)(xs:List Value)(k g m q x:Int)(w w':World):Prop:=
 ∃ (v':Value) (w4:World),w'=w4.setCell ⟨p,o,none⟩ v'∧Lg w' base v' (n+1) (xs ++ [.int .i64 k, .int .i64 g, .int .i64 m, .int .i64 q, .int .i64 x])∧v'.ownBlock≠some p∧(∀ b,v'.ownBlock=some b→v.ownBlock=some b∨w.heap.size≤b) ∧
   w4.os=w.os∧w4.tape=w.tape∧w4.output=w.output∧w.heap.size≤w4.heap.size ∧ ∀ b,b<w.heap.size→v.ownBlock≠some b→w4.heap[b]? = w.heap[b]?
theorem log_add(w:World)(p o base:Nat)(v:Value)(n:Nat)(xs:List Value)(k g m q x:Int)(hr:evRight k g m q x=true)(hc:w.cell? ⟨p,o,none⟩=some v)(hf:w.frozen? ⟨p,o,none⟩=false)(h:Lg w base v n xs)(hvp:v.ownBlock≠some p)(hb:base≤w.heap.size)(hn:n<100000) :
 Calls Tryz.prog 124 #[.pointer (some ⟨p,o,none⟩), .agg #[.int .i64 k, .int .i64 g, .int .i64 m, .int .i64 q, .int .i64 x]] w fun e w'=>e = .returned (.bool true)∧LogP p o base v n xs k g m q x w w':=by
 have hp:p<w.heap.size:=by
  rcases Nat.lt_or_ge p w.heap.size with h'|h'
  ·exact h'
  ·simp[World.cell?,Array.getElem?_eq_none h']at hc
 have RA:=hid (right_any k g m q x (w.alloc (.cells #[.int .i64 k, .int .i64 g, .int .i64 m, .int .i64 q, .int .i64 x] 38)))
 rw[hr]at RA
 have HL:=hid h
 have HC:=hid hc
 have HF:=hid hf
 have HV:=hid hvp
 have HB:=hid hb
 have HP:=hid hp
 have BX:=hid (show Below w.heap.size w (w.alloc (.cells #[.int .i64 k, .int .i64 g, .int .i64 m, .int .i64 q, .int .i64 x] 38)) from (Below.refl _ _).alloc (Nat.le_refl _) _)
 have NB:=hid (heap_alloc_new w (.cells #[.int .i64 k, .int .i64 g, .int .i64 m, .int .i64 q, .int .i64 x] 38))
 clear h hc hf hvp hb hp hr
 go_enter Tryz.func124,Tryz.ntmps124
 go_wp2_with fail
 refine RA.out.mono ?_
 rintro e w2 ⟨rfl,hb2⟩
 have B2:=hid (BX.out.trans (hb2.mono BX.out.size))
 have NB2:=hid (show w2.heap[w.heap.size]? = some (.cells #[.int .i64 k, .int .i64 g, .int .i64 m, .int .i64 q, .int .i64 x] 38 (0,0)) from (hb2.block _ (by simp)).trans NB.out)
 clear hb2 RA NB
 have L2:=hid (HL.out.kept (w':=w2) (fun b hb=>B2.out.block b (HL.out.lt b hb).2))
 have c0:w2.cell? ⟨p,o,none⟩=some v:=(B2.out.cell (p:=⟨p,o,none⟩) HP.out).trans HC.out
 have hpl2:p<w2.heap.size:=by have:=HP.out;have:=B2.out.size;omega
 have c1:(w2.alloc (.cells #[.int .i64 k, .int .i64 g, .int .i64 m, .int .i64 q, .int .i64 x] 38)).cell? ⟨p,o,none⟩=some v:=by rw[←c0];exact World.cell?_of_block (Below.heap_alloc _ _ _ hpl2)
 have hs2:w.heap.size+1≤w2.heap.size:=by
  have:=NB2.out;rw[Array.getElem?_eq_some_iff]at this;exact this.1
 have n0:w2.cell? ⟨w.heap.size,0,none⟩=some (.int .i64 k):=by simp[World.cell?,NB2.out]
 have n1:w2.cell? ⟨w.heap.size,1,none⟩=some (.int .i64 g):=by simp[World.cell?,NB2.out]
 have n2:w2.cell? ⟨w.heap.size,2,none⟩=some (.int .i64 m):=by simp[World.cell?,NB2.out]
 have n3:w2.cell? ⟨w.heap.size,3,none⟩=some (.int .i64 q):=by simp[World.cell?,NB2.out]
 have n4:w2.cell? ⟨w.heap.size,4,none⟩=some (.int .i64 x):=by simp[World.cell?,NB2.out]
 have HS2:=hid hs2
 have OWN:=hid L2.out.own
 have A1:=hid (show n+1≤maxLen by unfold maxLen;omega)
 have A2:=hid (show (n+1)*40≤140737488355328 by omega)
 have XB:=hid (show (w2.alloc (.cells #[.int .i64 k, .int .i64 g, .int .i64 m, .int .i64 q, .int .i64 x] 38)).drew.heap[w2.heap.size]? = some (.cells #[.int .i64 k, .int .i64 g, .int .i64 m, .int .i64 q, .int .i64 x] 38 (0,0)) from heap_alloc_new w2 _)
 have PC:=hid (fun(w4:World) (hg:(w2.alloc (.cells #[.int .i64 k, .int .i64 g, .int .i64 m, .int .i64 q, .int .i64 x] 38)).drew.grownBy w4 v.ownBlock)=>
  (show w4.cell? ⟨p,o,none⟩=some v∧w4.frozen? ⟨p,o,none⟩=false by
   have e:w4.heap[p]? = w.heap[p]?:=(hg.block p (by simp;have:=HP.out;have:=HS2.out;omega) (fun e=>HV.out e.symm)).trans ((Below.heap_alloc w2 _ _ (by have:=HP.out;have:=HS2.out;omega)).trans (B2.out.block p HP.out))
   exact⟨by rw[←HC.out];simp[World.cell?,e],by rw[←HF.out];simp[World.frozen?,e]⟩))
 have FIN:=hid (fun(w4:World) gg cap (hown:w4.ownsRow base 38 5 (.slice (some ⟨gg,0,none⟩) (n+1) cap) (n+1) (xs ++ [.int .i64 k, .int .i64 g, .int .i64 m, .int .i64 q, .int .i64 x])) (hg:(w2.alloc (.cells #[.int .i64 k, .int .i64 g, .int .i64 m, .int .i64 q, .int .i64 x] 38)).drew.grownBy w4 v.ownBlock) (hat:v.ownBlock=some gg∨gg=w2.heap.size+1)=>
  (show LogP p o base v n xs k g m q x w (w4.setCell ⟨p,o,none⟩ (.slice (some ⟨gg,0,none⟩) (n+1) cap)) from by
   have hgp:gg≠p:=by
    rcases hat with h|h
    ·intro e;exact HV.out (by rw[h,e])
    ·have:=HP.out;have:=HS2.out;omega
   refine⟨_,w4,rfl,⟨ownsRow_setCell_other hown (a:=⟨p,o,none⟩) (by simp[Value.ownBlock];exact hgp) _⟩,by simp[Value.ownBlock];exact hgp,fun b hb => ?_,hg.os.trans B2.out.os,hg.tape.trans B2.out.tape,hg.output.trans B2.out.output,?_,fun b h1 h2 => ?_⟩
   ·simp only[Value.ownBlock,Option.some.injEq]at hb
    subst hb
    rcases hat with h|h
    ·exact .inl h
    ·exact .inr (by have:=HS2.out;omega)
   ·have:=hg.size;simp at this;have:=HS2.out;omega
   ·exact(hg.block b (by simp;have:=HS2.out;omega) (fun e=>h2 e.symm)).trans ((Below.heap_alloc w2 _ _ (by have:=HS2.out;omega)).trans (B2.out.block b h1))))
 obtain⟨i0,hi,hz0,hz1,hz2⟩:=info_parts infoEv
 clear HL
 go_wp2_with fail
 go_region_law ((refine step_append_lies _ (by rfl) _ _ _ (by rfl) base 38 i0 _ 5 40 Tryz.underlying29 hi hz0 hz1 hz2 rfl (by omega) _ n _ (by rfl) (World.ownsRow.alloc OWN.out _) ⟨w2.heap.size,0,none⟩ 1 1 [.int .i64 k, .int .i64 g, .int .i64 m, .int .i64 q, .int .i64 x] (by rfl) (by rfl) (World.news_of_block (cs := #[.int .i64 k, .int .i64 g, .int .i64 m, .int .i64 q, .int .i64 x]) (t:=38) (fr:=(0,0)) XB.out) (by simp[Value.oneCell']) (by omega) A1.out A2.out (by have:=HB.out;have:=HS2.out;simp;omega) (w2.heap.size+1) (by simp) ?_;intro gg cap w4 hown4 hgrow4 hat4 hlt4;obtain⟨y0,f0⟩:=PC.out _ hgrow4;have FN:=hid (FIN.out _ _ _ hown4 hgrow4 hat4);clear hown4 hgrow4 hat4 hlt4))
 all_goals
  have FX:=hid FN.out
  clear FN y0 f0 c0 c1 n0 n1 n2 n3 n4
  go_wp2
  go_ret
  exact⟨rfl,FX.out⟩
structure Idf(w:World)(x:Nat)(r:Option Nat)(mv pv:Value)(N:Int)(ss:List Int)(pl:Int):Prop where
 h:∃ sv,w.heap[x]? = some (.cells #[mv,pv, .int .i64 N,sv, .int .i64 pl] 145 (0,0))∧Owns w 0 sv ss∧sv.ownBlock=r
 ne:r≠some x
theorem Idf.lt{w:World}{x:Nat}{r:Option Nat}{mv pv:Value}{N:Int}{ss:List Int}{pl:Int}(H:Idf w x r mv pv N ss pl):x<w.heap.size:=by
 obtain⟨_,h1,_⟩:=H.h
 rw[Array.getElem?_eq_some_iff]at h1;exact h1.1
theorem Idf.c2{w:World}{x:Nat}{r:Option Nat}{mv pv:Value}{N:Int}{ss:List Int}{pl:Int}(H:Idf w x r mv pv N ss pl):w.cell? ⟨x,2,none⟩=some (.int .i64 N):=by
 obtain⟨_,h1,_⟩:=H.h
 simp[World.cell?,h1]
theorem Idf.c4{w:World}{x:Nat}{r:Option Nat}{mv pv:Value}{N:Int}{ss:List Int}{pl:Int}(H:Idf w x r mv pv N ss pl):w.cell? ⟨x,4,none⟩=some (.int .i64 pl):=by
 obtain⟨_,h1,_⟩:=H.h
 simp[World.cell?,h1]
theorem Idf.frz{w:World}{x:Nat}{r:Option Nat}{mv pv:Value}{N:Int}{ss:List Int}{pl:Int}(H:Idf w x r mv pv N ss pl)(i:Nat):w.frozen? ⟨x,i,none⟩=false:=by
 obtain⟨_,h1,_⟩:=H.h
 simp[World.frozen?,h1]
theorem Idf.c3{w:World}{x:Nat}{r:Option Nat}{mv pv:Value}{N:Int}{ss:List Int}{pl:Int}(H:Idf w x r mv pv N ss pl):∃ sv,w.cell? ⟨x,3,none⟩=some sv∧Owns w 0 sv ss∧sv.ownBlock=r:=by
 obtain⟨sv,h1,h2,h3⟩:=H.h
 exact⟨sv,by simp[World.cell?,h1],h2,h3⟩
theorem Idf.poller{w:World}{x:Nat}{r:Option Nat}{mv pv:Value}{N:Int}{ss:List Int}{pl:Int}(H:Idf w x r mv pv N ss pl)(k:Int):Idf (w.setCell ⟨x,4,none⟩ (.int .i64 k)) x r mv pv N ss k:=by
 obtain⟨sv,h1,h2,h3⟩:=H.h
 refine⟨⟨sv,?_,h2.kept fun q hq=>Below.heap_setCell _ _ _ _ (fun e=>H.ne (by rw[←h3,hq,e])),h3⟩,H.ne⟩
 simp[World.setCell,Array.getElem?_modify,h1]
structure OnX(x:Nat)(r:Option Nat)(w w':World):Prop where
 os:w'.os=w.os
 tape:w'.tape=w.tape
 output:w'.output=w.output
 size:w.heap.size≤w'.heap.size
 block:∀ k,k<w.heap.size→k≠x→some k≠r→w'.heap[k]? = w.heap[k]?
theorem OnX.set{x:Nat}{r:Option Nat}(w:World)(i:Nat)(v:Value):OnX x r w (w.setCell ⟨x,i,none⟩ v):=⟨rfl,rfl,rfl,by simp[World.setCell],fun k _ h1 _=>Below.heap_setCell _ _ _ _ h1⟩
theorem OnX.trans{x:Nat}{r:Option Nat}{a b c:World}(h:OnX x r a b)(k:OnX x r b c):OnX x r a c:=
 ⟨k.os.trans h.os,k.tape.trans h.tape,k.output.trans h.output,Nat.le_trans h.size k.size,fun i hi h1 h2=>(k.block i (Nat.lt_of_lt_of_le hi h.size) h1 h2).trans (h.block i hi h1 h2)⟩
theorem OnX.of_quiet{x:Nat}{r:Option Nat}{w w':World}(h:Quiet w w'):OnX x r w w':=by
 obtain⟨n,rfl⟩:=h;exact⟨rfl,rfl,rfl,Nat.le_refl _,fun _ _ _ _=>rfl⟩
theorem Idf.kept{w w':World}{x:Nat}{r:Option Nat}{mv pv:Value}{N:Int}{ss:List Int}{pl:Int}(H:Idf w x r mv pv N ss pl)(hx:w'.heap[x]? = w.heap[x]?)(hr:∀ k,r=some k→w'.heap[k]? = w.heap[k]?):Idf w' x r mv pv N ss pl:=by
 obtain⟨sv,h1,h2,h3⟩:=H.h
 exact⟨⟨sv,hx.trans h1,h2.kept (fun k hk=>hr k (by rw[←h3,hk])),h3⟩,H.ne⟩
def IPost(x:Nat)(r:Option Nat)(mv pv:Value)(v:Value)(N:Int)(ss:List Int)(pl:Int)(w:World)(e:Ending)(w':World):Prop:=
 ∃ r',e = .returned v∧Idf w' x r' mv pv N ss pl∧OnX x r w w'∧(r'=r ∨ ∀ k,r'=some k→w.heap.size≤k)
theorem poller_no(x:Nat)(r:Option Nat)(mv pv:Value)(N:Int)(ss:List Int)(w:World)(H:Idf w x r mv pv N ss (-1)) :
 Calls Tryz.prog 65 #[.pointer (some ⟨x,0,none⟩)] w fun e w'=>e = .returned (.tuple #[.int .i64 0, .bool false])∧w=w':=by
 have c4:=H.c4
 clear H
 go_enter Tryz.func65,Tryz.ntmps65
 go_wp2
 go_ret2
 exact⟨rfl,rfl⟩
theorem poller_yes(x:Nat)(r:Option Nat)(mv pv:Value)(N:Int)(ss:List Int)(pl:Int)(w:World)(H:Idf w x r mv pv N ss pl)(h0:0≤pl) :
 Calls Tryz.prog 65 #[.pointer (some ⟨x,0,none⟩)] w fun e w'=>e = .returned (.tuple #[.int .i64 pl, .bool true])∧w=w':=by
 have c4:=H.c4
 have t:(pl == -1)=false:=beq_eq_false_iff_ne.2 (by omega)
 clear H
 go_enter Tryz.func65,Tryz.ntmps65
 go_wp2
 go_ret2
 exact⟨rfl,rfl⟩
theorem leave_no(x:Nat)(r:Option Nat)(mv pv:Value)(N:Int)(ss:List Int)(pl m:Int)(w:World)(H:Idf w x r mv pv N ss pl)(h:m = -1∨m≠pl) :
 Calls Tryz.prog 66 #[.pointer (some ⟨x,0,none⟩), .int .i64 m] w fun e w'=>e = .returned (.bool false)∧w=w':=by
 have c4:=H.c4
 clear H
 by_cases hm:m = -1
 ·have t:(m == -1)=true:=beq_iff_eq.2 hm
  clear h hm
  go_enter Tryz.func66,Tryz.ntmps66
  go_wp2
  go_ret
  exact⟨rfl,rfl⟩
 ·have t:(m == -1)=false:=beq_eq_false_iff_ne.2 hm
  have t2:(m != pl)=true:=by rw[bne_iff_ne];rcases h with h|h;exact absurd h hm;exact h
  clear h hm
  go_enter Tryz.func66,Tryz.ntmps66
  go_wp2
  go_ret
  exact⟨rfl,rfl⟩
theorem leave_yes(x:Nat)(r:Option Nat)(mv pv:Value)(N:Int)(ss:List Int)(pl:Int)(w:World)(H:Idf w x r mv pv N ss pl)(h:0≤pl) :
 Calls Tryz.prog 66 #[.pointer (some ⟨x,0,none⟩), .int .i64 pl] w (IPost x r mv pv (.bool true) N ss (-1) w):=by
 have c4:=H.c4
 have f4:=H.frz 4
 have FIN:Hid (IPost x r mv pv (.bool true) N ss (-1) w (.returned (.bool true)) (w.setCell ⟨x,4,none⟩ (.int .i64 (-1)))):=⟨r,rfl,H.poller (-1),OnX.set w 4 _, .inl rfl⟩
 have t:(pl == -1)=false:=beq_eq_false_iff_ne.2 (by omega)
 clear H
 go_enter Tryz.func66,Tryz.ntmps66
 go_wp2
 go_ret
 exact FIN.out
theorem stop_first(x:Nat)(r:Option Nat)(mv pv:Value)(N:Int)(ss:List Int)(m:Int)(w:World)(H:Idf w x r mv pv N ss (-1))(h0:0≤m)(h1:m<N)(hs:hasB m ss=false)(hl:ss.length≤100000) :
 Calls Tryz.prog 84 #[.pointer (some ⟨x,0,none⟩), .int .i64 m] w (IPost x r mv pv (.tuple #[.bool true, .bool true]) N ss m w):=by
 have c2:=H.c2
 have c4:=H.c4
 have f4:=H.frz 4
 obtain⟨sv,c3,ho,_⟩:=H.c3
 have C:=hid (fun w2 (hq:Quiet w w2)=>contains_any sv ss m w2 (ho.reads.of_below (hq.below _)) (by omega))
 rw[hs]at C
 obtain⟨a,sm,c,rfl⟩:=ho.slice3
 have HH:=hid H
 have t:(m == -1)=false:=beq_eq_false_iff_ne.2 (by omega)
 clear H ho hs
 go_enter Tryz.func84,Tryz.ntmps84
 go_wp2_with fail
 refine(C.out _ (Quiet.refl _)).mono ?_
 rintro e w2 ⟨rfl,hq2⟩
 have H2:=hid (HH.out.kept (w':=w2) (by rw[hq2.heap]) (fun k _=>by rw[hq2.heap]))
 have d4:=H2.out.c4
 have g4:=H2.out.frz 4
 have FIN:Hid (IPost x r mv pv (.tuple #[.bool true, .bool true]) N ss m w (.returned (.tuple #[.bool true, .bool true])) (w2.setCell ⟨x,4,none⟩ (.int .i64 m))):=⟨r,rfl,H2.out.poller m,(OnX.of_quiet hq2).trans (OnX.set w2 4 _), .inl rfl⟩
 clear hq2
 go_wp2
 go_ret2
 exact FIN.out
theorem more_fin{x:Nat}{r:Option Nat}{mv pv:Value}{N:Int}{ss:List Int}{pl m:Int}{w w2 w6:World}{sv v6:Value}(H:Idf w2 x r mv pv N ss pl)(hq:Quiet w w2)(h3:w2.cell? ⟨x,3,none⟩=some sv)(hr:sv.ownBlock=r)
 (hown:w6.ownsRow 0 3 1 v6 (ss.length+1) (ss.map (Value.int .i64) ++ [.int .i64 m]))(hg:(w2.alloc (.cells #[.int .i64 m] 3)).grownBy w6 sv.ownBlock)(hat:v6.ownBlock=sv.ownBlock∨v6.ownBlock=some (w2.heap.size+1)) :
 (w6.heap[x]? = some (.cells #[mv,pv, .int .i64 N,sv, .int .i64 pl] 145 (0,0)))∧IPost x r mv pv (.tuple #[.bool false, .bool true]) N (ss ++ [m]) pl w (.returned (.tuple #[.bool false, .bool true])) (w6.setCell ⟨x,3,none⟩ v6):=by
 obtain⟨sv',h1,h2,h4⟩:=H.h
 have hx:=H.lt
 have e:sv'=sv:=by
  simp[World.cell?,h1]at h3;exact h3
 subst e
 have h6:w6.heap[x]? = some (.cells #[mv,pv, .int .i64 N,sv', .int .i64 pl] 145 (0,0)):=by
  rw[hg.block x (by simp;omega) (fun e=>H.ne (by rw[←h4];exact e.symm)),Below.heap_alloc _ _ _ hx];exact h1
 have hne:∀ k,v6.ownBlock=some k→k≠x:=by
  intro k hk e
  subst e
  rcases hat with h|h
  ·rw[h,h4]at hk;exact H.ne hk
  ·rw[h]at hk;simp only[Option.some.injEq]at hk;omega
 refine⟨h6,v6.ownBlock,rfl,⟨⟨v6,?_,?_,rfl⟩,fun e=>hne x e rfl⟩,?_,?_⟩
 ·simp[World.setCell,Array.getElem?_modify,h6]
 ·have:Owns w6 0 v6 (ss ++ [m]):=by
   unfold Owns
   rw[List.length_append,List.map_append];exact hown
  exact this.kept fun k hk=>Below.heap_setCell _ _ _ _ (hne k hk)
 ·have h26:OnX x r w2 w6:=⟨hg.os,hg.tape,hg.output,by have:=hg.size;simp at this;omega,fun k hk h1 h2=>by
   rw[hg.block k (by simp;omega) (fun e=>h2 (by rw[←h4];exact e)),Below.heap_alloc _ _ _ hk]⟩
  exact ((OnX.of_quiet hq).trans h26).trans (OnX.set w6 3 _)
 ·rcases hat with h|h
  ·exact .inl (by rw[h,h4])
  ·exact .inr fun k hk=>by rw[h]at hk;simp only[Option.some.injEq]at hk;rw[hq.heap]at hk;omega
theorem stop_more(x:Nat)(r:Option Nat)(mv pv:Value)(N:Int)(ss:List Int)(pl m:Int)(w:World)(H:Idf w x r mv pv N ss pl)(hp:0≤pl)(hmp:m≠pl)(h0:0≤m)(h1:m<N)(hs:hasB m ss=false)(hl:ss.length≤100000) :
 Calls Tryz.prog 84 #[.pointer (some ⟨x,0,none⟩), .int .i64 m] w (IPost x r mv pv (.tuple #[.bool false, .bool true]) N (ss ++ [m]) pl w):=by
 have c2:=H.c2
 have c4:=H.c4
 obtain⟨sv,c3,ho,_⟩:=H.c3
 have C:=hid (fun w2 (hq:Quiet w w2)=>contains_any sv ss m w2 (ho.reads.of_below (hq.below _)) (by omega))
 rw[hs]at C
 obtain⟨n,hn⟩:∃ n,n=ss.length:=⟨_,rfl⟩
 obtain⟨a,c,rfl⟩:=ho.reads_n hn.symm
 have HH:=hid H
 have HN:=hid hn
 have t:(m == pl)=false:=beq_eq_false_iff_ne.2 hmp
 have t2:(pl == -1)=false:=beq_eq_false_iff_ne.2 (by omega)
 rw[←hn]at hl
 clear H ho hs hn hmp
 go_enter Tryz.func84,Tryz.ntmps84
 go_wp2_with fail
 refine(C.out _ (Quiet.refl _)).mono ?_
 rintro e w2 ⟨rfl,hq2⟩
 have H2:=hid (HH.out.kept (w':=w2) (by rw[hq2.heap]) (fun k _=>by rw[hq2.heap]))
 have d4:=H2.out.c4
 obtain⟨sv2,d3,ho2,hr2⟩:=H2.out.c3
 have hsv:sv2 = .slice a n c:=by
  have:=(hq2.cell ⟨x,3,none⟩).trans c3
  rw[d3]at this
  simpa using this
 subst hsv
 have HO:=hid (show (w2.alloc (.cells #[.int .i64 m] 3)).ownsRow 0 3 1 (.slice a n c) n (ss.map (Value.int .i64)) by
  have:=ho2;unfold Owns at this;rw[←HN.out]at this;exact this.alloc _)
 have B1:=hid (show n+1≤maxLen by unfold maxLen;omega)
 have B2:=hid (show (n+1)*8≤140737488355328 by omega)
 have B3:=hid (show 0≤(w2.alloc (.cells #[.int .i64 m] 3)).heap.size by omega)
 have HQ:=hid hq2
 have HR2:=hid hr2
 have HD3:=hid d3
 clear hq2 ho2 hr2
 go_upto_region 6 with (fail)
 obtain⟨i0,hi,hz0,hz1,hz2⟩:=info_parts infoInt
 have HI:=hid hi
 have HZ0:=hid hz0
 have HZ1:=hid hz1
 have HZ2:=hid hz2
 clear hi hz0 hz1 hz2
 go_wp2_with (at_builtin;refine wpList_append_own_at _ rfl _ _ 63 rfl 0 3 i0 (.int .i64 0) 1 8 Tryz.underlying63 HI.out HZ0.out HZ1.out HZ2.out rfl (by decide) _ _ _ rfl HO.out ⟨w2.heap.size,0,none⟩ 1 1 [.int .i64 m] rfl rfl (cell_one_new _ _ _) (ones_of [m]) B1.out B2.out B3.out ?_)
 intro v6 w6 hown6 hgr6 _ hat6
 obtain⟨h6,hfin⟩:=more_fin (v6:=v6) H2.out HQ.out HD3.out HR2.out (by rw[←HN.out];exact hown6) (by rw[HR2.out];exact hgr6) (by rw[HR2.out];simpa using hat6)
 have FIN:=hid hfin
 obtain⟨va6,vc6,rfl⟩:∃ a c,v6 = .slice a (n+1) c:=by
  obtain⟨h0,⟨h1,h2⟩|⟨g,cap,cur,h1,_⟩⟩:=hown6
  ·omega
  ·exact⟨_,_,h1⟩
 have k3:w6.cell? ⟨x,3,none⟩=some (.slice a n c):=by simp[World.cell?,h6]
 have g3:w6.frozen? ⟨x,3,none⟩=false:=by simp[World.frozen?,h6]
 clear hown6 hgr6 hat6 h6 hfin HO
 go_wp2
 go_ret2
 exact FIN.out
theorem owns_pre{w:World}{base:Nat}{a:Option Addr}{n c:Nat}{ss:List Int}{m:Int}(h:Owns w base (.slice a (n+1) c) (ss ++ [m]))(hn:ss.length=n):Owns w base (.slice a n c) ss:=by
 obtain⟨h0,⟨h1,h2⟩|⟨g,cap,cur,h1,h2,h3,h4,h5,h6,h7⟩⟩:=h
 ·simp at h2
 ·simp only[Value.slice.injEq]at h1
  obtain⟨rfl,_,rfl⟩:=h1
  rw[List.length_append,List.length_singleton]at h4 h7
  refine⟨by simp, .inr ⟨g,c,cur,by rw[hn],h2,h3,by omega,h5,h6,?_⟩⟩
  rw[Nat.mul_one]at h7 ⊢
  have:=congrArg (List.take ss.length) h7
  rw[List.take_take,Nat.min_eq_left (by omega),List.map_append,List.take_left' (by simp)]at this
  exact this
theorem take_fin{x:Nat}{r:Option Nat}{mv pv:Value}{N:Int}{ss:List Int}{pl m:Int}{w:World}{a:Option Addr}{n c:Nat}(H:Idf w x r mv pv N (ss ++ [m]) pl)(h3:w.cell? ⟨x,3,none⟩=some (.slice a (n+1) c))(hn:ss.length=n) :
 IPost x r mv pv (.tuple #[.int .i64 m, .bool true]) N ss pl w (.returned (.tuple #[.int .i64 m, .bool true])) (w.setCell ⟨x,3,none⟩ (.slice a n c)):=by
 obtain⟨sv,h1,h2,h4⟩:=H.h
 have e:sv = .slice a (n+1) c:=by
  simp[World.cell?,h1]at h3;exact h3
 subst e
 have ho:=owns_pre h2 hn
 have hb:(Value.slice a n c).ownBlock=r:=by rw[←h4];cases a <;> rfl
 refine⟨r,rfl,⟨⟨.slice a n c,?_,ho.kept fun k hk=>Below.heap_setCell _ _ _ _ (fun e=>H.ne (by rw[←hb,hk,e])),hb⟩,H.ne⟩,OnX.set w 3 _, .inl rfl⟩
 simp[World.setCell,Array.getElem?_modify,h1]
theorem takeM_last(x:Nat)(r:Option Nat)(mv pv:Value)(N:Int)(ss:List Int)(pl m:Int)(w:World)(H:Idf w x r mv pv N (ss ++ [m]) pl)(hl:ss.length≤100000) :
 Calls Tryz.prog 199 #[.pointer (some ⟨x,0,none⟩)] w (IPost x r mv pv (.tuple #[.int .i64 m, .bool true]) N ss pl w):=by
 obtain⟨sv,c3,ho,_⟩:=H.c3
 obtain⟨n,hn⟩:∃ n,n=ss.length:=⟨_,rfl⟩
 obtain⟨a,c,rfl⟩:=ho.reads_n (show (ss ++ [m]).length=n+1 by rw[List.length_append, ←hn];rfl)
 have f3:=H.frz 3
 have FIN:=hid (take_fin H c3 hn.symm)
 have hrd:=ho.reads
 obtain⟨a',c',he,hcap,hr⟩:=hrd
 simp only[Value.slice.injEq]at he
 obtain⟨g,o,h2,h3,h4⟩:=hr (by simp)
 have hcc:=hcap.1
 rw[←he.2.2,List.length_append,List.length_singleton, ←hn]at hcc
 have hcm:=hcap.2.1
 rw[←he.2.2]at hcm
 unfold maxLen at hcm
 have hcm2:=hcm
 have he1:=he.1
 rw[h2]at he1
 have cl:=h4 n (by rw[List.length_append, ←hn];simp)
 have e1:(ss ++ [m]).getD n 0=m:=by rw[hn];simp
 rw[e1]at cl
 rw[←hn]at hl
 clear H ho he h2 h4 hr hn hcap e1 h3
 subst he1
 have hn1:((n+1:Nat):Int) - 1=n:=by omega
 have hnc:(n:Int)≤(c:Int):=by omega
 go_enter Tryz.func199,Tryz.ntmps199
 go_wp2
 go_ret2
 exact FIN.out
theorem takeM_poller(x:Nat)(r:Option Nat)(mv pv:Value)(N:Int)(pl:Int)(w:World)(H:Idf w x r mv pv N [] pl)(h0:0≤pl) :
 Calls Tryz.prog 199 #[.pointer (some ⟨x,0,none⟩)] w (IPost x r mv pv (.tuple #[.int .i64 pl, .bool true]) N [] (-1) w):=by
 obtain⟨sv,c3,ho,_⟩:=H.c3
 obtain⟨a,c,rfl⟩:=ho.reads_n (show ([]:List Int).length=0 from rfl)
 have c4:=H.c4
 have f4:=H.frz 4
 have P:=hid (poller_yes x r mv pv N [] pl w H h0)
 have FIN:Hid (IPost x r mv pv (.tuple #[.int .i64 pl, .bool true]) N [] (-1) w (.returned (.tuple #[.int .i64 pl, .bool true])) (w.setCell ⟨x,4,none⟩ (.int .i64 (-1)))):=⟨r,rfl,H.poller (-1),OnX.set w 4 _, .inl rfl⟩
 clear H ho
 go_enter Tryz.func199,Tryz.ntmps199
 go_wp2_with fail
 refine P.out.mono ?_
 rintro e w2 ⟨rfl,rfl⟩
 go_wp2
 go_ret2
 exact FIN.out
theorem takeM_none(x:Nat)(r:Option Nat)(mv pv:Value)(N:Int)(w:World)(H:Idf w x r mv pv N [] (-1)) :
 Calls Tryz.prog 199 #[.pointer (some ⟨x,0,none⟩)] w (IPost x r mv pv (.tuple #[.int .i64 0, .bool false]) N [] (-1) w):=by
 obtain⟨sv,c3,ho,_⟩:=H.c3
 obtain⟨a,c,rfl⟩:=ho.reads_n (show ([]:List Int).length=0 from rfl)
 have c4:=H.c4
 have f4:=H.frz 4
 have P:=hid (poller_no x r mv pv N [] w H)
 have FIN:Hid (IPost x r mv pv (.tuple #[.int .i64 0, .bool false]) N [] (-1) w (.returned (.tuple #[.int .i64 0, .bool false])) (w.setCell ⟨x,4,none⟩ (.int .i64 (-1)))):=⟨r,rfl,H.poller (-1),OnX.set w 4 _, .inl rfl⟩
 clear H ho
 go_enter Tryz.func199,Tryz.ntmps199
 go_wp2_with fail
 refine P.out.mono ?_
 rintro e w2 ⟨rfl,rfl⟩
 go_wp2
 go_ret2
 exact FIN.out
theorem stop_no(x:Nat)(r:Option Nat)(mv pv:Value)(N:Int)(ss:List Int)(pl m:Int)(w:World)(H:Idf w x r mv pv N ss pl)(h0:0≤m)(h1:m<N)(hs:m=pl∨(m≠pl∧hasB m ss=true))(hl:ss.length≤100000) :
 Calls Tryz.prog 84 #[.pointer (some ⟨x,0,none⟩), .int .i64 m] w fun e w'=>e = .returned (.tuple #[.bool false, .bool false])∧Quiet w w':=by
 have c2:=H.c2
 have c4:=H.c4
 rcases hs with he|⟨hne,hs⟩
 ·have t:(m == pl)=true:=beq_iff_eq.2 he
  clear H he
  go_enter Tryz.func84,Tryz.ntmps84
  go_wp2
  go_ret2
  exact⟨rfl,Quiet.refl _⟩
 ·obtain⟨sv,c3,ho,_⟩:=H.c3
  have C:=hid (contains_any sv ss m w ho.reads (by omega))
  rw[hs]at C
  obtain⟨a,sm,c,rfl⟩:=ho.slice3
  have t:(m == pl)=false:=beq_eq_false_iff_ne.2 hne
  clear H ho hs hne
  go_enter Tryz.func84,Tryz.ntmps84
  go_wp2_with fail
  refine C.out.mono ?_
  rintro e w2 ⟨rfl,hq2⟩
  go_wp2
  go_ret2
  exact⟨rfl,hq2⟩
def DbTab(w:World):Prop:=∀ k,k<64→w.cell? ⟨3,k,none⟩=some (.int .u8 ((Lib.deBruijn64tab.getD k 0:Nat):Int))
theorem DbTab.of{l:List (String × DataW Unit)}{w:World}(h:laidMetH Tryz.prog l w)(hp:(l.all fun x=>x.2.handleName?.isNone)=true)(j:Nat)(hm:l[j]? = some ("math/bits.deBruijn64tab",Rows.laid_math_bits_deBruijn64tab)):DbTab w:=by
 have hg:Tryz.prog.globalNamed "math/bits.deBruijn64tab" = some 3:=by kernel_rfl
 have ht:(Tryz.prog.globals[3]?).map (·.type)=some 260:=by kernel_rfl
 have h0:=laid_at (o:=0) h hp j hm hg ht 8 0 (v := .int .u8 ((Lib.deBruijn64tab.getD 0 0:Nat):Int)) (by kernel_rfl)
 have h1:=laid_at (o:=1) h hp j hm hg ht 8 1 (v := .int .u8 ((Lib.deBruijn64tab.getD 1 0:Nat):Int)) (by kernel_rfl)
 have h2:=laid_at (o:=2) h hp j hm hg ht 8 2 (v := .int .u8 ((Lib.deBruijn64tab.getD 2 0:Nat):Int)) (by kernel_rfl)
 have h3:=laid_at (o:=3) h hp j hm hg ht 8 3 (v := .int .u8 ((Lib.deBruijn64tab.getD 3 0:Nat):Int)) (by kernel_rfl)
 have h4:=laid_at (o:=4) h hp j hm hg ht 8 4 (v := .int .u8 ((Lib.deBruijn64tab.getD 4 0:Nat):Int)) (by kernel_rfl)
 have h5:=laid_at (o:=5) h hp j hm hg ht 8 5 (v := .int .u8 ((Lib.deBruijn64tab.getD 5 0:Nat):Int)) (by kernel_rfl)
 have h6:=laid_at (o:=6) h hp j hm hg ht 8 6 (v := .int .u8 ((Lib.deBruijn64tab.getD 6 0:Nat):Int)) (by kernel_rfl)
 have h7:=laid_at (o:=7) h hp j hm hg ht 8 7 (v := .int .u8 ((Lib.deBruijn64tab.getD 7 0:Nat):Int)) (by kernel_rfl)
 have h8:=laid_at (o:=8) h hp j hm hg ht 8 8 (v := .int .u8 ((Lib.deBruijn64tab.getD 8 0:Nat):Int)) (by kernel_rfl)
 have h9:=laid_at (o:=9) h hp j hm hg ht 8 9 (v := .int .u8 ((Lib.deBruijn64tab.getD 9 0:Nat):Int)) (by kernel_rfl)
 have h10:=laid_at (o:=10) h hp j hm hg ht 8 10 (v := .int .u8 ((Lib.deBruijn64tab.getD 10 0:Nat):Int)) (by kernel_rfl)
 have h11:=laid_at (o:=11) h hp j hm hg ht 8 11 (v := .int .u8 ((Lib.deBruijn64tab.getD 11 0:Nat):Int)) (by kernel_rfl)
 have h12:=laid_at (o:=12) h hp j hm hg ht 8 12 (v := .int .u8 ((Lib.deBruijn64tab.getD 12 0:Nat):Int)) (by kernel_rfl)
 have h13:=laid_at (o:=13) h hp j hm hg ht 8 13 (v := .int .u8 ((Lib.deBruijn64tab.getD 13 0:Nat):Int)) (by kernel_rfl)
 have h14:=laid_at (o:=14) h hp j hm hg ht 8 14 (v := .int .u8 ((Lib.deBruijn64tab.getD 14 0:Nat):Int)) (by kernel_rfl)
 have h15:=laid_at (o:=15) h hp j hm hg ht 8 15 (v := .int .u8 ((Lib.deBruijn64tab.getD 15 0:Nat):Int)) (by kernel_rfl)
 have h16:=laid_at (o:=16) h hp j hm hg ht 8 16 (v := .int .u8 ((Lib.deBruijn64tab.getD 16 0:Nat):Int)) (by kernel_rfl)
 have h17:=laid_at (o:=17) h hp j hm hg ht 8 17 (v := .int .u8 ((Lib.deBruijn64tab.getD 17 0:Nat):Int)) (by kernel_rfl)
 have h18:=laid_at (o:=18) h hp j hm hg ht 8 18 (v := .int .u8 ((Lib.deBruijn64tab.getD 18 0:Nat):Int)) (by kernel_rfl)
 have h19:=laid_at (o:=19) h hp j hm hg ht 8 19 (v := .int .u8 ((Lib.deBruijn64tab.getD 19 0:Nat):Int)) (by kernel_rfl)
 have h20:=laid_at (o:=20) h hp j hm hg ht 8 20 (v := .int .u8 ((Lib.deBruijn64tab.getD 20 0:Nat):Int)) (by kernel_rfl)
 have h21:=laid_at (o:=21) h hp j hm hg ht 8 21 (v := .int .u8 ((Lib.deBruijn64tab.getD 21 0:Nat):Int)) (by kernel_rfl)
 have h22:=laid_at (o:=22) h hp j hm hg ht 8 22 (v := .int .u8 ((Lib.deBruijn64tab.getD 22 0:Nat):Int)) (by kernel_rfl)
 have h23:=laid_at (o:=23) h hp j hm hg ht 8 23 (v := .int .u8 ((Lib.deBruijn64tab.getD 23 0:Nat):Int)) (by kernel_rfl)
 have h24:=laid_at (o:=24) h hp j hm hg ht 8 24 (v := .int .u8 ((Lib.deBruijn64tab.getD 24 0:Nat):Int)) (by kernel_rfl)
 have h25:=laid_at (o:=25) h hp j hm hg ht 8 25 (v := .int .u8 ((Lib.deBruijn64tab.getD 25 0:Nat):Int)) (by kernel_rfl)
 have h26:=laid_at (o:=26) h hp j hm hg ht 8 26 (v := .int .u8 ((Lib.deBruijn64tab.getD 26 0:Nat):Int)) (by kernel_rfl)
 have h27:=laid_at (o:=27) h hp j hm hg ht 8 27 (v := .int .u8 ((Lib.deBruijn64tab.getD 27 0:Nat):Int)) (by kernel_rfl)
 have h28:=laid_at (o:=28) h hp j hm hg ht 8 28 (v := .int .u8 ((Lib.deBruijn64tab.getD 28 0:Nat):Int)) (by kernel_rfl)
 have h29:=laid_at (o:=29) h hp j hm hg ht 8 29 (v := .int .u8 ((Lib.deBruijn64tab.getD 29 0:Nat):Int)) (by kernel_rfl)
 have h30:=laid_at (o:=30) h hp j hm hg ht 8 30 (v := .int .u8 ((Lib.deBruijn64tab.getD 30 0:Nat):Int)) (by kernel_rfl)
 have h31:=laid_at (o:=31) h hp j hm hg ht 8 31 (v := .int .u8 ((Lib.deBruijn64tab.getD 31 0:Nat):Int)) (by kernel_rfl)
 have h32:=laid_at (o:=32) h hp j hm hg ht 8 32 (v := .int .u8 ((Lib.deBruijn64tab.getD 32 0:Nat):Int)) (by kernel_rfl)
 have h33:=laid_at (o:=33) h hp j hm hg ht 8 33 (v := .int .u8 ((Lib.deBruijn64tab.getD 33 0:Nat):Int)) (by kernel_rfl)
 have h34:=laid_at (o:=34) h hp j hm hg ht 8 34 (v := .int .u8 ((Lib.deBruijn64tab.getD 34 0:Nat):Int)) (by kernel_rfl)
 have h35:=laid_at (o:=35) h hp j hm hg ht 8 35 (v := .int .u8 ((Lib.deBruijn64tab.getD 35 0:Nat):Int)) (by kernel_rfl)
 have h36:=laid_at (o:=36) h hp j hm hg ht 8 36 (v := .int .u8 ((Lib.deBruijn64tab.getD 36 0:Nat):Int)) (by kernel_rfl)
 have h37:=laid_at (o:=37) h hp j hm hg ht 8 37 (v := .int .u8 ((Lib.deBruijn64tab.getD 37 0:Nat):Int)) (by kernel_rfl)
 have h38:=laid_at (o:=38) h hp j hm hg ht 8 38 (v := .int .u8 ((Lib.deBruijn64tab.getD 38 0:Nat):Int)) (by kernel_rfl)
 have h39:=laid_at (o:=39) h hp j hm hg ht 8 39 (v := .int .u8 ((Lib.deBruijn64tab.getD 39 0:Nat):Int)) (by kernel_rfl)
 have h40:=laid_at (o:=40) h hp j hm hg ht 8 40 (v := .int .u8 ((Lib.deBruijn64tab.getD 40 0:Nat):Int)) (by kernel_rfl)
 have h41:=laid_at (o:=41) h hp j hm hg ht 8 41 (v := .int .u8 ((Lib.deBruijn64tab.getD 41 0:Nat):Int)) (by kernel_rfl)
 have h42:=laid_at (o:=42) h hp j hm hg ht 8 42 (v := .int .u8 ((Lib.deBruijn64tab.getD 42 0:Nat):Int)) (by kernel_rfl)
 have h43:=laid_at (o:=43) h hp j hm hg ht 8 43 (v := .int .u8 ((Lib.deBruijn64tab.getD 43 0:Nat):Int)) (by kernel_rfl)
 have h44:=laid_at (o:=44) h hp j hm hg ht 8 44 (v := .int .u8 ((Lib.deBruijn64tab.getD 44 0:Nat):Int)) (by kernel_rfl)
 have h45:=laid_at (o:=45) h hp j hm hg ht 8 45 (v := .int .u8 ((Lib.deBruijn64tab.getD 45 0:Nat):Int)) (by kernel_rfl)
 have h46:=laid_at (o:=46) h hp j hm hg ht 8 46 (v := .int .u8 ((Lib.deBruijn64tab.getD 46 0:Nat):Int)) (by kernel_rfl)
 have h47:=laid_at (o:=47) h hp j hm hg ht 8 47 (v := .int .u8 ((Lib.deBruijn64tab.getD 47 0:Nat):Int)) (by kernel_rfl)
 have h48:=laid_at (o:=48) h hp j hm hg ht 8 48 (v := .int .u8 ((Lib.deBruijn64tab.getD 48 0:Nat):Int)) (by kernel_rfl)
 have h49:=laid_at (o:=49) h hp j hm hg ht 8 49 (v := .int .u8 ((Lib.deBruijn64tab.getD 49 0:Nat):Int)) (by kernel_rfl)
 have h50:=laid_at (o:=50) h hp j hm hg ht 8 50 (v := .int .u8 ((Lib.deBruijn64tab.getD 50 0:Nat):Int)) (by kernel_rfl)
 have h51:=laid_at (o:=51) h hp j hm hg ht 8 51 (v := .int .u8 ((Lib.deBruijn64tab.getD 51 0:Nat):Int)) (by kernel_rfl)
 have h52:=laid_at (o:=52) h hp j hm hg ht 8 52 (v := .int .u8 ((Lib.deBruijn64tab.getD 52 0:Nat):Int)) (by kernel_rfl)
 have h53:=laid_at (o:=53) h hp j hm hg ht 8 53 (v := .int .u8 ((Lib.deBruijn64tab.getD 53 0:Nat):Int)) (by kernel_rfl)
 have h54:=laid_at (o:=54) h hp j hm hg ht 8 54 (v := .int .u8 ((Lib.deBruijn64tab.getD 54 0:Nat):Int)) (by kernel_rfl)
 have h55:=laid_at (o:=55) h hp j hm hg ht 8 55 (v := .int .u8 ((Lib.deBruijn64tab.getD 55 0:Nat):Int)) (by kernel_rfl)
 have h56:=laid_at (o:=56) h hp j hm hg ht 8 56 (v := .int .u8 ((Lib.deBruijn64tab.getD 56 0:Nat):Int)) (by kernel_rfl)
 have h57:=laid_at (o:=57) h hp j hm hg ht 8 57 (v := .int .u8 ((Lib.deBruijn64tab.getD 57 0:Nat):Int)) (by kernel_rfl)
 have h58:=laid_at (o:=58) h hp j hm hg ht 8 58 (v := .int .u8 ((Lib.deBruijn64tab.getD 58 0:Nat):Int)) (by kernel_rfl)
 have h59:=laid_at (o:=59) h hp j hm hg ht 8 59 (v := .int .u8 ((Lib.deBruijn64tab.getD 59 0:Nat):Int)) (by kernel_rfl)
 have h60:=laid_at (o:=60) h hp j hm hg ht 8 60 (v := .int .u8 ((Lib.deBruijn64tab.getD 60 0:Nat):Int)) (by kernel_rfl)
 have h61:=laid_at (o:=61) h hp j hm hg ht 8 61 (v := .int .u8 ((Lib.deBruijn64tab.getD 61 0:Nat):Int)) (by kernel_rfl)
 have h62:=laid_at (o:=62) h hp j hm hg ht 8 62 (v := .int .u8 ((Lib.deBruijn64tab.getD 62 0:Nat):Int)) (by kernel_rfl)
 have h63:=laid_at (o:=63) h hp j hm hg ht 8 63 (v := .int .u8 ((Lib.deBruijn64tab.getD 63 0:Nat):Int)) (by kernel_rfl)
 refine fun k hk => ?_
 rcases Nat.lt_or_eq_of_le (Nat.le_of_lt_succ hk) with hk|rfl
 rotate_left
 ·exact h63
 rcases Nat.lt_or_eq_of_le (Nat.le_of_lt_succ hk) with hk|rfl
 rotate_left
 ·exact h62
 rcases Nat.lt_or_eq_of_le (Nat.le_of_lt_succ hk) with hk|rfl
 rotate_left
 ·exact h61
 rcases Nat.lt_or_eq_of_le (Nat.le_of_lt_succ hk) with hk|rfl
 rotate_left
 ·exact h60
 rcases Nat.lt_or_eq_of_le (Nat.le_of_lt_succ hk) with hk|rfl
 rotate_left
 ·exact h59
 rcases Nat.lt_or_eq_of_le (Nat.le_of_lt_succ hk) with hk|rfl
 rotate_left
 ·exact h58
 rcases Nat.lt_or_eq_of_le (Nat.le_of_lt_succ hk) with hk|rfl
 rotate_left
 ·exact h57
 rcases Nat.lt_or_eq_of_le (Nat.le_of_lt_succ hk) with hk|rfl
 rotate_left
 ·exact h56
 rcases Nat.lt_or_eq_of_le (Nat.le_of_lt_succ hk) with hk|rfl
 rotate_left
 ·exact h55
 rcases Nat.lt_or_eq_of_le (Nat.le_of_lt_succ hk) with hk|rfl
 rotate_left
 ·exact h54
 rcases Nat.lt_or_eq_of_le (Nat.le_of_lt_succ hk) with hk|rfl
 rotate_left
 ·exact h53
 rcases Nat.lt_or_eq_of_le (Nat.le_of_lt_succ hk) with hk|rfl
 rotate_left
 ·exact h52
 rcases Nat.lt_or_eq_of_le (Nat.le_of_lt_succ hk) with hk|rfl
 rotate_left
 ·exact h51
 rcases Nat.lt_or_eq_of_le (Nat.le_of_lt_succ hk) with hk|rfl
 rotate_left
 ·exact h50
 rcases Nat.lt_or_eq_of_le (Nat.le_of_lt_succ hk) with hk|rfl
 rotate_left
 ·exact h49
 rcases Nat.lt_or_eq_of_le (Nat.le_of_lt_succ hk) with hk|rfl
 rotate_left
 ·exact h48
 rcases Nat.lt_or_eq_of_le (Nat.le_of_lt_succ hk) with hk|rfl
 rotate_left
 ·exact h47
 rcases Nat.lt_or_eq_of_le (Nat.le_of_lt_succ hk) with hk|rfl
 rotate_left
 ·exact h46
 rcases Nat.lt_or_eq_of_le (Nat.le_of_lt_succ hk) with hk|rfl
 rotate_left
 ·exact h45
 rcases Nat.lt_or_eq_of_le (Nat.le_of_lt_succ hk) with hk|rfl
 rotate_left
 ·exact h44
 rcases Nat.lt_or_eq_of_le (Nat.le_of_lt_succ hk) with hk|rfl
 rotate_left
 ·exact h43
 rcases Nat.lt_or_eq_of_le (Nat.le_of_lt_succ hk) with hk|rfl
 rotate_left
 ·exact h42
 rcases Nat.lt_or_eq_of_le (Nat.le_of_lt_succ hk) with hk|rfl
 rotate_left
 ·exact h41
 rcases Nat.lt_or_eq_of_le (Nat.le_of_lt_succ hk) with hk|rfl
 rotate_left
 ·exact h40
 rcases Nat.lt_or_eq_of_le (Nat.le_of_lt_succ hk) with hk|rfl
 rotate_left
 ·exact h39
 rcases Nat.lt_or_eq_of_le (Nat.le_of_lt_succ hk) with hk|rfl
 rotate_left
 ·exact h38
 rcases Nat.lt_or_eq_of_le (Nat.le_of_lt_succ hk) with hk|rfl
 rotate_left
 ·exact h37
 rcases Nat.lt_or_eq_of_le (Nat.le_of_lt_succ hk) with hk|rfl
 rotate_left
 ·exact h36
 rcases Nat.lt_or_eq_of_le (Nat.le_of_lt_succ hk) with hk|rfl
 rotate_left
 ·exact h35
 rcases Nat.lt_or_eq_of_le (Nat.le_of_lt_succ hk) with hk|rfl
 rotate_left
 ·exact h34
 rcases Nat.lt_or_eq_of_le (Nat.le_of_lt_succ hk) with hk|rfl
 rotate_left
 ·exact h33
 rcases Nat.lt_or_eq_of_le (Nat.le_of_lt_succ hk) with hk|rfl
 rotate_left
 ·exact h32
 rcases Nat.lt_or_eq_of_le (Nat.le_of_lt_succ hk) with hk|rfl
 rotate_left
 ·exact h31
 rcases Nat.lt_or_eq_of_le (Nat.le_of_lt_succ hk) with hk|rfl
 rotate_left
 ·exact h30
 rcases Nat.lt_or_eq_of_le (Nat.le_of_lt_succ hk) with hk|rfl
 rotate_left
 ·exact h29
 rcases Nat.lt_or_eq_of_le (Nat.le_of_lt_succ hk) with hk|rfl
 rotate_left
 ·exact h28
 rcases Nat.lt_or_eq_of_le (Nat.le_of_lt_succ hk) with hk|rfl
 rotate_left
 ·exact h27
 rcases Nat.lt_or_eq_of_le (Nat.le_of_lt_succ hk) with hk|rfl
 rotate_left
 ·exact h26
 rcases Nat.lt_or_eq_of_le (Nat.le_of_lt_succ hk) with hk|rfl
 rotate_left
 ·exact h25
 rcases Nat.lt_or_eq_of_le (Nat.le_of_lt_succ hk) with hk|rfl
 rotate_left
 ·exact h24
 rcases Nat.lt_or_eq_of_le (Nat.le_of_lt_succ hk) with hk|rfl
 rotate_left
 ·exact h23
 rcases Nat.lt_or_eq_of_le (Nat.le_of_lt_succ hk) with hk|rfl
 rotate_left
 ·exact h22
 rcases Nat.lt_or_eq_of_le (Nat.le_of_lt_succ hk) with hk|rfl
 rotate_left
 ·exact h21
 rcases Nat.lt_or_eq_of_le (Nat.le_of_lt_succ hk) with hk|rfl
 rotate_left
 ·exact h20
 rcases Nat.lt_or_eq_of_le (Nat.le_of_lt_succ hk) with hk|rfl
 rotate_left
 ·exact h19
 rcases Nat.lt_or_eq_of_le (Nat.le_of_lt_succ hk) with hk|rfl
 rotate_left
 ·exact h18
 rcases Nat.lt_or_eq_of_le (Nat.le_of_lt_succ hk) with hk|rfl
 rotate_left
 ·exact h17
 rcases Nat.lt_or_eq_of_le (Nat.le_of_lt_succ hk) with hk|rfl
 rotate_left
 ·exact h16
 rcases Nat.lt_or_eq_of_le (Nat.le_of_lt_succ hk) with hk|rfl
 rotate_left
 ·exact h15
 rcases Nat.lt_or_eq_of_le (Nat.le_of_lt_succ hk) with hk|rfl
 rotate_left
 ·exact h14
 rcases Nat.lt_or_eq_of_le (Nat.le_of_lt_succ hk) with hk|rfl
 rotate_left
 ·exact h13
 rcases Nat.lt_or_eq_of_le (Nat.le_of_lt_succ hk) with hk|rfl
 rotate_left
 ·exact h12
 rcases Nat.lt_or_eq_of_le (Nat.le_of_lt_succ hk) with hk|rfl
 rotate_left
 ·exact h11
 rcases Nat.lt_or_eq_of_le (Nat.le_of_lt_succ hk) with hk|rfl
 rotate_left
 ·exact h10
 rcases Nat.lt_or_eq_of_le (Nat.le_of_lt_succ hk) with hk|rfl
 rotate_left
 ·exact h9
 rcases Nat.lt_or_eq_of_le (Nat.le_of_lt_succ hk) with hk|rfl
 rotate_left
 ·exact h8
 rcases Nat.lt_or_eq_of_le (Nat.le_of_lt_succ hk) with hk|rfl
 rotate_left
 ·exact h7
 rcases Nat.lt_or_eq_of_le (Nat.le_of_lt_succ hk) with hk|rfl
 rotate_left
 ·exact h6
 rcases Nat.lt_or_eq_of_le (Nat.le_of_lt_succ hk) with hk|rfl
 rotate_left
 ·exact h5
 rcases Nat.lt_or_eq_of_le (Nat.le_of_lt_succ hk) with hk|rfl
 rotate_left
 ·exact h4
 rcases Nat.lt_or_eq_of_le (Nat.le_of_lt_succ hk) with hk|rfl
 rotate_left
 ·exact h3
 rcases Nat.lt_or_eq_of_le (Nat.le_of_lt_succ hk) with hk|rfl
 rotate_left
 ·exact h2
 rcases Nat.lt_or_eq_of_le (Nat.le_of_lt_succ hk) with hk|rfl
 rotate_left
 ·exact h1
 rcases Nat.lt_or_eq_of_le (Nat.le_of_lt_succ hk) with hk|rfl
 rotate_left
 ·exact h0
 exact absurd hk (Nat.not_lt_zero k)
theorem DbTab.lt{w:World}(h:DbTab w):3<w.heap.size:=lt_of_cell (h 0 (by omega))
theorem DbTab.at{w w':World}(h:DbTab w)(hb:Below w.heap.size w w'):DbTab w':=fun k hk=>by
 have e:w'.heap[3]? = w.heap[3]?:=hb.block _ h.lt
 have:=h k hk
 simpa[World.cell?,e] using this
theorem DbTab.eq{w w':World}(h:DbTab w)(e:w'.heap[3]? = w.heap[3]?):DbTab w':=fun k hk=>by
 have:=h k hk
 simpa[World.cell?,e] using this
end Go.Proofs.YtkhigkcmgcafdaaGreatDoor
namespace Go.Proofs.YtkhigkcmgcafdaaGreatDoor
def f1 (a:Nat):Nat:=(a / 2 &&& 85)+(a &&& 85)
def f2 (a:Nat):Nat:=(a / 4 &&& 51)+(a &&& 51)
def f3 (a:Nat):Nat:=(a+a / 16) &&& 15
def bitAt(W:List Nat)(i:Nat):Bool:=(W.getD (i / 64) 0).testBit (i % 64)
def upd (f:Nat→Bool)(i:Nat)(b:Bool):Nat→Bool:=fun j=>if j=i then b else f j
theorem upd_ne(f:Nat→Bool){i j:Nat}(b:Bool)(h:j≠i):upd f i b j=f j:=by simp[upd,h]
theorem upd_self(f:Nat→Bool){i:Nat}{b:Bool}(h:f i=b):upd f i b=f:=by
 funext j;simp only[upd];split
 ·rename_i e;rw[e,h]
 ·rfl
def card (f:Nat→Bool):Nat→Nat
 | 0=>0
 | n+1=>card f n+if f n then 1 else 0
theorem bitAt_set(W:List Nat)(i:Nat)(v:Nat)(hi:i / 64<W.length)(b:Bool)(hv:∀ j,j<64→v.testBit j=if j=i % 64 then b else (W.getD (i / 64) 0).testBit j):bitAt (W.set (i / 64) v)=upd (bitAt W) i b:=by
 funext j
 simp only[bitAt,upd]
 by_cases e:j / 64=i / 64
 ·have e1:(W.set (i / 64) v).getD (j / 64) 0=v:=by rw[e];simp[List.getD_eq_getElem?_getD,hi]
  rw[e1,hv _ (by omega)]
  by_cases e2:j=i
  ·subst e2;simp
  ·have e3:j % 64≠i % 64:=by omega
   rw[if_neg e3,if_neg e2,e]
 ·have e1:(W.set (i / 64) v).getD (j / 64) 0=W.getD (j / 64) 0:=by
   simp only[List.getD_eq_getElem?_getD]
   rw[List.getElem?_set_ne (Ne.symm e)]
  have e2:j≠i:=fun h=>e (by rw[h])
  rw[e1,if_neg e2]
theorem or_bit(v k:Nat):∀ j,j<64→(v ||| 2 ^ k).testBit j=if j=k then true else v.testBit j:=by
 intro j _
 rw[Nat.testBit_or,Nat.testBit_two_pow]
 by_cases e:j=k
 ·subst e;simp
 ·simp[e,Ne.symm e]
theorem full_bit{j:Nat}(hj:j<64):(18446744073709551615:Nat).testBit j=true:=by
 have:=Nat.testBit_two_pow_sub_one 64 j
 rw[show (2 ^ 64 - 1:Nat)=18446744073709551615 by decide]at this
 rw[this];simpa using hj
theorem not_bit{k:Nat}(hk:k<64){j:Nat}(hj:j<64):(18446744073709551615 - 2 ^ k).testBit j=decide (j≠k):=by
 have h:(2:Nat) ^ k<2 ^ 64:=Nat.pow_lt_pow_right (by omega) hk
 have:=Nat.testBit_two_pow_sub_succ h j
 rw [show (2 ^ 64 - (2 ^ k + 1) : Nat) = 18446744073709551615 - 2 ^ k by have:(2:Nat) ^ 64=18446744073709551616:=by decide
                                                                         omega]at this
 rw[this,Nat.testBit_two_pow]
 by_cases e:j=k
 ·subst e;simp
 ·simp[e,Ne.symm e,hj]
theorem andnot_bit(v:Nat){k:Nat}(hk:k<64):∀ j,j<64→(v &&& (18446744073709551615 - 2 ^ k)).testBit j=if j=k then false else v.testBit j:=by
 intro j hj
 rw[Nat.testBit_and,not_bit hk hj]
 by_cases e:j=k
 ·subst e;simp
 ·simp[e]
theorem and_pow(v k:Nat):v &&& 2 ^ k=if v.testBit k then 2 ^ k else 0:=by
 apply Nat.eq_of_testBit_eq
 intro j
 rw[Nat.testBit_and,Nat.testBit_two_pow]
 by_cases e:k=j
 ·subst e
  by_cases h:v.testBit k=true
  ·simp[h,Nat.testBit_two_pow]
  ·simp[h]
 ·split
  ·simp[e,Nat.testBit_two_pow]
  ·simp[e]
theorem above_bit{s:Nat}(hs:s<64):∀ j,j<64→(18446744073709551616 - 2 ^ s).testBit j=decide (s≤j):=by
 intro j hj
 have e:(18446744073709551616 - 2 ^ s:Nat)=(2 ^ (64 - s) - 1)*2 ^ s:=by
  rw[Nat.sub_mul, ←Nat.pow_add,show 64 - s+s=64 by omega];simp
 rw[e,Nat.testBit_mul_two_pow,Nat.testBit_two_pow_sub_one]
 by_cases h:s≤j
 ·simp[h];omega
 ·simp[h]
theorem shl_full{s:Nat}(hs:s<64):(18446744073709551615*2 ^ s) % 18446744073709551616=18446744073709551616 - 2 ^ s:=by
 have h:(2:Nat) ^ s<18446744073709551616:=by
  have:=Nat.pow_lt_pow_right (a:=2) (by omega) hs
  simpa using this
 have h0:0<(2:Nat) ^ s:=Nat.two_pow_pos s
 generalize 2 ^ s=p at h h0 ⊢
 have:18446744073709551615*p=18446744073709551616*(p - 1)+(18446744073709551616 - p):=by omega
 rw[this,Nat.mul_add_mod]
 exact Nat.mod_eq_of_lt (by omega)
theorem ctz_spec{v:Nat}(h0:v≠0)(h:v<18446744073709551616):Lib.ctz 64 v<64∧v.testBit (Lib.ctz 64 v)=true ∧ ∀ j,j<Lib.ctz 64 v→v.testBit j=false:=by
 obtain⟨m,hm,hk⟩:=Lib.ctzFrom_spec 64 v (by omega) h
 have e:Lib.ctz 64 v=Lib.ctzFrom 64 v:=by simp[Lib.ctz,h0]
 rw[e]
 generalize Lib.ctzFrom 64 v=k at hm hk
 refine⟨hk,?_,fun j hj => ?_⟩
 ·rw[hm,Nat.mul_comm,Nat.testBit_mul_two_pow];simp
 ·rw[hm,Nat.mul_comm,Nat.testBit_mul_two_pow];simp;omega
def nextI(f:Nat→Bool)(n:Nat)(i:Int):Int:=match (List.range n).find? (fun k:Nat=>decide (i<(k:Int)) && f k) with
 | some k=>(k:Int)
 | none => -1
theorem next_some{f:Nat→Bool}{n k:Nat}{i:Int}(h:i<k)(hk:k<n)(hf:f k=true)(hl:∀ j:Nat,i<j→j<k→f j=false):nextI f n i=k:=by
 have:(List.range n).find? (fun k:Nat=>decide (i<(k:Int)) && f k)=some k:=by
  rw[List.find?_eq_some_iff_getElem]
  refine⟨by simp[h,hf],k,by simpa using hk,by simp,fun j hj => ?_⟩
  simp only[List.getElem_range,Bool.not_eq_eq_eq_not,Bool.not_true,Bool.and_eq_false_imp,decide_eq_true_eq]
  exact fun hi=>hl j hi hj
 simp only[nextI,this]
theorem next_none{f:Nat→Bool}{n:Nat}{i:Int}(h:∀ j:Nat,i<j→j<n→f j=false):nextI f n i = -1:=by
 have:(List.range n).find? (fun k:Nat=>decide (i<(k:Int)) && f k)=none:=by
  rw[List.find?_eq_none]
  intro j hj
  simp only[List.mem_range]at hj
  simp only[Bool.and_eq_true,decide_eq_true_eq,not_and,Bool.not_eq_true]
  exact fun hi=>h j hi hj
 simp only[nextI,this]
end Go.Proofs.YtkhigkcmgcafdaaGreatDoor
namespace Go.Proofs.YtkhigkcmgcafdaaGreatDoor
open Go.RowKit
theorem and64(a b:Nat)(ha:a<18446744073709551616)(hb:b<18446744073709551616):bits .and .u64 (a:Int) (b:Int)=((a &&& b:Nat):Int):=bits_and_u64_nat a b ha hb
theorem wrap64(a:Nat)(h:a<18446744073709551616):IntKind.u64.wrap (a:Int)=a:=by rw[IntKind.wrap_u64];omega
theorem pow_lt{r:Nat}(h:r<64):2 ^ r<18446744073709551616:=by
 have:=Nat.pow_lt_pow_right (a:=2) (by omega) h
 simpa using this
theorem two_cast(r:Nat):((2 ^ r:Nat):Int)=2 ^ r:=by simp
theorem tz_key(x a:Nat)(hx:x<18446744073709551616)(hx0:x≠0)(hlow:x &&& (18446744073709551616 - x)=a) :
 IntKind.u64.wrap (bits BinOp.and IntKind.u64 (x:Int) (IntKind.u64.wrap (-(x:Int)))*285870213051353865) / 288230376151711744=((a*285870213051353865 % 18446744073709551616 / 288230376151711744:Nat):Int):=by
 have e1:IntKind.u64.wrap (-(x:Int))=((18446744073709551616 - x:Nat):Int):=by rw[IntKind.wrap_u64];omega
 rw[e1,and64 x _ hx (by omega),hlow,IntKind.wrap_u64]
 omega
theorem ret_of{k:IntKind}{a b:Int}(h:a=b):Ending.returned (.int k a) = .returned (.int k b):=by rw[h]
theorem tz_core(x k idx:Nat)(w:World)(hx0:((x:Int) == 0)=false)
 (key:IntKind.u64.wrap (bits BinOp.and IntKind.u64 (x:Int) (IntKind.u64.wrap (-(x:Int)))*285870213051353865) / 288230376151711744=(idx:Int))
 (hi:idx<64)(hk:k<64)(hcell:w.cell? ⟨3,idx,none⟩=some (.int .u8 k)) :
 Calls Tryz.prog 205 #[.int .u64 x] w fun e w'=>e = .returned (.int .i64 k)∧w=w':=by
 go_enter Tryz.func205,Tryz.ntmps205
 go_wp2_with (simp only[key])
 go_ret
 exact⟨rfl,rfl⟩
theorem tz_any(x:Nat)(h0:x≠0)(hx:x<18446744073709551616)(w:World)(T:DbTab w) :
 Calls Tryz.prog 205 #[.int .u64 x] w fun e w'=>e = .returned (.int .i64 (Lib.ctz 64 x))∧w=w':=by
 obtain⟨hlow,hk⟩:=Lib.lowest_bit 64 x h0 hx
 obtain⟨hi,htab⟩:=Lib.deBruijn64_at _ hk
 have hc:=T _ hi
 rw[htab]at hc
 exact tz_core x (Lib.ctz 64 x) _ w (beq_eq_false_iff_ne.2 (by omega)) (tz_key x _ hx h0 hlow) hi hk hc
structure Msk(w:World)(x y:Nat)(n:Nat)(W:List Nat):Prop where
 h:∃ cap cur,w.heap[x]? = some (.cells #[.int .i64 n, .slice (some ⟨y,0,none⟩) W.length cap] 195 (0,0))∧w.heap[y]? = some (.cells cur 66 (0,0))∧W.length≤cap∧cap≤maxLen∧cur.size=cap∧cur.toList.take W.length=W.map fun v:Nat=>Value.int .u64 (v:Int)
 ne:x≠y
 len:W.length=(n+63) / 64
 wf:∀ k,W.getD k 0<18446744073709551616
 out:∀ i,n≤i→bitAt W i=false
 most:n≤4096
namespace Msk
variable {w:World}{x y n:Nat}{W:List Nat}
theorem c0(h:Msk w x y n W):w.cell? ⟨x,0,none⟩=some (.int .i64 n):=by
 obtain⟨cap,cur,hb,hg,h1,h2,h3,h4⟩:=h.h
 simp[World.cell?,hb]
theorem c1(h:Msk w x y n W):∃ cap,w.cell? ⟨x,1,none⟩=some (.slice (some ⟨y,0,none⟩) W.length cap)∧W.length≤cap∧cap≤maxLen:=by
 obtain⟨cap,cur,hb,hg,h1,h2,h3,h4⟩:=h.h
 exact⟨cap,by simp[World.cell?,hb],h1,h2⟩
theorem fy(h:Msk w x y n W)(i:Nat):w.frozen? ⟨y,i,none⟩=false:=by
 obtain⟨cap,cur,hb,hg,h1,h2,h3,h4⟩:=h.h
 simp[World.frozen?,hg]
theorem cy(h:Msk w x y n W)(i:Nat)(hi:i<W.length):w.cell? ⟨y,i,none⟩=some (.int .u64 ((W.getD i 0:Nat):Int)):=by
 obtain⟨cap,cur,hb,hg,h1,h2,h3,h4⟩:=h.h
 have e:(cur.toList.take W.length)[i]? = cur.toList[i]?:=by rw[List.getElem?_take,if_pos hi]
 rw[h4]at e
 have e':w.cell? ⟨y,i,none⟩=cur.toList[i]?:=by simp[World.cell?,hg]
 rw[e', ←e]
 simp[hi]
theorem sx(h:Msk w x y n W):x<w.heap.size:=by
 obtain⟨cap,cur,hb,hg,h1,h2,h3,h4⟩:=h.h
 rw[Array.getElem?_eq_some_iff]at hb;exact hb.1
theorem sy(h:Msk w x y n W):y<w.heap.size:=by
 obtain⟨cap,cur,hb,hg,h1,h2,h3,h4⟩:=h.h
 rw[Array.getElem?_eq_some_iff]at hg;exact hg.1
theorem kept(h:Msk w x y n W){w':World}(hx:w'.heap[x]? = w.heap[x]?)(hy:w'.heap[y]? = w.heap[y]?):Msk w' x y n W:=by
 obtain⟨cap,cur,hb',hg',h1⟩:=h.h
 exact⟨⟨cap,cur,hx.trans hb',hy.trans hg',h1⟩,h.ne,h.len,h.wf,h.out,h.most⟩
theorem below(h:Msk w x y n W){B:Nat}{w':World}(ho:Below B w w')(h1:x<B)(h2:y<B):Msk w' x y n W:=
 h.kept (ho.block _ h1) (ho.block _ h2)
theorem quiet(h:Msk w x y n W){w':World}(q:Quiet w w'):Msk w' x y n W:=h.kept (by rw[q.heap]) (by rw[q.heap])
theorem low(h:Msk w x y n W){i:Nat}(hi:i<n):i / 64<W.length:=by have:=h.len;omega
end Msk
theorem mlen_any(x y n:Nat)(W:List Nat)(w:World)(hm:Msk w x y n W) :
 Calls Tryz.prog 209 #[.pointer (some ⟨x,0,none⟩)] w fun e w'=>e = .returned (.int .i64 n)∧w=w':=by
 have h0:=hm.c0
 go_enter Tryz.func209,Tryz.ntmps209
 go_wp2
 go_ret
 exact⟨rfl,rfl⟩
theorem bit_out(x y n:Nat)(W:List Nat)(i:Int)(w:World)(hm:Msk w x y n W)(hi:i<0∨(n:Int)≤i) :
 Calls Tryz.prog 159 #[.pointer (some ⟨x,0,none⟩), .int .i64 i] w fun e w'=>e = .returned (.tuple #[.int .i64 0, .int .u64 0, .bool false])∧w=w':=by
 have h0:=hm.c0
 by_cases h:i<0
 ·clear hi
  go_enter Tryz.func159,Tryz.ntmps159
  go_wp2
  go_ret3
  exact⟨rfl,rfl⟩
 ·have hi2:(n:Int)≤i:=by omega
  have hi3:0≤i:=by omega
  clear hi
  go_enter Tryz.func159,Tryz.ntmps159
  go_wp2
  go_ret3
  exact⟨rfl,rfl⟩
theorem bit_in(x y n:Nat)(W:List Nat)(i q r:Nat)(w:World)(hm:Msk w x y n W)(hi:i<n)(hq:i / 64=q)(hr:i % 64=r) :
 Calls Tryz.prog 159 #[.pointer (some ⟨x,0,none⟩), .int .i64 i] w fun e w'=>e = .returned (.tuple #[.int .i64 q, .int .u64 ((2 ^ r:Nat):Int), .bool true])∧Quiet w w':=by
 have h0:=hm.c0
 have hi2:¬(n:Int)≤i:=by omega
 have hi4:(i:Int)<n:=by omega
 have hi3:¬(i:Int)<0:=by omega
 have hi5:0≤(i:Int):=by omega
 go_enter Tryz.func159,Tryz.ntmps159
 go_wp2_with fail
 go_quiet (fail)
 go_wp2_with fail
 go_ret3
 refine⟨?_,nq,rfl⟩
 have e1:RowKit.wrap64 ((i:Int) / 64)=q:=by rw[IntWalk.wrap64_in _ (by have:=hm.most;omega)];omega
 have e2:IntKind.u64.wrap (2 ^ (i % 64))=((2 ^ r:Nat):Int):=by
  rw[hr, ←two_cast,wrap64 _ (pow_lt (by omega))]
 rw[e1,e2]
 rfl
theorem and_yes{v r:Nat}(hv:v<18446744073709551616)(hr:r<64)(h:v.testBit r=true):bits .and .u64 (v:Int) ((2 ^ r:Nat):Int)=((2 ^ r:Nat):Int):=by
 rw[and64 v _ hv (pow_lt hr),and_pow,if_pos h]
theorem and_no{v r:Nat}(hv:v<18446744073709551616)(hr:r<64)(h:v.testBit r=false):bits .and .u64 (v:Int) ((2 ^ r:Nat):Int)=0:=by
 rw[and64 v _ hv (pow_lt hr),and_pow,if_neg (by simp[h])];rfl
theorem has_out(x y n:Nat)(W:List Nat)(i:Int)(w:World)(hm:Msk w x y n W)(hi:i<0∨(n:Int)≤i) :
 Calls Tryz.prog 216 #[.pointer (some ⟨x,0,none⟩), .int .i64 i] w fun e w'=>e = .returned (.bool false)∧w=w':=by
 go_enter Tryz.func216,Tryz.ntmps216
 go_wp2_with fail
 refine(bit_out x y n W i _ hm hi).mono ?_
 rintro e w' ⟨rfl,rfl⟩
 go_wp2
 go_ret
 exact⟨rfl,rfl⟩
theorem has_in(x y n:Nat)(W:List Nat)(i:Nat)(b:Bool)(w:World)(hm:Msk w x y n W)(hi:i<n)(hb:bitAt W i=b) :
 Calls Tryz.prog 216 #[.pointer (some ⟨x,0,none⟩), .int .i64 i] w fun e w'=>e = .returned (.bool b)∧Quiet w w':=by
 obtain⟨q,hq⟩:∃ q,i / 64=q:=⟨_,rfl⟩
 obtain⟨r,hr⟩:∃ r,i % 64=r:=⟨_,rfl⟩
 obtain⟨v,hv⟩:∃ v,v=W.getD q 0:=⟨_,rfl⟩
 have hql:q<W.length:=by have:=hm.low hi;omega
 have BIT:=hid (bit_in x y n W i q r w hm hi hq hr)
 have hvw:=hm.wf q
 simp only[bitAt,hq,hr]at hb
 rw[←hv]at hb hvw
 have hr64:r<64:=by omega
 have HY:=hid (and_yes hvw hr64)
 have HN:=hid (and_no (r:=r) hvw hr64)
 have HM:=hid hm
 have hcy:=hid (hm.cy q hql)
 rw[←hv]at hcy
 have hp0:0<2 ^ r:=Nat.two_pow_pos r
 generalize hpp:2 ^ r=p at BIT HY HN hp0
 obtain⟨wl,hwl⟩:∃ wl,wl=W.length:=⟨_,rfl⟩
 have hqi:(q:Int)<(wl:Int):=by omega
 have hq0:0≤(q:Int):=by omega
 have HWL:=hid hwl
 clear hm hv hq hr hpp hi hwl hql
 go_enter Tryz.func216,Tryz.ntmps216
 go_wp2_with fail
 refine BIT.out.mono ?_
 rintro e w' ⟨rfl,hq'⟩
 obtain⟨cap,h1,hcap,hcap2⟩:=(HM.out.quiet hq').c1
 rw[←HWL.out]at h1 hcap
 have h2:w'.cell? ⟨y,q,none⟩=some (.int .u64 v):=by rw[hq'.cell];exact hcy.out
 have HQ:=hid hq'
 clear hq'
 rcases b with _|_
 ·have hk:=HN.out hb
  clear hb
  go_wp2
  go_ret
  exact⟨rfl,HQ.out⟩
 ·have hk:=HY.out hb
  have t:((p:Int) != 0)=true:=by simp;omega
  clear hb
  go_wp2
  go_ret
  exact⟨rfl,HQ.out⟩
theorem set_y{w:World}{x y n i:Nat}{W:List Nat}(h:Msk w x y n W)(hi:i<n)(v:Nat)(b:Bool)(hv:v<18446744073709551616)
 (hb:∀ j,j<64→v.testBit j=if j=i % 64 then b else (W.getD (i / 64) 0).testBit j) :
 Msk (w.setCell ⟨y,i / 64,none⟩ (.int .u64 (v:Int))) x y n (W.set (i / 64) v)∧bitAt (W.set (i / 64) v)=upd (bitAt W) i b∧Only x y w (w.setCell ⟨y,i / 64,none⟩ (.int .u64 (v:Int))):=by
 have hbit:=bitAt_set W i v (h.low hi) b hb
 obtain⟨cap,cur,hx,hy,h1,h2,h3,h4⟩:=h.h
 refine⟨⟨⟨cap,cur.setIfInBounds (i / 64) (.int .u64 v),?_,?_,by simpa using h1,h2,by simpa using h3,?_⟩,h.ne,by simpa using h.len,?_,?_,h.most⟩,hbit,⟨rfl,rfl,rfl,by simp[World.setCell],fun k _ _ h2=>Below.heap_setCell _ _ _ _ h2⟩⟩
 ·rw[Below.heap_setCell _ _ _ _ h.ne];simpa using hx
 ·simp[World.setCell,Array.getElem?_modify,hy]
 ·simp only[Array.toList_setIfInBounds,List.length_set,List.take_set,h4,List.map_set]
 ·intro k
  simp only[List.getD_eq_getElem?_getD,List.getElem?_set]
  split
  ·split
   ·simpa using hv
   ·simp
  ·have:=h.wf k
   simpa[List.getD_eq_getElem?_getD] using this
 ·intro j hj
  rw[hbit,upd_ne _ _ (by omega)]
  exact h.out j hj
theorem or64(v r:Nat)(hv:v<18446744073709551616)(hr:r<64):bits .or .u64 (v:Int) ((2 ^ r:Nat):Int)=((v ||| 2 ^ r:Nat):Int):=bits_or_u64_nat v _ hv (pow_lt hr)
theorem andnot64(v r:Nat)(hv:v<18446744073709551616)(hr:r<64):bits .andNot .u64 (v:Int) ((2 ^ r:Nat):Int)=((v &&& (18446744073709551615 - 2 ^ r):Nat):Int):=u64_andNot_nat v _ hv (pow_lt hr)
theorem or_lt{v r:Nat}(hv:v<18446744073709551616)(hr:r<64):v ||| 2 ^ r<18446744073709551616:=by
 have:=Nat.or_lt_two_pow (x:=v) (y:=2 ^ r) (n:=64) (by omega) (by have:=pow_lt hr;omega)
 simpa using this
theorem andnot_lt{v u:Nat}(hv:v<18446744073709551616):v &&& u<18446744073709551616:=Nat.lt_of_le_of_lt Nat.and_le_left hv
theorem Only.of_quiet'{b g:Nat}{w w':World}(h:Quiet w w'):Only b g w w':=by
 obtain⟨n,rfl⟩:=h;exact⟨rfl,rfl,rfl,Nat.le_refl _,fun _ _ _ _=>rfl⟩
theorem put_out(x y n:Nat)(W:List Nat)(i:Int)(w:World)(hm:Msk w x y n W)(hi:i<0∨(n:Int)≤i) :
 Calls Tryz.prog 119 #[.pointer (some ⟨x,0,none⟩), .int .i64 i] w fun e w'=>e = .returned (.bool false)∧w=w':=by
 go_enter Tryz.func119,Tryz.ntmps119
 go_wp2_with fail
 refine(bit_out x y n W i _ hm hi).mono ?_
 rintro e w' ⟨rfl,rfl⟩
 go_wp2
 go_ret
 exact⟨rfl,rfl⟩
theorem put_no(x y n:Nat)(W:List Nat)(i:Nat)(w:World)(hm:Msk w x y n W)(hi:i<n)(hb:bitAt W i=true) :
 Calls Tryz.prog 119 #[.pointer (some ⟨x,0,none⟩), .int .i64 i] w fun e w'=>e = .returned (.bool false)∧Quiet w w':=by
 obtain⟨q,hq⟩:∃ q,i / 64=q:=⟨_,rfl⟩
 obtain⟨r,hr⟩:∃ r,i % 64=r:=⟨_,rfl⟩
 obtain⟨v,hv⟩:∃ v,v=W.getD q 0:=⟨_,rfl⟩
 have hql:q<W.length:=by have:=hm.low hi;omega
 have BIT:=hid (bit_in x y n W i q r w hm hi hq hr)
 have hvw:=hm.wf q
 simp only[bitAt,hq,hr]at hb
 rw[←hv]at hb hvw
 have hr64:r<64:=by omega
 have HY:=hid (and_yes hvw hr64 hb)
 have HM:=hid hm
 have hcy:=hid (hm.cy q hql)
 rw[←hv]at hcy
 have hp0:0<2 ^ r:=Nat.two_pow_pos r
 generalize hpp:2 ^ r=p at BIT HY hp0
 obtain⟨wl,hwl⟩:∃ wl,wl=W.length:=⟨_,rfl⟩
 have hqi:(q:Int)<(wl:Int):=by omega
 have hq0:0≤(q:Int):=by omega
 have HWL:=hid hwl
 clear hm hv hq hr hpp hi hwl hql hb
 go_enter Tryz.func119,Tryz.ntmps119
 go_wp2_with fail
 refine BIT.out.mono ?_
 rintro e w' ⟨rfl,hq'⟩
 obtain⟨cap,h1,hcap,hcap2⟩:=(HM.out.quiet hq').c1
 rw[←HWL.out]at h1 hcap
 have h2:w'.cell? ⟨y,q,none⟩=some (.int .u64 v):=by rw[hq'.cell];exact hcy.out
 have HQ:=hid hq'
 clear hq'
 have hk:=HY.out
 have t:((p:Int) != 0)=true:=by simp;omega
 have t2:((p:Int) == 0)=false:=by simp;omega
 go_wp2
 go_ret
 exact⟨rfl,HQ.out⟩
def MkPutPost(x y n i:Nat)(W:List Nat)(w:World)(e:Ending)(w':World):Prop:=
 ∃ W',e = .returned (.bool true)∧Msk w' x y n W'∧bitAt W'=upd (bitAt W) i true∧Only x y w w'
theorem put_yes(x y n:Nat)(W:List Nat)(i:Nat)(w:World)(hm:Msk w x y n W)(hi:i<n)(hb:bitAt W i=false) :
 Calls Tryz.prog 119 #[.pointer (some ⟨x,0,none⟩), .int .i64 i] w (MkPutPost x y n i W w):=by
 have SET:=hid (fun w' (hq:Quiet w w') v hv hb=>set_y (hm.quiet hq) hi v true hv hb)
 obtain⟨q,hq⟩:∃ q,i / 64=q:=⟨_,rfl⟩
 obtain⟨r,hr⟩:∃ r,i % 64=r:=⟨_,rfl⟩
 obtain⟨v,hv⟩:∃ v,v=W.getD q 0:=⟨_,rfl⟩
 have hql:q<W.length:=by have:=hm.low hi;omega
 have BIT:=hid (bit_in x y n W i q r w hm hi hq hr)
 have hvw:=hm.wf q
 simp only[bitAt,hq,hr]at hb
 simp only[hq,hr]at SET
 rw[←hv]at hb hvw SET
 have hr64:r<64:=by omega
 have HY:=hid (and_no hvw hr64 hb)
 have HO:=hid (or64 v r hvw hr64)
 have HB:=hid (or_bit v r)
 have HL:=hid (or_lt hvw hr64)
 have HM:=hid hm
 have hcy:=hid (hm.cy q hql)
 rw[←hv]at hcy
 have hp0:0<2 ^ r:=Nat.two_pow_pos r
 generalize hpp:2 ^ r=p at BIT HY hp0 HO HB HL
 generalize huu:v ||| p=u at HO HB HL
 obtain⟨wl,hwl⟩:∃ wl,wl=W.length:=⟨_,rfl⟩
 have hqi:(q:Int)<(wl:Int):=by omega
 have hq0:0≤(q:Int):=by omega
 have HWL:=hid hwl
 clear hm hv hq hpp huu hi hwl hql hb
 go_enter Tryz.func119,Tryz.ntmps119
 go_wp2_with fail
 refine BIT.out.mono ?_
 rintro e w' ⟨rfl,hq'⟩
 have HM':=HM.out.quiet hq'
 obtain⟨cap,h1,hcap,hcap2⟩:=HM'.c1
 rw[←HWL.out]at h1 hcap
 have h2:w'.cell? ⟨y,q,none⟩=some (.int .u64 v):=by rw[hq'.cell];exact hcy.out
 have f2:=HM'.fy q
 have FIN:=hid (SET.out w' hq' u HL.out HB.out)
 have HQ:=hid hq'
 clear hq' HM'
 have hk:=HY.out
 have ho:=HO.out
 have t:((p:Int) != 0)=true:=by simp;omega
 have t2:((p:Int) == 0)=false:=by simp;omega
 go_wp2
 go_ret
 exact⟨_,rfl,FIN.out.1,FIN.out.2.1,(Only.of_quiet' HQ.out).trans FIN.out.2.2⟩
theorem take_out(x y n:Nat)(W:List Nat)(i:Int)(w:World)(hm:Msk w x y n W)(hi:i<0∨(n:Int)≤i) :
 Calls Tryz.prog 175 #[.pointer (some ⟨x,0,none⟩), .int .i64 i] w fun e w'=>e = .returned (.bool false)∧w=w':=by
 go_enter Tryz.func175,Tryz.ntmps175
 go_wp2_with fail
 refine(bit_out x y n W i _ hm hi).mono ?_
 rintro e w' ⟨rfl,rfl⟩
 go_wp2
 go_ret
 exact⟨rfl,rfl⟩
def TakePost(x y n i:Nat)(W:List Nat)(w:World)(e:Ending)(w':World):Prop:=
 ∃ W',e = .returned (.bool true)∧Msk w' x y n W'∧bitAt W'=upd (bitAt W) i false∧Only x y w w'
theorem take_yes(x y n:Nat)(W:List Nat)(i:Nat)(w:World)(hm:Msk w x y n W)(hi:i<n)(hb:bitAt W i=true) :
 Calls Tryz.prog 175 #[.pointer (some ⟨x,0,none⟩), .int .i64 i] w (TakePost x y n i W w):=by
 have SET:=hid (fun w' (hq:Quiet w w') v hv hb=>set_y (hm.quiet hq) hi v false hv hb)
 obtain⟨q,hq⟩:∃ q,i / 64=q:=⟨_,rfl⟩
 obtain⟨r,hr⟩:∃ r,i % 64=r:=⟨_,rfl⟩
 obtain⟨v,hv⟩:∃ v,v=W.getD q 0:=⟨_,rfl⟩
 have hql:q<W.length:=by have:=hm.low hi;omega
 have BIT:=hid (bit_in x y n W i q r w hm hi hq hr)
 have hvw:=hm.wf q
 simp only[bitAt,hq,hr]at hb
 simp only[hq,hr]at SET
 rw[←hv]at hb hvw SET
 have hr64:r<64:=by omega
 have HY:=hid (and_yes hvw hr64 hb)
 have HO:=hid (andnot64 v r hvw hr64)
 have HB:=hid (andnot_bit v hr64)
 have HL:=hid (andnot_lt (u:=18446744073709551615 - 2 ^ r) hvw)
 have HM:=hid hm
 have hcy:=hid (hm.cy q hql)
 rw[←hv]at hcy
 have hp0:0<2 ^ r:=Nat.two_pow_pos r
 generalize hpp:2 ^ r=p at BIT HY hp0 HO HB HL
 generalize huu:v &&& (18446744073709551615 - p)=u at HO HB HL
 obtain⟨wl,hwl⟩:∃ wl,wl=W.length:=⟨_,rfl⟩
 have hqi:(q:Int)<(wl:Int):=by omega
 have hq0:0≤(q:Int):=by omega
 have HWL:=hid hwl
 clear hm hv hq hpp huu hi hwl hql hb
 go_enter Tryz.func175,Tryz.ntmps175
 go_wp2_with fail
 refine BIT.out.mono ?_
 rintro e w' ⟨rfl,hq'⟩
 have HM':=HM.out.quiet hq'
 obtain⟨cap,h1,hcap,hcap2⟩:=HM'.c1
 rw[←HWL.out]at h1 hcap
 have h2:w'.cell? ⟨y,q,none⟩=some (.int .u64 v):=by rw[hq'.cell];exact hcy.out
 have f2:=HM'.fy q
 have FIN:=hid (SET.out w' hq' u HL.out HB.out)
 have HQ:=hid hq'
 clear hq' HM'
 have hk:=HY.out
 have ho:=HO.out
 have t:((p:Int) != 0)=true:=by simp;omega
 have t2:((p:Int) == 0)=false:=by simp;omega
 go_wp2
 go_ret
 exact⟨_,rfl,FIN.out.1,FIN.out.2.1,(Only.of_quiet' HQ.out).trans FIN.out.2.2⟩
theorem bitAt_zero(k i:Nat):bitAt (List.replicate k 0) i=false:=by
 simp only[bitAt,List.getD_eq_getElem?_getD,List.getElem?_replicate]
 split <;> simp
theorem infoM:(Tryz.prog.info? 66).map (fun i=>(i.zero,i.size,i.bytes))=some (some (.int .u64 0),1,8):=by kernel_rfl
theorem made_m(k:Nat):(madeCells #[Value.int .u64 0] k).toList=List.replicate k (.int .u64 0):=by rw[toList_madeCells_one]
theorem mnew_world(w:World)(m k:Nat)(hm:m≤4096)(hk:k=(m+63) / 64)(w':World)(hw:w'=(w.alloc (.cells (madeCells #[Value.int .u64 0] k) 66)).alloc (.cells #[.int .i64 m, .slice (some ⟨w.heap.size,0,none⟩) k k] 195)) :
 Msk w' (w.heap.size+1) w.heap.size m (List.replicate k 0)∧Below w.heap.size w w'∧w'.heap.size=w.heap.size+2:=by
 subst hw
 have hk63:k≤maxLen:=by unfold maxLen;omega
 refine⟨⟨⟨k,madeCells #[Value.int .u64 0] k,?_,?_,by simp,hk63,?_,?_⟩,by omega,by simpa using hk,?_,fun i _=>bitAt_zero k i,hm⟩,((Below.refl _ _).alloc (Nat.le_refl _) _).alloc (by simp) _,by simp⟩
 ·have h:=Deep.blk_alloc_new (w.alloc (.cells (madeCells #[Value.int .u64 0] k) 66)) (.cells #[.int .i64 m, .slice (some ⟨w.heap.size,0,none⟩) k k] 195)
  simpa using h
 ·rw[Below.heap_alloc _ _ _ (by simp)];exact Deep.blk_alloc_new _ _
 ·have:=congrArg List.length (made_m k);simpa using this
 ·rw[made_m];simp
 ·intro j
  simp only[List.getD_eq_getElem?_getD,List.getElem?_replicate]
  split <;> simp
theorem mnew_any(n:Int)(m:Nat)(hm:(m:Int)=min (max n 0) 4096)(w:World) :
 Calls Tryz.prog 81 #[.int .i64 n] w fun e w'=>e = .returned (.pointer (some ⟨w.heap.size+1,0,none⟩))∧Msk w' (w.heap.size+1) w.heap.size m (List.replicate ((m+63) / 64) 0)∧Below w.heap.size w w'∧w'.heap.size=w.heap.size+2:=by
 have hmk:=run_make_row' (P:=Tryz.prog) 89 66 (.int .u64 0) 8 Tryz.underlying89 infoM rfl .i64 .i64
 obtain⟨k,hk⟩:∃ k,k=(m+63) / 64:=⟨_,rfl⟩
 rw[←hk]
 have hm0:=hmk k (by omega) (by omega)
 have FIN:=hid (mnew_world w m k (by omega) hk)
 clear hmk
 by_cases h1:n<0
 ·obtain rfl:m=0:=by omega
  obtain rfl:k=0:=by omega
  clear hm hk
  simp only[Int.natCast_zero]at hm0
  go_enter Tryz.func81,Tryz.ntmps81
  go_wp2
  go_ret
  exact⟨rfl,FIN.out _ rfl⟩
 ·by_cases h2:n≤4096
  ·obtain rfl:n=m:=by omega
   have e1:((m:Int)+64 - 1) / 64=k:=by omega
   clear hm hk
   go_enter Tryz.func81,Tryz.ntmps81
   go_wp2
   go_ret
   exact⟨rfl,FIN.out _ rfl⟩
  ·obtain rfl:m=4096:=by omega
   obtain rfl:k=64:=by omega
   clear hm hk
   simp only[Int.cast_ofNat_Int]at hm0
   go_enter Tryz.func81,Tryz.ntmps81
   go_wp2
   go_ret
   exact⟨rfl,FIN.out _ rfl⟩
structure Sk(W:List Nat)(F a A:Nat):Prop where
 lt:A<18446744073709551616
 bit:∀ j,j<64→A.testBit j=decide (F≤64*a+j)
 no:∀ k,F≤k→k<64*a→bitAt W k=false
theorem Sk.first(W:List Nat)(F:Nat):Sk W F (F / 64) (18446744073709551616 - 2 ^ (F % 64)):=
 ⟨by have:=Nat.two_pow_pos (F % 64);omega,fun j hj=>by rw[above_bit (by omega) j hj];congr 1;simp only[eq_iff_iff];omega,fun k h1 h2=>by omega⟩
theorem Sk.zero{W:List Nat}{F a A:Nat}(h:Sk W F a A)(h0:W.getD a 0 &&& A=0)(hF:F / 64≤a):Sk W F (a+1) 18446744073709551615:=
 ⟨by omega,fun j hj=>by rw[full_bit hj];symm;rw[decide_eq_true_eq];omega,fun k h1 h2=>by
  by_cases hk:k<64*a
  ·exact h.no k h1 hk
  ·have hb:(W.getD a 0 &&& A).testBit (k % 64)=false:=by rw[h0];simp
   have hka:k / 64=a:=by omega
   rw[Nat.testBit_and,h.bit _ (by omega),show decide (F≤64*a+k % 64)=true by rw[decide_eq_true_eq];omega,Bool.and_true]at hb
   simp only[bitAt]
   rw[hka];exact hb⟩
theorem Sk.found{W:List Nat}{F a A n:Nat}{i:Int}(h:Sk W F a A){v:Nat}(hv:v=W.getD a 0 &&& A)(h0:v≠0)(hF:F / 64≤a)(hi:∀ k:Nat,i<k ↔ F≤k)(ho:∀ k,n≤k→bitAt W k=false) :
 nextI (bitAt W) n i=((64*a+Lib.ctz 64 v:Nat):Int):=by
 have hv2:v<18446744073709551616:=Nat.lt_of_le_of_lt (by rw[hv];exact Nat.and_le_right) h.lt
 obtain⟨c1,c2,c3⟩:=ctz_spec h0 hv2
 generalize Lib.ctz 64 v=c at c1 c2 c3
 rw[hv,Nat.testBit_and,h.bit c c1,Bool.and_eq_true,decide_eq_true_eq]at c2
 have hb:bitAt W (64*a+c)=true:=by
  simp only[bitAt]
  rw[show (64*a+c) / 64=a by omega,show (64*a+c) % 64=c by omega]
  exact c2.1
 refine next_some ((hi _).2 c2.2) ?_ hb fun j hj1 hj2 => ?_
 ·rcases Nat.lt_or_ge (64*a+c) n with h|h
  ·exact h
  ·rw[ho _ h]at hb;cases hb
 ·by_cases hk:j<64*a
  ·exact h.no j ((hi _).1 hj1) hk
  ·have:=c3 (j % 64) (by omega)
   rw[hv,Nat.testBit_and,h.bit _ (by omega),show decide (F≤64*a+j % 64)=true by rw[decide_eq_true_eq];have:=(hi _).1 hj1;omega,Bool.and_true]at this
   simp only[bitAt]
   rw[show j / 64=a by omega];exact this
theorem mnext_late(x y n:Nat)(W:List Nat)(i:Int)(w:World)(hm:Msk w x y n W)(hi:(n:Int) - 1≤i) :
 Calls Tryz.prog 195 #[.pointer (some ⟨x,0,none⟩), .int .i64 i] w fun e w'=>e = .returned (.int .i64 (nextI (bitAt W) n i))∧w=w':=by
 have HE:=hid (show nextI (bitAt W) n i = -1 from next_none fun j h1 h2=>by omega)
 have h0:=hm.c0
 have hmost:=hm.most
 have hw:IntKind.i64.wrap ((n:Int) - 1)=(n:Int) - 1:=IntWalk.i64_in _ (by omega)
 clear hm
 go_enter Tryz.func195,Tryz.ntmps195
 go_wp2
 go_ret
 exact⟨ret_of HE.out.symm,rfl⟩
theorem mnext_from(x y n F:Nat)(W:List Nat)(i:Int)(w:World)(hm:Msk w x y n W)(T:DbTab w)(hF:(F:Int)=max i (-1)+1)(hi:i<(n:Int) - 1) :
 Calls Tryz.prog 195 #[.pointer (some ⟨x,0,none⟩), .int .i64 i] w fun e w'=>e = .returned (.int .i64 (nextI (bitAt W) n i))∧w=w':=by
 have h0:=hm.c0
 obtain⟨cap,h1,hcap,hcap2⟩:=hm.c1
 have hmost:=hm.most
 have HI:=hid (show ∀ k:Nat,i<k ↔ F≤k by intro k;omega)
 have HM:=hid hm
 have HT:=hid T
 have HL:=hid hm.len
 obtain⟨wl,hwl⟩:∃ wl,wl=W.length:=⟨_,rfl⟩
 have hl64:wl≤64:=by have:=hm.len;omega
 have hFn:F≤n:=by omega
 have hFw:F / 64≤wl:=by have:=hm.len;omega
 rw[←hwl]at h1 hcap HL
 have HWL:=hid hwl
 obtain⟨f0,hf0⟩:∃ f0,f0=F / 64:=⟨_,rfl⟩
 obtain⟨f1,hf1⟩:∃ f1,f1=F % 64:=⟨_,rfl⟩
 have S0:=hid (Sk.first W F)
 rw[←hf0, ←hf1]at S0
 have hr64:f1<64:=by omega
 obtain⟨A0,hA0⟩:∃ A0,A0=18446744073709551616 - 2 ^ f1:=⟨_,rfl⟩
 rw[←hA0]at S0
 have e1:(F:Int) / 64=f0:=by omega
 have e2:(F:Int) % 64=f1:=by omega
 have e3:IntKind.u64.wrap (18446744073709551615*2 ^ f1)=A0:=by
  have:=shl_full hr64
  rw[IntKind.wrap_u64, ←two_cast,hA0, ←this]
  omega
 have hw:IntKind.i64.wrap ((n:Int) - 1)=(n:Int) - 1:=IntWalk.i64_in _ (by omega)
 have HOUT:=hid hm.out
 have hFI:=hid hF
 clear hm T hf0 hf1 hA0 hwl hF
 by_cases hneg:i < -1
 ·obtain rfl:F=0:=by have:=hFI.out;omega
  have S1:=hid (Sk.first W 0)
  clear S0 e1 e2 e3 hFn hFw hr64
  simp only[Nat.zero_div,Nat.zero_mod,Nat.pow_zero,Nat.reduceSub]at S1
  go_enter Tryz.func195,Tryz.ntmps195
  go_wp2_with fail
  go_loop [6,7] (fun s6 s7=>∃ a A:Nat,a≤wl∧0 / 64≤a∧s7 = .int .i64 a∧s6 = .int .u64 A∧Hid (Sk W 0 a A)) (fun _ s7=>wl - (intOf s7).toNat)
  case atStart=>exact⟨0,18446744073709551615,by omega,by omega,rfl,rfl,S1⟩
  case round=>
   obtain⟨a,A,ha,ha0,rfl,rfl,HS⟩:=hrel
   by_cases hlt:a<wl
   ·obtain⟨v,hv⟩:∃ v,v=W.getD a 0:=⟨_,rfl⟩
    have h2:=HM.out.cy a (by have:=HWL.out;omega)
    have h3:=HM.out.wf a
    rw[←hv]at h2 h3
    have hA2:=HS.out.lt
    have hand:=and64 v A h3 hA2
    obtain⟨u,hu⟩:∃ u,u=v &&& A:=⟨_,rfl⟩
    rw[←hu]at hand
    have HU:=hid (hu.trans (by rw[hv]))
    have hu2:u<18446744073709551616:=Nat.lt_of_le_of_lt (by rw[hu];exact Nat.and_le_right) hA2
    clear hv hu h3 hA2
    have ha64:(a:Int)≤64:=by omega
    have hm64:IntKind.i64.wrap ((a:Int)*64)=(a:Int)*64:=IntWalk.i64_in _ (by omega)
    by_cases h0:u=0
    ·have HZ:=hid (HS.out.zero (by rw[←HU.out];exact h0) ha0)
     subst h0
     clear HU
     go_wp2_with fail
     go_round
     case rel=>exact⟨a+1,18446744073709551615,by omega,by omega,by go_num,rfl,HZ⟩
     case measure=>simp[intOf];omega
    ·have t:((u:Int) != 0)=true:=by rw[bne_iff_ne];omega
     have FIN:=hid (HS.out.found (n:=n) (i:=i) HU.out h0 ha0 HI.out HOUT.out)
     have TZ:=hid (fun w T=>tz_any u h0 hu2 w T)
     have c1:=(ctz_spec h0 hu2).1
     obtain⟨c,hc⟩:∃ c,c=Lib.ctz 64 u:=⟨_,rfl⟩
     rw[←hc]at FIN TZ c1
     have hs:IntKind.i64.wrap ((a:Int)*64+c)=(a:Int)*64+c:=IntWalk.i64_in _ (by omega)
     clear hc hu2 HU
     go_wp2_with fail
     refine(TZ.out _ HT.out).mono ?_
     rintro e w' ⟨rfl,rfl⟩
     go_wp2
     go_ret
     exact⟨ret_of (by rw[FIN.out];omega),rfl⟩
   ·obtain rfl:a=wl:=by omega
    have FIN:=hid (show nextI (bitAt W) n i = -1 from next_none fun j h1 h2=>HS.out.no j ((HI.out j).1 h1) (by have:=HL.out;omega))
    go_wp2
    go_ret
    exact⟨ret_of FIN.out.symm,rfl⟩
 ·have hmx:i+1=(F:Int):=by have:=hFI.out;omega
  have hi1 : -1≤i:=by omega
  clear hneg
  go_enter Tryz.func195,Tryz.ntmps195
  go_wp2_with fail
  go_loop [6,7] (fun s6 s7=>∃ a A:Nat,a≤wl∧F / 64≤a∧s7 = .int .i64 a∧s6 = .int .u64 A∧Hid (Sk W F a A)) (fun _ s7=>wl - (intOf s7).toNat)
  case atStart=>exact⟨f0,A0,by omega,by omega,rfl,rfl,S0⟩
  case round=>
   obtain⟨a,A,ha,ha0,rfl,rfl,HS⟩:=hrel
   by_cases hlt:a<wl
   ·obtain⟨v,hv⟩:∃ v,v=W.getD a 0:=⟨_,rfl⟩
    have h2:=HM.out.cy a (by have:=HWL.out;omega)
    have h3:=HM.out.wf a
    rw[←hv]at h2 h3
    have hA2:=HS.out.lt
    have hand:=and64 v A h3 hA2
    obtain⟨u,hu⟩:∃ u,u=v &&& A:=⟨_,rfl⟩
    rw[←hu]at hand
    have HU:=hid (hu.trans (by rw[hv]))
    have hu2:u<18446744073709551616:=Nat.lt_of_le_of_lt (by rw[hu];exact Nat.and_le_right) hA2
    clear hv hu h3 hA2
    have ha64:(a:Int)≤64:=by omega
    have hm64:IntKind.i64.wrap ((a:Int)*64)=(a:Int)*64:=IntWalk.i64_in _ (by omega)
    by_cases h0:u=0
    ·have HZ:=hid (HS.out.zero (by rw[←HU.out];exact h0) ha0)
     subst h0
     clear HU
     go_wp2_with fail
     go_round
     case rel=>exact⟨a+1,18446744073709551615,by omega,by omega,by go_num,rfl,HZ⟩
     case measure=>simp[intOf];omega
    ·have t:((u:Int) != 0)=true:=by rw[bne_iff_ne];omega
     have FIN:=hid (HS.out.found (n:=n) (i:=i) HU.out h0 ha0 HI.out HOUT.out)
     have TZ:=hid (fun w T=>tz_any u h0 hu2 w T)
     have c1:=(ctz_spec h0 hu2).1
     obtain⟨c,hc⟩:∃ c,c=Lib.ctz 64 u:=⟨_,rfl⟩
     rw[←hc]at FIN TZ c1
     have hs:IntKind.i64.wrap ((a:Int)*64+c)=(a:Int)*64+c:=IntWalk.i64_in _ (by omega)
     clear hc hu2 HU
     go_wp2_with fail
     refine(TZ.out _ HT.out).mono ?_
     rintro e w' ⟨rfl,rfl⟩
     go_wp2
     go_ret
     exact⟨ret_of (by rw[FIN.out];omega),rfl⟩
   ·obtain rfl:a=wl:=by omega
    have FIN:=hid (show nextI (bitAt W) n i = -1 from next_none fun j h1 h2=>HS.out.no j ((HI.out j).1 h1) (by have:=HL.out;omega))
    go_wp2
    go_ret
    exact⟨ret_of FIN.out.symm,rfl⟩
theorem mnext_any(x y n:Nat)(W:List Nat)(i:Int)(w:World)(hm:Msk w x y n W)(T:DbTab w) :
 Calls Tryz.prog 195 #[.pointer (some ⟨x,0,none⟩), .int .i64 i] w fun e w'=>e = .returned (.int .i64 (nextI (bitAt W) n i))∧w=w':=by
 by_cases h:(n:Int) - 1≤i
 ·exact mnext_late x y n W i w hm h
 ·exact mnext_from x y n (max i (-1)+1).toNat W i w hm T (by omega) (by omega)
theorem mfirst_any(x y n:Nat)(W:List Nat)(w:World)(hm:Msk w x y n W)(T:DbTab w) :
 Calls Tryz.prog 174 #[.pointer (some ⟨x,0,none⟩)] w fun e w'=>e = .returned (.int .i64 (nextI (bitAt W) n (-1)))∧w=w':=by
 go_enter Tryz.func174,Tryz.ntmps174
 go_wp2_with fail
 refine(mnext_any x y n W (-1) _ hm T).mono ?_
 rintro e w' ⟨rfl,rfl⟩
 go_wp2
 go_ret
 exact⟨rfl,rfl⟩
end Go.Proofs.YtkhigkcmgcafdaaGreatDoor
