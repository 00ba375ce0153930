/- Of Pre1. -/
import Derived.Below
import Derived.BigQuiet
import Derived.ChangeAlike
import Derived.ChangeArms
import Derived.Deep.OwnRows
import Derived.Deep.QuietTactic
import Derived.Deep.RegionWith
import Derived.Defers
import Derived.FnData
import Derived.IntWalk
import Derived.LaidMore
import Derived.Laws.AppendOwnNone
import Derived.Laws.CopyOwn
import Derived.Laws.MakeOwn
import Derived.Laws.OwnMore
import Derived.Laws.Pointers
import Derived.MakeChecks
import Derived.Maps.AppendAt
import Derived.OpenShut
import Derived.Outline
import Derived.OwnWalk
import Derived.ProofKit
import Derived.Recover
import Derived.RegionTactic
import Derived.StillTailTactics
import Derived.Test.YtkhigkcmgcafdaaGreatDoorRows
import Derived.WalkKit
import Derived.WalkLawsBesides
import Derived.WalkSpells

set_option linter.unusedVariables false
set_option linter.unusedSimpArgs false
set_option maxHeartbeats 16000000
set_option maxRecDepth 100000
namespace Go.Proofs.YtkhigkcmgcafdaaGreatDoor
open Go.RowKit
theorem hid{p:Prop}(h:p):Hid p:=h
structure Only(b g:Nat)(w w':World):Prop where
 os:w'.os=w.os
 tape:w'.tape=w.tape
 output:w'.output=w.output
 size:w.heap.size≤w'.heap.size
 block:∀ k,k<w.heap.size→k≠b→k≠g→w'.heap[k]? = w.heap[k]?
theorem Only.below{b g B:Nat}{w w':World}(h:Only b g w w')(hb:B≤b)(hg:B≤g)(hB:B≤w.heap.size):Below B w w':=
 ⟨h.os,h.tape,h.output,h.size,fun k hk=>h.block k (by omega) (by omega) (by omega)⟩
theorem Only.trans{b g:Nat}{a c d:World}(h:Only b g a c)(k:Only b g c d):Only b g a d:=
 ⟨k.os.trans h.os,k.tape.trans h.tape,k.output.trans h.output,Nat.le_trans h.size k.size,fun i hi h1 h2=>(k.block i (Nat.lt_of_lt_of_le hi h.size) h1 h2).trans (h.block i hi h1 h2)⟩
def Quiet(w w':World):Prop:=∃ n,w'=w.drewN n
theorem Quiet.refl(w:World):Quiet w w:=⟨0,rfl⟩
theorem Quiet.of_eq{w w':World}(h:w=w'):Quiet w w':=⟨0,h.symm⟩
theorem Quiet.trans{a b c:World}(h:Quiet a b)(k:Quiet b c):Quiet a c:=by
 obtain⟨n,rfl⟩:=h
 obtain⟨m,rfl⟩:=k
 exact⟨n+m,World.drewN_drewN ..⟩
theorem Quiet.drewN{w w':World}(h:Quiet w w')(n:Nat):Quiet w (w'.drewN n):=h.trans ⟨n,rfl⟩
theorem Quiet.heap{w w':World}(h:Quiet w w'):w'.heap=w.heap:=by obtain⟨n,rfl⟩:=h;rfl
theorem Quiet.below{w w':World}(h:Quiet w w')(B:Nat):Below B w w':=by
 obtain⟨n,rfl⟩:=h
 exact⟨rfl,rfl,rfl,Nat.le_refl _,fun k _=>rfl⟩
theorem Quiet.cell{w w':World}(h:Quiet w w')(a:Addr):w'.cell? a=w.cell? a:=by simp[World.cell?,h.heap]
theorem quiet_call{P:Program}{f:FuncId}{args:Array Value}{w:World}{n:Nat}{v:Value}
 (h:Calls P f args (w.drewN n) fun e w'=>e = .returned v∧Quiet (w.drewN n) w'):Calls P f args (w.drewN n) fun e w''=>e = .returned v ∧ ∃ m,w''=w.drewN m:=
 Calls.quiet_of (h.mono fun _ _ ⟨he,hq⟩=>⟨he,hq⟩)
theorem quiet_call0{P:Program}{f:FuncId}{args:Array Value}{w:World}{n:Nat}{v:Value}
 (h:Calls P f args (w.drewN n) fun e w'=>e = .returned v∧w.drewN n=w'):Calls P f args (w.drewN n) fun e w''=>e = .returned v ∧ ∃ m,w''=w.drewN m:=
 quiet_call (h.mono fun _ _ ⟨he,hq⟩=>⟨he, .of_eq hq⟩)
structure Mem(w:World)(b g:Nat)(xs:List Int)(c:Nat):Prop where
 h:∃ cap cur,w.heap[b]? = some (.cells #[.slice (some ⟨g,0,none⟩) xs.length cap, .int .i64 c] 91 (0,0))∧w.heap[g]? = some (.cells cur 66 (0,0))∧xs.length≤cap∧cap≤maxLen∧cur.size=cap∧cur.toList.take xs.length=xs.map (Value.int .u64)
 ne:b≠g
 len:xs.length≤65536
 cnt:c≤1000000000
namespace Mem
variable {w:World}{b g:Nat}{xs:List Int}{c:Nat}
theorem c0(h:Mem w b g xs c):∃ cap,w.cell? ⟨b,0,none⟩=some (.slice (some ⟨g,0,none⟩) xs.length cap)∧xs.length≤cap∧cap≤maxLen:=by
 obtain⟨cap,cur,hb,hg,h1,h2,h3,h4⟩:=h.h
 exact⟨cap,by simp[World.cell?,hb],h1,h2⟩
theorem c1(h:Mem w b g xs c):w.cell? ⟨b,1,none⟩=some (.int .i64 c):=by
 obtain⟨cap,cur,hb,hg,h1,h2,h3,h4⟩:=h.h
 simp[World.cell?,hb]
theorem f1(h:Mem w b g xs c)(i:Nat):w.frozen? ⟨b,i,none⟩=false:=by
 obtain⟨cap,cur,hb,hg,h1,h2,h3,h4⟩:=h.h
 simp[World.frozen?,hb]
theorem fg(h:Mem w b g xs c)(i:Nat):w.frozen? ⟨g,i,none⟩=false:=by
 obtain⟨cap,cur,hb,hg,h1,h2,h3,h4⟩:=h.h
 simp[World.frozen?,hg]
theorem cg(h:Mem w b g xs c)(i:Nat)(hi:i<xs.length):w.cell? ⟨g,i,none⟩=some (.int .u64 (xs.getD i 0)):=by
 obtain⟨cap,cur,hb,hg,h1,h2,h3,h4⟩:=h.h
 have e:(cur.toList.take xs.length)[i]? = cur.toList[i]?:=by rw[List.getElem?_take,if_pos hi]
 rw[h4]at e
 have e':w.cell? ⟨g,i,none⟩=cur.toList[i]?:=by simp[World.cell?,hg]
 rw[e', ←e]
 simp[hi]
theorem sb(h:Mem w b g xs c):b<w.heap.size:=by
 obtain⟨cap,cur,hb,hg,h1,h2,h3,h4⟩:=h.h
 rw[Array.getElem?_eq_some_iff]at hb;exact hb.1
theorem sg(h:Mem w b g xs c):g<w.heap.size:=by
 obtain⟨cap,cur,hb,hg,h1,h2,h3,h4⟩:=h.h
 rw[Array.getElem?_eq_some_iff]at hg;exact hg.1
theorem kept(h:Mem w b g xs c){w':World}(hb:w'.heap[b]? = w.heap[b]?)(hg:w'.heap[g]? = w.heap[g]?):Mem w' b g xs c:=by
 obtain⟨cap,cur,hb',hg',h1⟩:=h.h
 exact⟨⟨cap,cur,hb.trans hb',hg.trans hg',h1⟩,h.ne,h.len,h.cnt⟩
theorem other(h:Mem w b g xs c){b' g':Nat}{w':World}(ho:Only b' g' w w')(h1:b≠b')(h2:b≠g')(h3:g≠b')(h4:g≠g'):Mem w' b g xs c:=
 h.kept (ho.block _ h.sb h1 h2) (ho.block _ h.sg h3 h4)
theorem below(h:Mem w b g xs c){B:Nat}{w':World}(ho:Below B w w')(h1:b<B)(h2:g<B):Mem w' b g xs c:=
 h.kept (ho.block _ h1) (ho.block _ h2)
end Mem
theorem set_b{w:World}{b g:Nat}{xs:List Int}{c:Nat}(h:Mem w b g xs c)(c':Nat)(hc:c'≤1000000000) :
 Mem (w.setCell ⟨b,1,none⟩ (.int .i64 c')) b g xs c'∧Only b g w (w.setCell ⟨b,1,none⟩ (.int .i64 c')):=by
 obtain⟨cap,cur,hb,hg,h1,h2,h3,h4⟩:=h.h
 refine⟨⟨⟨cap,cur,?_,?_,h1,h2,h3,h4⟩,h.ne,h.len,hc⟩,⟨rfl,rfl,rfl,by simp[World.setCell],fun k _ h1 _=>Below.heap_setCell _ _ _ _ h1⟩⟩
 ·simp[World.setCell,Array.getElem?_modify,hb]
 ·rw[Below.heap_setCell _ _ _ _ (Ne.symm h.ne)];exact hg
theorem set_g{w:World}{b g:Nat}{xs:List Int}{c:Nat}(h:Mem w b g xs c)(i:Nat)(x:Int) :
 Mem (w.setCell ⟨g,i,none⟩ (.int .u64 x)) b g (xs.set i x) c∧Only b g w (w.setCell ⟨g,i,none⟩ (.int .u64 x)):=by
 obtain⟨cap,cur,hb,hg,h1,h2,h3,h4⟩:=h.h
 refine⟨⟨⟨cap,cur.setIfInBounds i (.int .u64 x),?_,?_,by simpa using h1,h2,by simpa using h3,?_⟩,h.ne,by simpa using h.len,h.cnt⟩,⟨rfl,rfl,rfl,by simp[World.setCell],fun k _ _ h2=>Below.heap_setCell _ _ _ _ h2⟩⟩
 ·rw[Below.heap_setCell _ _ _ _ h.ne];simpa using hb
 ·simp[World.setCell,Array.getElem?_modify,hg]
 ·simp only[Array.toList_setIfInBounds,List.length_set,List.take_set,h4,List.map_set]
theorem len_any(b g:Nat)(xs:List Int)(c:Nat)(w:World)(hm:Mem w b g xs c) :
 Calls Tryz.prog 35 #[.pointer (some ⟨b,0,none⟩)] w fun e w'=>e = .returned (.int .i64 xs.length)∧w=w':=by
 obtain⟨cap,h0,_,_⟩:=hm.c0
 go_enter Tryz.func35,Tryz.ntmps35
 go_wp2
 go_ret
 exact⟨rfl,rfl⟩
theorem access_in(b g:Nat)(xs:List Int)(c:Nat)(i:Int)(w:World)(hm:Mem w b g xs c)(hi0:0≤i)(hi:i<xs.length) :
 Calls Tryz.prog 125 #[.pointer (some ⟨b,0,none⟩), .int .i64 i] w fun e w'=>e = .returned (.bool true)∧w'=w.setCell ⟨b,1,none⟩ (.int .i64 (c+1)):=by
 have h1:=hm.c1
 have hf:=hm.f1
 have hl:=hm.len
 have hc:=hm.cnt
 go_enter Tryz.func125,Tryz.ntmps125
 go_wp2_with (go_at_call 35;refine(len_any _ _ _ _ _ hm).mono ?_;rintro e w' ⟨rfl,rfl⟩)
 go_ret
 exact⟨rfl,rfl⟩
theorem acc(b g:Nat)(xs:List Int)(c:Nat)(i:Int)(w:World)(hm:Mem w b g xs c)(hc:c<1000000000)(hi0:0≤i)(hi:i<xs.length) :
 Calls Tryz.prog 125 #[.pointer (some ⟨b,0,none⟩), .int .i64 i] w fun e w'=>e = .returned (.bool true)∧Mem w' b g xs (c+1)∧Only b g w w':=
 (access_in b g xs c i w hm hi0 hi).mono fun _ _ ⟨he,hw⟩=>by
  subst hw;exact⟨he,set_b hm (c+1) (by omega)⟩
theorem load_in(b g:Nat)(xs:List Int)(c:Nat)(i:Int)(w:World)(hm:Mem w b g xs c)(hc:c<1000000000)(hi0:0≤i)(hi:i<xs.length) :
 Calls Tryz.prog 89 #[.pointer (some ⟨b,0,none⟩), .int .i64 i] w fun e w'=>e = .returned (.int .u64 (xs.getD i.toNat 0))∧Mem w' b g xs (c+1)∧Only b g w w':=by
 have hl:=hm.len
 obtain⟨v,hv⟩:∃ v,v=xs.getD i.toNat 0:=⟨_,rfl⟩
 rw[←hv]
 have HV:=hid hv
 clear hv
 go_enter Tryz.func89,Tryz.ntmps89
 go_wp2_with fail
 refine(acc b g xs c i _ hm hc hi0 hi).mono ?_
 rintro e w' ⟨rfl,hm',ho⟩
 obtain⟨cap,h0,_,_⟩:=hm'.c0
 have hg:=hm'.cg i.toNat (by omega)
 rw[←HV.out]at hg
 go_wp2
 go_ret
 exact⟨rfl,hm',ho⟩
theorem store_in(b g:Nat)(xs:List Int)(c:Nat)(i x:Int)(w:World)(hm:Mem w b g xs c)(hc:c<1000000000)(hi0:0≤i)(hi:i<xs.length) :
 Calls Tryz.prog 161 #[.pointer (some ⟨b,0,none⟩), .int .i64 i, .int .u64 x] w fun e w'=>e = .returned (.bool true)∧Mem w' b g (xs.set i.toNat x) (c+1)∧Only b g w w':=by
 have hl:=hm.len
 go_enter Tryz.func161,Tryz.ntmps161
 go_wp2_with fail
 refine(acc b g xs c i _ hm hc hi0 hi).mono ?_
 rintro e w' ⟨rfl,hm',ho⟩
 obtain⟨cap,h0,_,_⟩:=hm'.c0
 have hg:=hm'.cg i.toNat (by omega)
 have hf:=hm'.fg
 go_wp2
 go_ret
 exact⟨rfl,(set_g hm' _ _).1,ho.trans (set_g hm' _ _).2⟩
theorem add_in(b g:Nat)(xs:List Int)(c:Nat)(i d:Int)(w:World)(hm:Mem w b g xs c)(hc:c<1000000000)(hi0:0≤i)(hi:i<xs.length) :
 Calls Tryz.prog 163 #[.pointer (some ⟨b,0,none⟩), .int .i64 i, .int .i64 d] w fun e w'=>e = .returned (.int .u64 (IntKind.u64.wrap (xs.getD i.toNat 0+IntKind.u64.wrap d)))∧Mem w' b g (xs.set i.toNat (IntKind.u64.wrap (xs.getD i.toNat 0+IntKind.u64.wrap d))) (c+1)∧Only b g w w':=by
 have hl:=hm.len
 have hne:=hm.ne
 obtain⟨v,hv⟩:∃ v,v=xs.getD i.toNat 0:=⟨_,rfl⟩
 rw[←hv]
 have HV:=hid hv
 clear hv
 go_enter Tryz.func163,Tryz.ntmps163
 go_wp2_with fail
 refine(acc b g xs c i _ hm hc hi0 hi).mono ?_
 rintro e w' ⟨rfl,hm',ho⟩
 obtain⟨cap,h0,_,_⟩:=hm'.c0
 have hg:=hm'.cg i.toNat (by omega)
 rw[←HV.out]at hg
 have hf:=hm'.fg
 go_wp2
 go_ret
 exact⟨rfl,(set_g hm' _ _).1,ho.trans (set_g hm' _ _).2⟩
theorem infoU64:(Tryz.prog.info? 66).map (fun i=>(i.zero,i.size,i.bytes))=some (some (.int .u64 0),1,8):=by kernel_rfl
theorem made_u64(k:Nat):madeCells #[Value.int .u64 0] k=((List.replicate k (0:Int)).map (Value.int .u64)).toArray:=by
 apply Array.ext'
 rw[toList_madeCells_one];simp
theorem new_world(w:World)(k:Nat)(hk:k≤65536)(w':World)
 (hw:w'=(w.alloc (.cells (madeCells #[Value.int .u64 0] k) 66)).alloc (.cells #[.slice (some ⟨w.heap.size,0,none⟩) k k, .int .i64 0] 91)) :
 Mem w' (w.heap.size+1) w.heap.size (List.replicate k 0) 0∧Below w.heap.size w w'∧w'.heap.size=w.heap.size+2:=by
 subst hw
 have hk63:k≤maxLen:=by unfold maxLen;omega
 refine⟨⟨⟨k,madeCells #[Value.int .u64 0] k,?_,?_,by simp,hk63,by rw[made_u64];simp,by rw[made_u64];simp⟩,by omega,by simpa using hk,by omega⟩,((Below.refl _ _).alloc (Nat.le_refl _) _).alloc (by simp) _,by simp⟩
 ·have h:=Deep.blk_alloc_new (w.alloc (.cells (madeCells #[Value.int .u64 0] k) 66)) (.cells #[.slice (some ⟨w.heap.size,0,none⟩) k k, .int .i64 0] 91)
  simpa using h
 ·rw[Below.heap_alloc _ _ _ (by simp)];exact Deep.blk_alloc_new _ _
theorem new_any(n:Int)(k:Nat)(hk:(k:Int)=min (max n 0) 65536)(w:World) :
 Calls Tryz.prog 50 #[.int .i64 n] w fun e w'=>e = .returned (.pointer (some ⟨w.heap.size+1,0,none⟩))∧Mem w' (w.heap.size+1) w.heap.size (List.replicate k 0) 0∧Below w.heap.size w w'∧w'.heap.size=w.heap.size+2:=by
 have hk':k≤65536:=by omega
 have hmk:=run_make_row' (P:=Tryz.prog) 89 66 (.int .u64 0) 8 Tryz.underlying89 infoU64 rfl .i64 .i64
 by_cases h1:n<0
 ·obtain rfl:k=0:=by omega
  have hm0:=hmk 0 (by omega) (by omega)
  clear hmk hk
  simp only[Int.natCast_zero]at hm0
  go_enter Tryz.func50,Tryz.ntmps50
  go_wp2
  go_ret
  exact⟨rfl,new_world _ _ (by omega) _ rfl⟩
 ·by_cases h2:n≤65536
  ·obtain rfl:n=k:=by omega
   have hm0:=hmk k (by omega) (by omega)
   clear hmk hk
   go_enter Tryz.func50,Tryz.ntmps50
   go_wp2
   go_ret
   exact⟨rfl,new_world _ _ (by omega) _ rfl⟩
  ·have hm0:∀ w:World,Sem.run Tryz.prog (Instr.makeSlice 89 (Value.int .i64 65536) (Value.int .i64 65536)) w=Result.ok (Value.slice (some ⟨w.heap.size,0,none⟩) k k) (w.alloc (Obj.cells (madeCells #[Value.int .u64 0] k) 66)):=by
    have h3:(k:Int)=65536:=by omega
    intro w
    have:=hmk k (by omega) (by omega) w
    rw[h3]at this
    exact this
   clear hmk hk
   go_enter Tryz.func50,Tryz.ntmps50
   go_wp2
   go_ret
   exact⟨rfl,new_world _ _ hk' _ rfl⟩
theorem new_ex(n:Int)(k:Nat)(hk:(k:Int)=min (max n 0) 65536)(w:World) :
 Calls Tryz.prog 50 #[.int .i64 n] w fun e w'=>∃ b g,e = .returned (.pointer (some ⟨b,0,none⟩))∧Mem w' b g (List.replicate k 0) 0∧w.heap.size≤b∧w.heap.size≤g∧Below w.heap.size w w':=
 (new_any n k hk w).mono fun _ _ ⟨he,hm,hb,_⟩=>⟨_,_,he,hm,by omega,by omega,hb⟩
theorem Mem.quiet{w:World}{b g:Nat}{xs:List Int}{c:Nat}(h:Mem w b g xs c){w':World}(q:Quiet w w'):Mem w' b g xs c:=
 h.kept (by rw[q.heap]) (by rw[q.heap])
theorem ret_bool{a b:Bool}(h:b=a):Ending.returned (.bool a) = .returned (.bool b):=by rw[h]
theorem load_v(b g:Nat)(xs:List Int)(c:Nat)(i v:Int)(w:World)(hm:Mem w b g xs c)(hc:c<1000000000)(hi0:0≤i)(hi:i<xs.length)(hv:xs.getD i.toNat 0=v) :
 Calls Tryz.prog 89 #[.pointer (some ⟨b,0,none⟩), .int .i64 i] w fun e w'=>e = .returned (.int .u64 v)∧Mem w' b g xs (c+1)∧Only b g w w':=by
 subst hv
 exact load_in b g xs c i w hm hc hi0 hi
theorem add_v(b g:Nat)(xs:List Int)(c:Nat)(i d v:Int)(w:World)(hm:Mem w b g xs c)(hc:c<1000000000)(hi0:0≤i)(hi:i<xs.length)(hv:IntKind.u64.wrap (xs.getD i.toNat 0+IntKind.u64.wrap d)=v) :
 Calls Tryz.prog 163 #[.pointer (some ⟨b,0,none⟩), .int .i64 i, .int .i64 d] w fun e w'=>e = .returned (.int .u64 v)∧Mem w' b g (xs.set i.toNat v) (c+1)∧Only b g w w':=by
 subst hv
 exact add_in b g xs c i d w hm hc hi0 hi
theorem Only.of_below{b g:Nat}{w w':World}(h:Below w.heap.size w w'):Only b g w w':=⟨h.os,h.tape,h.output,h.size,fun k hk _ _=>h.block k hk⟩
theorem Only.of_quiet{b g:Nat}{w w':World}(h:Quiet w w'):Only b g w w' := .of_below (h.below _)
theorem Only.alloc{b g:Nat}(w:World)(o:Obj):Only b g w (w.alloc o) := .of_below ((Below.refl _ _).alloc (Nat.le_refl _) _)
theorem Mem.alloc{w:World}{b g:Nat}{xs:List Int}{c:Nat}(h:Mem w b g xs c)(o:Obj):Mem (w.alloc o) b g xs c:=
 h.below ((Below.refl _ _).alloc (Nat.le_refl _) _) h.sb h.sg
theorem Only.new{b g:Nat}{w w':World}{o:Obj}(h:Only b g (w.alloc o) w')(hb:b<w.heap.size)(hg:g<w.heap.size):w'.heap[w.heap.size]? = some o:=by
 rw[h.block _ (by simp) (by omega) (by omega)];exact Deep.blk_alloc_new _ _
theorem ret_int'{k:IntKind}{a b:Int}(h:a=b):Ending.returned (.int k a) = .returned (.int k b):=by rw[h]
theorem u64_wrap(x:Int):IntKind.u64.wrap x=x % 18446744073709551616:=by
 simp[IntKind.wrap,IntKind.bits,IntKind.signed]
def U (x:Int):Int:=IntKind.u64.wrap x
def inU (x:Int):Prop:=0≤x∧x≤18446744073709551615
theorem U_sub_back{t:Int}(h:inU t):U (U (t+1) - 1)=t:=by unfold inU at h;unfold U;simp only[u64_wrap];omega
theorem U_sub_zero{t s:Int}(h:inU t)(h':inU s):U (t - s)=0 ↔ t=s:=by unfold inU at h h';unfold U;simp only[u64_wrap];omega
theorem take_in(b g:Nat)(xs:List Int)(c:Nat)(nx sv:Int)(w:World)(hm:Mem w b g xs c)(hc:c<1000000000)(h0:0≤nx)(h1:nx<xs.length)(t:Int)
 (ht:xs.getD nx.toNat 0=t)(hu:inU t) :
 Calls Tryz.prog 126 #[.agg #[.int .i64 nx, .int .i64 sv], .pointer (some ⟨b,0,none⟩)] w fun e w'=>e = .returned (.int .u64 t)∧Mem w' b g (xs.set nx.toNat (U (t+1))) (c+1)∧Only b g w w':=by
 have HT:=hid ht
 have HU:=hid hu
 clear ht hu
 go_enter Tryz.func126,Tryz.ntmps126
 go_wp2_with fail
 refine(add_v b g xs c nx 1 (U (t+1)) _ (hm.alloc _) hc h0 h1 (by rw[HT.out];exact(by unfold U;simp only[u64_wrap];omega))).mono ?_
 rintro e w1 ⟨rfl,hm1,ho1⟩
 go_wp2
 go_ret
 exact⟨ret_int' (U_sub_back HU.out),hm1,(Only.alloc _ _).trans ho1⟩
theorem ahead_in(b g:Nat)(xs:List Int)(c:Nat)(nx sv t:Int)(w:World)(hm:Mem w b g xs c)(hc:c<1000000000)(h0:0≤sv)(h1:sv<xs.length)(s:Int)
 (hs:xs.getD sv.toNat 0=s) :
 Calls Tryz.prog 164 #[.agg #[.int .i64 nx, .int .i64 sv], .pointer (some ⟨b,0,none⟩), .int .u64 t] w fun e w'=>e = .returned (.int .u64 (U (t - s)))∧Mem w' b g xs (c+1)∧Only b g w w':=by
 have HS:=hid hs
 clear hs
 go_enter Tryz.func164,Tryz.ntmps164
 go_wp2_with fail
 refine(load_v b g xs c sv s _ (hm.alloc _) hc h0 h1 HS.out).mono ?_
 rintro e w1 ⟨rfl,hm1,ho1⟩
 go_wp2
 go_ret
 exact⟨rfl,hm1,(Only.alloc _ _).trans ho1⟩
theorem held_in(b g:Nat)(xs:List Int)(c:Nat)(nx sv t:Int)(w:World)(hm:Mem w b g xs c)(hc:c<1000000000)(h0:0≤sv)(h1:sv<xs.length)(s:Int)
 (hs:xs.getD sv.toNat 0=s)(r:Bool)(hr:decide (t=s)=r)(ut:inU t)(us:inU s) :
 Calls Tryz.prog 127 #[.agg #[.int .i64 nx, .int .i64 sv], .pointer (some ⟨b,0,none⟩), .int .u64 t] w fun e w'=>e = .returned (.bool r)∧Mem w' b g xs (c+1)∧Only b g w w':=by
 have hr':(U (t - s) == 0)=r:=by
  rw[←hr,Bool.eq_iff_iff,beq_iff_eq,decide_eq_true_iff];exact U_sub_zero ut us
 have HR:=hid hr'
 have HS:=hid hs
 clear hs hr hr' ut us
 go_enter Tryz.func127,Tryz.ntmps127
 go_wp2_with fail
 refine(ahead_in b g xs c nx sv t _ (hm.alloc _) hc h0 h1 s HS.out).mono ?_
 rintro e w1 ⟨rfl,hm1,ho1⟩
 go_wp2
 go_ret
 exact⟨ret_bool HR.out.symm,hm1,(Only.alloc _ _).trans ho1⟩
theorem free_yes(b g:Nat)(xs:List Int)(c:Nat)(nx sv t:Int)(w:World)(hm:Mem w b g xs c)(hc:c<999999999)(h0:0≤sv)(h1:sv<xs.length)
 (hs:xs.getD sv.toNat 0=t)(ut:inU t) :
 Calls Tryz.prog 129 #[.agg #[.int .i64 nx, .int .i64 sv], .pointer (some ⟨b,0,none⟩), .int .u64 t] w fun e w'=>e = .returned (.bool true)∧Mem w' b g (xs.set sv.toNat (U (t+1))) (c+2)∧Only b g w w':=by
 have HS:=hid hs
 clear hs
 go_enter Tryz.func129,Tryz.ntmps129
 go_wp2_with fail
 refine(held_in b g xs c nx sv t _ (hm.alloc _) (by omega) h0 h1 t HS.out true (by simp) ut ut).mono ?_
 rintro e w1 ⟨rfl,hm1,ho1⟩
 have hnew:=ho1.new hm.sb hm.sg
 have k1:w1.cell? ⟨w.heap.size,1,none⟩=some (.int .i64 sv):=by simp[World.cell?,hnew]
 clear hnew
 go_wp2_with fail
 refine(store_in b g xs (c+1) sv _ _ hm1 (by omega) h0 h1).mono ?_
 rintro e w2 ⟨rfl,hm2,ho2⟩
 go_wp2
 go_ret
 exact⟨rfl,hm2,((Only.alloc _ _).trans ho1).trans ho2⟩
end Go.Proofs.YtkhigkcmgcafdaaGreatDoor
namespace Go.Proofs.YtkhigkcmgcafdaaGreatDoor
open Go.RowKit
theorem catch_idle(p:Addr)(w:World) :
 CallsD Tryz.prog 165 #[.pointer (some p)] .returning w fun e u' w'=>e = .returned (.tuple #[])∧u' = .returning∧w'=w:=by
 refine callsD_of_wpS Tryz.func165 rfl fun c₀ cs hu => ?_
 apply wpS_seq
 apply wpS_region
 simp[wpOpsS,go_sem,recoverD,hu,Tryz.ntmps165,Exit.thenS]
 refine wpS_cond (t:=false) (by simp[Act.eval,Array.replicate]) ?_
 simp only[Bool.false_eq_true,if_false]
 refine wpS_of_wp (wp_skip ?_)
 cases c₀
 simp_all[bodyPostS,results,Tryz.results165]
theorem func_neq(fn:Fn)(first cap:Array Value)(w:World):(binOp .neq 86 (.func fn first cap) .nilFunc).run Tryz.prog w = .ok (.bool true) w:=by
 rfl
structure Sct(w:World)(s o:Nat)(nx sv st tk tm:Int):Prop where
 c0:w.cell? ⟨s,o,none⟩=some (.int .i64 nx)
 c1:w.cell? ⟨s,o+1,none⟩=some (.int .i64 sv)
 c2:w.cell? ⟨s,o+2,none⟩=some (.int .i64 st)
 c3:w.cell? ⟨s,o+3,none⟩=some (.int .u64 tk)
 c4:w.cell? ⟨s,o+4,none⟩=some (.int .i64 tm)
 fz:∀ i,w.frozen? ⟨s,i,none⟩=false
variable {w:World}{s o b g:Nat}{nx sv tk tm:Int}{xs:List Int}{c:Nat}
end Go.Proofs.YtkhigkcmgcafdaaGreatDoor
namespace Go.Proofs.YtkhigkcmgcafdaaGreatDoor
open Go.ChangeShapes Go.WideShapes
def pick {H:Type}(P:Program):Nat→TypeId→DataW H→List (Nat × Value)
 | 0,_,_ => []
 | m + 1,t,d=>match P.underlying t,d with
   | some (.int _), .lit (.int k n) => [(0, .int k n)]
   | some .bool, .lit (.bool b) => [(0, .bool b)]
   | some .string, .lit (.string s) => [(0, .string { data:=s.toArray })]
   | some (.struct fs), .agg ds=>(List.range fs.size).flatMap fun i=>match fs[i]?,ds[i]? with
     | some f,some d=>(pick P m f.type d).map fun x=>(f.offset+x.1,x.2)
     | _,_ => []
   | some (.array n e), .agg ds=>(List.range n).flatMap fun i=>match ds[i]? with
     | some d=>(pick P m e d).map fun x=>(i*P.cellsOf e+x.1,x.2)
     | none => []
   | _,_ => []
theorem part_at{cs:List Value}{off n o:Nat}{v:Value}(h:((cs.drop off).take n)[o]? = some v):cs[off+o]? = some v:=by
 rw[List.getElem?_take]at h
 split at h
 ·rwa[List.getElem?_drop]at h
 ·cases h
theorem pick_cells{H:Type}{enc:TypeId × Value→H}{P:Program}{w:World}{base:Nat}{spare:Nat→Bool}{held:Bool}:∀(m:Nat) {fuel:Nat} {t:TypeId} {cs:List Value} {x:DataW H × List MemPlace},
 DataW.trod enc P w base spare held fuel t cs=some x → ∀ a ∈ pick P m t x.1,cs[a.1]? = some a.2:=by
 intro m
 induction m with
 | zero=>intro fuel t cs x _ a ha;simp[pick]at ha
 | succ m ih=>
   intro fuel t cs x h a ha
   unfold pick at ha
   split at ha
   ·rename_i k0 k n ht hd
    obtain⟨r,e1,e2,_⟩:=DataW.trod_int ht h
    rw[e2]at hd
    simp only[DataW.lit.injEq,Lit.int.injEq]at hd
    obtain⟨rfl,rfl⟩:=hd
    simp at ha;subst ha;subst e1;rfl
   ·rename_i b ht hd
    obtain⟨r,e1,e2⟩:=DataW.trod_bool ht h
    rw[e2]at hd
    simp only[DataW.lit.injEq,Lit.bool.injEq]at hd
    subst hd
    simp at ha;subst ha;subst e1;rfl
   ·rename_i s ht hd
    obtain⟨r,e1,e2,_⟩:=DataW.trod_string ht h
    rw[e2]at hd
    simp only[DataW.lit.injEq,Lit.string.injEq]at hd
    subst hd
    simp at ha;subst ha;subst e1;rfl
   ·rename_i fs ds ht hd
    obtain⟨xs,n,_,e2,_,_,hel⟩:=DataW.trod_struct ht h
    rw[e2]at hd
    simp only[DataW.agg.injEq]at hd
    rw[List.mem_flatMap]at ha
    obtain⟨i,_,ha⟩:=ha
    split at ha
    ·rename_i f d hf hdi
     rw[List.mem_map]at ha
     obtain⟨y,hy,rfl⟩:=ha
     rw[←hd,List.getElem?_map,Option.map_eq_some_iff]at hdi
     obtain⟨z,hz,rfl⟩:=hdi
     exact part_at (ih ((hel i f hf).trans hz) y hy)
    ·cases ha
   ·rename_i n e ds ht hd
    obtain⟨xs,k,_,e2,_,_,hel⟩:=DataW.trod_array ht h
    rw[e2]at hd
    simp only[DataW.agg.injEq]at hd
    rw[List.mem_flatMap]at ha
    obtain⟨i,hi,ha⟩:=ha
    split at ha
    ·rename_i d hdi
     rw[List.mem_map]at ha
     obtain⟨y,hy,rfl⟩:=ha
     rw[←hd,List.getElem?_map,Option.map_eq_some_iff]at hdi
     obtain⟨z,hz,rfl⟩:=hdi
     exact part_at (ih ((hel i (by simpa using hi)).trans hz) y hy)
    ·cases ha
   ·cases ha
theorem laidVars_cells{P:Program}{w:World}:∀ {l:List (String × DataW Unit)} {ps:List MemPlace},DataW.LaidVars P w l ps → ∀ {n:String} {d:DataW Unit},(n,d) ∈ l →
 ∃ g t,P.globalNamed n=some g∧(P.globals[g]?).map (·.type)=some t ∧ ∀ m,∀ a ∈ pick P m t d,w.cell? ⟨g,a.1,none⟩=some a.2:=by
 intro l
 induction l with
 | nil=>intro ps _ n d h;cases h
 | cons y r ih=>
   intro ps h n d hm
   obtain⟨n',d'⟩:=y
   obtain⟨g,t,cs,fuel,p,q,hg,ht,hv,hd,hr,_⟩:=h
   rcases List.mem_cons.1 hm with e|e
   ·simp only[Prod.mk.injEq]at e
    obtain⟨rfl,rfl⟩:=e
    refine⟨g,t,hg,ht,fun m a ha => ?_⟩
    rw[World.var?_cell hg hv]
    have:=pick_cells m hd a ha
    simpa using this
   ·exact ih hr e
theorem lt_of_cell{w:World}{b o:Nat}{v:Value}(h:w.cell? ⟨b,o,none⟩=some v):b<w.heap.size:=by
 rcases Nat.lt_or_ge b w.heap.size with h1|h1
 ·exact h1
 ·simp[World.cell?,Array.getElem?_eq_none h1]at h
theorem laid_at{P:Program}{l:List (String × DataW Unit)}{w:World}(h:laidMetH P l w)(hp:(l.all fun x=>x.2.handleName?.isNone)=true)(j:Nat){n:String}{d:DataW Unit}(hm:l[j]? = some (n,d)){g:Nat}{t:TypeId}
 (hg:P.globalNamed n=some g)(ht:(P.globals[g]?).map (·.type)=some t)(m k:Nat){o:Nat}{v:Value}(hk:(pick P m t d)[k]? = some (o,v)):w.cell? ⟨g,o,none⟩=some v:=by
 rw[MakeChecks.laidMetH_plain _ _ _ hp]at h
 obtain⟨ps,hl,_⟩:=h
 obtain⟨g',t',hg',ht',hc⟩:=laidVars_cells hl (List.mem_of_getElem? hm)
 obtain rfl:=Option.some.inj (hg.symm.trans hg')
 obtain rfl:=Option.some.inj (ht.symm.trans ht')
 exact hc m (o,v) (List.mem_of_getElem? hk)
end Go.Proofs.YtkhigkcmgcafdaaGreatDoor
namespace Go.Proofs.YtkhigkcmgcafdaaGreatDoor
open Go.RowKit
theorem begin_any(nx sv:Int)(w:World):Calls Tryz.prog 96 #[.agg #[.int .i64 nx, .int .i64 sv]] w fun e w'=>e = .returned (.agg #[.int .i64 nx, .int .i64 sv, .int .i64 0, .int .u64 0, .int .i64 0])∧Below w.heap.size w w':=by
 go_enter Tryz.func96,Tryz.ntmps96
 go_wp2
 exact bodyPost_ret (v := .agg #[.int .i64 nx, .int .i64 sv, .int .i64 0, .int .u64 0, .int .i64 0]) (by simp[results,Tryz.results96,go_sem]) rfl ⟨rfl,((Below.refl _ _).alloc (Nat.le_refl _) _).alloc (by simp) _⟩
theorem set_getD{xs:List Int}{i:Nat}{v:Int}(h:xs.getD i 0=v):xs.set i v=xs:=by
 apply List.ext_getElem?
 intro j
 rw[List.getElem?_set]
 split
 ·rename_i e;subst e
  split
  ·rename_i hl;rw[←h,List.getD_eq_getElem?_getD,List.getElem?_eq_getElem hl];rfl
  ·rename_i hl;rw[List.getElem?_eq_none (by omega)]
 ·rfl
variable {w:World}{s o b g:Nat}{nx sv tk u f:Int}{xs:List Int}{c:Nat}
end Go.Proofs.YtkhigkcmgcafdaaGreatDoor
namespace Go.Proofs.YtkhigkcmgcafdaaGreatDoor
open Go.RowKit
theorem infoInt:(Tryz.prog.info? 3).map (fun i=>(i.zero,i.size,i.bytes))=some (some (.int .i64 0),1,8):=by kernel_rfl
def Reads(w:World)(v:Value)(xs:List Int):Prop:=
 ∃ a c,v = .slice a xs.length c∧(xs.length≤c∧c≤maxLen∧((a=none∧c=0) ∨ ∃ ad,a=some ad))∧(0<xs.length → ∃ g off,a=some ⟨g,off,none⟩∧g<w.heap.size ∧ ∀ j,j<xs.length→w.cell? ⟨g,off+j,none⟩=some (.int .i64 (xs.getD j 0)))
def Owns (w:World)(base:Nat)(v:Value)(xs:List Int):Prop:=w.ownsRow base 3 1 v xs.length (xs.map (Value.int .i64))
theorem cell_lt{w:World}{a:Addr}{v:Value}(h:w.cell? a=some v):a.block<w.heap.size:=by
 rcases Nat.lt_or_ge a.block w.heap.size with h'|h'
 ·exact h'
 ·simp[World.cell?,Array.getElem?_eq_none h']at h
theorem Owns.reads{w:World}{base:Nat}{v:Value}{xs:List Int}(h:Owns w base v xs):Reads w v xs:=by
 obtain⟨h0,⟨h1,h2⟩|⟨g,cap,cur,h1,h2,h3,h4,h5,h6,h7⟩⟩:=h
 ·exact⟨none,0,by rw[h1,h2],⟨by omega,by unfold maxLen;omega, .inl ⟨rfl,rfl⟩⟩,fun h=>by omega⟩
 ·refine⟨_,_,h1,⟨h4,h5, .inr ⟨_,rfl⟩⟩,fun h=>⟨g,0,rfl,?_,fun j hj => ?_⟩⟩
  ·rw[Array.getElem?_eq_some_iff]at h3;exact h3.1
  ·have e:(cur.toList.take (xs.length*1))[j]? = cur.toList[j]?:=by rw[List.getElem?_take,if_pos (by omega)]
   rw[h7]at e
   have e':w.cell? ⟨g,0+j,none⟩=cur.toList[j]?:=by simp[World.cell?,h3]
   rw[e', ←e]
   simp[hj]
theorem Reads.of_below{w w':World}{v:Value}{xs:List Int}(h:Reads w v xs)(hb:Below w.heap.size w w'):Reads w' v xs:=by
 obtain⟨a,c,rfl,h0,h1⟩:=h
 refine⟨a,c,rfl,h0,fun h => ?_⟩
 obtain⟨g,off,rfl,h2,h3⟩:=h1 h
 refine⟨g,off,rfl,by have:=hb.size;omega,fun j hj => ?_⟩
 rw[hb.cell (p:=⟨g,off+j,none⟩) h2]
 exact h3 j hj
theorem Owns.mono{w:World}{base base':Nat}{v:Value}{xs:List Int}(h:Owns w base v xs)(hb:base'≤base):Owns w base' v xs:=by
 obtain⟨h0,h1|⟨g,cap,cur,h1,h2,h3⟩⟩:=h
 ·exact⟨h0, .inl h1⟩
 ·exact⟨h0, .inr ⟨g,cap,cur,h1,by omega,h3⟩⟩
theorem Owns.slice{w:World}{base:Nat}{v:Value}{xs:List Int}(h:Owns w base v xs):∃ a c,v = .slice a xs.length c:=by
 obtain⟨h0,⟨h1,h2⟩|⟨g,cap,cur,h1,_⟩⟩:=h
 ·exact⟨none,0,by rw[h1,h2]⟩
 ·exact⟨_,_,h1⟩
theorem Owns.slice3{w:World}{base:Nat}{v:Value}{xs:List Int}(h:Owns w base v xs):∃ a m c,v = .slice a m c:=by
 obtain⟨a,c,h⟩:=h.slice;exact⟨a,_,c,h⟩
theorem news_of{w:World}{g off:Nat}{xs:List Int}(hc:∀ j,j<xs.length→w.cell? ⟨g,off+j,none⟩=some (.int .i64 (xs.getD j 0))) :
 ∀ j u,(xs.map (Value.int .i64))[j]? = some u→w.cell? ((⟨g,off,none⟩:Addr).add j)=some u:=by
 intro j u hj
 rw[List.getElem?_map]at hj
 rcases hx:xs[j]? with _|x
 ·rw[hx]at hj;simp at hj
 ·rw[hx]at hj
  obtain⟨hlt,hx'⟩:=List.getElem?_eq_some_iff.1 hx
  have hcj:=hc j hlt
  have he:(⟨g,off,none⟩:Addr).add j=⟨g,off+j,none⟩:=by
   by_cases hj0:j=0
   ·subst hj0;simp[Addr.add]
   ·simp[Addr.add,hj0]
  rw[he,hcj]
  simp only[Option.map_some,Option.some.injEq]at hj
  rw[←hj,List.getD_eq_getElem?_getD,hx];rfl
theorem ones_of(xs:List Int):∀ u ∈ xs.map (Value.int .i64),u.oneCell'=true:=by
 intro u hu
 obtain⟨x,_,rfl⟩:=List.mem_map.1 hu
 rfl
def ClonePost(xs:List Int)(w:World)(e:Ending)(w':World):Prop:=
 ∃ v',e = .returned v'∧Owns w' w.heap.size v' xs∧Below w.heap.size w w'
theorem clone_int(v:Value)(xs:List Int)(w:World)(hl:xs.length≤10000000)(hr:Reads w v xs) :
 Calls Tryz.prog 87 #[v] w (ClonePost xs w):=by
 obtain⟨a,c,rfl,_,h1⟩:=hr
 obtain⟨i0,hi,hz0,hz1,hz2⟩:=info_parts infoInt
 have hnil:=fun(w:World)=>Lib.run_eql_slice_nil (P:=Tryz.prog) w 63 3 a xs.length c 0 0 Tryz.underlying63
 rcases a with _|ad
 ·simp only[Option.isNone_none]at hnil
  have hx:xs.length=0:=by
   rcases Nat.eq_zero_or_pos xs.length with h|h
   ·exact h
   ·obtain⟨g,off,h2,_⟩:=h1 h
    exact absurd h2 (by simp)
  have HX:=hid hx
  clear h1 hx
  go_enter Tryz.func87,Tryz.ntmps87
  go_wp2
  go_ret
  exact⟨_,rfl,⟨by simp, .inl ⟨rfl,HX.out⟩⟩,Below.refl _ _⟩
 ·simp only[Option.isNone_some]at hnil
  have hown:(w.alloc (.cells #[] 3)).ownsRow w.heap.size 3 1 (.slice (some ⟨w.heap.size,0,none⟩) 0 0) 0 []:=World.ownsRow_made w #[] 0 (Nat.le_refl _) (by omega) rfl
  have hnews:∀ j u,(xs.map (Value.int .i64))[j]? = some u→(w.alloc (.cells #[] 3)).cell? (ad.add j)=some u:=by
   intro j u hj
   have hpos:0<xs.length:=by
    rcases Nat.eq_zero_or_pos xs.length with h|h
    ·rw[List.length_eq_zero_iff]at h;subst h;simp at hj
    ·exact h
   obtain⟨g,off,h2,h3,h4⟩:=h1 hpos
   simp only[Option.some.injEq]at h2
   subst h2
   have:=news_of h4 j u hj
   rw[←this]
   refine World.cell?_of_block (Below.heap_alloc _ _ _ ?_)
   exact cell_lt this
  have HN:=hid hnews
  clear h1 hnews
  go_enter Tryz.func87,Tryz.ntmps87
  go_wp2_with (at_builtin;refine wpList_append_own _ rfl _ _ 63 rfl w.heap.size 3 i0 (.int .i64 0) 1 8 Tryz.underlying63 hi hz0 hz1 hz2 rfl (by decide) _ _ _ rfl hown ad xs.length c (xs.map (Value.int .i64)) rfl ?c0 ?c1 ?c2 ?c3 ?c4 ?c5 ?_)
  case c0=>simp
  case c1=>exact HN.out
  case c2=>exact ones_of xs
  case c3=>unfold maxLen;omega
  case c4=>omega
  case c5=>simp
  intro v' w1 hown' hgrow _
  have hbel:Below w.heap.size w w1:=((Below.refl w.heap.size w).alloc (Nat.le_refl _) (.cells #[] 3)).grown hgrow (by simp) (fun k hk=>by simp[Value.ownBlock]at hk;omega)
  clear hown hgrow hnil
  go_wp2
  go_ret
  exact⟨_,rfl,hown',hbel⟩
theorem Owns.kept{w w':World}{base:Nat}{v:Value}{xs:List Int}(h:Owns w base v xs)(hb:∀ k,v.ownBlock=some k→w'.heap[k]? = w.heap[k]?):Owns w' base v xs:=by
 obtain⟨h0,h1|⟨g,cap,cur,h1,h2,h3,h4⟩⟩:=h
 ·exact⟨h0, .inl h1⟩
 ·exact⟨h0, .inr ⟨g,cap,cur,h1,h2,by rw[hb g (by rw[h1];rfl)];exact h3,h4⟩⟩
theorem Owns.lt{w:World}{base:Nat}{v:Value}{xs:List Int}(h:Owns w base v xs):∀ k,v.ownBlock=some k→base≤k∧k<w.heap.size:=World.ownsRow.lt h
theorem wpList_append_reads{P:Program}{w:World}{ops:Array Oper}{rest:List Oper}{o:Oper}{a:Act}{Q:Exit→Act→World→Prop}(hgd:o.guard=none)(s x:Operand)(t:TypeId)
 (ho:o.op = .call { callee := .builtin .append,args := #[s,x],argTypes := #[t,t] })
 (base:Nat)(e:TypeId)(i:TypeInfo)(z:Value)(bytes:Nat)(ht:P.underlying t=some (.slice e))(hi:P.info? e=some i)(hz:i.zero=some z)
 (hsize:i.size=1)(hby:i.bytes=bytes)(hzs:z.cells.size=1)
 (v:Value)(n:Nat)(xs:List Value)(hs:a.eval s=v)(hown:w.ownsRow base e 1 v n xs)
 (ys:List Int)(vy:Value)(hx:a.eval x=vy)(hr:Reads w vy ys)
 (h63:n+ys.length≤maxLen)(hbytes:(n+ys.length)*bytes≤140737488355328)(hbase:base≤w.heap.size)
 (h:∀ v' w',w'.ownsRow base e 1 v' (n+ys.length) (xs ++ ys.map (Value.int .i64))→w.grownBy w' v.ownBlock→(v'.ownBlock=v.ownBlock∨v'.ownBlock=some w.heap.size)→wpList P ops Q rest (a.put o.dst v') w') :
 wpList P ops Q (o :: rest) a w:=by
 obtain⟨ad,c,rfl,hc,hrd⟩:=hr
 rcases hc.2.2 with⟨rfl,rfl⟩|⟨ad',rfl⟩
 ·have hy0:ys = []:=List.length_eq_zero_iff.1 (by omega)
  subst hy0
  exact wpList_append_own_none hgd s x t ho base e i 1 ht hi v n xs hs hown hx (h v w (by simpa using hown) (.refl _ _) (.inl rfl))
 ·refine wpList_append_own_at w hgd s x t ho base e i z 1 bytes ht hi hz hsize hby hzs (by decide) v n xs hs hown ad' ys.length c (ys.map (Value.int .i64)) hx (by simp) ?_ (ones_of ys) h63 hbytes hbase (fun v' w' h1 h2 _ h3=>h v' w' h1 h2 h3)
  intro j u hj
  have hpos:0<ys.length:=by
   rcases Nat.eq_zero_or_pos ys.length with h|h
   ·rw[List.length_eq_zero_iff]at h;subst h;simp at hj
   ·exact h
  obtain⟨g',off',h2,h3,h4⟩:=hrd hpos
  simp only[Option.some.injEq]at h2
  subst h2
  exact news_of h4 j u hj
theorem Owns.reads_n{w:World}{base:Nat}{v:Value}{xs:List Int}{n:Nat}(h:Owns w base v xs)(hn:xs.length=n):∃ a c,v = .slice a n c:=by
 subst hn;exact h.slice
structure Bat0(w:World)(p:Nat)(r:Option Nat)(pre xs:List Int):Prop where
 h:∃(v:Value),w.heap[p]? = some (.cells #[v, .int .i64 pre.length] 190 (0,0))∧Owns w 0 v (pre ++ xs)∧v.ownBlock=r
 ne:r≠some p
 len:xs.length≤1000000
def Bat (w:World)(p:Nat)(r:Option Nat)(xs:List Int):Prop:=∃ pre,Bat0 w p r pre xs∧pre.length≤3*xs.length+3
theorem Bat.len{w:World}{p:Nat}{r:Option Nat}{xs:List Int}(h:Bat w p r xs):xs.length≤1000000:=by
 obtain⟨pre,h,_⟩:=h;exact h.len
theorem Bat.ne{w:World}{p:Nat}{r:Option Nat}{xs:List Int}(h:Bat w p r xs):r≠some p:=by
 obtain⟨pre,h,_⟩:=h;exact h.ne
structure OnlyO(p:Nat)(r:Option Nat)(w w':World):Prop where
 os:w'.os=w.os
 tape:w'.tape=w.tape
 output:w'.output=w.output
 size:w.heap.size≤w'.heap.size
 block:∀ k,k<w.heap.size→k≠p→some k≠r→w'.heap[k]? = w.heap[k]?
theorem OnlyO.refl(p:Nat)(r:Option Nat)(w:World):OnlyO p r w w:=⟨rfl,rfl,rfl,Nat.le_refl _,fun _ _ _ _=>rfl⟩
theorem OnlyO.of_below{p:Nat}{r:Option Nat}{w w':World}(h:Below w.heap.size w w'):OnlyO p r w w':=⟨h.os,h.tape,h.output,h.size,fun k hk _ _=>h.block k hk⟩
theorem OnlyO.quiet{p:Nat}{r:Option Nat}{w w':World}(h:Quiet w w'):OnlyO p r w w' := .of_below (h.below _)
theorem OnlyO.trans{p:Nat}{r r':Option Nat}{a b c:World}(h:OnlyO p r a b)(k:OnlyO p r' b c)(hr:r'=r ∨ ∀ q,r'=some q→a.heap.size≤q):OnlyO p r a c:=
 ⟨k.os.trans h.os,k.tape.trans h.tape,k.output.trans h.output,Nat.le_trans h.size k.size,fun i hi h1 h2=>by
  rw[k.block i (Nat.lt_of_lt_of_le hi h.size) h1 (by
   rcases hr with rfl|hr
   ·exact h2
   ·intro e;have:=hr i e.symm;omega)]
  exact h.block i hi h1 h2⟩
theorem Bat.lt{w:World}{p:Nat}{r:Option Nat}{xs:List Int}(h:Bat w p r xs):p<w.heap.size:=by
 obtain⟨pre,⟨⟨v,h1,_⟩,_,_⟩,_⟩:=h
 rw[Array.getElem?_eq_some_iff]at h1;exact h1.1
theorem Bat.rlt{w:World}{p:Nat}{r:Option Nat}{xs:List Int}(h:Bat w p r xs):∀ k,r=some k→k<w.heap.size:=by
 obtain⟨pre,⟨⟨v,h1,h2,h3⟩,_,_⟩,_⟩:=h
 intro k hk
 exact(h2.lt k (by rw[h3];exact hk)).2
theorem Bat0.kept{w w':World}{p:Nat}{r:Option Nat}{pre xs:List Int}(h:Bat0 w p r pre xs)(hp:w'.heap[p]? = w.heap[p]?)(hr:∀ k,r=some k→w'.heap[k]? = w.heap[k]?):Bat0 w' p r pre xs:=by
 obtain⟨v,h1,h2,h3⟩:=h.h
 exact⟨⟨v,hp.trans h1,h2.kept (by rw[h3];exact hr),h3⟩,h.ne,h.len⟩
theorem Bat0.quiet{w w':World}{p:Nat}{r:Option Nat}{pre xs:List Int}(h:Bat0 w p r pre xs)(hq:Quiet w w'):Bat0 w' p r pre xs:=
 h.kept (by rw[hq.heap]) (fun _ _=>by rw[hq.heap])
theorem Bat0.drewN{w:World}{p:Nat}{r:Option Nat}{pre xs:List Int}(h:Bat0 w p r pre xs)(n:Nat):Bat0 (w.drewN n) p r pre xs:=h.quiet ⟨n,rfl⟩
theorem Bat.kept{w w':World}{p:Nat}{r:Option Nat}{xs:List Int}(h:Bat w p r xs)(hp:w'.heap[p]? = w.heap[p]?)(hr:∀ k,r=some k→w'.heap[k]? = w.heap[k]?):Bat w' p r xs:=by
 obtain⟨pre,h,h4⟩:=h
 exact⟨pre,h.kept hp hr,h4⟩
theorem Bat.below{w w':World}{p:Nat}{r:Option Nat}{xs:List Int}(h:Bat w p r xs)(hb:Below w.heap.size w w'):Bat w' p r xs:=
 h.kept (hb.block _ h.lt) (fun k hk=>hb.block _ (h.rlt k hk))
theorem Bat.quiet{w w':World}{p:Nat}{r:Option Nat}{xs:List Int}(h:Bat w p r xs)(hb:Quiet w w'):Bat w' p r xs:=h.below (hb.below _)
def RowPost(xs:List Int)(w:World)(e:Ending)(w':World):Prop:=∃ v,e = .returned v∧Reads w' v xs∧Quiet w w'
theorem row0(p:Nat)(r:Option Nat)(pre xs:List Int)(w:World)(hb:Bat0 w p r pre xs) :
 Calls Tryz.prog 193 #[.pointer (some ⟨p,0,none⟩)] w (RowPost xs w):=by
 obtain⟨v,hp,ho,hr⟩:=hb.h
 have hlen:=hb.len
 have k0:w.cell? ⟨p,0,none⟩=some v:=by simp[World.cell?,hp]
 have k1:w.cell? ⟨p,1,none⟩=some (.int .i64 pre.length):=by simp[World.cell?,hp]
 have hred:=ho.reads
 obtain⟨h0,⟨h1,h2⟩|⟨g,cap,cur,h1,h2,h3,h4,h5,h6,h7⟩⟩:=ho
 ·have hx:pre = []∧xs = []:=by simpa using h2
  obtain⟨rfl,rfl⟩:=hx
  subst h1
  go_enter Tryz.func193,Tryz.ntmps193
  go_wp2_with fail
  go_quiet (fail)
  all_goals
   go_wp2
   go_ret
   exact⟨_,rfl,⟨none,0,rfl,⟨by simp,by unfold maxLen;omega, .inl ⟨rfl,rfl⟩⟩,fun h=>absurd h (by simp)⟩,⟨_,rfl⟩⟩
 ·simp only[List.length_append]at h1 h4
  subst h1
  have hcm:=h5
  unfold maxLen at hcm
  have hcm2:=hcm
  have hgl:g<w.heap.size:=by rw[Array.getElem?_eq_some_iff]at h3;exact h3.1
  have hcells:∀ j,j<xs.length→w.cell? ⟨g,pre.length+j,none⟩=some (.int .i64 (xs.getD j 0)):=by
   obtain⟨a',c',ha,_,hread⟩:=hred
   simp only[Value.slice.injEq]at ha
   intro j hj
   obtain⟨g',off',hg',_,hc'⟩:=hread (by simp;omega)
   rw[hg']at ha
   simp only[Option.some.injEq,Addr.mk.injEq]at ha
   have:=hc' (pre.length+j) (by simp;omega)
   rw[←ha.1.1, ←ha.1.2.1]at this
   rw[Nat.zero_add]at this
   rw[this,List.getD_eq_getElem?_getD,List.getElem?_append_right (by omega),Nat.add_sub_cancel_left, ←List.getD_eq_getElem?_getD]
  have HC:=hid hcells
  have hq0:pre.length≤cap:=by omega
  clear hcells hred h0 h3 h6 h7 hb hp
  by_cases hcap:pre.length=cap
  ·have hx0:xs.length=0:=by omega
   go_enter Tryz.func193,Tryz.ntmps193
   go_wp2_with fail
   go_quiet (fail)
   all_goals
    go_wp2
    go_ret
    exact⟨_,rfl,⟨some ⟨g,0,none⟩,0,by simp[Act.tmps,hx0],⟨by omega,by unfold maxLen;omega, .inr ⟨_,rfl⟩⟩,fun h=>by omega⟩,⟨_,rfl⟩⟩
  ·have hcap':pre.length<cap:=by omega
   clear hcap
   go_enter Tryz.func193,Tryz.ntmps193
   go_wp2_with fail
   go_quiet (fail)
   all_goals
    go_wp2
    go_ret
    exact⟨_,rfl,⟨some ⟨g,pre.length,none⟩,cap - pre.length,rfl,⟨by omega,by unfold maxLen;omega, .inr ⟨_,rfl⟩⟩,fun _=>⟨g,pre.length,rfl,hgl,fun j hj=>by rw[Quiet.cell ⟨_,rfl⟩];exact HC.out j hj⟩⟩,⟨_,rfl⟩⟩
theorem row_any(p:Nat)(r:Option Nat)(xs:List Int)(w:World)(hb:Bat w p r xs) :
 Calls Tryz.prog 193 #[.pointer (some ⟨p,0,none⟩)] w (RowPost xs w):=by
 obtain⟨pre,h,_⟩:=hb
 exact row0 p r pre xs w h
theorem blen0(p:Nat)(r:Option Nat)(pre xs:List Int)(w:World)(hb:Bat0 w p r pre xs) :
 Calls Tryz.prog 173 #[.pointer (some ⟨p,0,none⟩)] w fun e w'=>e = .returned (.int .i64 xs.length)∧Quiet w w':=by
 have HB:=hid hb
 clear hb
 go_enter Tryz.func173,Tryz.ntmps173
 go_wp2_with fail
 refine(row0 p r pre xs _ HB.out).mono ?_
 rintro e w' ⟨v,rfl,⟨a,c,rfl,_,_⟩,hq⟩
 go_wp2
 go_ret
 exact⟨rfl,hq⟩
theorem blen_any(p:Nat)(r:Option Nat)(xs:List Int)(w:World)(hb:Bat w p r xs) :
 Calls Tryz.prog 173 #[.pointer (some ⟨p,0,none⟩)] w fun e w'=>e = .returned (.int .i64 xs.length)∧Quiet w w':=by
 obtain⟨pre,h,_⟩:=hb
 exact blen0 p r pre xs w h
def NewPost(xs:List Int)(w:World)(e:Ending)(w':World):Prop:=
 ∃ p r,e = .returned (.pointer (some ⟨p,0,none⟩))∧Bat w' p r xs∧w.heap.size≤p∧(∀ k,r=some k→w.heap.size≤k)∧Below w.heap.size w w'
theorem of_any(v:Value)(xs:List Int)(w:World)(hl:xs.length≤1000000)(hr:Reads w v xs) :
 Calls Tryz.prog 78 #[v] w (NewPost xs w):=by
 have C:=hid (clone_int v xs w (by omega) hr)
 clear hr
 go_enter Tryz.func78,Tryz.ntmps78
 go_wp2_with fail
 refine C.out.mono ?_
 rintro e w1 ⟨v',rfl,ho,hbel⟩
 obtain⟨va,vc,rfl⟩:=ho.slice
 have hs:=hbel.size
 have holt:=ho.lt
 have HO:=hid ho
 have HL:=hid holt
 clear ho holt
 go_wp2
 go_ret
 refine⟨w1.heap.size,(Value.slice va xs.length vc).ownBlock,rfl,⟨[],⟨⟨.slice va xs.length vc,Deep.blk_alloc_new _ _,?_,rfl⟩,?_,hl⟩,by simp⟩,hs,fun k hk=>(HL.out k hk).1,hbel.alloc hs _⟩
 ·exact(HO.out.mono (Nat.zero_le _)).kept (fun k hk=>Below.heap_alloc _ _ _ (HL.out k hk).2)
 ·intro e;have:=(HL.out _ e).2;omega
def DropPost(p:Nat)(r:Option Nat)(xs:List Int)(n:Nat)(w:World)(e:Ending)(w':World):Prop:=
 e = .returned (.tuple #[]) ∧ ∃ r',Bat w' p r' (xs.drop n)∧OnlyO p r w w'∧(r'=r ∨ ∀ k,r'=some k→w.heap.size≤k)
theorem Bat0.lt{w:World}{p:Nat}{r:Option Nat}{pre xs:List Int}(h:Bat0 w p r pre xs):p<w.heap.size:=by
 obtain⟨v,h1,_⟩:=h.h
 rw[Array.getElem?_eq_some_iff]at h1;exact h1.1
theorem Bat0.rlt{w:World}{p:Nat}{r:Option Nat}{pre xs:List Int}(h:Bat0 w p r pre xs):∀ k,r=some k→k<w.heap.size:=by
 obtain⟨v,h1,h2,h3⟩:=h.h
 intro k hk
 exact(h2.lt k (by rw[h3];exact hk)).2
theorem drop_end{w w2 w3:World}{p:Nat}{r:Option Nat}{vv:Value}{q:Int}{va:Option Addr}{vc:Nat}{ys:List Int}(hp:w3.heap[p]? = some (.cells #[vv, .int .i64 q] 190 (0,0)))
 (ho:Owns w3 w2.heap.size (.slice va ys.length vc) ys)(hb:Below w2.heap.size w2 w3)(hs:w2.heap.size=w.heap.size)(hl:ys.length≤1000000)(h2:OnlyO p r w w2) :
 ∃ r',Bat ((w3.setCell ⟨p,0,none⟩ (.slice va ys.length vc)).setCell ⟨p,1,none⟩ (.int .i64 0)) p r' ys∧OnlyO p r w ((w3.setCell ⟨p,0,none⟩ (.slice va ys.length vc)).setCell ⟨p,1,none⟩ (.int .i64 0))∧(r'=r ∨ ∀ k,r'=some k→w.heap.size≤k):=by
 have hne:∀ k,(Value.slice va ys.length vc).ownBlock=some k→k≠p:=by
  intro k hk e
  subst e
  obtain⟨_,⟨h1,_⟩|⟨g,cap,cur,h1,_,h3,_⟩⟩:=ho
  ·rw[h1]at hk;simp[Value.ownBlock]at hk
  ·rw[h1]at hk
   simp only[Value.ownBlock,Option.some.injEq]at hk
   subst hk
   rw[hp]at h3
   simp only[Option.some.injEq,Obj.cells.injEq]at h3
   exact absurd h3.2.1 (by decide)
 refine⟨(Value.slice va ys.length vc).ownBlock,⟨[],⟨⟨.slice va ys.length vc,?_,?_,rfl⟩,fun e=>hne p e rfl,hl⟩,by simp⟩,?_, .inr fun k hk=>by have:=(ho.lt k hk).1;omega⟩
 ·simp[World.setCell,Array.getElem?_modify,hp]
 ·exact(ho.mono (Nat.zero_le _)).kept fun k hk=>by
   rw[Below.heap_setCell _ _ _ _ (hne k hk),Below.heap_setCell _ _ _ _ (hne k hk)]
 ·have h3:OnlyO p r w2 w3 := .of_below hb
  refine(h2.trans (r':=r) h3 (.inl rfl)).trans (r':=r) ⟨rfl,rfl,rfl,by simp[World.setCell],fun k _ h1 _ => ?_⟩ (.inl rfl)
  rw[Below.heap_setCell _ _ _ _ h1,Below.heap_setCell _ _ _ _ h1]
theorem drop_any(p:Nat)(r:Option Nat)(xs:List Int)(n:Nat)(w:World)(hb:Bat w p r xs)(hn:n≤xs.length) :
 Calls Tryz.prog 194 #[.pointer (some ⟨p,0,none⟩), .int .i64 n] w (DropPost p r xs n w):=by
 obtain⟨pre,hb0,hpl⟩:=hb
 obtain⟨v,hp,ho,hr⟩:=hb0.h
 have hlen:=hb0.len
 obtain⟨va,vc,rfl⟩:=ho.slice
 have k1:w.cell? ⟨p,1,none⟩=some (.int .i64 pre.length):=by simp[World.cell?,hp]
 have f1:w.frozen? ⟨p,1,none⟩=false:=by simp[World.frozen?,hp]
 -- behind the first store
 have hsplit:pre ++ xs=(pre ++ xs.take n) ++ xs.drop n:=by rw[List.append_assoc,List.take_append_drop]
 have hpl2:((pre ++ xs.take n).length:Int)=(pre.length:Int)+n:=by simp;omega
 have hb1:Bat0 (w.setCell ⟨p,1,none⟩ (.int .i64 ((pre.length:Int)+n))) p r (pre ++ xs.take n) (xs.drop n):=by
  refine⟨⟨_,?_,?_,hr⟩,hb0.ne,by simp;omega⟩
  ·rw[hpl2];simp[World.setCell,Array.getElem?_modify,hp]
  ·rw[←hsplit]
   exact ho.kept (fun k hk=>Below.heap_setCell _ _ _ _ (fun e=>hb0.ne (by rw[←hr,hk,e])))
 have honly:OnlyO p r w (w.setCell ⟨p,1,none⟩ (.int .i64 ((pre.length:Int)+n))):=⟨rfl,rfl,rfl,by simp[World.setCell],fun k _ h1 _=>Below.heap_setCell _ _ _ _ h1⟩
 have HB1:=hid hb1
 have HO:=hid honly
 obtain⟨ys,hys⟩:∃ ys,ys=xs.drop n:=⟨_,rfl⟩
 obtain⟨N,hN⟩:∃ N,N=(pre ++ xs).length:=⟨_,rfl⟩
 obtain⟨pre',hpre'⟩:∃ q,q=pre ++ xs.take n:=⟨_,rfl⟩
 have hNl:N=pre'.length+ys.length:=by rw[hN,hsplit,hpre',hys,List.length_append]
 have hNb:N≤10000000:=by rw[hN];simp;omega
 have hyl:ys.length≤1000000:=by rw[hys];simp;omega
 have hnb:n≤1000000:=by omega
 have hpb:pre.length≤5000000:=by omega
 rw[←hys, ←hpre']at HB1
 have k0:w.cell? ⟨p,0,none⟩=some (.slice va N vc):=by rw[hN];simp[World.cell?,hp]
 have hys':=hid hys
 have hNl':=hid hNl
 clear hb0 hp ho hr hsplit hpl2 hb1 honly hys hN hpre' hNl hlen hpl hn
 have hw:IntKind.i64.wrap ((N:Int) / 4)=(N:Int) / 4:=IntWalk.i64_in _ (by omega)
 by_cases hc:(ys.length:Int)<(N:Int) / 4∨ys.length=0
 ·have t:(decide ((ys.length:Int)<(N:Int) / 4)=true)∨(decide ((ys.length:Int)<(N:Int) / 4)=false∧((ys.length:Int) == 0)=true):=by
   by_cases h:(ys.length:Int)<(N:Int) / 4
   ·exact .inl (decide_eq_true h)
   ·exact .inr ⟨decide_eq_false h,beq_iff_eq.2 (by omega)⟩
  clear hc
  rcases t with t|⟨t,t2⟩
  all_goals
   go_enter Tryz.func194,Tryz.ntmps194
   go_wp2_with fail
   go_quiet ((go_at_call 173;exact quiet_call (blen0 p r pre' ys _ (HB1.out.drewN _))))
   all_goals
    clear hw
    go_wp2_with fail
    refine(row0 p r pre' ys _ (HB1.out.drewN _)).mono ?_
    rintro e w2 ⟨v2,rfl,hrd,hq2⟩
    have hb2:=(HB1.out.drewN _).quiet hq2
    have hsz2:w2.heap.size=w.heap.size:=by rw[hq2.heap];simp[World.setCell,World.drewN]
    go_wp2_with fail
    refine(clone_int v2 ys _ (by omega) hrd).mono ?_
    rintro e w3 ⟨v3,rfl,ho3,hbel3⟩
    obtain⟨va3,vc3,rfl⟩:=ho3.slice
    obtain⟨vv,hp3,_,_⟩:=(hb2.kept (hbel3.block _ hb2.lt) (fun k hk=>hbel3.block _ (hb2.rlt k hk))).h
    have c0:w3.cell? ⟨p,0,none⟩=some vv:=by simp[World.cell?,hp3]
    have c1:w3.cell? ⟨p,1,none⟩=some (.int .i64 pre'.length):=by simp[World.cell?,hp3]
    have g0:w3.frozen? ⟨p,0,none⟩=false:=by simp[World.frozen?,hp3]
    have g1:w3.frozen? ⟨p,1,none⟩=false:=by simp[World.frozen?,hp3]
    have FIN:=hid (drop_end (r:=r) hp3 ho3 hbel3 hsz2 hyl (HO.out.trans (r':=r) (OnlyO.quiet (Quiet.trans ⟨_,rfl⟩ hq2)) (.inl rfl)))
    clear hp3 ho3 hrd
    go_wp2
    go_end0
    obtain⟨r',q1,q2,q3⟩:=FIN.out
    exact⟨rfl,r',by rw[←hys'.out];exact q1,q2,q3⟩
 ·have t:decide ((ys.length:Int)<(N:Int) / 4)=false:=decide_eq_false (by omega)
  have t2:((ys.length:Int) == 0)=false:=beq_eq_false_iff_ne.2 (by omega)
  have hsp:pre'.length≤3*ys.length+3:=by have:=hNl'.out;omega
  have HSP:=hid hsp
  clear hc hsp
  go_enter Tryz.func194,Tryz.ntmps194
  go_wp2_with fail
  go_quiet ((go_at_call 173;exact quiet_call (blen0 p r pre' ys _ (HB1.out.drewN _))))
  all_goals
   clear hw
   go_wp2
   go_end0
   refine⟨rfl,r,⟨pre',by rw[←hys'.out];exact HB1.out.drewN _,by rw[←hys'.out];exact HSP.out⟩,HO.out.trans (r':=r) (OnlyO.quiet ⟨_,rfl⟩) (.inl rfl), .inl rfl⟩
def Left (p:Nat)(r:Option Nat)(ys:List Int)(w w':World):Prop:=
 ∃ r',Bat w' p r' ys∧OnlyO p r w w'∧(r'=r ∨ ∀ k,r'=some k→w.heap.size≤k)
theorem Left.quiet{p:Nat}{r:Option Nat}{ys:List Int}{w w1 w':World}(h:Left p r ys w1 w')(hq:Quiet w w1):Left p r ys w w':=by
 obtain⟨r',h1,h2,h3⟩:=h
 exact⟨r',h1,(OnlyO.quiet hq).trans h2 (.inl rfl),by rw[hq.heap]at h3;exact h3⟩
theorem take_nil(p:Nat)(r:Option Nat)(w:World)(hb:Bat w p r []) :
 Calls Tryz.prog 166 #[.pointer (some ⟨p,0,none⟩)] w fun e w'=>e = .returned (.tuple #[.int .i64 0, .bool false])∧Quiet w w':=by
 have HB:=hid hb
 clear hb
 have L:=hid (fun w h=>blen_any p r [] w h)
 go_enter Tryz.func166,Tryz.ntmps166
 go_wp2_with fail
 refine(L.out _ HB.out).mono ?_
 rintro e w1 ⟨rfl,hq⟩
 go_wp2
 go_ret2
 exact⟨rfl,hq⟩
theorem take_cons(p:Nat)(r:Option Nat)(x:Int)(ys:List Int)(w:World)(hb:Bat w p r (x :: ys)) :
 Calls Tryz.prog 166 #[.pointer (some ⟨p,0,none⟩)] w fun e w'=>e = .returned (.tuple #[.int .i64 x, .bool true])∧Left p r ys w w':=by
 have HB:=hid hb
 have hl:=hb.len
 obtain⟨n,hn⟩:∃ n,n=(x :: ys).length:=⟨_,rfl⟩
 have L:=hid (fun w h=>blen_any p r (x :: ys) w h)
 rw[←hn]at L
 have hn0:((n:Int) == 0)=false:=beq_eq_false_iff_ne.2 (by rw[hn];simp;omega)
 have hnp:0<n:=by rw[hn];simp
 have HN:=hid hn
 clear hb hn hl
 go_enter Tryz.func166,Tryz.ntmps166
 go_wp2_with fail
 refine(L.out _ HB.out).mono ?_
 rintro e w1 ⟨rfl,hq1⟩
 have HB1:=hid (HB.out.quiet hq1)
 go_wp2_with fail
 refine(row_any p r (x :: ys) _ HB1.out).mono ?_
 rintro e w2 ⟨v,rfl,hr,hq2⟩
 have HB2:=hid (HB1.out.quiet hq2)
 obtain⟨a,c,rfl,_,hrd⟩:=hr
 obtain⟨g,off,rfl,hg,hcell⟩:=hrd (by simp)
 have hc0:w2.cell? ⟨g,off,none⟩=some (.int .i64 x):=by simpa using hcell 0 (by simp)
 clear hrd hcell
 rw[←HN.out]
 go_wp2_with fail
 refine(drop_any p r (x :: ys) 1 _ HB2.out (by simp)).mono ?_
 rintro e w3 ⟨rfl,hleft⟩
 have HF:=hid (Left.quiet (p:=p) (r:=r) (ys:=ys) (w1:=w2) hleft (hq1.trans hq2))
 clear hleft
 go_wp2
 go_ret2
 exact⟨rfl,HF.out⟩
def MostPost(p:Nat)(r:Option Nat)(xs:List Int)(k:Nat)(w:World)(e:Ending)(w':World):Prop:=
 ∃ v r',e = .returned v∧Owns w' w.heap.size v (xs.take k)∧Bat w' p r' (xs.drop k)∧OnlyO p r w w'∧(r'=r ∨ ∀ k,r'=some k→w.heap.size≤k)∧(∀ q,v.ownBlock=some q→q≠p∧r'≠some q)
theorem drop_i(p:Nat)(r:Option Nat)(xs:List Int)(n:Int)(k:Nat)(hk:n=k)(w:World)(hb:Bat w p r xs)(hn:k≤xs.length) :
 Calls Tryz.prog 194 #[.pointer (some ⟨p,0,none⟩), .int .i64 n] w (DropPost p r xs k w):=by
 subst hk;exact drop_any p r xs k w hb hn
theorem most_end{p:Nat}{r:Option Nat}{xs:List Int}{k:Nat}{w w2 w3 w4:World}{v:Value}{e:Ending}(hq:Quiet w w2)(hb2:Bat w2 p r xs)(ho:Owns w3 w2.heap.size v (xs.take k))(hbel:Below w2.heap.size w2 w3)(hd:DropPost p r xs k w3 e w4) :
 MostPost p r xs k w (.returned v) w4:=by
 obtain⟨_,r',h1,h2,h3⟩:=hd
 have hs:w2.heap.size=w.heap.size:=by rw[hq.heap]
 have hol:=ho.lt
 have hne:∀ q,v.ownBlock=some q→q≠p∧r≠some q:=fun q hq'=>by
  have:=(hol q hq').1
  refine⟨by have:=hb2.lt;omega,fun e => ?_⟩
  have:=hb2.rlt q e
  omega
 refine⟨v,r',rfl,?_,h1,(OnlyO.quiet hq).trans ((OnlyO.of_below hbel).trans h2 (.inl rfl)) (.inl rfl),?_,fun q hq'=>⟨(hne q hq').1,?_⟩⟩
 ·rw[←hs]
  exact ho.kept fun q hq'=>h2.block q (hol q hq').2 (hne q hq').1 (fun e=>(hne q hq').2 e.symm)
 ·rcases h3 with h|h
  ·exact .inl h
  ·exact .inr fun q hq'=>by have:=h q hq';have:=hbel.size;omega
 ·rcases h3 with h|h
  ·rw[h];exact(hne q hq').2
  ·intro e;have:=h q e;have:=(hol q hq').2;omega
theorem reads_take{w:World}{a:Option Addr}{c:Nat}{xs:List Int}{k:Nat}(h:Reads w (.slice a xs.length c) xs)(hk:k≤xs.length):Reads w (.slice a k c) (xs.take k):=by
 obtain⟨a',c',he,h0,h1⟩:=h
 simp only[Value.slice.injEq,true_and]at he
 obtain⟨rfl,rfl⟩:=he
 have hl:(xs.take k).length=k:=by simp;omega
 refine⟨a,c,by rw[hl],⟨by omega,h0.2.1,h0.2.2⟩,fun h => ?_⟩
 obtain⟨g,off,rfl,h2,h3⟩:=h1 (by omega)
 refine⟨g,off,rfl,h2,fun j hj => ?_⟩
 rw[h3 j (by omega)]
 congr 2
 simp[List.getD_eq_getElem?_getD,List.getElem?_take]
 rw[if_pos (by omega)]
theorem most_any(p:Nat)(r:Option Nat)(xs:List Int)(n:Int)(k:Nat)(hk:(k:Int)=min (max n 0) xs.length)(w:World)(hb:Bat w p r xs) :
 Calls Tryz.prog 170 #[.pointer (some ⟨p,0,none⟩), .int .i64 n] w (MostPost p r xs k w):=by
 have HB:=hid hb
 have hl:=hb.len
 have hkl:k≤xs.length:=by omega
 obtain⟨N,hN⟩:∃ N,N=xs.length:=⟨_,rfl⟩
 have L:=hid (fun w h=>blen_any p r xs w h)
 rw[←hN]at L
 have hcase:(n<0∧k=0)∨(n=(k:Int)∧k≤N)∨((N:Int)<n∧k=N):=by rw[hN];omega
 have hNl:N≤1000000:=by omega
 have HN:=hid hN
 have HKL:=hid hkl
 clear hb hk hl hN hkl
 rcases hcase with⟨h1,rfl⟩|⟨rfl,h2⟩|⟨h1,h2⟩
 ·go_enter Tryz.func170,Tryz.ntmps170
  go_wp2_with fail
  refine(L.out _ HB.out).mono ?_
  rintro e w1 ⟨rfl,hq1⟩
  have HB1:=hid (HB.out.quiet hq1)
  go_wp2_with fail
  refine(row_any p r xs _ HB1.out).mono ?_
  rintro e w2 ⟨v,rfl,hr,hq2⟩
  have HB2:=hid (HB1.out.quiet hq2)
  obtain⟨a,c,rfl,hc,hrd⟩:=hr
  have RT:=hid (reads_take (k:=0) (⟨a,c,rfl,hc,hrd⟩:Reads w2 (.slice a xs.length c) xs) HKL.out)
  have hNc:N≤c:=by rw[HN.out];exact hc.1
  have hcm:c≤9223372036854775807:=by have:=hc.2.1;unfold maxLen at this;exact this
  have hac:=hc.2.2
  clear hc hrd
  rw[←HN.out]
  rcases hac with⟨rfl,rfl⟩|⟨ad,rfl⟩
  ·obtain rfl:N=0:=by omega
   go_wp2_with fail
   refine(clone_int _ (xs.take 0) _ (by have:=HN.out;simp only[List.length_take];omega) RT.out).mono ?_
   rintro e w3 ⟨v3,rfl,ho3,hbel3⟩
   have HO3:=hid ho3
   have HB3:=hid (HB2.out.below (w':=w3) hbel3)
   obtain⟨va,vm,vc,rfl⟩:=ho3.slice3
   clear ho3
   go_wp2_with fail
   refine(drop_i p r xs 0 0 rfl _ HB3.out HKL.out).mono ?_
   rintro e w4 hd
   have FIN:=hid (most_end (Quiet.trans hq1 hq2) HB2.out HO3.out hbel3 hd)
   obtain⟨rfl,_⟩:=hd
   go_wp2
   go_ret
   exact FIN.out
  ·go_wp2_with fail
   refine(clone_int _ (xs.take 0) _ (by have:=HN.out;simp only[List.length_take];omega) RT.out).mono ?_
   rintro e w3 ⟨v3,rfl,ho3,hbel3⟩
   have HO3:=hid ho3
   have HB3:=hid (HB2.out.below (w':=w3) hbel3)
   obtain⟨va,vm,vc,rfl⟩:=ho3.slice3
   clear ho3
   go_wp2_with fail
   refine(drop_i p r xs 0 0 rfl _ HB3.out HKL.out).mono ?_
   rintro e w4 hd
   have FIN:=hid (most_end (Quiet.trans hq1 hq2) HB2.out HO3.out hbel3 hd)
   obtain⟨rfl,_⟩:=hd
   go_wp2
   go_ret
   exact FIN.out
 ·by_cases h3:k=N
  ·obtain rfl:N=k:=h3.symm
   clear h3
   go_enter Tryz.func170,Tryz.ntmps170
   go_wp2_with fail
   refine(L.out _ HB.out).mono ?_
   rintro e w1 ⟨rfl,hq1⟩
   have HB1:=hid (HB.out.quiet hq1)
   go_wp2_with fail
   refine(row_any p r xs _ HB1.out).mono ?_
   rintro e w2 ⟨v,rfl,hr,hq2⟩
   have HB2:=hid (HB1.out.quiet hq2)
   obtain⟨a,c,rfl,hc,hrd⟩:=hr
   have RT:=hid (reads_take (k:=N) (⟨a,c,rfl,hc,hrd⟩:Reads w2 (.slice a xs.length c) xs) HKL.out)
   have hNc:N≤c:=by rw[HN.out];exact hc.1
   have hcm:c≤9223372036854775807:=by have:=hc.2.1;unfold maxLen at this;exact this
   have hac:=hc.2.2
   clear hc hrd
   rw[←HN.out]
   rcases hac with⟨rfl,rfl⟩|⟨ad,rfl⟩
   ·obtain rfl:N=0:=by omega
    go_wp2_with fail
    refine(clone_int _ (xs.take 0) _ (by have:=HN.out;simp only[List.length_take];omega) RT.out).mono ?_
    rintro e w3 ⟨v3,rfl,ho3,hbel3⟩
    have HO3:=hid ho3
    have HB3:=hid (HB2.out.below (w':=w3) hbel3)
    obtain⟨va,vm,vc,rfl⟩:=ho3.slice3
    clear ho3
    go_wp2_with fail
    refine(drop_i p r xs 0 0 rfl _ HB3.out HKL.out).mono ?_
    rintro e w4 hd
    have FIN:=hid (most_end (Quiet.trans hq1 hq2) HB2.out HO3.out hbel3 hd)
    obtain⟨rfl,_⟩:=hd
    go_wp2
    go_ret
    exact FIN.out
   ·go_wp2_with fail
    refine(clone_int _ (xs.take N) _ (by have:=HN.out;simp only[List.length_take];omega) RT.out).mono ?_
    rintro e w3 ⟨v3,rfl,ho3,hbel3⟩
    have HO3:=hid ho3
    have HB3:=hid (HB2.out.below (w':=w3) hbel3)
    obtain⟨va,vm,vc,rfl⟩:=ho3.slice3
    clear ho3
    go_wp2_with fail
    refine(drop_i p r xs N N rfl _ HB3.out HKL.out).mono ?_
    rintro e w4 hd
    have FIN:=hid (most_end (Quiet.trans hq1 hq2) HB2.out HO3.out hbel3 hd)
    obtain⟨rfl,_⟩:=hd
    go_wp2
    go_ret
    exact FIN.out
  ·have h4:k<N:=by omega
   clear h3
   go_enter Tryz.func170,Tryz.ntmps170
   go_wp2_with fail
   refine(L.out _ HB.out).mono ?_
   rintro e w1 ⟨rfl,hq1⟩
   have HB1:=hid (HB.out.quiet hq1)
   go_wp2_with fail
   refine(row_any p r xs _ HB1.out).mono ?_
   rintro e w2 ⟨v,rfl,hr,hq2⟩
   have HB2:=hid (HB1.out.quiet hq2)
   obtain⟨a,c,rfl,hc,hrd⟩:=hr
   have RT:=hid (reads_take (k:=k) (⟨a,c,rfl,hc,hrd⟩:Reads w2 (.slice a xs.length c) xs) HKL.out)
   have hNc:N≤c:=by rw[HN.out];exact hc.1
   have hcm:c≤9223372036854775807:=by have:=hc.2.1;unfold maxLen at this;exact this
   have hac:=hc.2.2
   clear hc hrd
   rw[←HN.out]
   rcases hac with⟨rfl,rfl⟩|⟨ad,rfl⟩
   ·exfalso;omega
   ·go_wp2_with fail
    refine(clone_int _ (xs.take k) _ (by have:=HN.out;simp only[List.length_take];omega) RT.out).mono ?_
    rintro e w3 ⟨v3,rfl,ho3,hbel3⟩
    have HO3:=hid ho3
    have HB3:=hid (HB2.out.below (w':=w3) hbel3)
    obtain⟨va,vm,vc,rfl⟩:=ho3.slice3
    clear ho3
    go_wp2_with fail
    refine(drop_i p r xs k k rfl _ HB3.out HKL.out).mono ?_
    rintro e w4 hd
    have FIN:=hid (most_end (Quiet.trans hq1 hq2) HB2.out HO3.out hbel3 hd)
    obtain⟨rfl,_⟩:=hd
    go_wp2
    go_ret
    exact FIN.out
 ·obtain rfl:N=k:=h2.symm
  clear h2
  go_enter Tryz.func170,Tryz.ntmps170
  go_wp2_with fail
  refine(L.out _ HB.out).mono ?_
  rintro e w1 ⟨rfl,hq1⟩
  have HB1:=hid (HB.out.quiet hq1)
  go_wp2_with fail
  refine(row_any p r xs _ HB1.out).mono ?_
  rintro e w2 ⟨v,rfl,hr,hq2⟩
  have HB2:=hid (HB1.out.quiet hq2)
  obtain⟨a,c,rfl,hc,hrd⟩:=hr
  have RT:=hid (reads_take (k:=N) (⟨a,c,rfl,hc,hrd⟩:Reads w2 (.slice a xs.length c) xs) HKL.out)
  have hNc:N≤c:=by rw[HN.out];exact hc.1
  have hcm:c≤9223372036854775807:=by have:=hc.2.1;unfold maxLen at this;exact this
  have hac:=hc.2.2
  clear hc hrd
  rw[←HN.out]
  rcases hac with⟨rfl,rfl⟩|⟨ad,rfl⟩
  ·obtain rfl:N=0:=by omega
   go_wp2_with fail
   refine(clone_int _ (xs.take 0) _ (by have:=HN.out;simp only[List.length_take];omega) RT.out).mono ?_
   rintro e w3 ⟨v3,rfl,ho3,hbel3⟩
   have HO3:=hid ho3
   have HB3:=hid (HB2.out.below (w':=w3) hbel3)
   obtain⟨va,vm,vc,rfl⟩:=ho3.slice3
   clear ho3
   go_wp2_with fail
   refine(drop_i p r xs 0 0 rfl _ HB3.out HKL.out).mono ?_
   rintro e w4 hd
   have FIN:=hid (most_end (Quiet.trans hq1 hq2) HB2.out HO3.out hbel3 hd)
   obtain⟨rfl,_⟩:=hd
   go_wp2
   go_ret
   exact FIN.out
  ·go_wp2_with fail
   refine(clone_int _ (xs.take N) _ (by have:=HN.out;simp only[List.length_take];omega) RT.out).mono ?_
   rintro e w3 ⟨v3,rfl,ho3,hbel3⟩
   have HO3:=hid ho3
   have HB3:=hid (HB2.out.below (w':=w3) hbel3)
   obtain⟨va,vm,vc,rfl⟩:=ho3.slice3
   clear ho3
   go_wp2_with fail
   refine(drop_i p r xs N N rfl _ HB3.out HKL.out).mono ?_
   rintro e w4 hd
   have FIN:=hid (most_end (Quiet.trans hq1 hq2) HB2.out HO3.out hbel3 hd)
   obtain⟨rfl,_⟩:=hd
   go_wp2
   go_ret
   exact FIN.out
end Go.Proofs.YtkhigkcmgcafdaaGreatDoor
namespace Go.Proofs.YtkhigkcmgcafdaaGreatDoor
theorem retB{a b:Bool}(h:b=a):Ending.returned (.bool a) = .returned (.bool b):=by rw[h]
theorem lst_take_snoc(xs:List Int)(k:Nat)(h:k<xs.length):xs.take (k+1)=xs.take k ++ [xs.getD k 0]:=by
 rw[List.take_succ_eq_append_getElem h];simp[h]
end Go.Proofs.YtkhigkcmgcafdaaGreatDoor
namespace Go.Proofs.YtkhigkcmgcafdaaGreatDoor
open Go.RowKit
def PutPost(p:Nat)(r:Option Nat)(zs:List Int)(w:World)(e:Ending)(w':World):Prop:=e = .returned (.tuple #[])∧Left p r zs w w'
theorem put_end{p:Nat}{r:Option Nat}{pre xs ys:List Int}{v v':Value}{w w1:World}(hb:Bat0 w p r pre xs)(hv:v.ownBlock=r)(hpl:pre.length≤3*xs.length+3)(hl:(xs ++ ys).length≤1000000)
 (hown:w1.ownsRow 0 3 1 v' (pre.length+xs.length+ys.length) (pre.map (Value.int .i64) ++ (xs.map (Value.int .i64) ++ ys.map (Value.int .i64))))(hg:w.grownBy w1 v.ownBlock)(hat:v'.ownBlock=v.ownBlock∨v'.ownBlock=some w.heap.size)
 (hp1:w1.heap[p]? = some (.cells #[v, .int .i64 pre.length] 190 (0,0))) :
 Left p r (xs ++ ys) w (w1.setCell ⟨p,0,none⟩ v'):=by
 have hown':Owns w1 0 v' (pre ++ (xs ++ ys)):=by
  unfold Owns
  have e1:(pre ++ (xs ++ ys)).length=pre.length+xs.length+ys.length:=by simp;omega
  have e2:(pre ++ (xs ++ ys)).map (Value.int .i64)=pre.map (Value.int .i64) ++ (xs.map (Value.int .i64) ++ ys.map (Value.int .i64)):=by simp
  rw[e1,e2];exact hown
 have hne:∀ k,v'.ownBlock=some k→k≠p:=by
  intro k hk e
  subst e
  rcases hat with h|h
  ·rw[h,hv]at hk;exact hb.ne hk
  ·rw[h]at hk;simp only[Option.some.injEq]at hk;have:=hb.lt;omega
 refine⟨v'.ownBlock,⟨pre,⟨⟨v',?_,?_,rfl⟩,fun e=>hne p e rfl,hl⟩,by simp;omega⟩,?_,?_⟩
 ·simp[World.setCell,Array.getElem?_modify,hp1]
 ·exact hown'.kept fun k hk=>Below.heap_setCell _ _ _ _ (hne k hk)
 ·refine⟨hg.os,hg.tape,hg.output,by have:=hg.size;simp[World.setCell];omega,fun k hk h1 h2 => ?_⟩
  rw[Below.heap_setCell _ _ _ _ h1]
  exact hg.block k hk (by rw[hv];exact h2)
 ·rcases hat with h|h
  ·exact .inl (by rw[h,hv])
  ·exact .inr fun k hk=>by rw[h]at hk;simp only[Option.some.injEq]at hk;omega
theorem put_any(p:Nat)(r:Option Nat)(xs ys:List Int)(vl:Value)(w:World)(hb:Bat w p r xs)(hr:Reads w vl ys)(hl:(xs ++ ys).length≤1000000) :
 Calls Tryz.prog 120 #[.pointer (some ⟨p,0,none⟩),vl] w (PutPost p r (xs ++ ys) w):=by
 obtain⟨pre,hb0,hpl⟩:=hb
 obtain⟨v,hp,ho,hrv⟩:=hb0.h
 obtain⟨va,vm,vc,rfl⟩:=ho.slice3
 obtain⟨a,c,rfl,hc,hrd⟩:=hr
 obtain⟨i0,hi,hz0,hz1,hz2⟩:=info_parts infoInt
 have hxl:=hb0.len
 have hyl:ys.length≤1000000:=by simp at hl;omega
 have hpl':pre.length≤4000000:=by omega
 have c0:w.cell? ⟨p,0,none⟩=some (.slice va vm vc):=by simp[World.cell?,hp]
 have g0:w.frozen? ⟨p,0,none⟩=false:=by simp[World.frozen?,hp]
 have HB:=hid hb0
 have HRV:=hid hrv
 have HPL:=hid hpl
 have HL:=hid hl
 have HP:=hid hp
 rcases hc.2.2 with⟨rfl,rfl⟩|⟨ad,rfl⟩
 ·have hy0:ys = []:=List.length_eq_zero_iff.1 (by omega)
  subst hy0
  have FIN:=hid (put_end (ys := []) (v' := .slice va vm vc) (w1:=w) hb0 hrv hpl hl (by simpa[Owns] using ho) ⟨rfl,rfl,rfl,Nat.le_refl _,fun _ _ _=>rfl⟩ (.inl rfl) hp)
  have ho':w.ownsRow 0 3 1 (.slice va vm vc) (pre ++ xs).length ((pre ++ xs).map (Value.int .i64)):=ho
  clear hb0 hp ho hrv hpl hl hc hrd
  go_enter Tryz.func120,Tryz.ntmps120
  go_wp2_with (at_builtin;refine wpList_append_own_none rfl _ _ 63 rfl 0 3 i0 1 Tryz.underlying63 hi _ _ _ rfl ho' rfl ?_)
  go_end0
  exact⟨rfl,FIN.out⟩
 ·have hnews:∀ j u,(ys.map (Value.int .i64))[j]? = some u→w.cell? (ad.add j)=some u:=by
   intro j u hj
   have hpos:0<ys.length:=by
    rcases Nat.eq_zero_or_pos ys.length with h|h
    ·rw[List.length_eq_zero_iff]at h;subst h;simp at hj
    ·exact h
   obtain⟨g',off',h2,h3,h4⟩:=hrd hpos
   simp only[Option.some.injEq]at h2
   subst h2
   exact news_of h4 j u hj
  have HN:=hid hnews
  have ho':w.ownsRow 0 3 1 (.slice va vm vc) (pre ++ xs).length ((pre ++ xs).map (Value.int .i64)):=ho
  clear hb0 hp ho hrv hpl hl hc hrd hnews
  go_enter Tryz.func120,Tryz.ntmps120
  go_wp2_with (at_builtin;refine wpList_append_own_at _ rfl _ _ 63 rfl 0 3 i0 (.int .i64 0) 1 8 Tryz.underlying63 hi hz0 hz1 hz2 rfl (by decide) _ _ _ rfl ho' ad ys.length c (ys.map (Value.int .i64)) rfl ?c0 ?c1 ?c2 ?c3 ?c4 ?c5 ?_)
  case c0=>simp
  case c1=>exact HN.out
  case c2=>exact ones_of ys
  case c3=>simp;unfold maxLen;omega
  case c4=>simp;omega
  case c5=>omega
  intro v' w1 hown' hgrow _ hat
  have hp1:w1.heap[p]? = some (.cells #[.slice va vm vc, .int .i64 pre.length] 190 (0,0)):=by
   rw[hgrow.block p HB.out.lt (fun e=>HB.out.ne (by rw[←HRV.out];exact e.symm))];exact HP.out
  have FIN:=hid (put_end HB.out HRV.out HPL.out HL.out hown' hgrow hat hp1)
  obtain⟨va',vm',vc',rfl⟩:∃ a m c,v' = .slice a m c:=by
   obtain⟨_,⟨h,_⟩|⟨q,cap,cur,h,_⟩⟩:=hown'
   ·exact⟨_,_,_,h⟩
   ·exact⟨_,_,_,h⟩
  have c1:w1.cell? ⟨p,0,none⟩=some (.slice va vm vc):=by simp[World.cell?,hp1]
  have g1:w1.frozen? ⟨p,0,none⟩=false:=by simp[World.frozen?,hp1]
  clear hown' hgrow hat hp1 ho' c0 g0
  go_wp2
  go_end0
  exact⟨rfl,FIN.out⟩
structure Qu(w:World)(q p:Nat)(P:Int)(r:Option Nat)(xs:List Int):Prop where
 hq:w.heap[q]? = some (.cells #[.pointer (some ⟨p,0,none⟩), .int .i64 P] 140 (0,0))
 hb:Bat w p r xs
 ne:q≠p
 nr:r≠some q
 lo:1≤P
 hi:P≤64
theorem Qu.lt{w:World}{q p:Nat}{P:Int}{r:Option Nat}{xs:List Int}(h:Qu w q p P r xs):q<w.heap.size:=by
 have:=h.hq;rw[Array.getElem?_eq_some_iff]at this;exact this.1
theorem Qu.c0{w:World}{q p:Nat}{P:Int}{r:Option Nat}{xs:List Int}(h:Qu w q p P r xs):w.cell? ⟨q,0,none⟩=some (.pointer (some ⟨p,0,none⟩)):=by
 simp[World.cell?,h.hq]
theorem Qu.c1{w:World}{q p:Nat}{P:Int}{r:Option Nat}{xs:List Int}(h:Qu w q p P r xs):w.cell? ⟨q,1,none⟩=some (.int .i64 P):=by
 simp[World.cell?,h.hq]
theorem Qu.after{w w':World}{q p:Nat}{P:Int}{r r':Option Nat}{xs ys:List Int}(h:Qu w q p P r xs)(ho:OnlyO p r w w')(hb:Bat w' p r' ys)(hr:r'=r ∨ ∀ k,r'=some k→w.heap.size≤k):Qu w' q p P r' ys:=by
 refine⟨(ho.block q h.lt h.ne (fun e=>h.nr e.symm)).trans h.hq,hb,h.ne,fun e => ?_,h.lo,h.hi⟩
 rcases hr with hr|hr
 ·rw[hr]at e;exact h.nr e
 ·have:=hr q e;have:=h.lt;omega
theorem Qu.below{w w':World}{q p:Nat}{P:Int}{r:Option Nat}{xs:List Int}(h:Qu w q p P r xs)(hb:Below w.heap.size w w'):Qu w' q p P r xs:=
 ⟨(hb.block q h.lt).trans h.hq,h.hb.below hb,h.ne,h.nr,h.lo,h.hi⟩
theorem Qu.quiet{w w':World}{q p:Nat}{P:Int}{r:Option Nat}{xs:List Int}(h:Qu w q p P r xs)(hq:Quiet w w'):Qu w' q p P r xs:=h.below (hq.below _)
theorem Qu.drew{w:World}{q p:Nat}{P:Int}{r:Option Nat}{xs:List Int}(h:Qu w q p P r xs):Qu w.drew q p P r xs:=h.quiet ⟨1,rfl⟩
theorem qlen(q p:Nat)(P:Int)(r:Option Nat)(xs:List Int)(w:World)(h:Qu w q p P r xs) :
 Calls Tryz.prog 138 #[.pointer (some ⟨q,0,none⟩)] w fun e w'=>e = .returned (.int .i64 xs.length)∧Quiet w w':=by
 have c0:=h.c0
 have HB:=hid h.hb
 clear h
 go_enter Tryz.func138,Tryz.ntmps138
 go_wp2_with fail
 refine(blen_any p r xs _ HB.out).mono ?_
 rintro e w1 ⟨rfl,hq⟩
 go_wp2
 go_ret
 exact⟨rfl,hq⟩
theorem qput(q p:Nat)(P:Int)(r:Option Nat)(xs ys:List Int)(vl:Value)(w:World)(h:Qu w q p P r xs)(hr:Reads w vl ys)(hl:(xs ++ ys).length≤1000000) :
 Calls Tryz.prog 85 #[.pointer (some ⟨q,0,none⟩),vl] w (PutPost p r (xs ++ ys) w):=by
 have c0:=h.c0
 have PU:=hid (put_any p r xs ys vl w h.hb hr hl)
 clear h hr
 go_enter Tryz.func85,Tryz.ntmps85
 go_wp2_with fail
 refine PU.out.mono ?_
 rintro e w1 hp
 have FIN:=hid hp
 obtain⟨rfl,_⟩:=hp
 go_wp2
 go_end0
 exact FIN.out
theorem share_any(q p:Nat)(P:Int)(r:Option Nat)(xs:List Int)(w:World)(h:Qu w q p P r xs)(n:Nat)(hn:xs.length=n)(s:Int)(hs:s=min (min ((n:Int) / P+1) n) 128) :
 Calls Tryz.prog 171 #[.pointer (some ⟨q,0,none⟩)] w fun e w'=>e = .returned (.int .i64 s)∧Quiet w w':=by
 have L:=hid (fun w h=>qlen q p P r xs w h)
 rw[hn]at L
 have hlo:=h.lo
 have hhi:=h.hi
 have hnl:n≤1000000:=by have:=h.hb.len;omega
 have H:=hid h
 have hP0:(P == 0)=false:=beq_eq_false_iff_ne.2 (by omega)
 have hd0:0≤(n:Int) / P:=Int.ediv_nonneg (by omega) (by omega)
 have hd1:(n:Int) / P≤n:=Int.ediv_le_self _ (by omega)
 obtain⟨m,hm⟩:∃ m,m=min ((n:Int) / P+1) n:=⟨_,rfl⟩
 have e1:(if (n:Int)<(n:Int) / P+1 then (n:Int) else (n:Int) / P+1)=m:=by rw[hm];split <;> omega
 have e2:(if 128<m then 128 else m)=s:=by rw[hs, ←hm];split <;> omega
 clear hm hs h hn
 go_enter Tryz.func171,Tryz.ntmps171
 go_wp2_with fail
 refine(L.out _ H.out).mono ?_
 rintro e w1 ⟨rfl,hq⟩
 have c1:=(H.out.quiet hq).c1
 go_wp2
 go_outline
 go_ret
 exact⟨rfl,hq⟩
theorem MostPost.quiet{p:Nat}{r:Option Nat}{xs:List Int}{k:Nat}{w w1:World}{e:Ending}{w':World}(h:MostPost p r xs k w1 e w')(hq:Quiet w w1):MostPost p r xs k w e w':=by
 obtain⟨v,r',he,h1,h2,h3,h4,h5⟩:=h
 rw[hq.heap]at h1 h4
 exact⟨v,r',he,h1,h2,(OnlyO.quiet hq).trans h3 (.inl rfl),h4,h5⟩
theorem qtake(q p:Nat)(P:Int)(r:Option Nat)(xs:List Int)(w:World)(h:Qu w q p P r xs)(n:Nat)(hn:xs.length=n)(k:Nat)(hk:(k:Int)=min (min ((n:Int) / P+1) n) 128) :
 Calls Tryz.prog 134 #[.pointer (some ⟨q,0,none⟩)] w (MostPost p r xs k w):=by
 have c0:=h.c0
 have S:=hid (fun w h=>share_any q p P r xs w h n hn k hk)
 have M:=hid (fun w h=>most_any p r xs (k:Int) k (by rw[hn];omega) w h)
 have H:=hid h
 clear h hn hk
 go_enter Tryz.func134,Tryz.ntmps134
 go_wp2_with fail
 go_region_with (first
  | (go_at_call 171;refine(S.out _ H.out.drew).mono ?_;rintro e w1 ⟨rfl,hq1⟩;have c1:=(H.out.drew.quiet hq1).c0)
  | (go_at_call 170;refine(M.out _ (H.out.drew.quiet hq1).hb).mono ?_;rintro e w2 hm;have FIN:=hid (MostPost.quiet hm (Quiet.trans ⟨1,rfl⟩ hq1));obtain⟨v,r',rfl,_⟩:=hm))
 all_goals
  go_wp2
  go_ret
  exact FIN.out
theorem one_nil(q p:Nat)(P:Int)(r:Option Nat)(w:World)(h:Qu w q p P r []) :
 Calls Tryz.prog 131 #[.pointer (some ⟨q,0,none⟩)] w fun e w'=>e = .returned (.tuple #[.int .i64 0, .bool false])∧Quiet w w':=by
 have c0:=h.c0
 have HB:=hid h.hb
 clear h
 go_enter Tryz.func131,Tryz.ntmps131
 go_wp2_with fail
 refine(take_nil p r _ HB.out).mono ?_
 rintro e w1 ⟨rfl,hq⟩
 go_wp2
 go_ret2
 exact⟨rfl,hq⟩
theorem one_cons(q p:Nat)(P:Int)(r:Option Nat)(x:Int)(ys:List Int)(w:World)(h:Qu w q p P r (x :: ys)) :
 Calls Tryz.prog 131 #[.pointer (some ⟨q,0,none⟩)] w fun e w'=>e = .returned (.tuple #[.int .i64 x, .bool true])∧Left p r ys w w':=by
 have c0:=h.c0
 have HB:=hid h.hb
 clear h
 go_enter Tryz.func131,Tryz.ntmps131
 go_wp2_with fail
 refine(take_cons p r x ys _ HB.out).mono ?_
 rintro e w1 ⟨rfl,hq⟩
 have HQ:=hid hq
 clear hq
 go_wp2
 go_ret2
 exact⟨rfl,HQ.out⟩
def QNew (P:Int)(xs:List Int)(w:World)(e:Ending)(w':World):Prop:=
 ∃ q p r,e = .returned (.pointer (some ⟨q,0,none⟩))∧Qu w' q p P r xs∧w.heap.size≤q∧w.heap.size≤p∧(∀ k,r=some k→w.heap.size≤k)∧Below w.heap.size w w'
theorem reads_nil(w:World):Reads w (.slice none 0 0) []:=⟨none,0,rfl,⟨by simp,by unfold maxLen;omega, .inl ⟨rfl,rfl⟩⟩,fun h=>absurd h (by simp)⟩
theorem qnew(n P:Int)(hP:P=min (max n 1) 64)(w:World) :
 Calls Tryz.prog 51 #[.int .i64 n] w (QNew P [] w):=by
 have e1:(if n<1 then 1 else n)=max n 1:=by split <;> omega
 have hlo:1≤P:=by omega
 have hhi:P≤64:=by omega
 have O:=hid (fun w=>of_any (.slice none 0 0) [] w (by simp) (reads_nil w))
 obtain⟨m,hm⟩:∃ m,m=max n 1:=⟨_,rfl⟩
 rw[←hm]at e1 hP
 have e2:(if 64<m then 64 else m)=P:=by rw[hP];split <;> omega
 have e3:(if 1 > n then 1 else n)=m:=e1
 clear hm hP e1
 go_enter Tryz.func51,Tryz.ntmps51
 go_wp2_with fail
 refine(O.out _).mono ?_
 rintro e w1 ⟨p,r,rfl,hb,hp,hr,hbel⟩
 have hs:=hbel.size
 have hlt:=hb.lt
 have hrl:=hb.rlt
 have HB:=hid hb
 have HRL:=hid hrl
 have HR:=hid hr
 clear hb hrl hr
 go_wp2
 go_outline
 go_ret
 exact⟨w1.heap.size,p,r,rfl,⟨Deep.blk_alloc_new _ _,HB.out.below ((Below.refl _ _).alloc (Nat.le_refl _) _),by omega,fun e=>by have:=HRL.out _ e;omega,hlo,hhi⟩,by omega,hp,HR.out,hbel.alloc hs _⟩
structure Two(w:World)(P:Int)(q p:Nat)(r:Option Nat)(xs:List Int)(q' p':Nat)(r':Option Nat)(ys:List Int):Prop where
 a:Qu w q p P r xs
 b:Qu w q' p' P r' ys
 n1:q≠p'
 n2:r'≠some q
 n3:q'≠p
 n4:r≠some q'
 n5:p≠p'
 n6:r'≠some p
 n7:r≠some p'
 n8:∀ k,r=some k→r'≠some k
def hasB (g:Int)(xs:List Int):Bool:=decide (g ∈ xs)
theorem hasB_nil(g:Int):hasB g []=false:=by simp[hasB]
theorem hasB_snoc(g x:Int)(xs:List Int):hasB g (xs ++ [x])=(hasB g xs || (x == g)):=by
 simp only[hasB,List.mem_append,List.mem_singleton,Bool.decide_or]
 congr 1
 rw[Bool.eq_iff_iff]
 simp only[decide_eq_true_eq,beq_iff_eq]
 exact eq_comm
def IdxPost(g:Int)(xs:List Int)(w:World)(e:Ending)(w':World):Prop:=
 ∃ i:Int,e = .returned (.int .i64 i) ∧ -1≤i∧(hasB g xs=true→0≤i)∧(hasB g xs=false→i = -1)∧Quiet w w'
theorem idx_yes{g:Int}{xs:List Int}{k:Nat}(h:k<xs.length)(hx:xs.getD k 0=g):hasB g xs=true:=by
 rw[List.getD_eq_getElem?_getD,List.getElem?_eq_getElem h,Option.getD_some]at hx
 exact decide_eq_true (hx ▸ List.getElem_mem h)
theorem idx_fin_yes{g x:Int}{xs:List Int}{k:Nat}(w:World)(h:k<xs.length)(hx:x=xs.getD k 0)(e:g=x):IdxPost g xs w (.returned (.int .i64 k)) w:=by
 have h1:=idx_yes h (hx.symm.trans e.symm)
 exact⟨k,rfl,by omega,fun _=>by omega,(fun h=>by rw[h1]at h;cases h),Quiet.refl _⟩
theorem idx_fin_no{g:Int}{xs:List Int}{k:Nat}(w:World)(hk:k=xs.length)(h:hasB g (xs.take k)=false):IdxPost g xs w (.returned (.int .i64 (-1))) w:=by
 rw[List.take_of_length_le (by omega)]at h
 exact⟨-1,rfl,by omega,(fun h1=>by rw[h]at h1;cases h1),fun _=>rfl,Quiet.refl _⟩
theorem idx_step{g x:Int}{xs:List Int}{k:Nat}(h:k<xs.length)(hx:x=xs.getD k 0)(e:¬g=x)(ht:hasB g (xs.take k)=false):hasB g (xs.take (k+1))=false:=by
 have e:(x == g)=false:=by simpa using fun h=>e h.symm
 rw[lst_take_snoc xs k h, ←hx,hasB_snoc,ht,e];rfl
theorem index_any(v:Value)(xs:List Int)(g:Int)(w:World)(h1:Reads w v xs)(hl:xs.length≤10000000) :
 Calls Tryz.prog 158 #[v, .int .i64 g] w (IdxPost g xs w):=by
 obtain⟨a1,c1,rfl,_,h1⟩:=h1
 obtain⟨n,hn⟩:∃ n,n=xs.length:=⟨_,rfl⟩
 have H1:=hid h1
 have HN:=hid hn
 rw[←hn]at hl ⊢
 clear h1 hn
 go_enter Tryz.func158,Tryz.ntmps158
 go_wp2_with fail
 go_loop [8] (fun i=>∃(k:Nat),k≤n∧i = .int .i64 k∧Hid (hasB g (xs.take k)=false)) (fun i=>n - (intOf i).toNat)
 case atStart=>exact⟨0,Nat.zero_le _,rfl,by simp[Hid,hasB]⟩
 case round=>
  obtain⟨k,hk,rfl,ht⟩:=hrel
  by_cases hlt:k<n
  ·have k1:k<xs.length:=by rw[←HN.out];exact hlt
   obtain⟨g1,o1,rfl,_,hc1⟩:=H1.out (by omega)
   obtain⟨x,hx⟩:∃ x,x=xs.getD k 0:=⟨_,rfl⟩
   have q1:=hc1 k k1
   rw[←hx]at q1
   have HX:=hid hx
   have K1:=hid k1
   clear hx hc1 k1
   by_cases hxy:g=x
   ·have exy:(g == x)=true:=by simpa using hxy
    have HXY:=hid hxy
    have FIN:=hid (idx_fin_yes w K1.out HX.out HXY.out)
    clear hxy
    go_wp2
    go_ret
    exact FIN.out
   ·have exy:(g == x)=false:=by simpa using hxy
    have HXY:=hid hxy
    have HT:=hid (idx_step K1.out HX.out HXY.out ht.out)
    clear hxy
    go_wp2
    go_round
    case rel=>exact⟨k+1,by omega,by go_num,HT⟩
    case measure=>simp[intOf];omega
  ·obtain rfl:k=n:=by omega
   have FIN:=hid (idx_fin_no w HN.out ht.out)
   go_wp2
   go_ret
   exact FIN.out
theorem contains_any(v:Value)(xs:List Int)(g:Int)(w:World)(h1:Reads w v xs)(hl:xs.length≤10000000) :
 Calls Tryz.prog 118 #[v, .int .i64 g] w fun e w'=>e = .returned (.bool (hasB g xs))∧Quiet w w':=by
 have C:=hid (index_any v xs g w h1 hl)
 obtain⟨a1,c1,rfl,_,_⟩:=h1
 go_enter Tryz.func118,Tryz.ntmps118
 go_wp2_with fail
 refine C.out.mono ?_
 rintro e w2 ⟨i,rfl,hi,hi1,hi2,hq⟩
 obtain⟨b,hb⟩:∃ b,b=hasB g xs:=⟨_,rfl⟩
 have HBB:=hid hb.symm
 rw[←hb]at hi1 hi2
 clear hb
 cases b
 ·obtain rfl:=hi2 rfl
  clear hi1 hi2 hi
  go_wp2
  go_ret
  exact⟨retB HBB.out,hq⟩
 ·have h0:=hi1 rfl
  clear hi1 hi2 hi
  go_wp2
  go_ret
  exact⟨retB HBB.out,hq⟩
theorem ret_i{a b:Int}(h:b=a):Ending.returned (.int .i64 a) = .returned (.int .i64 b):=by rw[h]
theorem wpList_make_lc{P:Program}(w:World){ops:Array Oper}{rest:List Oper}{o:Oper}{a:Act}{Q:Exit→Act→World→Prop}
 (hg:o.guard=none)(l c:Operand)(t:TypeId)(hop:o.op=Op.makeSlice t l c)
 (e:TypeId)(i:TypeInfo)(z:Value)(ht:P.underlying t=some (.slice e))(hi:P.info? e=some i)(hz:i.zero=some z)(hsize:i.size=1)
 (kl kc:IntKind)(L C:Int)(n m:Nat)(hl:a.eval l = .int kl L)(hc:a.eval c = .int kc C)(hL:L=n)(hC:C=m)(hnm:n≤m)(hbytes:(i.bytes:Int)*m≤281474976710656)(h63:(m:Int)≤9223372036854775807)
 (hK:wpList P ops Q rest (a.put o.dst (.slice (some ⟨w.heap.size,0,none⟩) n m)) (w.alloc (.cells (madeCells z.cells m) e))) :
 wpList P ops Q (o :: rest) a w:=by
 subst hL
 subst hC
 refine wpList_plain hg fun K hK' => ?_
 have hrun:=run_make (P:=P) w t e i z ht hi hz kl kc n m (by omega) (by omega) hbytes h63
 simp only[Int.toNat_natCast,hsize,Nat.mul_one]at hrun
 unfold Oper.wp
 simp[execOp,hop,hl,hc,hrun,Result.andThen]
 exact hK' _ _ hK
theorem owns_made(w:World)(base n m:Nat)(hb:base≤w.heap.size)(hnm:n≤m)(hm:m≤maxLen) :
 Owns (w.alloc (.cells (madeCells (Value.cells (.int .i64 0)) m) 3)) base (.slice (some ⟨w.heap.size,0,none⟩) n m) (List.replicate n 0):=by
 have e:(madeCells (Value.cells (.int .i64 0)) m).toList=List.replicate m (.int .i64 0):=toList_madeCells_one _ _
 refine⟨by simp, .inr ⟨w.heap.size,m,_,by simp,hb,Deep.blk_alloc_new _ _,by simpa using hnm,hm,by rw[size_madeCells,Nat.mul_one],?_⟩⟩
 rw[e]
 simp[List.take_replicate,Nat.min_eq_left hnm]
theorem OnlyO.set{p:Nat}{r:Option Nat}(w:World)(i:Nat)(v:Value):OnlyO p r w (w.setCell ⟨p,i,none⟩ v):=⟨rfl,rfl,rfl,by simp[World.setCell],fun k _ h1 _=>Below.heap_setCell _ _ _ _ h1⟩
theorem ownsRow_slice{w:World}{base:Nat}{e:TypeId}{size:Nat}{v:Value}{n:Nat}{xs:List Value}(h:w.ownsRow base e size v n xs):∃ a c,v = .slice a n c:=by
 obtain⟨h0,⟨h1,h2⟩|⟨g,cap,cur,h1,_⟩⟩:=h
 ·exact⟨none,0,by rw[h1,h2]⟩
 ·exact⟨_,_,h1⟩
structure Stay(w:World)(p:Nat)(r:Option Nat)(v:Value)(xs:List Int):Prop where
 rd:Reads w v xs
 off:∀ g off n c,v = .slice (some ⟨g,off,none⟩) n c→0<xs.length→g≠p∧r≠some g
theorem Reads.lt{w:World}{g off n c:Nat}{xs:List Int}(h:Reads w (.slice (some ⟨g,off,none⟩) n c) xs)(h0:0<xs.length):g<w.heap.size:=by
 obtain⟨a',c',he,_,hrd⟩:=h
 simp only[Value.slice.injEq]at he
 obtain⟨g',off',h2,h3,_⟩:=hrd h0
 rw[←he.1]at h2
 simp only[Option.some.injEq,Addr.mk.injEq]at h2
 rw[h2.1];exact h3
theorem Reads.blocks{w w':World}{v:Value}{xs:List Int}(h:Reads w v xs)(hs:w.heap.size≤w'.heap.size)(hb:∀ g off n c,v = .slice (some ⟨g,off,none⟩) n c→0<xs.length→w'.heap[g]? = w.heap[g]?):Reads w' v xs:=by
 obtain⟨a,c,rfl,h0,h1⟩:=h
 refine⟨a,c,rfl,h0,fun h => ?_⟩
 obtain⟨g,off,rfl,h2,h3⟩:=h1 h
 refine⟨g,off,rfl,by omega,fun j hj => ?_⟩
 have:=h3 j hj
 simp only[World.cell?,hb g off _ _ rfl h]at this ⊢
 exact this
theorem Stay.step{w w':World}{p:Nat}{r r':Option Nat}{v:Value}{xs:List Int}(h:Stay w p r v xs)(ho:OnlyO p r w w')(hr:r'=r ∨ ∀ k,r'=some k→w.heap.size≤k):Stay w' p r' v xs:=by
 refine⟨h.rd.blocks ho.size fun g off n c hv h0 => ?_,fun g off n c hv h0 => ?_⟩
 ·have h1:=h.off g off n c hv h0
  subst hv
  exact ho.block g (h.rd.lt h0) h1.1 (fun e=>h1.2 e.symm)
 ·have h1:=h.off g off n c hv h0
  refine⟨h1.1,fun e => ?_⟩
  rcases hr with rfl|hr
  ·exact h1.2 e
  ·subst hv
   have:=h.rd.lt h0
   have:=hr g e
   omega
theorem Stay.only{w w':World}{p:Nat}{r:Option Nat}{v:Value}{xs:List Int}(h:Stay w p r v xs)(ho:OnlyO p r w w'):Stay w' p r v xs:=h.step ho (.inl rfl)
theorem OnlyO.beyond{p:Nat}{r:Option Nat}{a b c:World}(h:OnlyO p r a b)(k:Below a.heap.size b c):OnlyO p r a c:=
 ⟨k.os.trans h.os,k.tape.trans h.tape,k.output.trans h.output,Nat.le_trans h.size k.size,fun i hi h1 h2=>(k.block i hi).trans (h.block i hi h1 h2)⟩
structure Rg0(w:World)(p:Nat)(A:Nat→Int)(h n:Nat)(nx:Int)(hs:Bool)(st:Int):Prop where
 blk:∃ cs:Array Value,w.heap[p]? = some (.cells cs 198 (0,0))∧(∀ i,i<256→cs[i]? = some (.int .i64 (A i)))∧cs[256]? = some (.int .i64 h)∧cs[257]? = some (.int .i64 n)∧cs[258]? = some (.int .i64 nx)∧cs[259]? = some (.bool hs)∧cs[260]? = some (.int .i64 st)
 hh:h<256
 hn:n≤256
 sz:∀ cs t fr,w.heap[p]? = some (.cells cs t fr)→cs.size=261
theorem Rg0.lt{w:World}{p:Nat}{A:Nat→Int}{h n:Nat}{nx:Int}{hs:Bool}{st:Int}(H:Rg0 w p A h n nx hs st):p<w.heap.size:=by
 obtain⟨cs,h1,_⟩:=H.blk
 rw[Array.getElem?_eq_some_iff]at h1;exact h1.1
theorem Rg0.cell{w:World}{p:Nat}{A:Nat→Int}{h n:Nat}{nx:Int}{hs:Bool}{st:Int}(H:Rg0 w p A h n nx hs st)(i:Nat)(hi:i<256):w.cell? ⟨p,i,none⟩=some (.int .i64 (A i)):=by
 obtain⟨cs,h1,h2,_⟩:=H.blk
 simp[World.cell?,h1,h2 i hi]
theorem Rg0.frz{w:World}{p:Nat}{A:Nat→Int}{h n:Nat}{nx:Int}{hs:Bool}{st:Int}(H:Rg0 w p A h n nx hs st)(i:Nat):w.frozen? ⟨p,i,none⟩=false:=by
 obtain⟨cs,h1,_⟩:=H.blk
 simp[World.frozen?,h1]
theorem Rg0.c256{w:World}{p:Nat}{A:Nat→Int}{h n:Nat}{nx:Int}{hs:Bool}{st:Int}(H:Rg0 w p A h n nx hs st):w.cell? ⟨p,256,none⟩=some (.int .i64 h):=by
 obtain⟨cs,h1,_,h3,_⟩:=H.blk
 simp[World.cell?,h1,h3]
theorem Rg0.c257{w:World}{p:Nat}{A:Nat→Int}{h n:Nat}{nx:Int}{hs:Bool}{st:Int}(H:Rg0 w p A h n nx hs st):w.cell? ⟨p,257,none⟩=some (.int .i64 n):=by
 obtain⟨cs,h1,_,_,h3,_⟩:=H.blk
 simp[World.cell?,h1,h3]
theorem Rg0.c258{w:World}{p:Nat}{A:Nat→Int}{h n:Nat}{nx:Int}{hs:Bool}{st:Int}(H:Rg0 w p A h n nx hs st):w.cell? ⟨p,258,none⟩=some (.int .i64 nx):=by
 obtain⟨cs,h1,_,_,_,h3,_⟩:=H.blk
 simp[World.cell?,h1,h3]
theorem Rg0.c259{w:World}{p:Nat}{A:Nat→Int}{h n:Nat}{nx:Int}{hs:Bool}{st:Int}(H:Rg0 w p A h n nx hs st):w.cell? ⟨p,259,none⟩=some (.bool hs):=by
 obtain⟨cs,h1,_,_,_,_,h3,_⟩:=H.blk
 simp[World.cell?,h1,h3]
theorem Rg0.c260{w:World}{p:Nat}{A:Nat→Int}{h n:Nat}{nx:Int}{hs:Bool}{st:Int}(H:Rg0 w p A h n nx hs st):w.cell? ⟨p,260,none⟩=some (.int .i64 st):=by
 obtain⟨cs,h1,_,_,_,_,_,h3⟩:=H.blk
 simp[World.cell?,h1,h3]
theorem Rg0.kept{w w':World}{p:Nat}{A:Nat→Int}{h n:Nat}{nx:Int}{hs:Bool}{st:Int}(H:Rg0 w p A h n nx hs st)(hp:w'.heap[p]? = w.heap[p]?):Rg0 w' p A h n nx hs st:=by
 obtain⟨cs,h1,h2⟩:=H.blk
 exact⟨⟨cs,hp.trans h1,h2⟩,H.hh,H.hn,fun cs t fr hc=>H.sz cs t fr (hp ▸ hc)⟩
theorem set_cs{w:World}{p i:Nat}{v:Value}{cs:Array Value}{t:TypeId}(h:w.heap[p]? = some (.cells cs t (0,0))):(w.setCell ⟨p,i,none⟩ v).heap[p]? = some (.cells (cs.setIfInBounds i v) t (0,0)):=by
 simp[World.setCell,Array.getElem?_modify,h]
theorem set_sz{w:World}{p i m:Nat}{v:Value}{cs0:Array Value}{t0:TypeId}(h:∀ cs t fr,w.heap[p]? = some (.cells cs t fr)→cs.size=m)(h1:w.heap[p]? = some (.cells cs0 t0 (0,0))):∀ cs t fr,(w.setCell ⟨p,i,none⟩ v).heap[p]? = some (.cells cs t fr)→cs.size=m:=by
 intro cs t fr hc
 rw[set_cs h1]at hc
 simp only[Option.some.injEq,Obj.cells.injEq]at hc
 rw[←hc.1,Array.size_setIfInBounds]
 exact h _ _ _ h1
theorem get_set_ne{cs:Array Value}{i j:Nat}{v:Value}(h:i≠j):(cs.setIfInBounds i v)[j]? = cs[j]?:=by
 simp[Array.getElem?_setIfInBounds,h]
theorem get_set_eq{cs:Array Value}{i:Nat}{v u:Value}(h:cs[i]? = some u):(cs.setIfInBounds i v)[i]? = some v:=by
 have:=(Array.getElem?_eq_some_iff.1 h).1
 simp[Array.getElem?_setIfInBounds,this]
theorem Rg0.set_place{w:World}{p:Nat}{A:Nat→Int}{h n:Nat}{nx:Int}{hs:Bool}{st:Int}(H:Rg0 w p A h n nx hs st)(i:Nat)(hi:i<256)(v:Int):Rg0 (w.setCell ⟨p,i,none⟩ (.int .i64 v)) p (fun j=>if j=i then v else A j) h n nx hs st:=by
 obtain⟨cs,h1,h2,h3,h4,h5,h6,h7⟩:=H.blk
 refine⟨⟨_,set_cs h1,fun j hj => ?_,?_,?_,?_,?_,?_⟩,H.hh,H.hn,set_sz H.sz h1⟩
 ·by_cases e:j=i
  ·subst e;rw[get_set_eq (h2 j hj)];simp
  ·rw[get_set_ne (fun h=>e h.symm),h2 j hj];simp[e]
 all_goals (rw[get_set_ne (by omega)];assumption)
theorem Rg0.set_head{w:World}{p:Nat}{A:Nat→Int}{h n:Nat}{nx:Int}{hs:Bool}{st:Int}(H:Rg0 w p A h n nx hs st)(h':Nat)(hh:h'<256)(k:Int)(hk:k=h'):Rg0 (w.setCell ⟨p,256,none⟩ (.int .i64 k)) p A h' n nx hs st:=by
 obtain⟨cs,h1,h2,h3,h4,h5,h6,h7⟩:=H.blk
 subst hk
 refine⟨⟨_,set_cs h1,fun j hj => ?_,get_set_eq h3,?_,?_,?_,?_⟩,hh,H.hn,set_sz H.sz h1⟩
 ·rw[get_set_ne (by omega)];exact h2 j hj
 all_goals (rw[get_set_ne (by omega)];assumption)
theorem Rg0.set_n{w:World}{p:Nat}{A:Nat→Int}{h n:Nat}{nx:Int}{hs:Bool}{st:Int}(H:Rg0 w p A h n nx hs st)(n':Nat)(hn:n'≤256)(k:Int)(hk:k=n'):Rg0 (w.setCell ⟨p,257,none⟩ (.int .i64 k)) p A h n' nx hs st:=by
 obtain⟨cs,h1,h2,h3,h4,h5,h6,h7⟩:=H.blk
 subst hk
 refine⟨⟨_,set_cs h1,fun j hj => ?_,?_,get_set_eq h4,?_,?_,?_⟩,H.hh,hn,set_sz H.sz h1⟩
 ·rw[get_set_ne (by omega)];exact h2 j hj
 all_goals (rw[get_set_ne (by omega)];assumption)
theorem Rg0.set_next{w:World}{p:Nat}{A:Nat→Int}{h n:Nat}{nx:Int}{hs:Bool}{st:Int}(H:Rg0 w p A h n nx hs st)(k:Int):Rg0 (w.setCell ⟨p,258,none⟩ (.int .i64 k)) p A h n k hs st:=by
 obtain⟨cs,h1,h2,h3,h4,h5,h6,h7⟩:=H.blk
 refine⟨⟨_,set_cs h1,fun j hj => ?_,?_,?_,get_set_eq h5,?_,?_⟩,H.hh,H.hn,set_sz H.sz h1⟩
 ·rw[get_set_ne (by omega)];exact h2 j hj
 all_goals (rw[get_set_ne (by omega)];assumption)
theorem Rg0.set_has{w:World}{p:Nat}{A:Nat→Int}{h n:Nat}{nx:Int}{hs:Bool}{st:Int}(H:Rg0 w p A h n nx hs st)(k:Bool):Rg0 (w.setCell ⟨p,259,none⟩ (.bool k)) p A h n nx k st:=by
 obtain⟨cs,h1,h2,h3,h4,h5,h6,h7⟩:=H.blk
 refine⟨⟨_,set_cs h1,fun j hj => ?_,?_,?_,?_,get_set_eq h6,?_⟩,H.hh,H.hn,set_sz H.sz h1⟩
 ·rw[get_set_ne (by omega)];exact h2 j hj
 all_goals (rw[get_set_ne (by omega)];assumption)
theorem Rg0.set_streak{w:World}{p:Nat}{A:Nat→Int}{h n:Nat}{nx:Int}{hs:Bool}{st:Int}(H:Rg0 w p A h n nx hs st)(k:Int):Rg0 (w.setCell ⟨p,260,none⟩ (.int .i64 k)) p A h n nx hs k:=by
 obtain⟨cs,h1,h2,h3,h4,h5,h6,h7⟩:=H.blk
 refine⟨⟨_,set_cs h1,fun j hj => ?_,?_,?_,?_,?_,get_set_eq h7⟩,H.hh,H.hn,set_sz H.sz h1⟩
 ·rw[get_set_ne (by omega)];exact h2 j hj
 all_goals (rw[get_set_ne (by omega)];assumption)
structure Rg(w:World)(p:Nat)(xs:List Int)(nx:Int)(hs:Bool)(st:Int):Prop where
 ex:∃ A h,Rg0 w p A h xs.length nx hs st ∧ ∀ i,i<xs.length→xs.getD i 0=A ((h+i) % 256)
theorem Rg.lt{w:World}{p:Nat}{xs:List Int}{nx:Int}{hs:Bool}{st:Int}(H:Rg w p xs nx hs st):p<w.heap.size:=by
 obtain⟨A,h,h1,_⟩:=H.ex;exact h1.lt
theorem Rg.le{w:World}{p:Nat}{xs:List Int}{nx:Int}{hs:Bool}{st:Int}(H:Rg w p xs nx hs st):xs.length≤256:=by
 obtain⟨A,h,h1,_⟩:=H.ex;exact h1.hn
theorem Rg.kept{w w':World}{p:Nat}{xs:List Int}{nx:Int}{hs:Bool}{st:Int}(H:Rg w p xs nx hs st)(hp:w'.heap[p]? = w.heap[p]?):Rg w' p xs nx hs st:=by
 obtain⟨A,h,h1,h2⟩:=H.ex
 exact⟨A,h,h1.kept hp,h2⟩
theorem Rg.below{w w':World}{p:Nat}{xs:List Int}{nx:Int}{hs:Bool}{st:Int}(H:Rg w p xs nx hs st)(hb:Below w.heap.size w w'):Rg w' p xs nx hs st:=H.kept (hb.block _ H.lt)
theorem Rg.quiet{w w':World}{p:Nat}{xs:List Int}{nx:Int}{hs:Bool}{st:Int}(H:Rg w p xs nx hs st)(hb:Quiet w w'):Rg w' p xs nx hs st:=H.below (hb.below _)
theorem row_push{A:Nat→Int}{h:Nat}{xs:List Int}(g:Int)(hx:∀ i,i<xs.length→xs.getD i 0=A ((h+i) % 256))(hl:xs.length<256)(hh:h<256) :
 ∀ i,i<(xs ++ [g]).length→(xs ++ [g]).getD i 0=(fun j=>if j=(h+xs.length) % 256 then g else A j) ((h+i) % 256):=by
 intro i hi
 rw[List.length_append,List.length_singleton]at hi
 by_cases e:i=xs.length
 ·subst e;simp
 ·have h1:(h+i) % 256≠(h+xs.length) % 256:=by omega
  simp only[if_neg h1]
  rw[←hx i (by omega)]
  simp[List.getElem?_append_left (show i<xs.length by omega)]
theorem row_pop{A:Nat→Int}{h:Nat}{x:Int}{xs:List Int}(hx:∀ i,i<(x :: xs).length→(x :: xs).getD i 0=A ((h+i) % 256))(hh:h<256) :
 x=A h ∧ ∀ i,i<xs.length→xs.getD i 0=A (((h+1) % 256+i) % 256):=by
 refine⟨?_,fun i hi => ?_⟩
 ·have:=hx 0 (by simp)
  rw[Nat.add_zero,Nat.mod_eq_of_lt hh]at this
  simpa using this
 ·have:=hx (i+1) (by simp;omega)
  rw[List.getD_cons_succ]at this
  rw[this]
  congr 1
  omega
theorem Rg0.quiet{w w':World}{p:Nat}{A:Nat→Int}{h n:Nat}{nx:Int}{hs:Bool}{st:Int}(H:Rg0 w p A h n nx hs st)(hq:Quiet w w'):Rg0 w' p A h n nx hs st:=H.kept (by rw[hq.heap])
theorem push_full(p:Nat)(xs:List Int)(nx:Int)(hs:Bool)(st g:Int)(w:World)(H:Rg w p xs nx hs st)(hl:xs.length=256) :
 Calls Tryz.prog 169 #[.pointer (some ⟨p,0,none⟩), .int .i64 g] w fun e w'=>e = .returned (.bool false)∧w=w':=by
 obtain⟨A,h,H0,hx⟩:=H.ex
 have c:=H0.c257
 rw[hl]at c
 clear hl hx H0 H
 go_enter Tryz.func169,Tryz.ntmps169
 go_wp2
 go_ret
 exact⟨rfl,rfl⟩
def RPost(p:Nat)(v:Value)(xs:List Int)(nx:Int)(hs:Bool)(st:Int)(w:World)(e:Ending)(w':World):Prop:=e = .returned v∧Rg w' p xs nx hs st∧OnlyO p none w w'
theorem RPost.later{p:Nat}{v:Value}{xs:List Int}{nx:Int}{hs:Bool}{st:Int}{w:World}{e:Ending}{w' w2:World}(h:RPost p v xs nx hs st w e w')(hq:Quiet w' w2):RPost p v xs nx hs st w e w2:=
 ⟨h.1,h.2.1.quiet hq,h.2.2.trans (OnlyO.quiet hq) (.inl rfl)⟩
theorem push_fin{p h m:Nat}{A:Nat→Int}{xs:List Int}{nx:Int}{hs:Bool}{st g:Int}{w w2:World}(H0:Rg0 w p A h xs.length nx hs st)(hx:∀ i,i<xs.length→xs.getD i 0=A ((h+i) % 256))(hl:xs.length<256)(hm:m=(h+xs.length) % 256)(hq:Quiet w w2)(k:Int)(hk:k=xs.length+1) :
 RPost p (.bool true) (xs ++ [g]) nx hs st w (.returned (.bool true)) ((w2.setCell ⟨p,m,none⟩ (.int .i64 g)).setCell ⟨p,257,none⟩ (.int .i64 k)):=by
 have hh:=H0.hh
 have h1:=(H0.quiet hq).set_place m (by omega) g
 have h2:=h1.set_n (xs.length+1) (by omega) k (by omega)
 subst hm
 refine⟨rfl,⟨⟨_,h,by rw[List.length_append,List.length_singleton];exact h2,row_push g hx hl hh⟩⟩,?_⟩
 exact ((OnlyO.quiet hq).trans (OnlyO.set w2 _ _) (.inl rfl)).trans (OnlyO.set _ _ _) (.inl rfl)
theorem push_any(p:Nat)(xs:List Int)(nx:Int)(hs:Bool)(st g:Int)(w:World)(H:Rg w p xs nx hs st)(hl:xs.length<256) :
 Calls Tryz.prog 169 #[.pointer (some ⟨p,0,none⟩), .int .i64 g] w (RPost p (.bool true) (xs ++ [g]) nx hs st w):=by
 obtain⟨A,h,H0,hx⟩:=H.ex
 obtain⟨n,hn⟩:∃ n,n=xs.length:=⟨_,rfl⟩
 obtain⟨m,hm⟩:∃ m,m=(h+n) % 256:=⟨_,rfl⟩
 have hh:=H0.hh
 have c1:=H0.c256
 have c2:=H0.c257
 have c3:=H0.cell m (by omega)
 have f3:=H0.frz m
 have f2:=H0.frz 257
 rw[←hn]at c2 hl
 have hmi:((h:Int)+n) % 256=m:=by omega
 have hm256:m<256:=by omega
 have FIN:=hid (fun w2 hq k hk=>push_fin (g:=g) (m:=m) (w2:=w2) H0 hx (by omega) (by rw[hm,hn]) hq k hk)
 rw[←hn]at FIN
 clear H H0 hx hn hm
 go_enter Tryz.func169,Tryz.ntmps169
 go_wp2_with fail
 go_region
 all_goals
  go_wp2
  go_ret
  exact RPost.later (FIN.out w (Quiet.refl _) _ rfl) ⟨1,rfl⟩
theorem OnlyO.set2{p i j:Nat}{u v:Value}(w:World):OnlyO p none w ((w.setCell ⟨p,i,none⟩ u).setCell ⟨p,j,none⟩ v):=(OnlyO.set w i u).trans (OnlyO.set _ j v) (.inl rfl)
theorem pop_fin{p h:Nat}{A:Nat→Int}{x:Int}{xs:List Int}{nx:Int}{hs:Bool}{st:Int}{w:World}(H0:Rg0 w p A h (x :: xs).length nx hs st)(hx:∀ i,i<(x :: xs).length→(x :: xs).getD i 0=A ((h+i) % 256))(k j:Int)(hk:k=((h+1) % 256:Nat))(hj:j=xs.length) :
 RPost p (.int .i64 x) xs nx hs st w (.returned (.int .i64 (A h))) ((w.setCell ⟨p,256,none⟩ (.int .i64 k)).setCell ⟨p,257,none⟩ (.int .i64 j)):=by
 have hh:=H0.hh
 have hn:=H0.hn
 obtain⟨h1,h2⟩:=row_pop hx hh
 rw[List.length_cons]at hn
 exact⟨by rw[h1],⟨⟨A,(h+1) % 256,(H0.set_head _ (by omega) k hk).set_n xs.length (by omega) j hj,h2⟩⟩,OnlyO.set2 w⟩
theorem pop_any(p:Nat)(x:Int)(xs:List Int)(nx:Int)(hs:Bool)(st:Int)(w:World)(H:Rg w p (x :: xs) nx hs st) :
 Calls Tryz.prog 168 #[.pointer (some ⟨p,0,none⟩)] w (RPost p (.int .i64 x) xs nx hs st w):=by
 obtain⟨A,h,H0,hx⟩:=H.ex
 obtain⟨n,hn⟩:∃ n,n=(x :: xs).length:=⟨_,rfl⟩
 have hn':n=xs.length+1:=by simpa using hn
 have hh:=H0.hh
 have hnb:=H0.hn
 have c1:=H0.c256
 have c2:=H0.c257
 have c3:=H0.cell h hh
 have f1:=H0.frz 256
 have f2:=H0.frz 257
 rw[←hn]at c2 hnb
 obtain⟨a,ha⟩:∃ a,a=A h:=⟨_,rfl⟩
 rw[←ha]at c3
 have FIN:=hid (fun k j hk hj=>pop_fin H0 hx k j hk hj)
 rw[←ha]at FIN
 have HN:=hid hn'
 have hn1:1≤n:=by omega
 clear H H0 hx hn hn' ha
 go_enter Tryz.func168,Tryz.ntmps168
 go_wp2_with fail
 go_quiet (fail)
 all_goals
  go_wp2
  go_ret
  refine RPost.later (FIN.out _ _ ?_ ?_) ⟨_,rfl⟩
  ·omega
  ·have:=HN.out;omega
theorem takeNext_any(p:Nat)(xs:List Int)(nx:Int)(hs:Bool)(st:Int)(w:World)(H:Rg w p xs nx hs st) :
 Calls Tryz.prog 167 #[.pointer (some ⟨p,0,none⟩)] w (RPost p (.int .i64 nx) xs 0 false st w):=by
 obtain⟨A,h,H0,hx⟩:=H.ex
 have c1:=H0.c258
 have c2:=H0.c259
 have f1:=H0.frz 258
 have f2:=H0.frz 259
 have FIN:Hid (RPost p (.int .i64 nx) xs 0 false st w (.returned (.int .i64 nx)) ((w.setCell ⟨p,258,none⟩ (.int .i64 0)).setCell ⟨p,259,none⟩ (.bool false))):=⟨rfl,⟨⟨A,h,(H0.set_next 0).set_has false,hx⟩⟩,OnlyO.set2 w⟩
 clear H H0 hx
 go_enter Tryz.func167,Tryz.ntmps167
 go_wp2
 go_ret
 exact FIN.out
def RTold(p:Nat)(ys xs:List Int)(nx:Int)(hs:Bool)(st:Int)(w:World)(e:Ending)(w':World):Prop:=
 ∃ v,e = .returned v∧Owns w' w.heap.size v ys∧Rg w' p xs nx hs st∧OnlyO p none w w'
theorem owns_nil(w:World)(base:Nat):Owns w base (.slice none 0 0) []:=⟨by simp, .inl ⟨rfl,rfl⟩⟩
theorem half_r(p:Nat)(xs:List Int)(nx:Int)(hs:Bool)(st:Int)(w:World)(H:Rg w p xs nx hs st) :
 Calls Tryz.prog 172 #[.pointer (some ⟨p,0,none⟩)] w (RTold p (xs.take ((xs.length+1) / 2)) (xs.drop ((xs.length+1) / 2)) nx hs st w):=by
 obtain⟨A,h,H0,hx⟩:=H.ex
 have c2:=H0.c257
 have hn:=H.le
 have hplt:=H.lt
 obtain⟨n,hne⟩:∃ n,n=xs.length:=⟨_,rfl⟩
 obtain⟨k,hk⟩:∃ k,k=(xs.length+1) / 2:=⟨_,rfl⟩
 rw[←hne]at c2 hn
 have hk1:((n:Int)+1) / 2=k:=by omega
 have hkn:k≤n:=by omega
 have HN:=hid hne
 have HK:=hid hk
 have HR:=hid H
 obtain⟨i0,hi,hz0,hz1,hz2⟩:=info_parts infoInt
 have HI:=hid hi
 have HZ0:=hid hz0
 have HZ1:=hid hz1
 have HZ2:=hid hz2
 have HBY:=hid (show (i0.bytes:Int)*((k+1:Nat):Int)≤281474976710656 by rw[hz2];omega)
 have HC:=hid (show ((k:Int)+1)=((k+1:Nat):Int) by omega)
 have c2':(w.alloc (.cells (madeCells (Value.cells (.int .i64 0)) (k+1)) 3)).cell? ⟨p,257,none⟩=some (.int .i64 n):=by
  rw[←c2];exact World.cell?_of_block (Below.heap_alloc _ _ _ hplt)
 rw[←hk]
 clear H H0 hx hne hk hi hz0 hz1 hz2
 go_enter Tryz.func172,Tryz.ntmps172
 go_wp2_with (with_reducible refine wpList_make_lc _ rfl (.const (.int .i64 0)) (.tmp 10) 63 rfl 3 i0 (.int .i64 0) Tryz.underlying63 HI.out HZ0.out HZ1.out .i64 .i64 0 ((k:Int)+1) 0 (k+1) rfl rfl rfl HC.out (by omega) HBY.out (by omega) ?_)
 have hm0:Owns (w.alloc (.cells (madeCells (Value.cells (.int .i64 0)) (k+1)) 3)) w.heap.size (.slice (some ⟨w.heap.size,0,none⟩) 0 (k+1)) []:=owns_made w w.heap.size 0 (k+1) (Nat.le_refl _) (by omega) (by unfold maxLen;omega)
 have HM:=hid (show (w.alloc (.cells (madeCells (Value.cells (.int .i64 0)) (k+1)) 3)).ownsRow w.heap.size 3 1 (.slice (some ⟨w.heap.size,0,none⟩) 0 (k+1)) 0 (([]:List Int).map (Value.int .i64)) from hm0)
 have HR1:=hid (HR.out.below ((Below.refl w.heap.size w).alloc (Nat.le_refl _) (.cells (madeCells (Value.cells (.int .i64 0)) (k+1)) 3)))
 have HX1:=hid (show OnlyO p none w (w.alloc (.cells (madeCells (Value.cells (.int .i64 0)) (k+1)) 3)) from .of_below ((Below.refl _ _).alloc (Nat.le_refl _) _))
 clear hm0
 go_wp2_with fail
 rw[hk1]
 go_loopw [3,18] (fun v i wr=>∃(j:Nat),j≤k∧i = .int .i64 j∧wr.ownsRow w.heap.size 3 1 v j ((xs.take j).map (Value.int .i64))∧Hid (Rg wr p (xs.drop j) nx hs st)∧Hid (OnlyO p none w wr)∧w.heap.size≤wr.heap.size)
  (fun _ i _=>k - (intOf i).toNat)
 case atStart=>exact⟨0,by omega,rfl,HM.out,HR1,HX1,by simp⟩
 case round=>
  obtain⟨j,hj,rfl,hown,HRr,HX,hsz⟩:=hrel
  obtain⟨va,vc,rfl⟩:=ownsRow_slice hown
  by_cases hlt:j<k
  ·have hjx:j<xs.length:=by rw[←HN.out];omega
   obtain⟨x,hx⟩:∃ x,x=xs.getD j 0:=⟨_,rfl⟩
   have hd:xs.drop j=x :: xs.drop (j+1):=by rw[List.drop_eq_getElem_cons hjx,hx];simp[hjx]
   have HT:=hid (lst_take_snoc xs j hjx)
   rw[←hx]at HT
   have hrr:=HRr.out
   rw[hd]at hrr
   have HRc:=hid hrr
   have HO:=hid hown
   have hjb:j<128:=by omega
   clear hx hjx hd hrr HRr hown
   go_wp2_with fail
   refine(pop_any p x (xs.drop (j+1)) nx hs st _ HRc.out).mono ?_
   rintro e w2 ⟨rfl,hr2,hx2⟩
   have HR2:=hid hr2
   have holt:=World.ownsRow.lt HO.out
   have HX2:=hid (HX.out.trans hx2 (.inl rfl))
   have ho2:Owns w2 w.heap.size (.slice va j vc) (xs.take j):=Owns.kept (show Owns wr w.heap.size (.slice va j vc) (xs.take j) by
    have:=HO.out
    unfold Owns
    have e:(xs.take j).length=j:=by rw[List.length_take, ←HN.out];omega
    rw[e];exact this) (fun q hq=>hx2.block q (holt q hq).2 (by have:=(holt q hq).1;omega) (by simp))
   have hown2:w2.ownsRow w.heap.size 3 1 (.slice va j vc) j ((xs.take j).map (Value.int .i64)):=by
    unfold Owns at ho2
    have e:(xs.take j).length=j:=by rw[List.length_take, ←HN.out];omega
    rwa[e]at ho2
   have hs2:=hx2.size
   have HAL:=hid (hown2.alloc (.cells #[.int .i64 x] 3))
   have B1:=hid (show j+1≤maxLen by unfold maxLen;omega)
   have B2:=hid (show (j+1)*8≤140737488355328 by omega)
   have B3:=hid (show w.heap.size≤(w2.alloc (.cells #[.int .i64 x] 3)).heap.size by simp;omega)
   clear hr2 hx2 holt ho2 hown2
   go_wp2_with (at_builtin;refine wpList_append_own_at _ rfl _ _ 63 rfl w.heap.size 3 i0 (.int .i64 0) 1 8 Tryz.underlying63 HI.out HZ0.out HZ1.out HZ2.out rfl (by decide) _ _ _ rfl HAL.out ⟨w2.heap.size,0,none⟩ 1 1 [.int .i64 x] rfl rfl (cell_one_new _ _ _) (ones_of [x]) B1.out B2.out B3.out ?_)
   intro v' w6 hown6 hgrow _ _
   have hown7:w6.ownsRow w.heap.size 3 1 v' (j+1) ((xs.take (j+1)).map (Value.int .i64)):=by
    rw[HT.out];simpa using hown6
   have hlt6:=HAL.out.lt
   have hgb:=hgrow.block
   have hs6:=hgrow.size
   simp only[World.size_alloc]at hs6
   have hpa:p<(w2.alloc (.cells #[.int .i64 x] 3)).heap.size:=by simp;have:=HR2.out.lt;omega
   have HR6:=hid ((HR2.out.below ((Below.refl w2.heap.size w2).alloc (Nat.le_refl _) (.cells #[.int .i64 x] 3))).kept (hgb p hpa (fun e=>by have:=(hlt6 p e.symm).1;omega)))
   have HX6:=hid ((HX2.out.trans (.of_below ((Below.refl _ _).alloc (Nat.le_refl _) (.cells #[.int .i64 x] 3))) (.inl rfl)).beyond ((Below.refl w.heap.size _).grown hgrow (by simp;omega) (fun q hq=>(hlt6 q hq).1)))
   clear hown6 hgrow hlt6 hgb hpa HAL
   go_wp2
   go_roundw
   case rel=>exact⟨j+1,by omega,by go_num,hown7,HR6,HX6,by omega⟩
   case measure=>simp[intOf];omega
  ·obtain rfl:j=k:=by omega
   have FIN:Hid (RTold p (xs.take j) (xs.drop j) nx hs st w (.returned (.slice va j vc)) wr):=⟨_,rfl,by
    unfold Owns
    have e:(xs.take j).length=j:=by rw[List.length_take, ←HN.out];omega
    rw[e];exact hown,HRr.out,HX.out⟩
   clear hown
   go_wp2
   go_ret
   exact FIN.out
def putT (xs:List Int)(g:Int):List Int:=if xs.length<256 then [] else xs.take 128 ++ [g]
def putL (xs:List Int)(g:Int):List Int:=if xs.length<256 then xs ++ [g] else xs.drop 128
theorem RTold.before{p:Nat}{ys xs:List Int}{nx:Int}{hs:Bool}{st:Int}{w w1:World}{e:Ending}{w':World}(h:RTold p ys xs nx hs st w1 e w')(ho:OnlyO p none w w1):RTold p ys xs nx hs st w e w':=by
 obtain⟨v,he,h1,h2,h3⟩:=h
 exact⟨v,he,h1.mono ho.size,h2,ho.trans h3 (.inl rfl)⟩
theorem put_r(p:Nat)(xs:List Int)(nx:Int)(hs:Bool)(st g:Int)(w:World)(H:Rg w p xs nx hs st) :
 Calls Tryz.prog 198 #[.pointer (some ⟨p,0,none⟩), .int .i64 g] w (RTold p (putT xs g) (putL xs g) nx hs st w):=by
 rcases Nat.lt_or_ge xs.length 256 with h|h
 ·have e1:putT xs g = []:=by simp[putT,h]
  have e2:putL xs g=xs ++ [g]:=by simp[putL,h]
  rw[e1,e2]
  have C:=hid (push_any p xs nx hs st g w H h)
  clear H e1 e2
  go_enter Tryz.func198,Tryz.ntmps198
  go_wp2_with fail
  refine C.out.mono ?_
  rintro e w2 ⟨rfl,hr,ho⟩
  have FIN:Hid (RTold p [] (xs ++ [g]) nx hs st w (.returned (.slice none 0 0)) w2):=⟨_,rfl,owns_nil _ _,hr,ho⟩
  clear hr ho
  go_wp2
  go_ret
  exact FIN.out
 ·have hle:=H.le
  have hl:xs.length=256:=by omega
  have e1:putT xs g=xs.take 128 ++ [g]:=by simp[putT,hl]
  have e2:putL xs g=xs.drop 128:=by simp[putL,hl]
  rw[e1,e2]
  have C:=hid (push_full p xs nx hs st g w H hl)
  have D:=hid (half_r p xs nx hs st w H)
  have e3:(xs.length+1) / 2=128:=by omega
  rw[e3]at D
  have HL:=hid (show (xs.take 128).length=128 by rw[List.length_take];omega)
  have hplt:=H.lt
  clear H e1 e2 e3 hl h hle
  go_enter Tryz.func198,Tryz.ntmps198
  go_wp2_with fail
  refine C.out.mono ?_
  rintro e w2 ⟨rfl,rfl⟩
  go_wp2_with fail
  refine D.out.mono ?_
  rintro e w2 ⟨v,rfl,ho,hr,hx⟩
  have hown:w2.ownsRow w.heap.size 3 1 v 128 ((xs.take 128).map (Value.int .i64)):=by
   have:=ho;unfold Owns at this;rwa[HL.out]at this
  obtain⟨va,vc,rfl⟩:=ownsRow_slice hown
  have hs2:=hx.size
  have HAL:=hid (hown.alloc (.cells #[.int .i64 g] 3))
  have HR:=hid hr
  have HX:=hid hx
  obtain⟨i0,hi,hz0,hz1,hz2⟩:=info_parts infoInt
  have HI:=hid hi
  have HZ0:=hid hz0
  have HZ1:=hid hz1
  have HZ2:=hid hz2
  have B1:=hid (show 128+1≤maxLen by unfold maxLen;omega)
  have B2:=hid (show (128+1)*8≤140737488355328 by omega)
  have B3:=hid (show w.heap.size≤(w2.alloc (.cells #[.int .i64 g] 3)).heap.size by simp;omega)
  clear ho hr hx hown hi hz0 hz1 hz2
  go_wp2_with (at_builtin;refine wpList_append_own_at _ rfl _ _ 63 rfl w.heap.size 3 i0 (.int .i64 0) 1 8 Tryz.underlying63 HI.out HZ0.out HZ1.out HZ2.out rfl (by decide) _ _ _ rfl HAL.out ⟨w2.heap.size,0,none⟩ 1 1 [.int .i64 g] rfl rfl (cell_one_new _ _ _) (ones_of [g]) B1.out B2.out B3.out ?_)
  intro v' w6 hown6 hgrow _ _
  have hlt6:=HAL.out.lt
  have hpa:p<(w2.alloc (.cells #[.int .i64 g] 3)).heap.size:=by simp;have:=HR.out.lt;omega
  have FIN:Hid (RTold p (xs.take 128 ++ [g]) (xs.drop 128) nx hs st w (.returned v') w6):=⟨_,rfl,by
   unfold Owns
   rw[List.length_append,HL.out,List.map_append];simpa using hown6,
   (HR.out.below ((Below.refl w2.heap.size w2).alloc (Nat.le_refl _) (.cells #[.int .i64 g] 3))).kept (hgrow.block p hpa (fun e=>by have:=(hlt6 p e.symm).1;omega)),
   (HX.out.trans (.of_below ((Below.refl _ _).alloc (Nat.le_refl _) (.cells #[.int .i64 g] 3))) (.inl rfl)).beyond ((Below.refl w.heap.size _).grown hgrow (by simp;omega) (fun q hq=>(hlt6 q hq).1))⟩
  obtain⟨va',vc',rfl⟩:=ownsRow_slice hown6
  clear hown6 hgrow hlt6 hpa HAL
  go_wp2
  go_ret
  exact FIN.out
theorem set_ready{p:Nat}{xs:List Int}{nx:Int}{hs:Bool}{st:Int}{w:World}(H:Rg w p xs nx hs st)(g:Int):Rg ((w.setCell ⟨p,258,none⟩ (.int .i64 g)).setCell ⟨p,259,none⟩ (.bool true)) p xs g true st:=by
 obtain⟨A,h,H0,hx⟩:=H.ex
 exact⟨⟨A,h,(H0.set_next g).set_has true,hx⟩⟩
theorem set_streak{p:Nat}{xs:List Int}{nx:Int}{hs:Bool}{st:Int}{w:World}(H:Rg w p xs nx hs st)(g:Int):Rg (w.setCell ⟨p,260,none⟩ (.int .i64 g)) p xs nx hs g:=by
 obtain⟨A,h,H0,hx⟩:=H.ex
 exact⟨⟨A,h,H0.set_streak g,hx⟩⟩
theorem ready_no(p:Nat)(xs:List Int)(nx:Int)(st g:Int)(w:World)(H:Rg w p xs nx false st) :
 Calls Tryz.prog 180 #[.pointer (some ⟨p,0,none⟩), .int .i64 g] w (RTold p [] xs g true st w):=by
 obtain⟨A,h,H0,hx⟩:=H.ex
 have c1:=H0.c258
 have c2:=H0.c259
 have f1:=H0.frz 258
 have f2:=H0.frz 259
 have HN:=hid (fun(w2:World) (hq:Quiet w w2)=>set_ready (H.quiet hq) g)
 clear H H0 hx
 go_enter Tryz.func180,Tryz.ntmps180
 go_wp2_with fail
 go_quiet (fail)
 all_goals
  go_wp2
  go_ret
  exact⟨_,rfl,owns_nil _ _,(HN.out _ (Quiet.refl _)).quiet ⟨_,rfl⟩,(OnlyO.set2 _).trans (OnlyO.quiet ⟨_,rfl⟩) (.inl rfl)⟩
theorem ready_yes(p:Nat)(xs:List Int)(nx:Int)(st g:Int)(w:World)(H:Rg w p xs nx true st) :
 Calls Tryz.prog 180 #[.pointer (some ⟨p,0,none⟩), .int .i64 g] w (RTold p (putT xs nx) (putL xs nx) g true st w):=by
 obtain⟨A,h,H0,hx⟩:=H.ex
 have c1:=H0.c258
 have c2:=H0.c259
 have f1:=H0.frz 258
 have f2:=H0.frz 259
 have HN:=hid (set_ready H g)
 clear H H0 hx
 go_enter Tryz.func180,Tryz.ntmps180
 go_wp2_with fail
 go_quiet (fail)
 all_goals
  go_wp2_with fail
  refine(put_r p xs g true st nx _ (HN.out.quiet ⟨_,rfl⟩)).mono ?_
  rintro e w2 ht
  have FIN:=hid (ht.before ((OnlyO.set2 w).trans (OnlyO.quiet ⟨_,rfl⟩) (.inl rfl)))
  obtain⟨v,rfl,ho,_⟩:=ht
  obtain⟨va,vm,vc,rfl⟩:=ho.slice3
  clear ho
  go_wp2
  go_ret
  exact FIN.out
theorem len_r(p:Nat)(xs:List Int)(nx:Int)(hs:Bool)(st:Int)(w:World)(H:Rg w p xs nx hs st)(n:Int)(hn:n=xs.length+if hs then 1 else 0) :
 Calls Tryz.prog 137 #[.pointer (some ⟨p,0,none⟩)] w fun e w'=>e = .returned (.int .i64 n)∧w=w':=by
 obtain⟨A,h,H0,hx⟩:=H.ex
 have hle:=H.le
 obtain⟨m,hm⟩:∃ m,m=xs.length:=⟨_,rfl⟩
 have c1:=H0.c259
 have c2:=H0.c257
 rw[←hm]at c2 hn hle
 have HN:=hid hn
 clear H H0 hx hm hn
 cases hs
 all_goals
  go_enter Tryz.func137,Tryz.ntmps137
  go_wp2
  go_ret
  refine⟨ret_i ?_,rfl⟩
  have:=HN.out
  simp at this
  omega
theorem steal_row(p:Nat)(xs:List Int)(nx:Int)(hs:Bool)(st:Int)(w:World)(H:Rg w p xs nx hs st)(h0:0<xs.length) :
 Calls Tryz.prog 135 #[.pointer (some ⟨p,0,none⟩)] w (RTold p (xs.take ((xs.length+1) / 2)) (xs.drop ((xs.length+1) / 2)) nx hs st w):=by
 obtain⟨A,h,H0,hx⟩:=H.ex
 have c2:=H0.c257
 have C:=hid (half_r p xs nx hs st w H)
 obtain⟨m,hm⟩:∃ m,m=xs.length:=⟨_,rfl⟩
 rw[←hm]at c2 h0
 clear H H0 hx hm
 go_enter Tryz.func135,Tryz.ntmps135
 go_wp2_with fail
 refine C.out.mono ?_
 rintro e w2 ht
 have FIN:=hid ht
 obtain⟨v,rfl,ho,_⟩:=ht
 obtain⟨va,vm,vc,rfl⟩:=ho.slice3
 clear ho
 go_wp2
 go_ret
 exact FIN.out
theorem steal_none(p:Nat)(nx:Int)(st:Int)(w:World)(H:Rg w p [] nx false st) :
 Calls Tryz.prog 135 #[.pointer (some ⟨p,0,none⟩)] w (RTold p [] [] nx false st w):=by
 obtain⟨A,h,H0,hx⟩:=H.ex
 have c1:=H0.c259
 have c2:w.cell? ⟨p,257,none⟩=some (.int .i64 0):=H0.c257
 have HH:=hid H
 clear H H0 hx
 go_enter Tryz.func135,Tryz.ntmps135
 go_wp2
 go_ret
 exact⟨_,rfl,owns_nil _ _,HH.out,OnlyO.refl _ _ _⟩
theorem steal_next(p:Nat)(nx:Int)(st:Int)(w:World)(H:Rg w p [] nx true st) :
 Calls Tryz.prog 135 #[.pointer (some ⟨p,0,none⟩)] w (RTold p [nx] [] 0 false 0 w):=by
 obtain⟨A,h,H0,hx⟩:=H.ex
 have c1:=H0.c259
 have c2:w.cell? ⟨p,257,none⟩=some (.int .i64 0):=H0.c257
 have c3:=H0.c260
 have f3:=H0.frz 260
 have HH:=hid (set_streak H 0)
 clear H H0 hx
 go_enter Tryz.func135,Tryz.ntmps135
 go_wp2_with fail
 refine(takeNext_any p [] nx true 0 _ HH.out).mono ?_
 rintro e w2 ⟨rfl,hr,ho⟩
 have HR:=hid hr
 have HO:=hid (show OnlyO p none w w2 from (OnlyO.set w 260 _).trans ho (.inl rfl))
 clear hr ho
 go_wp2
 go_ret
 refine⟨_,rfl,?_,HR.out.below ((Below.refl _ _).alloc (Nat.le_refl _) _),HO.out.trans (.of_below ((Below.refl _ _).alloc (Nat.le_refl _) _)) (.inl rfl)⟩
 exact⟨rfl, .inr ⟨w2.heap.size,1,_,rfl,HO.out.size,Deep.blk_alloc_new _ _,Nat.le_refl _,by unfold maxLen;omega,rfl,rfl⟩⟩
def GPost(p:Nat)(g:Int)(b:Bool)(xs:List Int)(nx:Int)(hs:Bool)(st:Int)(w:World)(e:Ending)(w':World):Prop:=e = .returned (.tuple #[.int .i64 g, .bool b])∧Rg w' p xs nx hs st∧OnlyO p none w w'
theorem get_last(p:Nat)(nx:Int)(st:Int)(w:World)(H:Rg w p [] nx true st) :
 Calls Tryz.prog 132 #[.pointer (some ⟨p,0,none⟩)] w (GPost p nx true [] 0 false 0 w):=by
 obtain⟨A,h,H0,hx⟩:=H.ex
 have c1:=H0.c259
 have c2:w.cell? ⟨p,257,none⟩=some (.int .i64 0):=H0.c257
 have c3:=H0.c260
 have f3:=H0.frz 260
 have HH:=hid (set_streak H 0)
 clear H H0 hx
 go_enter Tryz.func132,Tryz.ntmps132
 go_wp2_with fail
 refine(takeNext_any p [] nx true 0 _ HH.out).mono ?_
 rintro e w2 ⟨rfl,hr,ho⟩
 have FIN:Hid (GPost p nx true [] 0 false 0 w (.returned (.tuple #[.int .i64 nx, .bool true])) w2):=⟨rfl,hr,(OnlyO.set w 260 _).trans ho (.inl rfl)⟩
 clear hr ho
 go_wp2
 go_ret2
 exact FIN.out
theorem get_inherit(p:Nat)(xs:List Int)(nx:Int)(st:Int)(w:World)(H:Rg w p xs nx true st)(h0:0<xs.length)(hs0:0≤st)(hs4:st<4) :
 Calls Tryz.prog 132 #[.pointer (some ⟨p,0,none⟩)] w (GPost p nx true xs 0 false (st+1) w):=by
 obtain⟨A,h,H0,hx⟩:=H.ex
 have c1:=H0.c259
 have c2:=H0.c257
 obtain⟨m,hm⟩:∃ m,m=xs.length:=⟨_,rfl⟩
 rw[←hm]at c2 h0
 have c3:=H0.c260
 have f3:=H0.frz 260
 have HH:=hid (set_streak H (st+1))
 clear H H0 hx hm
 go_enter Tryz.func132,Tryz.ntmps132
 go_wp2_with fail
 refine(takeNext_any p xs nx true (st+1) _ HH.out).mono ?_
 rintro e w2 ⟨rfl,hr,ho⟩
 have FIN:Hid (GPost p nx true xs 0 false (st+1) w (.returned (.tuple #[.int .i64 nx, .bool true])) w2):=⟨rfl,hr,(OnlyO.set w 260 _).trans ho (.inl rfl)⟩
 clear hr ho
 go_wp2
 go_ret2
 exact FIN.out
theorem get_none(p:Nat)(nx:Int)(st:Int)(w:World)(H:Rg w p [] nx false st) :
 Calls Tryz.prog 132 #[.pointer (some ⟨p,0,none⟩)] w (GPost p 0 false [] nx false st w):=by
 obtain⟨A,h,H0,hx⟩:=H.ex
 have c1:=H0.c259
 have c2:w.cell? ⟨p,257,none⟩=some (.int .i64 0):=H0.c257
 have FIN:Hid (GPost p 0 false [] nx false st w (.returned (.tuple #[.int .i64 0, .bool false])) w):=⟨rfl,H,OnlyO.refl _ _ _⟩
 clear H H0 hx
 go_enter Tryz.func132,Tryz.ntmps132
 go_wp2
 go_ret2
 exact FIN.out
theorem get_row_no(p:Nat)(x:Int)(xs:List Int)(nx:Int)(st:Int)(w:World)(H:Rg w p (x :: xs) nx false st) :
 Calls Tryz.prog 132 #[.pointer (some ⟨p,0,none⟩)] w (GPost p x true xs nx false 0 w):=by
 obtain⟨A,h,H0,hx⟩:=H.ex
 have c1:=H0.c259
 have c2:=H0.c257
 obtain⟨m,hm⟩:∃ m,m=(x :: xs).length:=⟨_,rfl⟩
 rw[←hm]at c2
 have hm0:0<m:=by rw[hm];simp
 have C:=hid (pop_any p x xs nx false st w H)
 clear H H0 hx hm
 go_enter Tryz.func132,Tryz.ntmps132
 go_wp2_with fail
 refine C.out.mono ?_
 rintro e w2 ⟨rfl,hr,ho⟩
 obtain⟨A2,h2,H2,_⟩:=hr.ex
 have d1:=H2.c259
 have d3:=H2.c260
 have f3:=H2.frz 260
 have FIN:Hid (GPost p x true xs nx false 0 w (.returned (.tuple #[.int .i64 x, .bool true])) (w2.setCell ⟨p,260,none⟩ (.int .i64 0))):=⟨rfl,set_streak hr 0,ho.trans (OnlyO.set w2 260 _) (.inl rfl)⟩
 clear hr ho H2
 go_wp2
 go_ret2
 exact FIN.out
theorem get_row_yes(p:Nat)(x:Int)(xs:List Int)(nx:Int)(st:Int)(w:World)(H:Rg w p (x :: xs) nx true st)(h4:4≤st) :
 Calls Tryz.prog 132 #[.pointer (some ⟨p,0,none⟩)] w (GPost p x true (xs ++ [nx]) 0 false 0 w):=by
 obtain⟨A,h,H0,hx⟩:=H.ex
 have c1:=H0.c259
 have c2:=H0.c257
 have c3:=H0.c260
 have hle:=H.le
 obtain⟨m,hm⟩:∃ m,m=(x :: xs).length:=⟨_,rfl⟩
 rw[←hm]at c2
 have hm0:0<m:=by rw[hm];simp
 have hxl:xs.length<256:=by rw[List.length_cons]at hle;omega
 have HXL:=hid hxl
 have C:=hid (pop_any p x xs nx true st w H)
 clear H H0 hx hm hle hxl
 go_enter Tryz.func132,Tryz.ntmps132
 go_wp2_with fail
 refine C.out.mono ?_
 rintro e w2 ⟨rfl,hr,ho⟩
 obtain⟨A2,h2,H2,_⟩:=hr.ex
 have d1:=H2.c259
 have d3:=H2.c260
 have f3:=H2.frz 260
 have HR:=hid (set_streak hr 0)
 have HO:=hid (show OnlyO p none w (w2.setCell ⟨p,260,none⟩ (.int .i64 0)) from ho.trans (OnlyO.set w2 260 _) (.inl rfl))
 clear hr ho H2
 go_wp2_with fail
 refine(takeNext_any p xs nx true 0 _ HR.out).mono ?_
 rintro e w3 ⟨rfl,hr3,ho3⟩
 have HR3:=hid hr3
 have HO3:=hid (HO.out.trans ho3 (.inl rfl))
 clear hr3 ho3
 go_wp2_with fail
 refine(push_any p xs 0 false 0 nx _ HR3.out HXL.out).mono ?_
 rintro e w4 ⟨rfl,hr4,ho4⟩
 have FIN:Hid (GPost p x true (xs ++ [nx]) 0 false 0 w (.returned (.tuple #[.int .i64 x, .bool true])) w4):=⟨rfl,hr4,HO3.out.trans ho4 (.inl rfl)⟩
 clear hr4 ho4
 go_wp2
 go_ret2
 exact FIN.out
end Go.Proofs.YtkhigkcmgcafdaaGreatDoor
