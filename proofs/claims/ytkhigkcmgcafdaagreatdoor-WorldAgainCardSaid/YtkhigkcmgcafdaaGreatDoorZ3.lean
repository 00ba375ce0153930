/- Of Pre3. -/
import Derived.MapKept
import Derived.WalkMore
import Derived.Test.YtkhigkcmgcafdaaGreatDoorZ2
set_option linter.unusedVariables false
set_option linter.unusedSimpArgs false
set_option maxHeartbeats 16000000
set_option maxRecDepth 20000
namespace Go.Proofs.YtkhigkcmgcafdaaGreatDoor
open Go.RowKit
variable {Z:Nat→Prop}{w w':World}
structure FrZ(Z:Nat→Prop)(w w':World):Prop where
 os:w'.os=w.os
 tape:w'.tape=w.tape
 output:w'.output=w.output
 size:w.heap.size≤w'.heap.size
 block:∀ k,k<w.heap.size→Z k→w'.heap[k]? = w.heap[k]?
theorem FrZ.trans{a b c:World}(h:FrZ Z a b)(h':FrZ Z b c):FrZ Z a c:=
 ⟨h'.os.trans h.os,h'.tape.trans h.tape,h'.output.trans h.output,Nat.le_trans h.size h'.size,fun k hk hz=>(h'.block k (Nat.lt_of_lt_of_le hk h.size) hz).trans (h.block k hk hz)⟩
theorem FrZ.of_below(h:Below w.heap.size w w'):FrZ Z w w':=⟨h.os,h.tape,h.output,h.size,fun k hk _=>h.block k hk⟩
theorem bl_al(w:World)(o:Obj):Below w.heap.size w (w.alloc o):=(Below.refl _ _).alloc (Nat.le_refl _) _
theorem bl_drw(w:World)(B:Nat):Below B w w.drew:=Quiet.below ⟨1,rfl⟩ _
theorem only_blk{b x:Nat}{ob:Obj}(o:Only b b w w')(h:w.heap[x]? = some ob)(hx:x≠b):w'.heap[x]? = some ob:=by
 obtain⟨hl,_⟩:=Array.getElem?_eq_some_iff.1 h
 exact(o.block x hl hx hx).trans h
theorem cellx{b i:Nat}{cs:Array Value}{t:TypeId}{fr:Nat × Nat}{v:Value}(h:w.heap[b]? = some (.cells cs t fr))(hv:cs[i]? = some v):w.cell? ⟨b,i,none⟩=some v:=by simp[World.cell?,h,hv]
theorem FrZ.of_only{b:Nat}(h:Only b b w w')(hz:¬Z b):FrZ Z w w':=⟨h.os,h.tape,h.output,h.size,fun k hk hk2=>h.block k hk (fun e=>hz (e ▸ hk2)) (fun e=>hz (e ▸ hk2))⟩
end Go.Proofs.YtkhigkcmgcafdaaGreatDoor
namespace Go.Proofs.YtkhigkcmgcafdaaGreatDoor
open Go.RowKit
def inI (x:Int):Prop := -9223372036854775808≤x∧x≤9223372036854775807
def sat (t d:Int):Int:=max (-9223372036854775808) (min 9223372036854775807 (t+d))
theorem sat_inI(t d:Int):inI (sat t d):=by unfold inI sat;omega
theorem retI{k:IntKind}{a b:Int}(h:a=b):Ending.returned (.int k a) = .returned (.int k b):=by rw[h]
theorem csum(t d:Int)(w:World)(ht:inI t)(hd:inI d) :
 Calls Tryz.prog 152 #[.int .i64 t, .int .i64 d] w fun e w'=>e = .returned (.int .i64 (sat t d))∧w'=w:=by
 obtain⟨t0,t1⟩:=ht
 obtain⟨d0,d1⟩:=hd
 by_cases h1:0<d
 ·by_cases h2:9223372036854775807 - d<t
  all_goals
   go_enter Tryz.func152,Tryz.ntmps152
   go_wp2
   go_ret
   exact⟨retI (by unfold sat;omega),rfl⟩
 ·by_cases h3:d<0
  ·by_cases h2:t < -9223372036854775808 - d
   all_goals
    go_enter Tryz.func152,Tryz.ntmps152
    go_wp2
    go_ret
    exact⟨retI (by unfold sat;omega),rfl⟩
  ·go_enter Tryz.func152,Tryz.ntmps152
   go_wp2
   go_ret
   exact⟨retI (by unfold sat;omega),rfl⟩
theorem cnow(s:Nat)(x:Int)(w:World)(h0:w.cell? ⟨s,0,none⟩=some (.int .i64 x)) :
 Calls Tryz.prog 44 #[.pointer (some ⟨s,0,none⟩)] w fun e w'=>e = .returned (.int .i64 x)∧w'=w:=by
 go_enter Tryz.func44,Tryz.ntmps44
 go_wp2
 go_ret
 exact⟨rfl,rfl⟩
theorem cafter(s:Nat)(x d:Int)(w:World)(h0:w.cell? ⟨s,0,none⟩=some (.int .i64 x))(hx:inI x)(hd:inI d) :
 Calls Tryz.prog 107 #[.pointer (some ⟨s,0,none⟩), .int .i64 d] w fun e w'=>e = .returned (.int .i64 (sat x (max d 0)))∧w'=w:=by
 have HX:=hid hx
 have HD:=hid hd
 clear hx hd
 by_cases h:d<0
 ·have hm:max d 0=0:=by omega
  rw[hm]
  clear hm
  go_enter Tryz.func107,Tryz.ntmps107
  go_wp2_with fail
  refine(csum x 0 _ HX.out (by unfold inI;omega)).mono ?_
  rintro e w' ⟨rfl,rfl⟩
  go_wp2
  go_ret
  exact⟨rfl,rfl⟩
 ·have hm:max d 0=d:=by omega
  rw[hm]
  clear hm
  go_enter Tryz.func107,Tryz.ntmps107
  go_wp2_with fail
  refine(csum x d _ HX.out HD.out).mono ?_
  rintro e w' ⟨rfl,rfl⟩
  go_wp2
  go_ret
  exact⟨rfl,rfl⟩
theorem ctick(s:Nat)(x d:Int)(w:World)(h0:w.cell? ⟨s,0,none⟩=some (.int .i64 x))(hf:w.frozen? ⟨s,0,none⟩=false)(hx:inI x)(hd:inI d) :
 Calls Tryz.prog 63 #[.pointer (some ⟨s,0,none⟩), .int .i64 d] w fun e w'=>(∃ v,e = .returned v)∧w'=w.setCell ⟨s,0,none⟩ (.int .i64 (sat x (max d 0))):=by
 obtain⟨y,hy⟩:∃ y,y=sat x (max d 0):=⟨_,rfl⟩
 have A:=cafter s x d w h0 hx hd
 rw[←hy]at A ⊢
 have HA:=hid A
 clear hx hd A hy
 go_enter Tryz.func63,Tryz.ntmps63
 go_wp2_with fail
 refine(HA.out).mono ?_
 rintro e w' ⟨rfl,rfl⟩
 clear HA
 go_wp2
 go_ret
 exact⟨⟨_,rfl⟩,rfl⟩
def c3 (a b:Int):Int:=if a<b then -1 else if b<a then 1 else 0
def or3 (x y z:Int):Int:=if x≠0 then x else if y≠0 then y else z
def ent (e:Int × Int × Int):List Value := [.int .i64 e.1, .int .u64 e.2.1, .int .i64 e.2.2]
def cmpE (a b:Int × Int × Int):Int:=or3 (c3 a.1 b.1) (c3 a.2.1 b.2.1) (c3 a.2.2 b.2.2)
def aheadE(a b:Int × Int × Int):Bool:=decide (cmpE a b<0)
theorem hret_i{k:IntKind}{a b:Int}(h:a=b):Ending.returned (.int k a) = .returned (.int k b):=by rw[h]
theorem c3_lt{a b:Int}(h:a<b):c3 a b = -1:=by simp[c3,h]
theorem c3_gt{a b:Int}(h:b<a):c3 a b=1:=by unfold c3;rw[if_neg (by omega),if_pos h]
theorem c3_eq{a b:Int}(h:a=b):c3 a b=0:=by unfold c3;rw[if_neg (by omega),if_neg (by omega)]
theorem nan_a(x:Int)(w:World):Calls Tryz.prog 223 #[.int .i64 x] w fun e w'=>e = .returned (.bool false)∧w'=w:=by
 have hx:(x != x)=false:=by simp
 go_enter Tryz.func223,Tryz.ntmps223
 go_wp2
 go_ret
 exact⟨rfl,rfl⟩
theorem cmp_a(x y:Int)(w:World):Calls Tryz.prog 219 #[.int .i64 x, .int .i64 y] w fun e w'=>e = .returned (.int .i64 (c3 x y))∧w'=w:=by
 by_cases h1:x<y
 ·rw[c3_lt h1]
  go_enter Tryz.func219,Tryz.ntmps219
  go_wp2_with fail
  refine(nan_a x _).mono ?_
  rintro e w' ⟨rfl,rfl⟩
  go_wp2_with fail
  refine(nan_a y _).mono ?_
  rintro e w' ⟨rfl,rfl⟩
  go_wp2
  go_ret
  exact⟨rfl,rfl⟩
 ·by_cases h2:y<x
  ·rw[c3_gt h2]
   go_enter Tryz.func219,Tryz.ntmps219
   go_wp2_with fail
   refine(nan_a x _).mono ?_
   rintro e w' ⟨rfl,rfl⟩
   go_wp2_with fail
   refine(nan_a y _).mono ?_
   rintro e w' ⟨rfl,rfl⟩
   go_wp2
   go_ret
   exact⟨rfl,rfl⟩
  ·rw[c3_eq (show x=y by omega)]
   go_enter Tryz.func219,Tryz.ntmps219
   go_wp2_with fail
   refine(nan_a x _).mono ?_
   rintro e w' ⟨rfl,rfl⟩
   go_wp2_with fail
   refine(nan_a y _).mono ?_
   rintro e w' ⟨rfl,rfl⟩
   go_wp2
   go_ret
   exact⟨rfl,rfl⟩
theorem nan_b(x:Int)(w:World):Calls Tryz.prog 224 #[.int .u64 x] w fun e w'=>e = .returned (.bool false)∧w'=w:=by
 have hx:(x != x)=false:=by simp
 go_enter Tryz.func224,Tryz.ntmps224
 go_wp2
 go_ret
 exact⟨rfl,rfl⟩
theorem cmp_b(x y:Int)(w:World):Calls Tryz.prog 220 #[.int .u64 x, .int .u64 y] w fun e w'=>e = .returned (.int .i64 (c3 x y))∧w'=w:=by
 by_cases h1:x<y
 ·rw[c3_lt h1]
  go_enter Tryz.func220,Tryz.ntmps220
  go_wp2_with fail
  refine(nan_b x _).mono ?_
  rintro e w' ⟨rfl,rfl⟩
  go_wp2_with fail
  refine(nan_b y _).mono ?_
  rintro e w' ⟨rfl,rfl⟩
  go_wp2
  go_ret
  exact⟨rfl,rfl⟩
 ·by_cases h2:y<x
  ·rw[c3_gt h2]
   go_enter Tryz.func220,Tryz.ntmps220
   go_wp2_with fail
   refine(nan_b x _).mono ?_
   rintro e w' ⟨rfl,rfl⟩
   go_wp2_with fail
   refine(nan_b y _).mono ?_
   rintro e w' ⟨rfl,rfl⟩
   go_wp2
   go_ret
   exact⟨rfl,rfl⟩
  ·rw[c3_eq (show x=y by omega)]
   go_enter Tryz.func220,Tryz.ntmps220
   go_wp2_with fail
   refine(nan_b x _).mono ?_
   rintro e w' ⟨rfl,rfl⟩
   go_wp2_with fail
   refine(nan_b y _).mono ?_
   rintro e w' ⟨rfl,rfl⟩
   go_wp2
   go_ret
   exact⟨rfl,rfl⟩
theorem nan_c(x:Int)(w:World):Calls Tryz.prog 225 #[.int .i64 x] w fun e w'=>e = .returned (.bool false)∧w'=w:=by
 have hx:(x != x)=false:=by simp
 go_enter Tryz.func225,Tryz.ntmps225
 go_wp2
 go_ret
 exact⟨rfl,rfl⟩
theorem cmp_c(x y:Int)(w:World):Calls Tryz.prog 221 #[.int .i64 x, .int .i64 y] w fun e w'=>e = .returned (.int .i64 (c3 x y))∧w'=w:=by
 by_cases h1:x<y
 ·rw[c3_lt h1]
  go_enter Tryz.func221,Tryz.ntmps221
  go_wp2_with fail
  refine(nan_c x _).mono ?_
  rintro e w' ⟨rfl,rfl⟩
  go_wp2_with fail
  refine(nan_c y _).mono ?_
  rintro e w' ⟨rfl,rfl⟩
  go_wp2
  go_ret
  exact⟨rfl,rfl⟩
 ·by_cases h2:y<x
  ·rw[c3_gt h2]
   go_enter Tryz.func221,Tryz.ntmps221
   go_wp2_with fail
   refine(nan_c x _).mono ?_
   rintro e w' ⟨rfl,rfl⟩
   go_wp2_with fail
   refine(nan_c y _).mono ?_
   rintro e w' ⟨rfl,rfl⟩
   go_wp2
   go_ret
   exact⟨rfl,rfl⟩
  ·rw[c3_eq (show x=y by omega)]
   go_enter Tryz.func221,Tryz.ntmps221
   go_wp2_with fail
   refine(nan_c x _).mono ?_
   rintro e w' ⟨rfl,rfl⟩
   go_wp2_with fail
   refine(nan_c y _).mono ?_
   rintro e w' ⟨rfl,rfl⟩
   go_wp2
   go_ret
   exact⟨rfl,rfl⟩
def at3 (x y z:Int)(k:Nat):Int:=if k=0 then x else if k=1 then y else z
theorem or_three(x y z:Int)(g:Nat)(w:World)(h0:w.cell? ⟨g,0,none⟩=some (.int .i64 x))(h1:w.cell? ⟨g,1,none⟩=some (.int .i64 y))(h2:w.cell? ⟨g,2,none⟩=some (.int .i64 z)) :
 Calls Tryz.prog 218 #[.slice (some ⟨g,0,none⟩) 3 3] w fun e w'=>e = .returned (.int .i64 (or3 x y z))∧w'=w:=by
 have HC:=hid (fun(k:Nat) (hk:k<3)=>(show w.cell? ⟨g,k,none⟩=some (.int .i64 (at3 x y z k)) by
  match k,hk with
  | 0,_=>exact h0
  | 1,_=>exact h1
  | 2,_=>exact h2))
 have HO:=hid (show ∀ k,k<3→(∀ j,j<k→at3 x y z j=0)→at3 x y z k≠0→or3 x y z=at3 x y z k from fun k hk hj hn=>by
  match k,hk with
  | 0,_=>simp[at3]at hn;simp[or3,at3,hn]
  | 1,_=>have a0:=hj 0 (by omega);simp[at3]at hn a0;simp[or3,at3,hn,a0]
  | 2,_=>have a0:=hj 0 (by omega);have a1:=hj 1 (by omega);simp[at3]at hn a0 a1;simp[or3,at3,hn,a0,a1])
 have HE:=hid (show (∀ j,j<3→at3 x y z j=0)→or3 x y z=0 from fun hj=>by
  have a0:=hj 0 (by omega);have a1:=hj 1 (by omega);have a2:=hj 2 (by omega);simp[at3]at a0 a1 a2;simp[or3,a0,a1,a2])
 clear h0 h1 h2
 go_enter Tryz.func218,Tryz.ntmps218
 go_wp2_with fail
 go_loopw [8] (fun i wr=>∃ k:Nat,k≤3∧i = .int .i64 k∧wr=w∧Hid (∀ j,j<k→at3 x y z j=0)) (fun i _=>3 - (intOf i).toNat)
 case atStart=>exact⟨0,by omega,rfl,rfl,fun j hj=>by omega⟩
 case round=>
  obtain⟨k,hk,rfl,rfl,HZ⟩:=hrel
  by_cases hlt:k<3
  ·have hc:=HC.out k hlt
   obtain⟨q,hq⟩:∃ q,q=at3 x y z k:=⟨_,rfl⟩
   rw[←hq]at hc
   have HQ:=hid hq
   clear hq
   by_cases q0:q=0
   ·have t0:(q != 0)=false:=by simp[q0]
    have HZ':=hid (show ∀ j,j<k+1→at3 x y z j=0 from fun j hj=>by
     by_cases e:j=k
     ·rw[e, ←HQ.out,q0]
     ·exact HZ.out j (by omega))
    clear q0
    go_wp2
    go_roundw
    case rel=>exact⟨k+1,by omega,by go_num,by trivial,HZ'⟩
    case measure=>simp[intOf];omega
   ·have t0:(q != 0)=true:=by simpa using q0
    have HR:=hid (show or3 x y z=q by rw[HQ.out];exact HO.out k hlt HZ.out (by rw[←HQ.out];exact q0))
    clear q0
    go_wp2
    go_ret
    exact⟨hret_i HR.out.symm,rfl⟩
  ·have HR:=hid (show or3 x y z=0 from HE.out (fun j hj=>HZ.out j (by omega)))
   go_wp2
   go_ret
   exact⟨hret_i HR.out.symm,rfl⟩
structure HTwo(s:Nat)(a b:Int × Int × Int)(w:World):Prop where
 a:w.heap[s]? = some (.cells (ent a).toArray 237 (0,0))
 b:w.heap[s+1]? = some (.cells (ent b).toArray 237 (0,0))
theorem cell_ent{w:World}{p i:Nat}{cs:Array Value}{t:TypeId}{v:Value}(h:w.heap[p]? = some (.cells cs t (0,0)))(hi:cs[i]? = some v):w.cell? ⟨p,i,none⟩=some v:=by
 simp[World.cell?,h,hi]
theorem HTwo.sx{s:Nat}{a b:Int × Int × Int}{w:World}(h:HTwo s a b w) :
 w.cell? ⟨s,0,none⟩=some (.int .i64 a.1)∧w.cell? ⟨s,1,none⟩=some (.int .u64 a.2.1)∧w.cell? ⟨s,2,none⟩=some (.int .i64 a.2.2) ∧
 w.cell? ⟨s+1,0,none⟩=some (.int .i64 b.1)∧w.cell? ⟨s+1,1,none⟩=some (.int .u64 b.2.1)∧w.cell? ⟨s+1,2,none⟩=some (.int .i64 b.2.2):=
 ⟨cell_ent h.a rfl,cell_ent h.a rfl,cell_ent h.a rfl,cell_ent h.b rfl,cell_ent h.b rfl,cell_ent h.b rfl⟩
theorem HTwo.alloc{s:Nat}{a b:Int × Int × Int}{w:World}(h:HTwo s a b w)(o:Obj):HTwo s a b (w.alloc o):=by
 have h1:s<w.heap.size:=by obtain⟨hl,_⟩:=Array.getElem?_eq_some_iff.1 h.a;exact hl
 have h2:s+1<w.heap.size:=by obtain⟨hl,_⟩:=Array.getElem?_eq_some_iff.1 h.b;exact hl
 exact⟨(Below.heap_alloc w o s h1).trans h.a,(Below.heap_alloc w o _ h2).trans h.b⟩
theorem compare_any(a1 a2 a3 b1 b2 b3:Int)(w:World) :
 Calls Tryz.prog 215 #[.agg #[.int .i64 a1, .int .u64 a2, .int .i64 a3], .agg #[.int .i64 b1, .int .u64 b2, .int .i64 b3]] w fun e w'=>e = .returned (.int .i64 (cmpE (a1,a2,a3) (b1,b2,b3)))∧Below w.heap.size w w':=by
 go_enter Tryz.func215,Tryz.ntmps215
 go_upto_region 1 with (fail)
 have HT:∀ y:World,y=(w.alloc (.cells #[.int .i64 a1, .int .u64 a2, .int .i64 a3] 237)).alloc (.cells #[.int .i64 b1, .int .u64 b2, .int .i64 b3] 237)→Hid (HTwo w.heap.size (a1,a2,a3) (b1,b2,b3) y.drew∧Below w.heap.size w y.drew):=by
  rintro y rfl
  refine⟨⟨(Below.heap_alloc _ _ _ (by simp)).trans (Deep.blk_alloc_new _ _),?_⟩,((Below.refl _ _).alloc (Nat.le_refl _) _).alloc (by simp) _ |>.trans (Quiet.below ⟨1,rfl⟩ _)⟩
  have:=Deep.blk_alloc_new (w.alloc (.cells #[.int .i64 a1, .int .u64 a2, .int .i64 a3] 237)) (.cells #[.int .i64 b1, .int .u64 b2, .int .i64 b3] 237)
  rw[World.size_alloc]at this
  exact this
 obtain⟨y,hy⟩:∃ y,y=(w.alloc (.cells #[.int .i64 a1, .int .u64 a2, .int .i64 a3] 237)).alloc (.cells #[.int .i64 b1, .int .u64 b2, .int .i64 b3] 237):=⟨_,rfl⟩
 have H:=HT y hy
 rw[←hy]
 clear HT hy
 obtain⟨s,hs⟩:∃ s,s=w.heap.size:=⟨_,rfl⟩
 rw[←hs]at H ⊢
 have HD:=hid H.out.1
 have HB:=hid H.out.2
 have HW:=hid hs
 have HO:=hid (fun(x z q:Int) (v:World)=>or_three x z q v.heap.size (v.alloc (.cells #[.int .i64 x, .int .i64 z, .int .i64 q] 3)).drew (by simp) (by simp) (by simp))
 clear H hs
 go_region_held3 (fun w'=>w'.cell? ⟨s,0,none⟩=some (.int .i64 a1)∧w'.cell? ⟨s,1,none⟩=some (.int .u64 a2)∧w'.cell? ⟨s,2,none⟩=some (.int .i64 a3) ∧
  w'.cell? ⟨s+1,0,none⟩=some (.int .i64 b1)∧w'.cell? ⟨s+1,1,none⟩=some (.int .u64 b2)∧w'.cell? ⟨s+1,2,none⟩=some (.int .i64 b3))
  (first
   | exact HD.out.sx
   | exact(HD.out.alloc _).sx)
  (first
   | (go_at_call 219;with_reducible refine(cmp_a _ _ _).mono ?_;rintro e w' ⟨rfl,rfl⟩)
   | (go_at_call 220;with_reducible refine(cmp_b _ _ _).mono ?_;rintro e w' ⟨rfl,rfl⟩)
   | (go_at_call 221;with_reducible refine(cmp_c _ _ _).mono ?_;rintro e w' ⟨rfl,rfl⟩)
   | (go_at_call 218;with_reducible refine(HO.out _ _ _ _).mono ?_;rintro e w' ⟨rfl,rfl⟩))
 all_goals
  go_wp2
  go_ret
  exact⟨rfl,by
   have h:=HB.out.alloc (by have:=HB.out.size;have:=HW.out;omega) (.cells #[.int .i64 (c3 a1 b1), .int .i64 (c3 a2 b2), .int .i64 (c3 a3 b3)] 3)
   rw[HW.out]at h
   exact h⟩
theorem ahead_any(a1 a2 a3 b1 b2 b3:Int)(w:World) :
 Calls Tryz.prog 204 #[.agg #[.int .i64 a1, .int .u64 a2, .int .i64 a3], .agg #[.int .i64 b1, .int .u64 b2, .int .i64 b3]] w fun e w'=>e = .returned (.bool (aheadE (a1,a2,a3) (b1,b2,b3)))∧Below w.heap.size w w':=by
 go_enter Tryz.func204,Tryz.ntmps204
 go_wp2_with fail
 refine(compare_any a1 a2 a3 b1 b2 b3 _).mono ?_
 rintro e w1 ⟨rfl,hb1⟩
 have HB:=hid (((Below.refl w.heap.size w).alloc (Nat.le_refl _) (.cells #[.int .i64 a1, .int .u64 a2, .int .i64 a3] 237)).alloc (by simp) (.cells #[.int .i64 b1, .int .u64 b2, .int .i64 b3] 237) |>.trans (hb1.mono (by simp;omega)))
 clear hb1
 go_wp2
 go_ret
 exact⟨rfl,HB.out⟩
def fl (es:List (Int × Int × Int)):List Value:=es.flatMap ent
theorem fl_cons(e:Int × Int × Int)(es:List (Int × Int × Int)):fl (e :: es) = .int .i64 e.1 :: .int .u64 e.2.1 :: .int .i64 e.2.2 :: fl es:=by simp[fl,ent]
theorem fl_len:∀ es:List (Int × Int × Int),(fl es).length=es.length*3
 | []=>rfl
 | e :: es=>by rw[fl_cons];simp[fl_len es];omega
theorem fl_app(xs ys:List (Int × Int × Int)):fl (xs ++ ys)=fl xs ++ fl ys:=by simp[fl]
def enAt (es:List (Int × Int × Int))(i:Nat):Int × Int × Int:=es.getD i (0,0,0)
theorem fl_get:∀(es:List (Int × Int × Int)) (i:Nat),i<es.length →
 (fl es)[i*3]? = some (.int .i64 (enAt es i).1)∧(fl es)[i*3+1]? = some (.int .u64 (enAt es i).2.1)∧(fl es)[i*3+2]? = some (.int .i64 (enAt es i).2.2)
 | [],i,h=>by simp at h
 | e :: es,0,_=>by rw[fl_cons];simp[enAt]
 | e :: es,i+1,h=>by
   have:=fl_get es i (by simpa using h)
   rw[fl_cons]
   simp only[show (i+1)*3=i*3+1+1+1 by omega,List.getElem?_cons_succ]
   simpa[enAt] using this
theorem fl_set:∀(es:List (Int × Int × Int)) (i:Nat) (e:Int × Int × Int),i<es.length →
 fl (es.set i e)=(((fl es).set (i*3) (.int .i64 e.1)).set (i*3+1) (.int .u64 e.2.1)).set (i*3+2) (.int .i64 e.2.2)
 | [],i,e,h=>by simp at h
 | x :: es,0,e,_=>by simp[fl_cons]
 | x :: es,i+1,e,h=>by
   have:=fl_set es i e (by simpa using h)
   rw[List.set_cons_succ,fl_cons,this,fl_cons]
   simp only[show (i+1)*3=i*3+1+1+1 by omega,show i*3+1+1+1+1=(i*3+1)+1+1+1 by omega,show i*3+1+1+1+2=(i*3+2)+1+1+1 by omega,List.set_cons_succ]
structure Hp(w:World)(base p:Nat)(v:Value)(es:List (Int × Int × Int)):Prop where
 st:w.heap[p]? = some (.cells #[v] 193 (0,0))
 own:w.ownsRow base 237 3 v es.length (fl es)
 ne:v.ownBlock≠some p
 len:es.length≤100000
namespace Hp
variable {w w':World}{base p:Nat}{v:Value}{es:List (Int × Int × Int)}
theorem lt(h:Hp w base p v es):p<w.heap.size:=by obtain⟨hl,_⟩:=Array.getElem?_eq_some_iff.1 h.st;exact hl
theorem c0(h:Hp w base p v es):w.cell? ⟨p,0,none⟩=some v:=cell_ent h.st rfl
theorem f0(h:Hp w base p v es):w.frozen? ⟨p,0,none⟩=false:=by simp[World.frozen?,h.st]
theorem slice(h:Hp w base p v es):∃ a c,v = .slice a es.length c:=by
 obtain⟨h0,⟨h1,h2⟩|⟨q,cap,cur,h1,h2⟩⟩:=h.own
 ·exact⟨none,0,by rw[h1,h2]⟩
 ·exact⟨_,_,h1⟩
theorem kept(h:Hp w base p v es)(hp:w'.heap[p]? = w.heap[p]?)(hk:∀ q,v.ownBlock=some q→w'.heap[q]? = w.heap[q]?):Hp w' base p v es:=by
 refine⟨hp.trans h.st,?_,h.ne,h.len⟩
 obtain⟨h0,h1|⟨q,cap,cur,h1,h2,h3,h4⟩⟩:=h.own
 ·exact⟨h0, .inl h1⟩
 ·exact⟨h0, .inr ⟨q,cap,cur,h1,h2,(hk q (by rw[h1];rfl)).trans h3,h4⟩⟩
theorem pos{a:Option Addr}{n c:Nat}(h:Hp w base p (.slice a n c) es)(hn:0<es.length):∃ g,a=some ⟨g,0,none⟩∧n=es.length∧n≤c∧c≤maxLen∧base≤g∧g<w.heap.size∧g≠p:=by
 obtain⟨h0,⟨h1,h2⟩|⟨q,cap,cur,h1,h2,h3,h4,h5,_⟩⟩:=h.own
 ·omega
 ·simp only[Value.slice.injEq]at h1
  obtain⟨rfl,rfl,rfl⟩:=h1
  obtain⟨hl,_⟩:=Array.getElem?_eq_some_iff.1 h3
  exact⟨q,rfl,rfl,h4,h5,h2,hl,fun e=>h.ne (by rw[←e];rfl)⟩
theorem cells{g c:Nat}(h:Hp w base p (.slice (some ⟨g,0,none⟩) es.length c) es)(i:Nat)(hi:i<es.length) :
 w.cell? ⟨g,i*3,none⟩=some (.int .i64 (enAt es i).1)∧w.cell? ⟨g,i*3+1,none⟩=some (.int .u64 (enAt es i).2.1)∧w.cell? ⟨g,i*3+2,none⟩=some (.int .i64 (enAt es i).2.2):=by
 obtain⟨h1,h2,h3⟩:=fl_get es i hi
 have k:=fun j=>h.own.cellAt (g:=g) (cap:=c) j
 have hl:=fl_len es
 exact⟨(k _ (by omega)).trans h1,(k _ (by omega)).trans h2,(k _ (by omega)).trans h3⟩
theorem frees{g c:Nat}{n:Nat}(h:Hp w base p (.slice (some ⟨g,0,none⟩) n c) es)(i:Nat):w.frozen? ⟨g,i,none⟩=false:=by
 obtain⟨h0,⟨h1,h2⟩|⟨q,cap,cur,h1,h2,h3,h4,h5,_⟩⟩:=h.own
 ·cases h1
 ·simp only[Value.slice.injEq,Option.some.injEq,Addr.mk.injEq]at h1
  obtain⟨⟨rfl,_⟩,_⟩:=h1
  simp[World.frozen?,h3]
end Hp
structure OnlyH(p:Nat)(base:Nat)(w w':World):Prop where
 os:w'.os=w.os
 tape:w'.tape=w.tape
 output:w'.output=w.output
 size:w.heap.size≤w'.heap.size
 block:∀ k,k<w.heap.size→k≠base→k≠p→w'.heap[k]? = w.heap[k]?
theorem hlen(w:World)(base p:Nat)(v:Value)(es:List (Int × Int × Int))(h:Hp w base p v es) :
 Calls Tryz.prog 206 #[.pointer (some ⟨p,0,none⟩)] w fun e w'=>e = .returned (.int .i64 es.length)∧w'=w:=by
 obtain⟨a,c,rfl⟩:=h.slice
 have c0:=h.c0
 clear h
 go_enter Tryz.func206,Tryz.ntmps206
 go_wp2
 go_ret
 exact⟨rfl,rfl⟩
theorem own_set{w:World}{base g n c sz:Nat}{t:TypeId}{xs:List Value}(h:w.ownsRow base t sz (.slice (some ⟨g,0,none⟩) n c) n xs)(k:Nat)(u:Value) :
 (w.setCell ⟨g,k,none⟩ u).ownsRow base t sz (.slice (some ⟨g,0,none⟩) n c) n (xs.set k u):=by
 obtain⟨h0,⟨h1,h2⟩|⟨q,cap,cur,h1,h2,h3,h4,h5,h6,h7⟩⟩:=h
 ·cases h1
 ·simp only[Value.slice.injEq,Option.some.injEq,Addr.mk.injEq]at h1
  obtain⟨⟨rfl,_⟩,_,rfl⟩:=h1
  refine⟨by simpa using h0, .inr ⟨g,c,cur.setIfInBounds k u,rfl,h2,by simp[World.setCell,Array.getElem?_modify,h3],h4,h5,by simpa using h6,?_⟩⟩
  rw[Array.toList_setIfInBounds,List.take_set,h7]
def sw (es:List (Int × Int × Int))(i j:Nat):List (Int × Int × Int):=(es.set i (enAt es j)).set j (enAt es i)
theorem sw_len(es:List (Int × Int × Int))(i j:Nat):(sw es i j).length=es.length:=by simp[sw]
theorem OnlyH.refl{p base:Nat}(w:World):OnlyH p base w w:=⟨rfl,rfl,rfl,Nat.le_refl _,fun _ _ _ _=>rfl⟩
theorem OnlyH.trans{p base:Nat}{a b c:World}(h:OnlyH p base a b)(k:OnlyH p base b c):OnlyH p base a c:=
 ⟨k.os.trans h.os,k.tape.trans h.tape,k.output.trans h.output,Nat.le_trans h.size k.size,fun i h1 h2 h3=>(k.block i (Nat.lt_of_lt_of_le h1 h.size) h2 h3).trans (h.block i h1 h2 h3)⟩
theorem OnlyH.set{p base g:Nat}(w:World)(k:Nat)(u:Value)(hg:base=g∨g=p):OnlyH p base w (w.setCell ⟨g,k,none⟩ u):=
 ⟨rfl,rfl,rfl,by simp[World.setCell],fun i _ h2 h3=>Below.heap_setCell _ _ _ _ (by show i≠g;omega)⟩
theorem OnlyH.drew{p base:Nat}(w:World):OnlyH p base w w.drew:=⟨rfl,rfl,rfl,Nat.le_refl _,fun _ _ _ _=>rfl⟩
def SwapPost(base p g:Nat)(v:Value)(es:List (Int × Int × Int))(w:World)(e:Ending)(w':World):Prop:=e = .returned (.tuple #[])∧Hp w' base p v es∧OnlyH p g w w'
structure Rw(w:World)(base p g n c:Nat)(xs:List Value):Prop where
 st:w.heap[p]? = some (.cells #[.slice (some ⟨g,0,none⟩) n c] 193 (0,0))
 own:w.ownsRow base 237 3 (.slice (some ⟨g,0,none⟩) n c) n xs
theorem Rw.set{w:World}{base p g n c:Nat}{xs:List Value}(h:Rw w base p g n c xs)(hne:g≠p)(k:Nat)(u:Value):Rw (w.setCell ⟨g,k,none⟩ u) base p g n c (xs.set k u):=
 ⟨(Below.heap_setCell _ _ _ _ (fun e=>hne e.symm)).trans h.st,own_set h.own k u⟩
theorem swap_fin{w:World}{base p g c i j:Nat}{es:List (Int × Int × Int)}(h:Hp w base p (.slice (some ⟨g,0,none⟩) es.length c) es)(hi:i<es.length)(hj:j<es.length)(x1 x2 x3 y1 y2 y3:Int)
 (hx:enAt es i=(x1,x2,x3))(hy:enAt es j=(y1,y2,y3)) :
 Hid (SwapPost base p g (.slice (some ⟨g,0,none⟩) es.length c) (sw es i j) w (.returned (.tuple #[]))
  ((((((w.setCell ⟨g,i*3,none⟩ (.int .i64 y1)).setCell ⟨g,i*3+1,none⟩ (.int .u64 y2)).setCell ⟨g,i*3+2,none⟩ (.int .i64 y3)).setCell ⟨g,j*3,none⟩ (.int .i64 x1)).setCell ⟨g,j*3+1,none⟩ (.int .u64 x2)).setCell ⟨g,j*3+2,none⟩ (.int .i64 x3)).drew):=by
 have hb:base≤g∧g≠p:=by
  obtain⟨g',h1,_,_,_,h2,_,h3⟩:=h.pos (by omega)
  simp only[Option.some.injEq,Addr.mk.injEq]at h1
  exact⟨h1.1 ▸ h2,h1.1 ▸ h3⟩
 have R0:Rw w base p g es.length c (fl es):=⟨h.st,h.own⟩
 have R6:=(((((R0.set hb.2 (i*3) (.int .i64 y1)).set hb.2 (i*3+1) (.int .u64 y2)).set hb.2 (i*3+2) (.int .i64 y3)).set hb.2 (j*3) (.int .i64 x1)).set hb.2 (j*3+1) (.int .u64 x2)).set hb.2 (j*3+2) (.int .i64 x3)
 have O6:=((((((OnlyH.set (p:=p) (base:=g) (g:=g) w (i*3) (.int .i64 y1) (.inl rfl)).trans (OnlyH.set _ (i*3+1) (.int .u64 y2) (.inl rfl))).trans (OnlyH.set _ (i*3+2) (.int .i64 y3) (.inl rfl))).trans (OnlyH.set _ (j*3) (.int .i64 x1) (.inl rfl))).trans (OnlyH.set _ (j*3+1) (.int .u64 x2) (.inl rfl))).trans (OnlyH.set _ (j*3+2) (.int .i64 x3) (.inl rfl))).trans (OnlyH.drew _)
 have e:fl (sw es i j)=_:=(fl_set (es.set i (enAt es j)) j (enAt es i) (by simpa using hj)).trans (by rw[fl_set es i (enAt es j) hi])
 rw[hx,hy]at e
 generalize (((((w.setCell ⟨g,i*3,none⟩ (.int .i64 y1)).setCell ⟨g,i*3+1,none⟩ (.int .u64 y2)).setCell ⟨g,i*3+2,none⟩ (.int .i64 y3)).setCell ⟨g,j*3,none⟩ (.int .i64 x1)).setCell ⟨g,j*3+1,none⟩ (.int .u64 x2)).setCell ⟨g,j*3+2,none⟩ (.int .i64 x3)=W at R6 O6 ⊢
 have HW:Hp W base p (.slice (some ⟨g,0,none⟩) es.length c) (sw es i j):=⟨R6.st,by rw[sw_len,e];exact R6.own,h.ne,by rw[sw_len];exact h.len⟩
 exact⟨rfl,HW.kept rfl (fun _ _=>rfl),O6⟩
theorem swap_any(w:World)(base p g c i j:Nat)(es:List (Int × Int × Int))(h:Hp w base p (.slice (some ⟨g,0,none⟩) es.length c) es)(hi:i<es.length)(hj:j<es.length) :
 Calls Tryz.prog 207 #[.pointer (some ⟨p,0,none⟩), .int .i64 i, .int .i64 j] w (SwapPost base p g (.slice (some ⟨g,0,none⟩) es.length c) (sw es i j) w):=by
 have c0:=h.c0
 obtain⟨i0,i1,i2⟩:=h.cells i hi
 obtain⟨j0,j1,j2⟩:=h.cells j hj
 have hl:=h.len
 have H:=hid h
 obtain⟨x1,hx1⟩:∃ x,x=(enAt es i).1:=⟨_,rfl⟩
 obtain⟨x2,hx2⟩:∃ x,x=(enAt es i).2.1:=⟨_,rfl⟩
 obtain⟨x3,hx3⟩:∃ x,x=(enAt es i).2.2:=⟨_,rfl⟩
 obtain⟨y1,hy1⟩:∃ x,x=(enAt es j).1:=⟨_,rfl⟩
 obtain⟨y2,hy2⟩:∃ x,x=(enAt es j).2.1:=⟨_,rfl⟩
 obtain⟨y3,hy3⟩:∃ x,x=(enAt es j).2.2:=⟨_,rfl⟩
 rw[←hx1]at i0
 rw[←hx2]at i1
 rw[←hx3]at i2
 rw[←hy1]at j0
 rw[←hy2]at j1
 rw[←hy3]at j2
 have FIN:=swap_fin h hi hj x1 x2 x3 y1 y2 y3 (by rw[hx1,hx2,hx3]) (by rw[hy1,hy2,hy3])
 have FIE:=hid (fun(e:i=j)=>swap_fin h hi hj x1 x2 x3 x1 x2 x3 (by rw[hx1,hx2,hx3]) (by rw[←e,hx1,hx2,hx3]))
 clear h hx1 hx2 hx3 hy1 hy2 hy3
 have fr:=H.out.frees
 have f0:=fr (i*3)
 have f1:=fr (i*3+1)
 have f2:=fr (i*3+2)
 have e0:=fr (j*3)
 have e1:=fr (j*3+1)
 have e2:=fr (j*3+2)
 clear fr
 rcases Nat.lt_trichotomy i j with hij|hij|hij
 ·have hij':(i:Int)<j:=by omega
  go_enter Tryz.func207,Tryz.ntmps207
  go_wp2_with fail
  go_region
  go_wp2
  go_end0
  exact FIN.out
 ·subst hij
  go_enter Tryz.func207,Tryz.ntmps207
  go_wp2_with fail
  go_region
  go_wp2
  go_end0
  exact(FIE.out (by trivial)).out
 ·have hij':(j:Int)<i:=by omega
  go_enter Tryz.func207,Tryz.ntmps207
  go_wp2_with fail
  go_region
  go_wp2
  go_end0
  exact FIN.out
theorem OnlyH.of_below{p base:Nat}{w w':World}(h:Below w.heap.size w w'):OnlyH p base w w':=⟨h.os,h.tape,h.output,h.size,fun k hk _ _=>h.block k hk⟩
theorem Hp.below{w w':World}{base p:Nat}{v:Value}{es:List (Int × Int × Int)}(h:Hp w base p v es)(hb:Below w.heap.size w w'):Hp w' base p v es:=by
 refine h.kept (hb.block _ h.lt) (fun q hq=>hb.block q ?_)
 obtain⟨h0,⟨h1,h2⟩|⟨q',cap,cur,h1,h2,h3,_⟩⟩:=h.own
 ·rw[h1]at hq;simp[Value.ownBlock]at hq
 ·rw[h1]at hq
  simp only[Value.ownBlock,Option.some.injEq]at hq
  subst hq
  obtain⟨hl,_⟩:=Array.getElem?_eq_some_iff.1 h3
  exact hl
structure Hs(w0:World)(base p g n c:Nat)(es:List (Int × Int × Int))(w:World):Prop where
 hp:Hp w base p (.slice (some ⟨g,0,none⟩) n c) es
 hn:es.length=n
 ho:OnlyH p g w0 w
 hc:n≤c
 hm:c≤maxLen
namespace Hs
variable {w0 w w':World}{base p g n c:Nat}{es:List (Int × Int × Int)}
theorem below(h:Hs w0 base p g n c es w)(hb:Below w.heap.size w w'):Hs w0 base p g n c es w':=⟨h.hp.below hb,h.hn,h.ho.trans (.of_below hb),h.hc,h.hm⟩
theorem drew(h:Hs w0 base p g n c es w):Hs w0 base p g n c es w.drew:=⟨h.hp.kept rfl (fun _ _=>rfl),h.hn,h.ho.trans (.drew _),h.hc,h.hm⟩
theorem cells(h:Hs w0 base p g n c es w)(i:Nat)(hi:i<n) :
 w.cell? ⟨g,i*3,none⟩=some (.int .i64 (enAt es i).1)∧w.cell? ⟨g,i*3+1,none⟩=some (.int .u64 (enAt es i).2.1)∧w.cell? ⟨g,i*3+2,none⟩=some (.int .i64 (enAt es i).2.2):=by
 obtain⟨hp,rfl,_⟩:=h
 exact hp.cells i hi
theorem le(h:Hs w0 base p g n c es w):n≤100000:=by have:=h.hp.len;rw[h.hn]at this;exact this
theorem swap(h:Hs w0 base p g n c es w)(i j:Nat)(hi:i<n)(hj:j<n) :
 Calls Tryz.prog 207 #[.pointer (some ⟨p,0,none⟩), .int .i64 i, .int .i64 j] w fun e w'=>e = .returned (.tuple #[])∧Hs w0 base p g n c (sw es i j) w':=by
 obtain⟨hp,rfl,ho,h3,h4⟩:=h
 refine(swap_any w base p g c i j es hp hi hj).mono ?_
 rintro e w' ⟨rfl,h1,h2⟩
 exact⟨rfl,h1,by rw[sw_len],ho.trans h2,h3,h4⟩
end Hs
theorem ahead_r(a1 a2 a3 b1 b2 b3:Int)(r:Bool)(hr:aheadE (a1,a2,a3) (b1,b2,b3)=r)(w:World) :
 Calls Tryz.prog 204 #[.agg #[.int .i64 a1, .int .u64 a2, .int .i64 a3], .agg #[.int .i64 b1, .int .u64 b2, .int .i64 b3]] w fun e w'=>e = .returned (.bool r)∧Below w.heap.size w w':=by
 subst hr;exact ahead_any a1 a2 a3 b1 b2 b3 w
def riseF:Nat→List (Int × Int × Int)→Nat→List (Int × Int × Int)
 | 0,es,_=>es
 | f+1,es,i=>if i=0 then es else if aheadE (enAt es i) (enAt es ((i - 1) / 4)) then riseF f (sw es i ((i - 1) / 4)) ((i - 1) / 4) else es
theorem rise_any(w:World)(base p g n c i:Nat)(es:List (Int × Int × Int))(h:Hs w base p g n c es w)(hi:i<n) :
 Calls Tryz.prog 222 #[.pointer (some ⟨p,0,none⟩), .int .i64 i] w fun e w'=>e = .returned (.tuple #[])∧Hs w base p g n c (riseF i es i) w':=by
 have hn:=h.le
 have hc:=h.hc
 have hm:=h.hm
 unfold maxLen at hm
 have H:=hid h
 obtain⟨T,hT⟩:∃ T,T=riseF i es i:=⟨_,rfl⟩
 have HT:=hid hT
 rw[←hT]
 clear h hT
 go_enter Tryz.func222,Tryz.ntmps222
 go_wp2_with fail
 go_loopw [1] (fun s wr=>∃(f k:Nat) (ks:List (Int × Int × Int)),k≤f∧k<n∧s = .int .i64 k∧Hid (Hs w base p g n c ks wr)∧Hid (T=riseF f ks k)) (fun s _=>(intOf s).toNat)
 case atStart=>exact⟨i,i,es,Nat.le_refl _,hi,rfl,H,HT⟩
 case round=>
  clear H HT
  obtain⟨f,k,ks,hkf,hkn,rfl,H,HT⟩:=hrel
  by_cases k0:k=0
  ·have HZ:Hid (T=ks):=by
    have:=HT.out
    rw[k0]at this
    cases f with
    | zero=>exact this
    | succ f=>exact(show T=ks by simpa[riseF] using this)
   have t0:¬(0:Int)<k:=by omega
   clear k0
   go_wp2
   go_end0
   exact⟨rfl,by rw[HZ.out];exact H.out⟩
  ·have t0:(0:Int)<k:=by omega
   obtain⟨f,rfl⟩:∃ f',f=f'+1:=⟨f - 1,by omega⟩
   obtain⟨a,ha⟩:∃ a:Nat,a=(k - 1) / 4:=⟨_,rfl⟩
   have hak:a<k:=by omega
   have han:(a:Int)<n:=by omega
   have ha0:(0:Int)≤a:=by omega
   have w1:IntKind.i64.wrap ((k:Int) - 1)=(k:Int) - 1:=IntWalk.i64_in _ (by omega)
   have w2:((k:Int) - 1).tdiv 4=a:=by rw[Int.tdiv_eq_ediv_of_nonneg (by omega)];omega
   have w3:IntKind.i64.wrap (a:Int)=a:=IntWalk.i64_in _ (by omega)
   have HT2:Hid (T=if aheadE (enAt ks k) (enAt ks a) then riseF f (sw ks k a) a else ks):=by
    have:=HT.out
    simp only[riseF,if_neg k0, ←ha]at this
    exact this
   clear HT ha
   obtain⟨x1,hx1⟩:∃ x,x=(enAt ks k).1:=⟨_,rfl⟩
   obtain⟨x2,hx2⟩:∃ x,x=(enAt ks k).2.1:=⟨_,rfl⟩
   obtain⟨x3,hx3⟩:∃ x,x=(enAt ks k).2.2:=⟨_,rfl⟩
   obtain⟨y1,hy1⟩:∃ x,x=(enAt ks a).1:=⟨_,rfl⟩
   obtain⟨y2,hy2⟩:∃ x,x=(enAt ks a).2.1:=⟨_,rfl⟩
   obtain⟨y3,hy3⟩:∃ x,x=(enAt ks a).2.2:=⟨_,rfl⟩
   have SX:=hid (fun(y:World) (h:Hs w base p g n c ks y)=>(show y.cell? ⟨p,0,none⟩=some (.slice (some ⟨g,0,none⟩) n c) ∧
    y.cell? ⟨g,k*3,none⟩=some (.int .i64 x1)∧y.cell? ⟨g,k*3+1,none⟩=some (.int .u64 x2)∧y.cell? ⟨g,k*3+2,none⟩=some (.int .i64 x3) ∧
    y.cell? ⟨g,a*3,none⟩=some (.int .i64 y1)∧y.cell? ⟨g,a*3+1,none⟩=some (.int .u64 y2)∧y.cell? ⟨g,a*3+2,none⟩=some (.int .i64 y3) by
    obtain⟨i1,i2,i3⟩:=h.cells k hkn
    obtain⟨j1,j2,j3⟩:=h.cells a (by omega)
    exact⟨h.hp.c0,by rw[hx1];exact i1,by rw[hx2];exact i2,by rw[hx3];exact i3,by rw[hy1];exact j1,by rw[hy2];exact j2,by rw[hy3];exact j3⟩))
   have HD:=hid H.out.drew
   obtain⟨r,hr⟩:∃ r,aheadE (x1,x2,x3) (y1,y2,y3)=r:=⟨_,rfl⟩
   have HR:Hid (aheadE (enAt ks k) (enAt ks a)=r):=by rw[←hr,hx1,hx2,hx3,hy1,hy2,hy3];exact rfl
   have AH:=hid (fun y=>ahead_r x1 x2 x3 y1 y2 y3 r hr y)
   clear hx1 hx2 hx3 hy1 hy2 hy3 hr H k0
   rcases r with _|_
   ·go_upto_region 2 with (fail)
    go_region_held3 (fun y=>y.cell? ⟨p,0,none⟩=some (.slice (some ⟨g,0,none⟩) n c) ∧
     y.cell? ⟨g,k*3,none⟩=some (.int .i64 x1)∧y.cell? ⟨g,k*3+1,none⟩=some (.int .u64 x2)∧y.cell? ⟨g,k*3+2,none⟩=some (.int .i64 x3) ∧
     y.cell? ⟨g,a*3,none⟩=some (.int .i64 y1)∧y.cell? ⟨g,a*3+1,none⟩=some (.int .u64 y2)∧y.cell? ⟨g,a*3+2,none⟩=some (.int .i64 y3))
     (first
      | exact SX.out _ H1.out
      | exact SX.out _ HD.out)
     (first
      | (go_at_call 204;with_reducible refine(AH.out _).mono ?_;rintro e y1 ⟨rfl,hb1⟩;have H1:=hid (HD.out.below hb1);clear hb1))
    have HF:Hid (T=ks):=by have:=HT2.out;rw[HR.out]at this;exact this
    clear SX HD AH
    go_wp2
    refine bodyPost_ret (results_none rfl _ _ _) rfl ?_
    exact⟨rfl,by rw[HF.out];exact H1.out⟩
   ·go_upto_region 2 with (fail)
    go_region_held3 (fun y=>y.cell? ⟨p,0,none⟩=some (.slice (some ⟨g,0,none⟩) n c) ∧
     y.cell? ⟨g,k*3,none⟩=some (.int .i64 x1)∧y.cell? ⟨g,k*3+1,none⟩=some (.int .u64 x2)∧y.cell? ⟨g,k*3+2,none⟩=some (.int .i64 x3) ∧
     y.cell? ⟨g,a*3,none⟩=some (.int .i64 y1)∧y.cell? ⟨g,a*3+1,none⟩=some (.int .u64 y2)∧y.cell? ⟨g,a*3+2,none⟩=some (.int .i64 y3))
     (first
      | exact SX.out _ H1.out
      | exact SX.out _ HD.out)
     (first
      | (go_at_call 204;with_reducible refine(AH.out _).mono ?_;rintro e y1 ⟨rfl,hb1⟩;have H1:=hid (HD.out.below hb1);clear hb1))
    have HF:Hid (T=riseF f (sw ks k a) a):=by have:=HT2.out;rw[HR.out]at this;exact this
    clear SX HD AH
    go_wp2_with fail
    refine(H1.out.swap k a hkn (by omega)).mono ?_
    rintro e y2 ⟨rfl,h2⟩
    have H2:=hid h2
    clear h2 w1 w2 w3
    go_wp2
    go_roundw
    case rel=>exact⟨f,a,sw ks k a,by omega,by omega,rfl,H2,HF⟩
    case measure=>simp[intOf];omega
def kid (es:List (Int × Int × Int))(n l c:Nat):Nat:=if c<n∧aheadE (enAt es c) (enAt es l)=true then c else l
def hlk (es:List (Int × Int × Int))(n i:Nat):Nat→Nat
 | 0=>i
 | k+1=>kid es n (hlk es n i k) (4*i+1+k)
theorem kid_yes{es:List (Int × Int × Int)}{n l c:Nat}(h:c<n)(ha:aheadE (enAt es c) (enAt es l)=true):kid es n l c=c:=by simp[kid,h,ha]
theorem kid_no{es:List (Int × Int × Int)}{n l c:Nat}(ha:aheadE (enAt es c) (enAt es l)=false):kid es n l c=l:=by simp[kid,ha]
theorem kid_out{es:List (Int × Int × Int)}{n l c:Nat}(h:n≤c):kid es n l c=l:=by
 unfold kid;rw[if_neg (by omega)]
theorem lk_lt(es:List (Int × Int × Int))(n i:Nat)(h:i<n):∀ j,hlk es n i j<n
 | 0=>h
 | j+1=>by
   have:=lk_lt es n i h j
   unfold hlk kid
   split <;> omega
theorem lk_stop(es:List (Int × Int × Int))(n i j:Nat)(h:n≤4*i+1+j):∀ d,hlk es n i (j+d)=hlk es n i j
 | 0=>rfl
 | d+1=>by
   show kid es n (hlk es n i (j+d)) (4*i+1+(j+d))=_
   rw[kid_out (by omega),lk_stop es n i j h d]
def sinkF:Nat→List (Int × Int × Int)→Nat→Nat→List (Int × Int × Int)
 | 0,es,_,_=>es
 | f+1,es,n,i=>if hlk es n i 4=i then es else sinkF f (sw es i (hlk es n i 4)) n (hlk es n i 4)
theorem Hs.len{w0 w:World}{base p g n c:Nat}{es:List (Int × Int × Int)}(h:Hs w0 base p g n c es w) :
 Calls Tryz.prog 206 #[.pointer (some ⟨p,0,none⟩)] w fun e w'=>e = .returned (.int .i64 n)∧w'=w:=by
 obtain⟨hp,rfl,_⟩:=h
 exact hlen w base p _ es hp
theorem sink_any(w:World)(base p g n c i:Nat)(es:List (Int × Int × Int))(h:Hs w base p g n c es w)(hi:i<n∨(n=0∧i=0)) :
 Calls Tryz.prog 208 #[.pointer (some ⟨p,0,none⟩), .int .i64 i] w fun e w'=>e = .returned (.tuple #[])∧Hs w base p g n c (sinkF (n+1) es n i) w':=by
 have hn:=h.le
 have hc:=h.hc
 have hm:=h.hm
 unfold maxLen at hm
 have H:=hid h
 obtain⟨T,hT⟩:∃ T,T=sinkF (n+1) es n i:=⟨_,rfl⟩
 have HT:=hid hT
 rw[←hT]
 clear h hT
 go_enter Tryz.func208,Tryz.ntmps208
 go_wp2_with fail
 go_step3
 go_wp2_with fail
 go_step3
 go_wp2_with fail
 go_loopw [1] (fun s wr=>∃(f k:Nat) (ks:List (Int × Int × Int)),n+1≤k+f∧(k<n∨(n=0∧k=0))∧s = .int .i64 k∧Hid (Hs w base p g n c ks wr)∧Hid (T=sinkF f ks n k)) (fun s _=>n - (intOf s).toNat)
 case atStart=>exact⟨n+1,i,es,by omega,hi,rfl,H,HT⟩
 case round=>
  clear H HT
  obtain⟨f,k,ks,hkf,hkn,rfl,H,HT⟩:=hrel
  obtain⟨wo,rfl⟩:∃ wo:World,wo=wr:=⟨_,rfl⟩
  obtain⟨f,rfl⟩:∃ f',f=f'+1:=⟨f - 1,by omega⟩
  have hk6:k≤100000:=by omega
  go_wp2_with fail
  go_loopw [4,5] (fun ls cs wr=>∃(l cc j:Nat),j≤4∧4*k+1+j≤cc∧cc≤4*k+1+j∧ls = .int .i64 l∧cs = .int .i64 cc∧Hid (Hs w base p g n c ks wr)∧Hid (l=hlk ks n k j)∧Hid (k≤l)∧Hid (l<n∨(n=0∧l=0))) (fun _ cs _=>4*k+6 - (intOf cs).toNat)
  case atStart=>exact⟨k,4*k+1,0,by omega,by omega,by omega,rfl,by go_num,H,hid rfl,Nat.le_refl _,hkn⟩
  case round=>
   clear H
   obtain⟨l,cc,j,hj,hc1,hc2,rfl,rfl,H,HL,HGE,HLT⟩:=hrel
   by_cases hj4:j<4
   ·have t1 : (cc:Int)≤4*k+4:=by omega
    go_wp2_with fail
    refine(H.out.len).mono ?_
    rintro e w' ⟨rfl,rfl⟩
    by_cases hcn:cc<n
    ·have t2:(cc:Int)<n:=by omega
     have hl:l<n:=by have:=HLT.out;omega
     have hl':(l:Int)<n:=by omega
     obtain⟨x1,hx1⟩:∃ x,x=(enAt ks cc).1:=⟨_,rfl⟩
     obtain⟨x2,hx2⟩:∃ x,x=(enAt ks cc).2.1:=⟨_,rfl⟩
     obtain⟨x3,hx3⟩:∃ x,x=(enAt ks cc).2.2:=⟨_,rfl⟩
     obtain⟨y1,hy1⟩:∃ x,x=(enAt ks l).1:=⟨_,rfl⟩
     obtain⟨y2,hy2⟩:∃ x,x=(enAt ks l).2.1:=⟨_,rfl⟩
     obtain⟨y3,hy3⟩:∃ x,x=(enAt ks l).2.2:=⟨_,rfl⟩
     have SX:=hid (fun(y:World) (h:Hs w base p g n c ks y)=>(show y.cell? ⟨p,0,none⟩=some (.slice (some ⟨g,0,none⟩) n c) ∧
      y.cell? ⟨g,cc*3,none⟩=some (.int .i64 x1)∧y.cell? ⟨g,cc*3+1,none⟩=some (.int .u64 x2)∧y.cell? ⟨g,cc*3+2,none⟩=some (.int .i64 x3) ∧
      y.cell? ⟨g,l*3,none⟩=some (.int .i64 y1)∧y.cell? ⟨g,l*3+1,none⟩=some (.int .u64 y2)∧y.cell? ⟨g,l*3+2,none⟩=some (.int .i64 y3) by
      obtain⟨i1,i2,i3⟩:=h.cells cc hcn
      obtain⟨j1,j2,j3⟩:=h.cells l hl
      exact⟨h.hp.c0,by rw[hx1];exact i1,by rw[hx2];exact i2,by rw[hx3];exact i3,by rw[hy1];exact j1,by rw[hy2];exact j2,by rw[hy3];exact j3⟩))
     have HD:=hid H.out.drew
     obtain⟨r,hr⟩:∃ r,aheadE (x1,x2,x3) (y1,y2,y3)=r:=⟨_,rfl⟩
     have HR:Hid (aheadE (enAt ks cc) (enAt ks l)=r):=by rw[←hr,hx1,hx2,hx3,hy1,hy2,hy3];exact rfl
     have AH:=hid (fun y=>ahead_r x1 x2 x3 y1 y2 y3 r hr y)
     have HK:Hid (hlk ks n k (j+1)=kid ks n l cc):=by
      show kid ks n (hlk ks n k j) (4*k+1+j)=_
      rw[←HL.out,show 4*k+1+j=cc by omega]
     clear hx1 hx2 hx3 hy1 hy2 hy3 hr H HL
     rcases r with _|_
     ·go_upto_region 5 with (fail)
      go_region_held3 (fun y=>y.cell? ⟨p,0,none⟩=some (.slice (some ⟨g,0,none⟩) n c) ∧
      y.cell? ⟨g,cc*3,none⟩=some (.int .i64 x1)∧y.cell? ⟨g,cc*3+1,none⟩=some (.int .u64 x2)∧y.cell? ⟨g,cc*3+2,none⟩=some (.int .i64 x3) ∧
      y.cell? ⟨g,l*3,none⟩=some (.int .i64 y1)∧y.cell? ⟨g,l*3+1,none⟩=some (.int .u64 y2)∧y.cell? ⟨g,l*3+2,none⟩=some (.int .i64 y3))
       (first
        | exact SX.out _ H1.out
        | exact SX.out _ HD.out)
       (first
        | (go_at_call 204;with_reducible refine(AH.out _).mono ?_;rintro e y1 ⟨rfl,hb1⟩;have H1:=hid (HD.out.below hb1);clear hb1))
      have HN:Hid (l=hlk ks n k (j+1)):=by rw[HK.out,kid_no HR.out];exact rfl
      clear SX HD AH HK
      go_wp2
      go_roundw
      case rel=>exact⟨l,cc+1,j+1,by omega,by omega,by omega,rfl,by go_num,H1,HN,HGE,HLT⟩
      case measure=>simp[intOf];omega
     ·go_upto_region 5 with (fail)
      go_region_held3 (fun y=>y.cell? ⟨p,0,none⟩=some (.slice (some ⟨g,0,none⟩) n c) ∧
      y.cell? ⟨g,cc*3,none⟩=some (.int .i64 x1)∧y.cell? ⟨g,cc*3+1,none⟩=some (.int .u64 x2)∧y.cell? ⟨g,cc*3+2,none⟩=some (.int .i64 x3) ∧
      y.cell? ⟨g,l*3,none⟩=some (.int .i64 y1)∧y.cell? ⟨g,l*3+1,none⟩=some (.int .u64 y2)∧y.cell? ⟨g,l*3+2,none⟩=some (.int .i64 y3))
       (first
        | exact SX.out _ H1.out
        | exact SX.out _ HD.out)
       (first
        | (go_at_call 204;with_reducible refine(AH.out _).mono ?_;rintro e y1 ⟨rfl,hb1⟩;have H1:=hid (HD.out.below hb1);clear hb1))
      have HN:Hid (cc=hlk ks n k (j+1)):=by rw[HK.out,kid_yes hcn HR.out];exact rfl
      have HG2:Hid (k≤cc):=(show k≤cc by omega)
      clear SX HD AH HK
      go_wp2
      go_roundw
      case rel=>exact⟨cc,cc+1,j+1,by omega,by omega,by omega,rfl,by go_num,H1,HN,HG2, .inl hcn⟩
      case measure=>simp[intOf];omega
    ·have t2:(n:Int)≤cc:=by omega
     have HL4:Hid (l=hlk ks n k 4):=by
      have:=lk_stop ks n k j (by omega) (4 - j)
      rw[show j+(4 - j)=4 by omega, ←HL.out]at this
      exact this.symm
     clear HL
     by_cases hlk:l=k
     ·have tl:((l:Int) == k)=true:=by simp[hlk]
      have HF:Hid (T=ks):=by
       have:=HT.out
       simp only[sinkF, ←HL4.out,if_pos hlk]at this
       exact this
      clear hlk HT HL4
      go_wp2
      try simp only[Exit.noGoto_normal,Exit.noGoto_ret]
      first
       | go_end0
       | refine bodyPost_ret (results_none rfl _ _ _) rfl ?_
       | trace_state
      exact⟨rfl,by rw[HF.out];exact H.out⟩
     ·have tl:((l:Int) == k)=false:=by simp;omega
      have hlg:k<l:=by have:=HGE.out;omega
      have hln:l<n:=by have:=HLT.out;omega
      have HF:Hid (T=sinkF f (sw ks k l) n l):=by
       have:=HT.out
       simp only[sinkF, ←HL4.out,if_neg hlk]at this
       exact this
      clear hlk HT HL4
      go_wp2_with fail
      refine(H.out.swap k l (by omega) hln).mono ?_
      rintro e y2 ⟨rfl,h2⟩
      have H2:=hid h2
      clear h2
      go_wp2
      go_roundw
      case rel=>exact⟨f,l,sw ks k l,by omega, .inl hln,rfl,H2,HF⟩
      case measure=>simp[intOf];omega
   ·have t1:¬(cc:Int)≤4*k+4:=by omega
    have HL4:Hid (l=hlk ks n k 4):=by
     have:=HL.out
     rw[show j=4 by omega]at this
     exact this
    clear HL
    by_cases hlk:l=k
    ·have tl:((l:Int) == k)=true:=by simp[hlk]
     have HF:Hid (T=ks):=by
      have:=HT.out
      simp only[sinkF, ←HL4.out,if_pos hlk]at this
      exact this
     clear hlk HT HL4
     go_wp2
     try simp only[Exit.noGoto_normal,Exit.noGoto_ret]
     first
      | go_end0
      | refine bodyPost_ret (results_none rfl _ _ _) rfl ?_
      | trace_state
     exact⟨rfl,by rw[HF.out];exact H.out⟩
    ·have tl:((l:Int) == k)=false:=by simp;omega
     have hlg:k<l:=by have:=HGE.out;omega
     have hln:l<n:=by have:=HLT.out;omega
     have HF:Hid (T=sinkF f (sw ks k l) n l):=by
      have:=HT.out
      simp only[sinkF, ←HL4.out,if_neg hlk]at this
      exact this
     clear hlk HT HL4
     go_wp2_with fail
     refine(H.out.swap k l (by omega) hln).mono ?_
     rintro e y2 ⟨rfl,h2⟩
     have H2:=hid h2
     clear h2
     go_wp2
     go_roundw
     case rel=>exact⟨f,l,sw ks k l,by omega, .inl hln,rfl,H2,HF⟩
     case measure=>simp[intOf];omega
theorem infoEnt:(Tryz.prog.info? 237).map (fun i=>(i.zero,i.size,i.bytes))=some (some (.agg #[.int .i64 0, .int .u64 0, .int .i64 0]),3,24):=by kernel_rfl
structure OnlyV(p:Nat)(base:Nat)(w w':World):Prop where
 os:w'.os=w.os
 tape:w'.tape=w.tape
 output:w'.output=w.output
 size:w.heap.size≤w'.heap.size
 block:∀ k,k<w.heap.size→k<base→k≠p→w'.heap[k]? = w.heap[k]?
theorem OnlyV.trans{p base:Nat}{a b c:World}(h:OnlyV p base a b)(k:OnlyV p base b c):OnlyV p base a c:=
 ⟨k.os.trans h.os,k.tape.trans h.tape,k.output.trans h.output,Nat.le_trans h.size k.size,fun i h1 h2 h3=>(k.block i (Nat.lt_of_lt_of_le h1 h.size) h2 h3).trans (h.block i h1 h2 h3)⟩
theorem OnlyV.of_h{p base g:Nat}{w w':World}(h:OnlyH p g w w')(hb:base≤g):OnlyV p base w w':=⟨h.os,h.tape,h.output,h.size,fun k h1 h2 h3=>h.block k h1 (by omega) h3⟩
theorem Hs.ge{w0 w:World}{base p g n c:Nat}{es:List (Int × Int × Int)}(h:Hs w0 base p g n c es w):base≤g∧g<w.heap.size∧g≠p:=by
 have hne:=h.hp.ne
 obtain⟨_,⟨h1,_⟩|⟨q,cap,cur,h1,h2,h3,_⟩⟩:=h.hp.own
 ·cases h1
 ·simp only[Value.slice.injEq,Option.some.injEq,Addr.mk.injEq]at h1
  obtain⟨⟨rfl,_⟩,_⟩:=h1
  obtain⟨hl,_⟩:=Array.getElem?_eq_some_iff.1 h3
  exact⟨h2,hl,fun e=>hne (by rw[←e];rfl)⟩
theorem put_fin{w w4:World}{base p gg cap n:Nat}{v:Value}{es:List (Int × Int × Int)}{a b c:Int}(h:Hp w base p v es)(hn:es.length=n)(hb:base≤w.heap.size)(hl:n<100000)(o1 o2:Obj)
 (hown:w4.ownsRow base 237 3 (.slice (some ⟨gg,0,none⟩) (n+1) cap) (n+1) (fl es ++ [.int .i64 a, .int .u64 b, .int .i64 c]))
 (hg:((w.alloc o1).alloc o2).drew.grownBy w4 v.ownBlock)(hat:v.ownBlock=some gg∨gg=w.heap.size+2)(W:World)(hW:W=w4.setCell ⟨p,0,none⟩ (.slice (some ⟨gg,0,none⟩) (n+1) cap)) :
 Hid (Hs W base p gg (n+1) cap (es ++ [(a,b,c)]) W∧OnlyV p base w W):=by
 subst hW
 have hp:=h.lt
 have hvp:=h.ne
 have hgp:gg≠p:=by
  rcases hat with e|e
  ·intro e2;exact hvp (by rw[e,e2])
  ·omega
 have hsz:=hg.size
 have hsz':w.heap.size+2≤w4.heap.size:=by simpa using hsz
 have hp4:w4.heap[p]? = some (.cells #[v] 193 (0,0)):=by
  rw[hg.block p (by simp;omega) (fun e=>hvp e.symm)]
  show ((w.alloc o1).alloc o2).heap[p]? = _
  rw[Below.heap_alloc _ _ _ (by simp;omega),Below.heap_alloc _ _ _ (by omega)];exact h.st
 have e1:fl (es ++ [(a,b,c)])=fl es ++ [.int .i64 a, .int .u64 b, .int .i64 c]:=by rw[fl_app];simp[fl,ent]
 obtain⟨_,⟨h1,h2⟩|⟨q,cap',cur,h1,h2,h3,h4,h5,_⟩⟩:=id hown
 ·cases h1
 ·simp only[Value.slice.injEq,Option.some.injEq,Addr.mk.injEq]at h1
  obtain⟨⟨rfl,_⟩,_,rfl⟩:=h1
  refine⟨⟨⟨?_,?_,?_,by simp;omega⟩,by simp[hn],OnlyH.refl _,h4,h5⟩,?_⟩
  ·simp[World.setCell,Array.getElem?_modify,hp4]
  ·have:=ownsRow_setCell_other hown (a:=⟨p,0,none⟩) (by simp[Value.ownBlock];exact hgp) (.slice (some ⟨gg,0,none⟩) (n+1) cap)
   rw[←e1]at this
   simpa[hn] using this
  ·simp[Value.ownBlock];exact hgp
  ·refine⟨hg.os,hg.tape,hg.output,by simp[World.setCell];omega,fun k h1 h2 h3 => ?_⟩
   rw[Below.heap_setCell _ _ _ _ h3,hg.block k (by simp;omega) (fun e => ?_)]
   ·show ((w.alloc o1).alloc o2).heap[k]? = _
    rw[Below.heap_alloc _ _ _ (by simp;omega),Below.heap_alloc _ _ _ (by omega)]
   ·obtain⟨_,⟨g1,_⟩|⟨q,_,_,g1,g2,_⟩⟩:=h.own
    ·rw[g1]at e;simp[Value.ownBlock]at e
    ·rw[g1]at e;simp[Value.ownBlock]at e;omega
theorem rise_i(w:World)(base p g n c k:Nat)(i:Int)(es:List (Int × Int × Int))(h:Hs w base p g n c es w)(hk:k<n)(hi:i=k) :
 Calls Tryz.prog 222 #[.pointer (some ⟨p,0,none⟩), .int .i64 i] w fun e w'=>e = .returned (.tuple #[])∧Hs w base p g n c (riseF k es k) w':=by
 subst hi;exact rise_any w base p g n c k es h hk
structure OnlyQ(p:Nat)(v:Value)(w w':World):Prop where
 size:w.heap.size≤w'.heap.size
 block:∀ k,k<w.heap.size→k≠p→v.ownBlock≠some k→w'.heap[k]? = w.heap[k]?
theorem Hp.own_lt{w:World}{base p:Nat}{v:Value}{es:List (Int × Int × Int)}(h:Hp w base p v es):∀ q,v.ownBlock=some q→base≤q∧q<w.heap.size:=by
 intro q hq
 obtain⟨_,⟨h1,h2⟩|⟨g,cap,cur,h1,h2,h3,h4⟩⟩:=h.own
 ·rw[h1]at hq;cases hq
 ·rw[h1]at hq
  simp only[Value.ownBlock,Option.some.injEq]at hq
  subst hq
  exact⟨h2,by obtain⟨hl,_⟩:=Array.getElem?_eq_some_iff.1 h3;exact hl⟩
theorem set3{w:World}{b:Nat}{t:TypeId}{a0 a1 a2:Value}(h:w.heap[b]? = some (.cells #[a0,a1,a2] t (0,0)))(x y z:Value) :
 Hid (Only b b w (((w.setCell ⟨b,0,none⟩ x).setCell ⟨b,1,none⟩ y).setCell ⟨b,2,none⟩ z)∧(((w.setCell ⟨b,0,none⟩ x).setCell ⟨b,1,none⟩ y).setCell ⟨b,2,none⟩ z).heap[b]? = some (.cells #[x,y,z] t (0,0))):=by
 refine⟨⟨rfl,rfl,rfl,by simp[World.setCell],fun k _ hk _ => ?_⟩,by simp[World.setCell,Array.getElem?_modify,h]⟩
 rw[Below.heap_setCell _ _ _ _ hk,Below.heap_setCell _ _ _ _ hk,Below.heap_setCell _ _ _ _ hk]
theorem cell_new3(w:World)(a b c:Value)(t:TypeId):(w.alloc (.cells #[a,b,c] t)).cell? ⟨w.heap.size,0,none⟩=some a∧(w.alloc (.cells #[a,b,c] t)).cell? ⟨w.heap.size,1,none⟩=some b∧(w.alloc (.cells #[a,b,c] t)).cell? ⟨w.heap.size,2,none⟩=some c:=by
 simp
def FirstPost(x1 x2 x3:Int)(w:World)(e:Ending)(w':World):Prop:=e = .returned (.tuple #[.agg #[.int .i64 x1, .int .u64 x2, .int .i64 x3], .bool true])∧Below w.heap.size w w'
theorem first_some(w:World)(base p g n c:Nat)(es:List (Int × Int × Int))(h:Hs w base p g n c es w)(hn:0<n)(x1 x2 x3:Int)(hx:enAt es 0=(x1,x2,x3)) :
 Calls Tryz.prog 203 #[.pointer (some ⟨p,0,none⟩)] w (FirstPost x1 x2 x3 w):=by
 have hn0:((n:Int) == 0)=false:=beq_eq_false_iff_ne.2 (by omega)
 have hp:=h.hp.lt
 have hnl:=h.le
 have hc:=h.hc
 obtain⟨hg1,hg2,hg3⟩:=h.ge
 obtain⟨i1,i2,i3⟩:=h.cells 0 hn
 rw[hx]at i1 i2 i3
 simp only[Nat.zero_mul,Nat.zero_add]at i1 i2 i3
 have c0:=h.hp.c0
 have H1:=hid (h.below ((Below.refl _ _).alloc (Nat.le_refl _) (.cells #[.int .i64 0, .int .u64 0, .int .i64 0] 237)))
 have HB:=hid ((Below.refl w.heap.size w).alloc (Nat.le_refl _) (.cells #[.int .i64 x1, .int .u64 x2, .int .i64 x3] 237))
 clear h hx
 go_enter Tryz.func203,Tryz.ntmps203
 go_wp2_with fail
 have L:=hid (H1.out.len)
 refine(L.out).mono ?_
 rintro e w' ⟨rfl,rfl⟩
 go_wp2
 obtain⟨d0,d1,d2⟩:=cell_new3 w (.int .i64 x1) (.int .u64 x2) (.int .i64 x3) 237
 refine bodyPost_ret (v := .tuple #[.agg #[.int .i64 x1, .int .u64 x2, .int .i64 x3], .bool true]) (by simp[results,Tryz.results203,go_sem,d0,d1,d2]) rfl ⟨rfl,HB.out⟩
theorem fl_take:∀(es:List (Int × Int × Int)) (m:Nat),fl (es.take m)=(fl es).take (m*3)
 | es,0=>by simp[fl]
 | [],m+1=>by simp[fl]
 | e :: es,m+1=>by
   rw[List.take_succ_cons,fl_cons,fl_cons,fl_take es m,show (m+1)*3=m*3+1+1+1 by omega]
   simp only[List.take_succ_cons]
theorem Hs.cut{w0 w:World}{base p g n c:Nat}{es:List (Int × Int × Int)}(h:Hs w0 base p g n c es w)(m:Nat)(hm:m≤n) :
 Hs (w.setCell ⟨p,0,none⟩ (.slice (some ⟨g,0,none⟩) m c)) base p g m c (es.take m) (w.setCell ⟨p,0,none⟩ (.slice (some ⟨g,0,none⟩) m c)):=by
 obtain⟨hg1,hg2,hg3⟩:=h.ge
 have hn:=h.hn
 have hlen:=h.hp.len
 have hst:=h.hp.st
 obtain⟨h0,⟨h1,h2⟩|⟨q,cap,cur,h1,h2,h3,h4,h5,h6,h7⟩⟩:=h.hp.own
 ·cases h1
 ·simp only[Value.slice.injEq,Option.some.injEq,Addr.mk.injEq]at h1
  obtain⟨⟨rfl,_⟩,h8,rfl⟩:=h1
  have hml:(es.take m).length=m:=by rw[List.length_take];omega
  refine⟨⟨by simp[World.setCell,Array.getElem?_modify,hst],?_,by simp[Value.ownBlock];exact hg3,by omega⟩,hml,OnlyH.refl _,by have:=h.hc;omega,h.hm⟩
  rw[hml]
  refine⟨by rw[fl_len,hml], .inr ⟨g,c,cur,rfl,h2,(Below.heap_setCell _ _ _ _ hg3).trans h3,by have:=h.hc;omega,h5,h6,?_⟩⟩
  rw[fl_take, ←h7,List.take_take]
  congr 1
  omega
theorem Hs.root{w0 w:World}{base p g n c:Nat}{es:List (Int × Int × Int)}(h:Hs w0 base p g n c es w):Hs w base p g n c es w:=⟨h.hp,h.hn,OnlyH.refl _,h.hc,h.hm⟩
theorem OnlyH.blk{p g k:Nat}{w w':World}{o:Obj}(h:OnlyH p g w w')(hk:w.heap[k]? = some o)(h1:k≠g)(h2:k≠p):w'.heap[k]? = some o:=by
 obtain⟨hl,_⟩:=Array.getElem?_eq_some_iff.1 hk
 exact(h.block k hl h1 h2).trans hk
def HTakePost(base p g n c:Nat)(x1 x2 x3:Int)(T:List (Int × Int × Int))(w:World)(e:Ending)(w':World):Prop:=
 e = .returned (.tuple #[.agg #[.int .i64 x1, .int .u64 x2, .int .i64 x3], .bool true])∧Hs w base p g n c T w'
theorem res3(w6:World)(s:Nat){y1 y2 y3:Value}{t:TypeId}(h:w6.heap[s]? = some (.cells #[y1,y2,y3] t (0,0)))(x1 x2 x3:Int) :
 (((w6.setCell ⟨s,0,none⟩ (.int .i64 x1)).setCell ⟨s,1,none⟩ (.int .u64 x2)).setCell ⟨s,2,none⟩ (.int .i64 x3)).cell? ⟨s,0,none⟩=some (.int .i64 x1) ∧
 (((w6.setCell ⟨s,0,none⟩ (.int .i64 x1)).setCell ⟨s,1,none⟩ (.int .u64 x2)).setCell ⟨s,2,none⟩ (.int .i64 x3)).cell? ⟨s,1,none⟩=some (.int .u64 x2) ∧
 (((w6.setCell ⟨s,0,none⟩ (.int .i64 x1)).setCell ⟨s,1,none⟩ (.int .u64 x2)).setCell ⟨s,2,none⟩ (.int .i64 x3)).cell? ⟨s,2,none⟩=some (.int .i64 x3):=by
 simp[World.cell?,World.setCell,Array.getElem?_modify,h]
theorem swap_i{w:World}{base p g n c:Nat}{es:List (Int × Int × Int)}(h:Hs w base p g n c es w)(i j:Int)(a b:Nat)(hi:a<n)(hj:b<n)(ha:i=a)(hb:j=b) :
 Calls Tryz.prog 207 #[.pointer (some ⟨p,0,none⟩), .int .i64 i, .int .i64 j] w fun e w'=>e = .returned (.tuple #[])∧Hs w base p g n c (sw es a b) w':=by
 subst ha hb;exact h.swap a b hi hj
theorem htake_fin{w w5 w6:World}{base p g n c:Nat}{es:List (Int × Int × Int)}(h:Hs w5 base p g n c es w6)(ho:OnlyH p g w w6){o:Obj}(hs:w6.heap[w.heap.size]? = some o)(x1 x2 x3:Int)(hgp:g≠p)(hsp:w.heap.size≠p)(hsg:w.heap.size≠g) :
 Hs w base p g n c es (((w6.setCell ⟨w.heap.size,0,none⟩ (.int .i64 x1)).setCell ⟨w.heap.size,1,none⟩ (.int .u64 x2)).setCell ⟨w.heap.size,2,none⟩ (.int .i64 x3)):=by
 have k:∀(y:World) (i:Nat) (u:Value) (q:Nat),q≠w.heap.size→(y.setCell ⟨w.heap.size,i,none⟩ u).heap[q]? = y.heap[q]?:=fun y i u q hq=>Below.heap_setCell _ _ _ _ hq
 refine⟨h.hp.kept ?_ (fun q hq => ?_),h.hn,?_,h.hc,h.hm⟩
 ·rw[k _ _ _ _ (Ne.symm hsp),k _ _ _ _ (Ne.symm hsp),k _ _ _ _ (Ne.symm hsp)]
 ·simp only[Value.ownBlock,Option.some.injEq]at hq
  subst hq
  rw[k _ _ _ _ (Ne.symm hsg),k _ _ _ _ (Ne.symm hsg),k _ _ _ _ (Ne.symm hsg)]
 ·refine⟨ho.os,ho.tape,ho.output,by simpa[World.setCell] using ho.size,fun q h1 h2 h3 => ?_⟩
  have hq:q≠w.heap.size:=by omega
  rw[k _ _ _ _ hq,k _ _ _ _ hq,k _ _ _ _ hq]
  exact ho.block q h1 h2 h3
theorem take_some(w:World)(base p g m c:Nat)(es:List (Int × Int × Int))(h:Hs w base p g (m+1) c es w)(x1 x2 x3:Int)(hx:enAt es 0=(x1,x2,x3)) :
 Calls Tryz.prog 197 #[.pointer (some ⟨p,0,none⟩)] w (HTakePost base p g m c x1 x2 x3 (sinkF (m+1) ((sw es 0 m).take m) m 0) w):=by
 have hp:=h.hp.lt
 have hnl:=h.le
 have hc:=h.hc
 have hm:=h.hm
 unfold maxLen at hm
 obtain⟨hg1,hg2,hg3⟩:=h.ge
 have H1:=hid (h.below ((Below.refl _ _).alloc (Nat.le_refl _) (.cells #[.int .i64 0, .int .u64 0, .int .i64 0] 237))).root
 have N1:=hid (Deep.blk_alloc_new w (.cells #[.int .i64 0, .int .u64 0, .int .i64 0] 237))
 have O1:=hid (OnlyH.of_below (p:=p) (base:=g) ((Below.refl w.heap.size w).alloc (Nat.le_refl _) (.cells #[.int .i64 0, .int .u64 0, .int .i64 0] 237)))
 have HX:=hid hx
 clear h hx
 go_enter Tryz.func197,Tryz.ntmps197
 go_wp2_with fail
 refine(first_some _ base p g (m+1) c es H1.out (by omega) x1 x2 x3 HX.out).mono ?_
 rintro e w2 ⟨rfl,hb2⟩
 have hs2:=hb2.size
 simp only[World.size_alloc]at hs2
 have H2:=hid (H1.out.below hb2).root
 have N2:=hid ((hb2.block w.heap.size (by simp)).trans N1.out)
 have O2:=hid (O1.out.trans (.of_below hb2))
 have H3:=hid (H2.out.below ((Below.refl _ _).alloc (Nat.le_refl _) (.cells #[.int .i64 x1, .int .u64 x2, .int .i64 x3] 237))).root
 have N3:=hid ((Below.heap_alloc w2 (.cells #[.int .i64 x1, .int .u64 x2, .int .i64 x3] 237) w.heap.size (by omega)).trans N2.out)
 have M3:=hid (Deep.blk_alloc_new w2 (.cells #[.int .i64 x1, .int .u64 x2, .int .i64 x3] 237))
 have O3:=hid (O2.out.trans (.of_below ((Below.refl w2.heap.size w2).alloc (Nat.le_refl _) (.cells #[.int .i64 x1, .int .u64 x2, .int .i64 x3] 237))))
 clear hb2 H1 N1 O1 H2 N2 O2
 go_wp2_with fail
 refine(H3.out.len).mono ?_
 rintro e w' ⟨rfl,rfl⟩
 go_wp2_with fail
 refine(swap_i H3.out _ _ 0 m (by omega) (by omega) rfl (by omega)).mono ?_
 rintro e w4 ⟨rfl,h4⟩
 have N4:=hid (h4.ho.blk N3.out (by omega) (by omega))
 have M4:=hid (h4.ho.blk M3.out (by omega) (by omega))
 have O4:=hid (O3.out.trans h4.ho)
 have c4:=h4.hp.c0
 have f4:=h4.hp.f0
 have H5:=hid (h4.cut m (by omega))
 have N5:=hid ((Below.heap_setCell w4 ⟨p,0,none⟩ (.slice (some ⟨g,0,none⟩) m c) w.heap.size (show w.heap.size≠p by omega)).trans N4.out)
 have M5:=hid ((Below.heap_setCell w4 ⟨p,0,none⟩ (.slice (some ⟨g,0,none⟩) m c) w2.heap.size (show w2.heap.size≠p by omega)).trans M4.out)
 have O5:=hid (O4.out.trans (OnlyH.set (p:=p) (base:=g) (g:=p) w4 0 (.slice (some ⟨g,0,none⟩) m c) (.inr rfl)))
 have hm0:(0:Int)≤m:=by omega
 have hmc:(m:Int)≤c:=by omega
 clear h4 H3 N3 M3 O3 N4 M4 O4
 go_wp2_with fail
 generalize w4.setCell ⟨p,0,none⟩ (.slice (some ⟨g,0,none⟩) m c)=w5 at *
 refine(sink_any w5 base p g m c 0 _ H5.out (by omega)).mono ?_
 rintro e w6 ⟨rfl,h6⟩
 have n6:=h6.ho.blk N5.out (by omega) (by omega)
 have m6:=h6.ho.blk M5.out (by omega) (by omega)
 have O6:=hid (O5.out.trans h6.ho)
 have a0:w6.cell? ⟨w2.heap.size,0,none⟩=some (.int .i64 x1):=cell_ent m6 rfl
 have a1:w6.cell? ⟨w2.heap.size,1,none⟩=some (.int .u64 x2):=cell_ent m6 rfl
 have a2:w6.cell? ⟨w2.heap.size,2,none⟩=some (.int .i64 x3):=cell_ent m6 rfl
 have b0:w6.cell? ⟨w.heap.size,0,none⟩=some (.int .i64 0):=cell_ent n6 rfl
 have b1:w6.cell? ⟨w.heap.size,1,none⟩=some (.int .u64 0):=cell_ent n6 rfl
 have b2:w6.cell? ⟨w.heap.size,2,none⟩=some (.int .i64 0):=cell_ent n6 rfl
 have g0:w6.frozen? ⟨w.heap.size,0,none⟩=false:=by simp[World.frozen?,n6]
 have g1:w6.frozen? ⟨w.heap.size,1,none⟩=false:=by simp[World.frozen?,n6]
 have g2:w6.frozen? ⟨w.heap.size,2,none⟩=false:=by simp[World.frozen?,n6]
 have FIN:=hid (htake_fin h6 O6.out n6 x1 x2 x3 hg3 (by omega) (by omega))
 obtain⟨r0,r1,r2⟩:=res3 w6 w.heap.size n6 x1 x2 x3
 have R0:=hid r0
 have R1:=hid r1
 have R2:=hid r2
 clear r0 r1 r2
 clear h6 H5 N5 M5 O5 n6 m6
 go_wp2
 have r0:=R0.out
 have r1:=R1.out
 have r2:=R2.out
 exact bodyPost_ret (v := .tuple #[.agg #[.int .i64 x1, .int .u64 x2, .int .i64 x3], .bool true]) (by simp[results,Tryz.results197,go_sem,r0,r1,r2]) rfl ⟨rfl,FIN.out⟩
def NonePost(w:World)(e:Ending)(w':World):Prop:=e = .returned (.tuple #[.agg #[.int .i64 0, .int .u64 0, .int .i64 0], .bool false])∧Below w.heap.size w w'
theorem hlen0(w:World)(base p:Nat)(v:Value)(h:Hp w base p v []) :
 Calls Tryz.prog 206 #[.pointer (some ⟨p,0,none⟩)] w fun e w'=>e = .returned (.int .i64 0)∧w'=w:=by
 simpa using hlen w base p v [] h
theorem first_none(w:World)(base p:Nat)(v:Value)(h:Hp w base p v []) :
 Calls Tryz.prog 203 #[.pointer (some ⟨p,0,none⟩)] w (NonePost w):=by
 have H1:=hid (h.below ((Below.refl _ _).alloc (Nat.le_refl _) (.cells #[.int .i64 0, .int .u64 0, .int .i64 0] 237)))
 have HB:=hid ((Below.refl w.heap.size w).alloc (Nat.le_refl _) (.cells #[.int .i64 0, .int .u64 0, .int .i64 0] 237))
 obtain⟨d0,d1,d2⟩:=cell_new3 w (.int .i64 0) (.int .u64 0) (.int .i64 0) 237
 clear h
 go_enter Tryz.func203,Tryz.ntmps203
 go_wp2_with fail
 refine(hlen0 _ base p v H1.out).mono ?_
 rintro e w' ⟨rfl,rfl⟩
 go_wp2
 refine bodyPost_ret (v := .tuple #[.agg #[.int .i64 0, .int .u64 0, .int .i64 0], .bool false]) (by simp[results,Tryz.results203,go_sem,d0,d1,d2]) rfl ⟨rfl,HB.out⟩
theorem Hp.hs{w:World}{base p:Nat}{v:Value}{es:List (Int × Int × Int)}(h:Hp w base p v es)(hn:0<es.length):∃ g c,v = .slice (some ⟨g,0,none⟩) es.length c∧Hs w base p g es.length c es w:=by
 obtain⟨a,c,rfl⟩:=h.slice
 obtain⟨g,rfl,h1,h2,h3,_⟩:=h.pos hn
 exact⟨g,c,rfl,h,rfl,OnlyH.refl _,h2,h3⟩
end Go.Proofs.YtkhigkcmgcafdaaGreatDoor
namespace Go.Proofs.YtkhigkcmgcafdaaGreatDoor
theorem enAt_get{es:List (Int × Int × Int)}{i:Nat}(h:i<es.length):enAt es i=es[i]:=by
 simp[enAt,List.getD_eq_getElem?_getD,h]
theorem count_set1:∀(es:List (Int × Int × Int)) (i:Nat) (a e:Int × Int × Int),i<es.length →
 (es.set i a).count e+(if enAt es i=e then 1 else 0)=es.count e+(if a=e then 1 else 0)
 | [],i,a,e,h=>by simp at h
 | x :: es,0,a,e,_=>by
   simp only[List.set_cons_zero,List.count_cons,enAt,List.getD_cons_zero,beq_iff_eq]
   omega
 | x :: es,i+1,a,e,h=>by
   have:=count_set1 es i a e (by simpa using h)
   simp only[List.set_cons_succ,List.count_cons,beq_iff_eq]
   have e1:enAt (x :: es) (i+1)=enAt es i:=by simp[enAt]
   rw[e1]
   omega
theorem enAt_set(es:List (Int × Int × Int))(i j:Nat)(a:Int × Int × Int)(hj:j<es.length):enAt (es.set i a) j=if i=j then a else enAt es j:=by
 unfold enAt
 rw[List.getD_eq_getElem?_getD,List.getD_eq_getElem?_getD,List.getElem?_set]
 by_cases h:i=j
 ·subst h;simp[hj]
 ·simp[h]
theorem sw_count(es:List (Int × Int × Int))(i j:Nat)(hi:i<es.length)(hj:j<es.length)(e:Int × Int × Int):(sw es i j).count e=es.count e:=by
 have h1:=count_set1 es i (enAt es j) e hi
 have h2:=count_set1 (es.set i (enAt es j)) j (enAt es i) e (by simpa using hj)
 rw[enAt_set es i j _ hj]at h2
 unfold sw
 by_cases h:i=j
 ·subst h;simp only[if_true]at h2;omega
 ·rw[if_neg h]at h2;omega
theorem rise_count:∀(f:Nat) (es:List (Int × Int × Int)) (i:Nat) (hi:i<es.length) (e:Int × Int × Int),(riseF f es i).count e=es.count e
 | 0,es,i,hi,e=>rfl
 | f + 1,es,i,hi,e=>by
   unfold riseF
   split
   ·rfl
   ·split
    ·rw[rise_count f _ _ (by rw[sw_len];omega) e,sw_count es i _ hi (by omega) e]
    ·rfl
theorem sink_count:∀(f:Nat) (es:List (Int × Int × Int)) (i:Nat) (hi:i<es.length) (e:Int × Int × Int),(sinkF f es es.length i).count e=es.count e
 | 0,es,i,hi,e=>rfl
 | f + 1,es,i,hi,e=>by
   unfold sinkF
   split
   ·rfl
   ·have hl:=lk_lt es es.length i hi 4
    have:=sink_count f (sw es i (hlk es es.length i 4)) (hlk es es.length i 4) (by rw[sw_len];exact hl) e
    rw[sw_len]at this
    rw[this,sw_count es i _ hi hl e]
end Go.Proofs.YtkhigkcmgcafdaaGreatDoor
namespace Go.Proofs.YtkhigkcmgcafdaaGreatDoor
open Go.RowKit
theorem put_fin3{w w4:World}{base p gg cap n:Nat}{v:Value}{es:List (Int × Int × Int)}{a b c:Int}(h:Hp w base p v es)(hn:es.length=n)(hb:base≤w.heap.size)(hl:n<100000)(o1 o2:Obj)
 (hown:w4.ownsRow base 237 3 (.slice (some ⟨gg,0,none⟩) (n+1) cap) (n+1) (fl es ++ [.int .i64 a, .int .u64 b, .int .i64 c]))
 (hg:((w.alloc o1).alloc o2).drew.grownBy w4 v.ownBlock)(hat:v.ownBlock=some gg∨gg=w.heap.size+2)(W:World)(hW:W=w4.setCell ⟨p,0,none⟩ (.slice (some ⟨gg,0,none⟩) (n+1) cap)) :
 Hid (Hs W base p gg (n+1) cap (es ++ [(a,b,c)]) W∧OnlyV p base w W∧(∀ w6,OnlyH p gg W w6→OnlyQ p v w w6)∧(v.ownBlock=some gg∨w.heap.size≤gg)):=by
 obtain⟨h1,h2⟩:=(put_fin h hn hb hl o1 o2 hown hg hat W hW).out
 refine⟨h1,h2,fun w6 ho=>⟨Nat.le_trans h2.size ho.size,fun k hk hp hv => ?_⟩,hat.imp id (fun e=>by omega)⟩
 have hgk:k≠gg:=by
  rcases hat with e|e
  ·exact fun e2=>hv (by rw[e,e2])
  ·omega
 rw[ho.block k (Nat.lt_of_lt_of_le hk h2.size) hgk hp,hW,Below.heap_setCell _ _ _ _ hp,hg.block k (by simp;omega) (fun e=>hv e.symm)]
 show ((w.alloc o1).alloc o2).heap[k]? = _
 rw[Below.heap_alloc _ _ _ (by simp;omega),Below.heap_alloc _ _ _ hk]
theorem put_sep(w:World)(base p:Nat)(v:Value)(es:List (Int × Int × Int))(a b c:Int)(h:Hp w base p v es)(hb:base≤w.heap.size)(hl:es.length<100000) :
 Calls Tryz.prog 217 #[.pointer (some ⟨p,0,none⟩), .agg #[.int .i64 a, .int .u64 b, .int .i64 c]] w fun e w'=>e = .returned (.tuple #[]) ∧
  ∃ v',Hp w' base p v' (riseF es.length (es ++ [(a,b,c)]) es.length)∧OnlyV p base w w'∧OnlyQ p v w w'∧(∀ q,v'.ownBlock=some q→v.ownBlock=some q∨w.heap.size≤q):=by
 obtain⟨n,hn⟩:∃ n,es.length=n:=⟨_,rfl⟩
 rw[hn]at hl ⊢
 have hp:=h.lt
 have c0:(w.alloc (.cells #[.int .i64 a, .int .u64 b, .int .i64 c] 237)).cell? ⟨p,0,none⟩=some v:=cell_ent ((Below.heap_alloc _ _ _ hp).trans h.st) rfl
 have FIN:=hid (fun(w4:World) gg cap=>put_fin3 (w4:=w4) (gg:=gg) (cap:=cap) (a:=a) (b:=b) (c:=c) h hn hb hl (.cells #[.int .i64 a, .int .u64 b, .int .i64 c] 237) (.cells #[.int .i64 a, .int .u64 b, .int .i64 c] 237))
 have OWN:=hid (show w.ownsRow base 237 3 v n (fl es) by rw[←hn];exact h.own)
 have PC:=hid (fun(w4:World) (hg:((w.alloc (.cells #[.int .i64 a, .int .u64 b, .int .i64 c] 237)).alloc (.cells #[.int .i64 a, .int .u64 b, .int .i64 c] 237)).drew.grownBy w4 v.ownBlock)=>
  (show w4.cell? ⟨p,0,none⟩=some v∧w4.frozen? ⟨p,0,none⟩=false by
   have hvp:=h.ne
   have hp4:w4.heap[p]? = some (.cells #[v] 193 (0,0)):=by
    rw[hg.block p (by simp;omega) (fun e=>hvp e.symm)]
    show ((w.alloc _).alloc _).heap[p]? = _
    rw[Below.heap_alloc _ _ _ (by simp;omega),Below.heap_alloc _ _ _ (by omega)];exact h.st
   exact⟨cell_ent hp4 rfl,by simp[World.frozen?,hp4]⟩))
 have B1:=hid (show n+1≤maxLen by unfold maxLen;omega)
 have B2:=hid (show (n+1)*24≤140737488355328 by omega)
 have HB:=hid hb
 have NB:=hid (show ((w.alloc (.cells #[.int .i64 a, .int .u64 b, .int .i64 c] 237)).alloc (.cells #[.int .i64 a, .int .u64 b, .int .i64 c] 237)).drew.heap[w.heap.size+1]? = some (.cells #[.int .i64 a, .int .u64 b, .int .i64 c] 237 (0,0)) by
  have:=heap_alloc_new (w.alloc (.cells #[.int .i64 a, .int .u64 b, .int .i64 c] 237)) (.cells #[.int .i64 a, .int .u64 b, .int .i64 c] 237)
  rw[World.size_alloc]at this
  exact this)
 obtain⟨i0,hi,hz0,hz1,hz2⟩:=info_parts infoEnt
 clear h
 go_enter Tryz.func217,Tryz.ntmps217
 go_wp2_with fail
 go_region_law ((refine step_append_lies _ (by rfl) _ _ _ (by rfl) base 237 i0 _ 3 24 Tryz.underlying191 hi hz0 hz1 hz2 rfl (by omega) _ n _ (by rfl) ((OWN.out.alloc _).alloc _) ⟨w.heap.size+1,0,none⟩ 1 1 [.int .i64 a, .int .u64 b, .int .i64 c] (by rfl) (by rfl) (World.news_of_block (cs := #[.int .i64 a, .int .u64 b, .int .i64 c]) (t:=237) (fr:=(0,0)) NB.out) (by simp[Value.oneCell']) (by omega) B1.out B2.out (by simp;omega) (w.heap.size+2) (by simp) ?_;intro gg cap w4 hown4 hgrow4 hat4 hlt4;obtain⟨y0,f0⟩:=PC.out _ hgrow4;have FN:=hid (FIN.out _ _ _ hown4 hgrow4 hat4 _ rfl);clear hown4 hgrow4 hat4 hlt4))
 all_goals
  have HS:=hid FN.out.1
  have HO:=hid FN.out.2.1
  have HQ:=hid FN.out.2.2.1
  have HZ:=hid FN.out.2.2.2
  clear FN y0 f0 c0 FIN PC NB OWN
  go_wp2_with fail
  refine(HS.out.len).mono ?_
  rintro e w' ⟨rfl,rfl⟩
  go_wp2_with fail
  refine(rise_i _ base p gg (n+1) cap n _ _ HS.out (by omega) (by omega)).mono ?_
  rintro e w6 ⟨rfl,h6⟩
  have H6:=hid h6
  clear h6
  go_wp2
  try simp only[Exit.noGoto_normal,Exit.noGoto_ret]
  go_end0
  exact⟨rfl,_,H6.out.hp,HO.out.trans (.of_h H6.out.ho H6.out.ge.1),HQ.out _ H6.out.ho,fun q hq=>by cases hq;exact HZ.out⟩
theorem OnlyQ.of_h{p g:Nat}{v:Value}{w w':World}(h:OnlyH p g w w')(hv:v.ownBlock=some g):OnlyQ p v w w':=
 ⟨h.size,fun k h1 h2 h3=>h.block k h1 (fun e=>h3 (by rw[hv,e])) h2⟩
end Go.Proofs.YtkhigkcmgcafdaaGreatDoor
namespace Go.Proofs.YtkhigkcmgcafdaaGreatDoor.heapAhead
open Go.RowKit
theorem ahead_eq(a1 a2 a3 b1 b2 b3:Int):aheadE (a1,a2,a3) (b1,b2,b3)=if a1≠b1 then decide (a1<b1) else if a2≠b2 then decide (a2<b2) else decide (a3<b3):=by
 unfold aheadE cmpE or3
 simp only
 rcases Int.lt_trichotomy a1 b1 with h|h|h
 ·rw[c3_lt h];have:a1≠b1:=by omega
  simp[this,h]
 ·subst h
  rw[c3_eq rfl]
  rcases Int.lt_trichotomy a2 b2 with h|h|h
  ·rw[c3_lt h];have:a2≠b2:=by omega
   simp[this,h]
  ·subst h
   rw[c3_eq rfl]
   rcases Int.lt_trichotomy a3 b3 with h|h|h
   ·rw[c3_lt h];simp[h]
   ·subst h;rw[c3_eq rfl];simp
   ·rw[c3_gt h];simp;omega
  ·rw[c3_gt h];have:a2≠b2:=by omega
   have:¬a2<b2:=by omega
   simp[*]
 ·rw[c3_gt h];have:a1≠b1:=by omega
  have:¬a1<b1:=by omega
  simp[*]
theorem ahead_not(a1 a2 a3 b1 b2 b3:Int)(h:aheadE (a1,a2,a3) (b1,b2,b3)=true):aheadE (b1,b2,b3) (a1,a2,a3)=false∧¬(a1=b1∧a2=b2∧a3=b3):=by
 rw[ahead_eq]at h ⊢
 split at h
 ·simp at h
  rw[if_pos (by omega)]
  exact⟨by simp;omega,by omega⟩
 ·split at h
  ·simp at h
   rw[if_neg (by omega),if_pos (by omega)]
   exact⟨by simp;omega,by omega⟩
  ·simp at h
   rw[if_neg (by omega),if_neg (by omega)]
   exact⟨by simp;omega,by omega⟩
theorem ahead_tot(a1 a2 a3 b1 b2 b3:Int)(h:aheadE (a1,a2,a3) (b1,b2,b3)=false)(h':aheadE (b1,b2,b3) (a1,a2,a3)=false):a1=b1∧a2=b2∧a3=b3:=by
 rw[ahead_eq]at h h'
 split at h
 ·rw[if_pos (by omega)]at h';simp at h h';omega
 ·rw[if_neg (by omega)]at h'
  split at h
  ·rw[if_pos (by omega)]at h';simp at h h';omega
  ·rw[if_neg (by omega)]at h';simp at h h';omega
theorem ahead_tr(a1 a2 a3 b1 b2 b3 c1 c2 c3:Int)(h:aheadE (a1,a2,a3) (b1,b2,b3)=true)(h':aheadE (b1,b2,b3) (c1,c2,c3)=true):aheadE (a1,a2,a3) (c1,c2,c3)=true:=by
 rw[ahead_eq]at h h' ⊢
 by_cases e1:a1=b1
 ·subst e1
  simp only[ne_eq,not_true_eq_false,if_false]at h
  by_cases e2:a1=c1
  ·subst e2
   simp only[ne_eq,not_true_eq_false,if_false]at h' ⊢
   by_cases f1:a2=b2
   ·subst f1
    simp only[not_true_eq_false,if_false]at h
    by_cases f2:a2=c2
    ·subst f2
     simp only[not_true_eq_false,if_false]at h' ⊢
     simp at h h' ⊢;omega
    ·rw[if_pos f2]at h' ⊢;exact h'
   ·rw[if_pos f1]at h
    by_cases f2:b2=c2
    ·subst f2;rw[if_pos f1];exact h
    ·rw[if_pos f2]at h'
     simp at h h'
     rw[if_pos (by omega)];simp;omega
  ·rw[if_pos e2]at h' ⊢;exact h'
 ·rw[if_pos e1]at h
  by_cases e2:b1=c1
  ·subst e2;rw[if_pos e1];exact h
  ·rw[if_pos e2]at h'
   simp at h h'
   rw[if_pos (by omega)];simp;omega
end Go.Proofs.YtkhigkcmgcafdaaGreatDoor.heapAhead
namespace Go.Proofs.YtkhigkcmgcafdaaGreatDoor
def leE (a b:Int × Int × Int):Prop:=aheadE b a=false
theorem leE_of{a b:Int × Int × Int}(h:aheadE a b=true):leE a b:=(heapAhead.ahead_not a.1 a.2.1 a.2.2 b.1 b.2.1 b.2.2 h).1
theorem leE_refl(a:Int × Int × Int):leE a a:=by
 unfold leE
 cases h:aheadE a a with
 | false=>rfl
 | true=>exact absurd ⟨rfl,rfl,rfl⟩ (heapAhead.ahead_not a.1 a.2.1 a.2.2 a.1 a.2.1 a.2.2 h).2
theorem leE_trans{a b c:Int × Int × Int}(h:leE a b)(h':leE b c):leE a c:=by
 unfold leE at *
 cases hc:aheadE c a with
 | false=>rfl
 | true=>
   cases hab:aheadE a b with
   | true=>
     have:=heapAhead.ahead_tr c.1 c.2.1 c.2.2 a.1 a.2.1 a.2.2 b.1 b.2.1 b.2.2 hc hab
     rw[show aheadE c b=true from this]at h'
     cases h'
   | false=>
     obtain⟨h1,h2,h3⟩:=heapAhead.ahead_tot a.1 a.2.1 a.2.2 b.1 b.2.1 b.2.2 hab h
     have e:a=b:=Prod.ext h1 (Prod.ext h2 h3)
     rw[e]at hc
     rw[hc]at h'
     cases h'
theorem enAt_sw(es:List (Int × Int × Int))(i j k:Nat)(hk:k<es.length):enAt (sw es i j) k=if j=k then enAt es i else if i=k then enAt es j else enAt es k:=by
 unfold sw
 rw[enAt_set _ _ _ _ (by simpa using hk),enAt_set _ _ _ _ hk]
def Ord (es:List (Int × Int × Int)):Prop:=∀ k,0<k→k<es.length→leE (enAt es ((k - 1) / 4)) (enAt es k)
structure RI(es:List (Int × Int × Int))(i:Nat):Prop where
 a:∀ k,0<k→k<es.length→k≠i→leE (enAt es ((k - 1) / 4)) (enAt es k)
 b:∀ k,0<k→k<es.length→(k - 1) / 4=i→0<i→leE (enAt es ((i - 1) / 4)) (enAt es k)
theorem RI.step{es:List (Int × Int × Int)}{i:Nat}(h:RI es i)(hi:i<es.length)(h0:0<i)(ha:aheadE (enAt es i) (enAt es ((i - 1) / 4))=true):RI (sw es i ((i - 1) / 4)) ((i - 1) / 4):=by
 obtain⟨a,hae⟩:∃ a,a=(i - 1) / 4:=⟨_,rfl⟩
 rw[←hae]at ha ⊢
 have hai:a<i:=by omega
 have vi:enAt (sw es i a) i=enAt es a:=by rw[enAt_sw _ _ _ _ hi,if_neg (by omega),if_pos rfl]
 have va:enAt (sw es i a) a=enAt es i:=by rw[enAt_sw _ _ _ _ (by omega),if_pos rfl]
 have vo:∀ k,k<es.length→k≠i→k≠a→enAt (sw es i a) k=enAt es k:=fun k hk h1 h2=>by
  rw[enAt_sw _ _ _ _ hk,if_neg (fun e=>h2 e.symm),if_neg (fun e=>h1 e.symm)]
 refine⟨fun k k0 kl ka => ?_,fun k k0 kl kp a0 => ?_⟩
 ·rw[sw_len]at kl
  by_cases ki:k=i
  ·subst ki
   rw[←hae,va,vi]
   exact leE_of ha
  ·rw[vo k kl ki ka]
   by_cases kp:(k - 1) / 4=i
   ·rw[kp,vi]
    have:=h.b k k0 kl kp h0
    rw[←hae]at this
    exact this
   ·by_cases kq:(k - 1) / 4=a
    ·rw[kq,va]
     have:=h.a k k0 kl ki
     rw[kq]at this
     exact leE_trans (leE_of ha) this
    ·rw[vo _ (by omega) kp kq]
     exact h.a k k0 kl ki
 ·rw[sw_len]at kl
  rw[vo _ (by omega) (by omega) (by omega)]
  have hA:=h.a a a0 (by omega) (by omega)
  by_cases ki:k=i
  ·subst ki;rw[vi];exact hA
  ·rw[vo k kl ki (by omega)]
   have:=h.a k k0 kl ki
   rw[kp]at this
   exact leE_trans hA this
theorem rise_ord:∀(f:Nat) (es:List (Int × Int × Int)) (i:Nat),i≤f→i<es.length→RI es i→Ord (riseF f es i)
 | 0,es,i,hf,hi,h=>fun k k0 kl=>h.a k k0 kl (by omega)
 | f + 1,es,i,hf,hi,h=>by
   unfold riseF
   by_cases i0:i=0
   ·rw[if_pos i0]
    exact fun k k0 kl=>h.a k k0 kl (by omega)
   ·rw[if_neg i0]
    cases ha:aheadE (enAt es i) (enAt es ((i - 1) / 4)) with
    | true=>exact rise_ord f _ _ (by omega) (by rw[sw_len];omega) (h.step hi (by omega) ha)
    | false=>
      intro k k0 kl
      by_cases ki:k=i
      ·subst ki;exact ha
      ·exact h.a k k0 kl ki
theorem put_ord{es:List (Int × Int × Int)}(h:Ord es)(e:Int × Int × Int):Ord (riseF es.length (es ++ [e]) es.length):=by
 have hg:∀ k,k<es.length→enAt (es ++ [e]) k=enAt es k:=fun k hk=>by
  unfold enAt
  rw[List.getD_eq_getElem?_getD,List.getD_eq_getElem?_getD,List.getElem?_append_left hk]
 refine rise_ord _ _ _ (Nat.le_refl _) (by simp) ⟨fun k k0 kl ki => ?_,fun k k0 kl kp i0 => ?_⟩
 ·rw[List.length_append,List.length_singleton]at kl
  rw[hg _ (by omega),hg _ (by omega)]
  exact h k k0 (by omega)
 ·rw[List.length_append,List.length_singleton]at kl
  omega
theorem kid_le(es:List (Int × Int × Int))(n l c:Nat):leE (enAt es (kid es n l c)) (enAt es l)∧(c<n→leE (enAt es (kid es n l c)) (enAt es c)):=by
 unfold kid
 by_cases h:c<n∧aheadE (enAt es c) (enAt es l)=true
 ·rw[if_pos h]
  exact⟨leE_of h.2,fun _=>leE_refl _⟩
 ·rw[if_neg h]
  refine⟨leE_refl _,fun hc => ?_⟩
  unfold leE
  cases ha:aheadE (enAt es c) (enAt es l) with
  | false=>rfl
  | true=>exact absurd ⟨hc,ha⟩ h
theorem hlk_le(es:List (Int × Int × Int))(n i:Nat):∀ j,leE (enAt es (hlk es n i j)) (enAt es i) ∧ ∀ d,d<j→4*i+1+d<n→leE (enAt es (hlk es n i j)) (enAt es (4*i+1+d))
 | 0=>⟨leE_refl _,fun d h=>by omega⟩
 | j+1=>by
   obtain⟨h1,h2⟩:=hlk_le es n i j
   obtain⟨k1,k2⟩:=kid_le es n (hlk es n i j) (4*i+1+j)
   refine⟨leE_trans k1 h1,fun d hd hn => ?_⟩
   by_cases e:d=j
   ·subst e;exact k2 hn
   ·exact leE_trans k1 (h2 d (by omega) hn)
theorem lk_is(es:List (Int × Int × Int))(n i:Nat):∀ j,hlk es n i j=i ∨ ∃ d,d<j∧hlk es n i j=4*i+1+d
 | 0 => .inl rfl
 | j + 1=>by
   have ih:=lk_is es n i j
   have hk:hlk es n i (j+1)=kid es n (hlk es n i j) (4*i+1+j):=rfl
   rw[hk]
   by_cases h:4*i+1+j<n∧aheadE (enAt es (4*i+1+j)) (enAt es (hlk es n i j))=true
   ·exact .inr ⟨j,by omega,by unfold kid;rw[if_pos h]⟩
   ·have e:kid es n (hlk es n i j) (4*i+1+j)=hlk es n i j:=by unfold kid;rw[if_neg h]
    rw[e]
    rcases ih with h|⟨d,hd,h⟩
    ·exact .inl h
    ·exact .inr ⟨d,by omega,h⟩
structure SI(es:List (Int × Int × Int))(i:Nat):Prop where
 a:∀ k,0<k→k<es.length→(k - 1) / 4≠i→leE (enAt es ((k - 1) / 4)) (enAt es k)
 b:∀ k,0<k→k<es.length→(k - 1) / 4=i→0<i→leE (enAt es ((i - 1) / 4)) (enAt es k)
theorem SI.step{es:List (Int × Int × Int)}{i l:Nat}(h:SI es i)(hi:i<es.length)(hl:l<es.length)(hp:(l - 1) / 4=i)(hil:i<l)
 (h1:leE (enAt es l) (enAt es i))(h2:∀ k,0<k→k<es.length→(k - 1) / 4=i→leE (enAt es l) (enAt es k)):SI (sw es i l) l:=by
 have vl:enAt (sw es i l) l=enAt es i:=by rw[enAt_sw _ _ _ _ hl,if_pos rfl]
 have vi:enAt (sw es i l) i=enAt es l:=by rw[enAt_sw _ _ _ _ hi,if_neg (by omega),if_pos rfl]
 have vo:∀ k,k<es.length→k≠i→k≠l→enAt (sw es i l) k=enAt es k:=fun k hk h1 h2=>by
  rw[enAt_sw _ _ _ _ hk,if_neg (fun e=>h2 e.symm),if_neg (fun e=>h1 e.symm)]
 refine⟨fun k k0 kl kp => ?_,fun k k0 kl kp l0 => ?_⟩
 ·rw[sw_len]at kl
  by_cases ki:k=i
  ·subst ki
   rw[vi,vo _ (by omega) (by omega) kp]
   exact h.b l (by omega) hl hp k0
  ·by_cases kpi:(k - 1) / 4=i
   ·rw[kpi,vi]
    by_cases kll:k=l
    ·subst kll;rw[vl];exact h1
    ·rw[vo k kl ki kll];exact h2 k k0 kl kpi
   ·have kll:k≠l:=fun e=>kpi (by rw[e];exact hp)
    rw[vo k kl ki kll,vo _ (by omega) kpi kp]
    exact h.a k k0 kl kpi
 ·rw[sw_len]at kl
  rw[hp,vi,vo k kl (by omega) (by omega)]
  have:=h.a k k0 kl (by omega)
  rw[kp]at this
  exact this
theorem sink_ord:∀(f:Nat) (es:List (Int × Int × Int)) (n i:Nat),es.length=n→n+1≤i+f→(i<n∨(n=0∧i=0))→SI es i→Ord (sinkF f es n i)
 | 0,es,n,i,hn,hf,hi,h=>by omega
 | f + 1,es,n,i,hn,hf,hi,h=>by
   unfold sinkF
   obtain⟨g1,g2⟩:=hlk_le es n i 4
   have hch:∀ k,0<k→k<es.length→(k - 1) / 4=i→leE (enAt es (hlk es n i 4)) (enAt es k):=fun k k0 kl kp=>by
    have:=g2 (k - 1 - 4*i) (by omega) (by omega)
    rw[show 4*i+1+(k - 1 - 4*i)=k by omega]at this
    exact this
   by_cases e:hlk es n i 4=i
   ·rw[if_pos e]
    intro k k0 kl
    by_cases kp:(k - 1) / 4=i
    ·have:=hch k k0 kl kp
     rw[e]at this
     rw[kp];exact this
    ·exact h.a k k0 kl kp
   ·rw[if_neg e]
    have hin:i<n:=by
     rcases hi with h'|⟨h0,h0'⟩
     ·exact h'
     ·exact absurd (by
       have:∀ j,hlk es n i j=i:=fun j=>by
        have:=lk_stop es n i 0 (by omega) j
        rw[Nat.zero_add]at this
        exact this
       exact this 4) e
    have hl:=lk_lt es n i hin 4
    rcases lk_is es n i 4 with h'|⟨d,hd,h'⟩
    ·exact absurd h' e
    ·exact sink_ord f _ n _ (by rw[sw_len];exact hn) (by omega) (.inl hl) (h.step (by omega) (by omega) (by omega) (by omega) g1 hch)
theorem take_ord{es:List (Int × Int × Int)}{m:Nat}(h:Ord es)(hm:es.length=m+1):Ord (sinkF (m+1) ((sw es 0 m).take m) m 0):=by
 have hlen:((sw es 0 m).take m).length=m:=by rw[List.length_take,sw_len];omega
 have hg:∀ k,0<k→k<m→enAt ((sw es 0 m).take m) k=enAt es k:=fun k k0 hk=>by
  have:enAt ((sw es 0 m).take m) k=enAt (sw es 0 m) k:=by
   unfold enAt
   rw[List.getD_eq_getElem?_getD,List.getD_eq_getElem?_getD,List.getElem?_take,if_pos hk]
  rw[this,enAt_sw _ _ _ _ (by omega),if_neg (by omega),if_neg (by omega)]
 refine sink_ord _ _ m 0 hlen (by omega) (by omega) ⟨fun k k0 kl kp => ?_,fun k k0 kl kp i0=>by omega⟩
 rw[hlen]at kl
 rw[hg _ (by omega) (by omega),hg k k0 kl]
 exact h k k0 (by omega)
theorem root_le{es:List (Int × Int × Int)}(h:Ord es):∀(b k:Nat),k≤b→k<es.length→leE (enAt es 0) (enAt es k)
 | 0,k,hb,hk=>by rw[show k=0 by omega];exact leE_refl _
 | b+1,k,hb,hk=>by
   by_cases k0:k=0
   ·rw[k0];exact leE_refl _
   ·exact leE_trans (root_le h b ((k - 1) / 4) (by omega) (by omega)) (h k (by omega) hk)
end Go.Proofs.YtkhigkcmgcafdaaGreatDoor
namespace Go.Proofs.YtkhigkcmgcafdaaGreatDoor
open Go.RowKit
def insF (e:Int × Int × Int):List (Int × Int × Int)→List (Int × Int × Int)
 | [] => [e]
 | x :: xs=>if aheadE e x then e :: x :: xs else x :: insF e xs
end Go.Proofs.YtkhigkcmgcafdaaGreatDoor
namespace Go.Proofs.YtkhigkcmgcafdaaGreatDoor
theorem leE_anti{a b:Int × Int × Int}(h:leE a b)(h':leE b a):a=b:=by
 obtain⟨h1,h2,h3⟩:=heapAhead.ahead_tot a.1 a.2.1 a.2.2 b.1 b.2.1 b.2.2 h' h
 exact Prod.ext h1 (Prod.ext h2 h3)
theorem leE_total(a b:Int × Int × Int):leE a b∨leE b a:=by
 unfold leE
 cases h:aheadE b a with
 | false=>exact .inl rfl
 | true=>exact .inr (leE_of h)
theorem insF_perm(e:Int × Int × Int):∀ l,(insF e l).Perm (e :: l)
 | []=>List.Perm.refl _
 | x :: l=>by
   unfold insF
   split
   ·exact List.Perm.refl _
   ·exact ((insF_perm e l).cons x).trans (List.Perm.swap e x l)
theorem insF_ord(e:Int × Int × Int):∀ l,l.Pairwise leE→(insF e l).Pairwise leE
 | [],h=>by simp[insF]
 | x :: l,h=>by
   unfold insF
   have hx:=List.pairwise_cons.1 h
   split
   ·rename_i ha
    refine List.pairwise_cons.2 ⟨fun y hy => ?_,h⟩
    rcases List.mem_cons.1 hy with rfl|hy
    ·exact leE_of ha
    ·exact leE_trans (leE_of ha) (hx.1 y hy)
   ·rename_i ha
    refine List.pairwise_cons.2 ⟨fun y hy => ?_,insF_ord e l hx.2⟩
    rcases List.mem_cons.1 ((insF_perm e l).mem_iff.1 hy) with rfl|hy
    ·unfold leE;simpa using ha
    ·exact hx.1 y hy
theorem ord_unique:∀(l m:List (Int × Int × Int)),l.Perm m→l.Pairwise leE→m.Pairwise leE→l=m
 | [],m,hp,_,_=>(hp.nil_eq)
 | a :: l, [],hp,_,_=>by have:=hp.length_eq;simp at this
 | a :: l,b :: m,hp,hl,hm=>by
   have h1:=List.pairwise_cons.1 hl
   have h2:=List.pairwise_cons.1 hm
   have e:a=b:=by
    have ha:a ∈ b :: m:=hp.mem_iff.1 (List.mem_cons_self ..)
    have hb:b ∈ a :: l:=hp.mem_iff.2 (List.mem_cons_self ..)
    rcases List.mem_cons.1 ha with h|h
    ·exact h
    ·rcases List.mem_cons.1 hb with h'|h'
     ·exact h'.symm
     ·exact leE_anti (h1.1 b h') (h2.1 a h)
   subst e
   rw[ord_unique l m (List.Perm.cons_inv hp) h1.2 h2.2]
def sortE(l:List (Int × Int × Int)):List (Int × Int × Int):=l.mergeSort (fun x y => !aheadE y x)
theorem sortE_perm(l:List (Int × Int × Int)):(sortE l).Perm l:=List.mergeSort_perm ..
theorem sortE_ord(l:List (Int × Int × Int)):(sortE l).Pairwise leE:=by
 have:=List.pairwise_mergeSort (le:=fun x y => !aheadE y x) (fun a b c h1 h2=>by
  have e1:leE a b:=by unfold leE;simpa using h1
  have e2:leE b c:=by unfold leE;simpa using h2
  have:=leE_trans e1 e2
  unfold leE at this
  simp[this]) (fun a b=>by
  rcases leE_total a b with h|h
  ·unfold leE at h;simp[h]
  ·unfold leE at h;simp[h]) l
 exact this.imp (fun h=>by unfold leE;simpa using h)
end Go.Proofs.YtkhigkcmgcafdaaGreatDoor
namespace Go.Proofs.YtkhigkcmgcafdaaGreatDoor.Tk
theorem count_app(es:List (Int × Int × Int))(a e:Int × Int × Int):(es ++ [a]).count e=if e=a then es.count a+1 else es.count e:=by
 rw[List.count_append]
 by_cases h:e=a
 ·simp[h]
 ·simp only[List.count_cons,List.count_nil,beq_iff_eq,if_neg h]
  rw[if_neg (fun q=>h q.symm)];omega
theorem put_count(es:List (Int × Int × Int))(a e:Int × Int × Int):(riseF es.length (es ++ [a]) es.length).count e=if e=a then es.count a+1 else es.count e:=by
 rw[rise_count _ _ _ (by simp) e,count_app]
theorem take_count{es:List (Int × Int × Int)}{m:Nat}(hm:es.length=m+1)(e:Int × Int × Int) :
 es.count e=(sinkF (m+1) ((sw es 0 m).take m) m 0).count e+if e=enAt es 0 then 1 else 0:=by
 have hl:((sw es 0 m).take m).length=m:=by rw[List.length_take,sw_len];omega
 have h1:(sinkF (m+1) ((sw es 0 m).take m) m 0).count e=((sw es 0 m).take m).count e:=by
  rcases Nat.eq_zero_or_pos m with h0|h0
  ·subst h0
   have:(sw es 0 0).take 0 = []:=rfl
   rw[this]
   have hk:hlk [] 0 0 4=0:=by decide
   simp[sinkF,hk]
  ·have:=sink_count (m+1) ((sw es 0 m).take m) 0 (by omega) e
   rw[hl]at this
   exact this
 have h2:=sw_count es 0 m (by omega) (by omega) e
 have h3:sw es 0 m=(sw es 0 m).take m ++ [enAt es 0]:=by
  have hsl:(sw es 0 m).length=m+1:=by rw[sw_len];exact hm
  have h4:=List.take_append_drop m (sw es 0 m)
  have h5:(sw es 0 m).drop m = [enAt es 0]:=by
   rw[List.drop_eq_getElem_cons (by omega)]
   have h6:(sw es 0 m)[m]=enAt es 0:=by
    have:=enAt_sw es 0 m m (by omega)
    rw[if_pos rfl]at this
    rw[←this,enAt_get]
   rw[h6,List.drop_eq_nil_of_le (by omega)]
  rw[h5]at h4
  exact h4.symm
 rw[h1, ←h2]
 conv=>lhs;rw[h3]
 rw[List.count_append,List.count_cons,List.count_nil]
 by_cases h:e=enAt es 0
 ·simp[h]
 ·simp only[beq_iff_eq,if_neg h];rw[if_neg (fun q=>h q.symm)]
theorem sort_perm{l m:List (Int × Int × Int)}(h:l.Perm m):sortE l=sortE m:=
 ord_unique _ _ ((sortE_perm l).trans (h.trans (sortE_perm m).symm)) (sortE_ord l) (sortE_ord m)
theorem take_perm{es:List (Int × Int × Int)}{m:Nat}(hm:es.length=m+1):es.Perm (enAt es 0 :: sinkF (m+1) ((sw es 0 m).take m) m 0):=by
 refine List.perm_iff_count.2 fun e => ?_
 rw[take_count hm e,List.count_cons]
 by_cases h:e=enAt es 0
 ·simp[h]
 ·simp only[beq_iff_eq,if_neg h];rw[if_neg (fun q=>h q.symm)]
theorem sort_len(es:List (Int × Int × Int)):(sortE es).length=es.length:=(sortE_perm es).length_eq
end Go.Proofs.YtkhigkcmgcafdaaGreatDoor.Tk
namespace Go.Proofs.YtkhigkcmgcafdaaGreatDoor
open Go.RowKit Go.MapKept
structure MapI(w:World)(b:Nat)(q:IntKind)(g:Int→Option Value)(n:Nat):Prop where
 h:∃ es clock,w.heap[b]? = some (.map es clock)∧Stamped es clock∧(∀ x ∈ es.toList,IsKey (.int q) x.key)∧es.size=n ∧ ∀ a v,g a=some v ↔ ∃ x ∈ es.toList,x.key = .int q a∧x.val=v
def updG (g:Int→Option Value)(a:Int)(v:Option Value):Int→Option Value:=fun x=>if x=a then v else g x
namespace MapI
variable {w:World}{b:Nat}{q:IntKind}{g:Int→Option Value}{n:Nat}
theorem lt(h:MapI w b q g n):b<w.heap.size:=by
 obtain⟨es,clock,h1,_⟩:=h.h
 rw[Array.getElem?_eq_some_iff]at h1;exact h1.1
theorem kept(h:MapI w b q g n){w':World}(e:w'.heap[b]? = w.heap[b]?):MapI w' b q g n:=by
 obtain⟨es,clock,h1,h2⟩:=h.h
 exact⟨es,clock,e.trans h1,h2⟩
theorem new(w:World)(q:IntKind):MapI (w.alloc (.map #[] 0)) w.heap.size q (fun _=>none) 0:=
 ⟨#[],0,(heap_alloc w _).1,stamped_empty 0,by simp,rfl,by simp⟩
theorem isKey(q:IntKind)(a:Int):IsKey (.int q) (.int q a):=by simp[IsKey]
theorem find(h:MapI w b q g n)(a:Int):∃ es clock,w.heap[b]? = some (.map es clock)∧((g a=none∧Instr.findNow (.int q) (.int q a) es.toList 0=some none ∧ ∀ x ∈ es.toList,x.key ≠ .int q a) ∨ ∃ j e,g a=some e.val∧Instr.findNow (.int q) (.int q a) es.toList 0=some (some (j,e.val))∧es[j]? = some e∧e.key = .int q a):=by
 obtain⟨es,clock,h1,h2,h3,h4,h5⟩:=h.h
 refine⟨es,clock,h1,?_⟩
 rcases findNow_spec (isKey q a) es.toList 0 h3 with⟨e1,e2⟩|⟨j,e,e1,e2,e3⟩
 ·refine .inl ⟨?_,e1,e2⟩
  rcases hg:g a with _|v
  ·rfl
  ·obtain⟨x,hx,hk,_⟩:=(h5 a v).1 hg
   exact absurd hk (e2 x hx)
 ·refine .inr ⟨j,e,(h5 a e.val).2 ⟨e,List.mem_of_getElem? e2,e3,rfl⟩,by simpa using e1,by simpa using e2,e3⟩
variable {P:Program}{t kt et:TypeId}
theorem look_hit(h:MapI w b q g n)(hm:P.underlying t=some (.map kt et))(hd:P.underlying kt=some (.int q)){a:Int}{v:Value}(ha:g a=some v)(ok:Bool) :
 (Instr.lookup t (.map (some b)) (.int q a) ok).run P w = .ok (if ok then .tuple #[v, .bool true] else v) w:=by
 obtain⟨es,clock,h1,h2|⟨j,e,h2,h3,h4,h5⟩⟩:=h.find a
 ·rw[ha]at h2;cases h2.1
 ·rw[ha]at h2;simp only[Option.some.injEq]at h2;subst h2
  have hck:=run_checkKey (P:=P) (w:=w) hd (isKey q a) es.isEmpty 9999
  simp only[Instr.lookup,Sem.run_bind,run_underlying hm,MapKept.run_getObj_map h1,Sem.run_pure,Result.andThen]
  simp[hck,run_findKey hd h3,Result.andThen]
theorem look_miss(h:MapI w b q g n)(hm:P.underlying t=some (.map kt et))(hd:P.underlying kt=some (.int q)){z:Value}(hz:∀ w,(zeroValue et).run P w = .ok z w){a:Int}(ha:g a=none)(ok:Bool) :
 (Instr.lookup t (.map (some b)) (.int q a) ok).run P w = .ok (if ok then .tuple #[z, .bool false] else z) w:=by
 obtain⟨es,clock,h1,h2|⟨j,e,h2,h3,h4,h5⟩⟩:=h.find a
 ·have hck:=run_checkKey (P:=P) (w:=w) hd (isKey q a) es.isEmpty 9999
  simp only[Instr.lookup,Sem.run_bind,run_underlying hm,MapKept.run_getObj_map h1,Sem.run_pure,Result.andThen]
  simp[hck,run_findKey hd h2.2.1,hz,Result.andThen]
 ·rw[ha]at h2;cases h2
theorem len(h:MapI w b q g n)(hm:P.underlying t=some (.map kt et))(ty:TypeId):(Builtin.len_ #[t] ty #[.map (some b)]).run P w = .ok (.int .i64 n) w:=by
 obtain⟨es,clock,h1,_,_,h2,_⟩:=h.h
 subst h2
 simp[Builtin.len_,run_underlying hm,MapKept.run_getObj_map h1,Result.andThen,goInt]
theorem set_only{o:Obj}{w:World}{b:Nat}{es:Array MapEntry}{clock:Nat}(h1:w.heap[b]? = some (.map es clock)):Only b b w { w with heap:=w.heap.setIfInBounds b o }:=
 ⟨rfl,rfl,rfl,by simp,fun k _ hk _=>(heap_set h1).2 k hk⟩
theorem store(h:MapI w b q g n)(hm:P.underlying t=some (.map kt et))(hd:P.underlying kt=some (.int q))(a:Int)(v:Value) :
 ∃ w',(Instr.mapUpdate t (.map (some b)) (.int q a) v).run P w = .ok () w'∧MapI w' b q (updG g a (some v)) (if g a=none then n+1 else n)∧Only b b w w':=by
 obtain⟨es,clock,h1,hs,hk,hn,hg⟩:=h.h
 rcases findNow_spec (isKey q a) es.toList 0 hk with⟨e1,e2⟩|⟨j,e,e1,e2,e3⟩
 ·have hga:g a=none:=by
   rcases hga:g a with _|v
   ·rfl
   ·obtain⟨x,hx,hk,_⟩:=(hg a v).1 hga
    exact absurd hk (e2 x hx)
  rw[if_pos hga]
  refine⟨{ w with heap:=w.heap.setIfInBounds b (.map (es.push { key := .int q a,val:=v,born:=clock }) (clock+1)) },by simp[Instr.mapUpdate,run_underlying hm,MapKept.run_getObj_map h1,run_checkKey hd (isKey q a),run_findKey hd e1,run_setObj_map _ h1,Result.andThen],⟨_,_,(heap_set h1).1,stamped_push hs e2,?_,by simp[hn],?_⟩,set_only h1⟩
  ·intro x hx
   simp only[Array.toList_push,List.mem_append,List.mem_singleton]at hx
   rcases hx with hx|rfl
   ·exact hk x hx
   ·exact isKey q a
  ·intro c u
   simp only[Array.toList_push,List.mem_append,List.mem_singleton,updG]
   split
   ·rename_i e;subst e
    constructor
    ·intro hu;simp only[Option.some.injEq]at hu;exact⟨_, .inr rfl,rfl,hu⟩
    ·rintro⟨x,hx|rfl,hxk,hxv⟩
     ·exact absurd hxk (e2 x hx)
     ·rw[←hxv]
   ·rename_i hne
    rw[hg]
    constructor
    ·rintro⟨x,hx,r⟩;exact⟨x, .inl hx,r⟩
    ·rintro⟨x,hx|rfl,hxk,hxv⟩
     ·exact⟨x,hx,hxk,hxv⟩
     ·simp only[Value.int.injEq]at hxk;exact absurd hxk.2.symm hne
 ·have hj : es[j]? = some e:=by simpa using e2
  have hga:g a≠none:=fun hc=>by
   have:=(hg a e.val).2 ⟨e,List.mem_of_getElem? e2,e3,rfl⟩
   rw[hc]at this;cases this
  rw[if_neg hga]
  have hkey:∀ e',es[j]? = some e'→({ e' with key := .int q a,val:=v }:MapEntry).key=e'.key:=fun e' he'=>by rw[hj]at he';cases he';exact e3.symm
  refine⟨{ w with heap:=w.heap.setIfInBounds b (.map (es.modify j fun e => { e with key := .int q a,val:=v }) clock) },by simp[Instr.mapUpdate,run_underlying hm,MapKept.run_getObj_map h1,run_checkKey hd (isKey q a),run_findKey hd e1,hj,e3,run_keyThatStays (isKey q a),run_setObj_map _ h1,Result.andThen],⟨_,_,(heap_set h1).1,stamped_modify hs _ _ (fun _ _=>rfl) (fun e' _ he'=>hkey e' he'),isKey_modify hk _ _ hkey,by simpa using hn,?_⟩,set_only h1⟩
  have hst:=(stamped_iff es clock).1 hs
  intro c u
  have hmem:∀ x,x ∈ (es.modify j fun e => { e with key := .int q a,val:=v }).toList ↔ (x ∈ es.toList∧x.key ≠ .int q a)∨x = { e with key := .int q a,val:=v }:=by
   intro x
   have hp:=hst.2.2
   constructor
   ·intro hx
    obtain⟨i,hi⟩:=List.mem_iff_getElem?.1 hx
    rw[Array.getElem?_toList,Array.getElem?_modify]at hi
    split at hi
    ·rename_i e;subst e
     rw[hj]at hi;simp only[Option.map_some,Option.some.injEq]at hi
     exact .inr hi.symm
    ·rename_i hne
     refine .inl ⟨by rw[←Array.getElem?_toList]at hi;exact List.mem_of_getElem? hi,fun hxk => ?_⟩
     have hi':es.toList[i]? = some x:=by rw[Array.getElem?_toList];exact hi
     obtain⟨hi1,hi2⟩:=List.getElem?_eq_some_iff.1 hi'
     obtain⟨hj1,hj2⟩:=List.getElem?_eq_some_iff.1 e2
     rcases Nat.lt_or_gt_of_ne hne with h|h
     ·exact List.pairwise_iff_getElem.1 hp j i hj1 hi1 h (by rw[hi2,hj2,e3,hxk])
     ·exact List.pairwise_iff_getElem.1 hp i j hi1 hj1 h (by rw[hi2,hj2,e3,hxk])
   ·rintro (⟨hx,hxk⟩|rfl)
    ·obtain⟨i,hi⟩:=List.mem_iff_getElem?.1 hx
     have hne:j≠i:=fun e=>by
      subst e
      rw[e2]at hi;simp only[Option.some.injEq]at hi;subst hi;exact hxk e3
     refine List.mem_iff_getElem?.2 ⟨i,?_⟩
     rw[Array.getElem?_toList,Array.getElem?_modify,if_neg hne, ←Array.getElem?_toList];exact hi
    ·refine List.mem_iff_getElem?.2 ⟨j,?_⟩
     rw[Array.getElem?_toList,Array.getElem?_modify,if_pos rfl,hj];rfl
  simp only[updG]
  split
  ·rename_i ec;subst ec
   constructor
   ·intro hu;simp only[Option.some.injEq]at hu;exact⟨_,(hmem _).2 (.inr rfl),rfl,hu⟩
   ·rintro⟨x,hx,hxk,hxv⟩
    rcases (hmem x).1 hx with⟨_,h⟩|rfl
    ·exact absurd hxk h
    ·rw[←hxv]
  ·rename_i hne
   rw[hg]
   constructor
   ·rintro⟨x,hx,hxk,hxv⟩
    exact⟨x,(hmem x).2 (.inl ⟨hx,fun h=>hne (by rw[hxk]at h;simp only[Value.int.injEq]at h;exact h.2)⟩),hxk,hxv⟩
   ·rintro⟨x,hx,hxk,hxv⟩
    rcases (hmem x).1 hx with⟨h,_⟩|rfl
    ·exact⟨x,h,hxk,hxv⟩
    ·simp only[Value.int.injEq]at hxk;exact absurd hxk.2.symm hne
theorem del(h:MapI w b q g n)(hm:P.underlying t=some (.map kt et))(hd:P.underlying kt=some (.int q))(ty:TypeId)(a:Int) :
 ∃ w',(Builtin.delete_ #[t,kt] ty #[.map (some b), .int q a]).run P w = .ok (.tuple #[]) w'∧MapI w' b q (updG g a none) (if g a=none then n else n - 1)∧Only b b w w':=by
 obtain⟨es,clock,h1,hs,hk,hn,hg⟩:=h.h
 rcases findNow_spec (isKey q a) es.toList 0 hk with⟨e1,e2⟩|⟨j,e,e1,e2,e3⟩
 ·have hga:g a=none:=by
   rcases hga:g a with _|v
   ·rfl
   ·obtain⟨x,hx,hk,_⟩:=(hg a v).1 hga
    exact absurd hk (e2 x hx)
  rw[if_pos hga]
  refine⟨_,by simp[Builtin.delete_,run_underlying hm,MapKept.run_getObj_map h1,run_checkKey hd (isKey q a),run_findKey hd e1,run_setObj_map _ h1,Result.andThen],⟨_,_,(heap_set h1).1,hs,hk,hn,fun c u => ?_⟩,set_only h1⟩
  simp only[updG]
  split
  ·rename_i ec;subst ec
   rw[←hga];exact hg _ u
  ·exact hg c u
 ·have hj:es[j]? = some e:=by simpa using e2
  have hga:g a≠none:=fun hc=>by
   have:=(hg a e.val).2 ⟨e,List.mem_of_getElem? e2,e3,rfl⟩
   rw[hc]at this;cases this
  rw[if_neg hga]
  have hjs:j<es.size:=by rw[Array.getElem?_eq_some_iff]at hj;exact hj.1
  have hlist:(es.eraseIdxIfInBounds j).toList=es.toList.eraseIdx j:=by
   unfold Array.eraseIdxIfInBounds
   rw[dif_pos hjs,Array.toList_eraseIdx]
  have hst:=(stamped_iff es clock).1 hs
  have hmem:∀ x,x ∈ (es.eraseIdxIfInBounds j).toList ↔ x ∈ es.toList∧x.key ≠ .int q a:=by
   intro x
   rw[hlist,List.mem_eraseIdx_iff_getElem?]
   constructor
   ·rintro⟨i,hne,hi⟩
    refine⟨List.mem_of_getElem? hi,fun hxk => ?_⟩
    obtain⟨hi1,hi2⟩:=List.getElem?_eq_some_iff.1 hi
    obtain⟨hj1,hj2⟩:=List.getElem?_eq_some_iff.1 e2
    rcases Nat.lt_or_gt_of_ne hne with h|h
    ·exact List.pairwise_iff_getElem.1 hst.2.2 i j hi1 hj1 h (by rw[hi2,hj2,e3,hxk])
    ·exact List.pairwise_iff_getElem.1 hst.2.2 j i hj1 hi1 h (by rw[hi2,hj2,e3,hxk])
   ·rintro⟨hx,hxk⟩
    obtain⟨i,hi⟩:=List.mem_iff_getElem?.1 hx
    refine⟨i,fun e => ?_,hi⟩
    subst e
    rw[e2]at hi;simp only[Option.some.injEq]at hi;subst hi;exact hxk e3
  refine⟨_,by simp[Builtin.delete_,run_underlying hm,MapKept.run_getObj_map h1,run_checkKey hd (isKey q a),run_findKey hd e1,run_setObj_map _ h1,Result.andThen],⟨_,_,(heap_set h1).1,stamped_erase hs _,fun x hx=>hk x ((hmem x).1 hx).1,?_,fun c u => ?_⟩,set_only h1⟩
  ·have:(es.eraseIdxIfInBounds j).toList.length=es.toList.length - 1:=by rw[hlist,List.length_eraseIdx];simp[hjs]
   rw[Array.length_toList,Array.length_toList,hn]at this;exact this
  ·simp only[updG]
   split
   ·rename_i ec;subst ec
    constructor
    ·intro h;cases h
    ·rintro⟨x,hx,hxk,_⟩
     exact absurd hxk ((hmem x).1 hx).2
   ·rename_i hne
    rw[hg]
    constructor
    ·rintro⟨x,hx,hxk,hxv⟩
     exact⟨x,(hmem x).2 ⟨hx,fun h=>hne (by rw[hxk]at h;simp only[Value.int.injEq]at h;exact h.2)⟩,hxk,hxv⟩
    ·rintro⟨x,hx,hxk,hxv⟩
     exact⟨x,((hmem x).1 hx).1,hxk,hxv⟩
end MapI
end Go.Proofs.YtkhigkcmgcafdaaGreatDoor
namespace Go.Proofs.YtkhigkcmgcafdaaGreatDoor
open Go.RowKit
abbrev En:=Int × Int × Int
def updN {α:Type}(f:Nat → α)(i:Nat)(x : α):Nat → α:=fun j=>if j=i then x else f j
def updI {α:Type}(f:Int → α)(i:Int)(x : α):Int → α:=fun j=>if j=i then x else f j
theorem updN_same{α:Type}(f:Nat → α)(i:Nat)(x : α):updN f i x i=x:=by simp[updN]
theorem updN_ne{α:Type}(f:Nat → α){i j:Nat}(x : α)(h:j≠i):updN f i x j=f j:=by simp[updN,h]
structure Tq(Z:Nat→Prop)(w:World)(t hb mb n c:Nat)(hp:Nat→Nat)(v:Nat→Value)(es:Nat→List En)(inn:Int→Bool)(k ad:Nat):Prop where
 box:w.heap[t]? = some (.cells #[.slice (some ⟨hb,0,none⟩) n c, .map (some mb), .int .u64 ad] 177 (0,0))
 row:hb<w.heap.size ∧ ∀ i,i<n→w.cell? ⟨hb,i,none⟩=some (.pointer (some ⟨hp i,0,none⟩))
 hc:n≤c∧c≤maxLen
 mp:∃ g,MapI w mb .i64 g k ∧ ∀ a,(g a=some (.bool true)∧inn a=true)∨(g a=none∧inn a=false)
 he:∀ i,i<n→Hp w 0 (hp i) (v i) (es i)
 ord:∀ i,i<n→Ord (es i)
 fix:t≠hb∧t≠mb∧hb≠mb
 hpx:∀ i,i<n→hp i≠t∧hp i≠hb∧hp i≠mb
 hpi:∀ i j,i<n→j<n→hp i=hp j→i=j
 own:∀ i,i<n → ∀ q,(v i).ownBlock=some q→(q≠t∧q≠hb∧q≠mb)∧(∀ j,j<n→q≠hp j)∧(∀ j,j<n→j≠i→(v j).ownBlock≠some q)
 zf:(¬Z t∧¬Z hb∧¬Z mb)∧(∀ i,i<n→¬Z (hp i))∧(∀ i,i<n → ∀ q,(v i).ownBlock=some q→¬Z q)
variable {Z:Nat→Prop}{w w':World}{t hb mb n c:Nat}{hp:Nat→Nat}{v:Nat→Value}{es:Nat→List En}{inn:Int→Bool}{k ad:Nat}
theorem own_lt0{p:Nat}{v:Value}{es:List En}(h:Hp w 0 p v es){q:Nat}(hq:v.ownBlock=some q):q<w.heap.size:=(h.own_lt q hq).2
theorem Tq.lt(h:Tq Z w t hb mb n c hp v es inn k ad):t<w.heap.size∧hb<w.heap.size∧mb<w.heap.size:=by
 obtain⟨g,h1,_⟩:=h.mp
 obtain⟨hl,_⟩:=Array.getElem?_eq_some_iff.1 h.box
 exact⟨hl,h.row.1,h1.lt⟩
theorem Tq.kept(h:Tq Z w t hb mb n c hp v es inn k ad)(ht:w'.heap[t]? = w.heap[t]?)(hh:w'.heap[hb]? = w.heap[hb]?)(hm:w'.heap[mb]? = w.heap[mb]?)(hs:w.heap.size≤w'.heap.size)
 (hx:∀ i,i<n→w'.heap[hp i]? = w.heap[hp i]?)(hv:∀ i,i<n → ∀ q,(v i).ownBlock=some q→w'.heap[q]? = w.heap[q]?):Tq Z w' t hb mb n c hp v es inn k ad:=by
 obtain⟨g,h1,h2⟩:=h.mp
 refine⟨ht.trans h.box,⟨Nat.lt_of_lt_of_le h.row.1 hs,fun i hi => ?_⟩,h.hc,⟨g,h1.kept hm,h2⟩,fun i hi=>(h.he i hi).kept (hx i hi) (hv i hi),h.ord,h.fix,h.hpx,h.hpi,h.own,h.zf⟩
 have:=h.row.2 i hi
 simpa[World.cell?,hh] using this
theorem Tq.below(h:Tq Z w t hb mb n c hp v es inn k ad)(hb':Below w.heap.size w w'):Tq Z w' t hb mb n c hp v es inn k ad:=
 h.kept (hb'.block _ h.lt.1) (hb'.block _ h.lt.2.1) (hb'.block _ h.lt.2.2) hb'.size (fun i hi=>hb'.block _ (h.he i hi).lt) (fun i hi q hq=>hb'.block _ (own_lt0 (h.he i hi) hq))
theorem Tq.up(h:Tq Z w t hb mb n c hp v es inn k ad){i:Nat}(hi:i<n){v':Value}{T:List En}(hH:Hp w' 0 (hp i) v' T)(hO:Ord T)(hq:OnlyQ (hp i) (v i) w w')
 (hn:∀ q,v'.ownBlock=some q→(v i).ownBlock=some q∨w.heap.size≤q)(hz:∀ k,Z k→k<w.heap.size):Tq Z w' t hb mb n c hp (updN v i v') (updN es i T) inn k ad:=by
 obtain⟨g,h1,h2⟩:=h.mp
 obtain⟨lt,lh,lm⟩:=h.lt
 have oi:=h.own i hi
 have xi:=h.hpx i hi
 have no:∀ x,(∀ q,(v i).ownBlock=some q→q≠x)→(v i).ownBlock≠some x:=fun x hx e=>hx x e rfl
 have kt:w'.heap[t]? = w.heap[t]?:=hq.block t lt (fun e=>xi.1 e.symm) (no t fun q e=>(oi q e).1.1)
 have kh:w'.heap[hb]? = w.heap[hb]?:=hq.block hb lh (fun e=>xi.2.1 e.symm) (no hb fun q e=>(oi q e).1.2.1)
 have km:w'.heap[mb]? = w.heap[mb]?:=hq.block mb lm (fun e=>xi.2.2 e.symm) (no mb fun q e=>(oi q e).1.2.2)
 have kj:∀ j,j<n→j≠i→w'.heap[hp j]? = w.heap[hp j]?:=fun j hj hji=>hq.block (hp j) (h.he j hj).lt (fun e=>hji (h.hpi j i hj hi e)) (no (hp j) fun q e=>(oi q e).2.1 j hj)
 have kv:∀ j,j<n→j≠i → ∀ q,(v j).ownBlock=some q→w'.heap[q]? = w.heap[q]?:=fun j hj hji q e=>
  hq.block q (own_lt0 (h.he j hj) e) ((h.own j hj q e).2.1 i hi) (fun e2=>(oi q e2).2.2 j hj hji e)
 have nw:∀ q,v'.ownBlock=some q→(q≠t∧q≠hb∧q≠mb)∧(∀ j,j<n→q≠hp j)∧(∀ j,j<n→j≠i→(v j).ownBlock≠some q)∧¬Z q:=fun q e=>by
  rcases hn q e with e|e
  ·exact⟨(oi q e).1,(oi q e).2.1,(oi q e).2.2,h.zf.2.2 i hi q e⟩
  ·refine⟨⟨by omega,by omega,by omega⟩,fun j hj e2 => ?_,fun j hj _ e2 => ?_,fun hzq => ?_⟩
   ·have:=(h.he j hj).lt;omega
   ·have:=own_lt0 (h.he j hj) e2;omega
   ·have:=hz q hzq;omega
 refine⟨kt.trans h.box,⟨Nat.lt_of_lt_of_le lh hq.size,fun j hj => ?_⟩,h.hc,⟨g,h1.kept km,h2⟩,fun j hj => ?_,fun j hj => ?_,h.fix,h.hpx,h.hpi,fun j hj q e => ?_,h.zf.1,h.zf.2.1,fun j hj q e => ?_⟩
 ·have:=h.row.2 j hj
  simpa[World.cell?,kh] using this
 ·by_cases hji:j=i
  ·subst hji;rw[updN_same,updN_same];exact hH
  ·rw[updN_ne _ _ hji,updN_ne _ _ hji];exact(h.he j hj).kept (kj j hj hji) (kv j hj hji)
 ·by_cases hji:j=i
  ·subst hji;rw[updN_same];exact hO
  ·rw[updN_ne _ _ hji];exact h.ord j hj
 ·by_cases hji:j=i
  ·subst hji
   rw[updN_same]at e
   obtain⟨a1,a2,a3,a4⟩:=nw q e
   exact⟨a1,a2,fun l hl hlj=>by rw[updN_ne _ _ hlj];exact a3 l hl hlj⟩
  ·rw[updN_ne _ _ hji]at e
   obtain⟨a1,a2,a3⟩:=h.own j hj q e
   refine⟨a1,a2,fun l hl hlj => ?_⟩
   by_cases hli:l=i
   ·subst hli
    rw[updN_same]
    exact fun e2=>(nw q e2).2.2.1 j hj hji e
   ·rw[updN_ne _ _ hli];exact a3 l hl hlj
 ·by_cases hji:j=i
  ·subst hji
   rw[updN_same]at e
   exact(nw q e).2.2.2
  ·rw[updN_ne _ _ hji]at e
   exact h.zf.2.2 j hj q e
theorem FrZ.of_q(h:Tq Z w t hb mb n c hp v es inn k ad){i:Nat}(hi:i<n)(hq:OnlyQ (hp i) (v i) w w')(ho:w'.os=w.os∧w'.tape=w.tape∧w'.output=w.output):FrZ Z w w':=
 ⟨ho.1,ho.2.1,ho.2.2,hq.size,fun x hx hz=>hq.block x hx (fun e=>h.zf.2.1 i hi (e ▸ hz)) (fun e=>h.zf.2.2 i hi x e hz)⟩
theorem undT:Tryz.prog.underlying 174=some (.map 3 4):=by kernel_rfl
theorem undTI:Tryz.prog.underlying 3=some (.int .i64):=by kernel_rfl
theorem zeroTB(w:World):(zeroValue 4).run Tryz.prog w = .ok (.bool false) w:=by kernel_rfl
theorem Tq.look(h:Tq Z w t hb mb n c hp v es inn k ad)(a:Int):(Instr.lookup 174 (.map (some mb)) (.int .i64 a) false).run Tryz.prog w = .ok (.bool (inn a)) w:=by
 obtain⟨g,h1,h2⟩:=h.mp
 rcases h2 a with⟨e,e2⟩|⟨e,e2⟩
 ·rw[e2];exact h1.look_hit undT undTI e false
 ·rw[e2];exact h1.look_miss undT undTI zeroTB e false
theorem Tq.onlyM(h:Tq Z w t hb mb n c hp v es inn k ad)(o:Only mb mb w w'){inn':Int→Bool}{k':Nat}(hm:∃ g,MapI w' mb .i64 g k' ∧ ∀ a,(g a=some (.bool true)∧inn' a=true)∨(g a=none∧inn' a=false)) :
 Tq Z w' t hb mb n c hp v es inn' k' ad∧FrZ Z w w':=by
 obtain⟨lt,lh,lm⟩:=h.lt
 have b:=fun x hx (e:x≠mb)=>o.block x hx e e
 refine⟨⟨(b t lt h.fix.2.1).trans h.box,⟨Nat.lt_of_lt_of_le lh o.size,fun i hi => ?_⟩,h.hc,hm,fun i hi=>(h.he i hi).kept (b _ (h.he i hi).lt (h.hpx i hi).2.2) (fun q hq=>b q (own_lt0 (h.he i hi) hq) (h.own i hi q hq).1.2.2),h.ord,h.fix,h.hpx,h.hpi,h.own,h.zf⟩,
  ⟨o.os,o.tape,o.output,o.size,fun x hx hz=>b x hx (fun e=>h.zf.1.2.2 (e ▸ hz))⟩⟩
 have:=h.row.2 i hi
 simpa[World.cell?,b hb lh h.fix.2.2] using this
theorem Tq.store(h : Tq Z w t hb mb n c hp v es inn k ad)(a:Int)(ha:inn a=false) :
 ∃ w',(Instr.mapUpdate 174 (.map (some mb)) (.int .i64 a) (.bool true)).run Tryz.prog w = .ok () w'∧Tq Z w' t hb mb n c hp v es (updI inn a true) (k+1) ad∧FrZ Z w w':=by
 obtain⟨g,h1,h2⟩:=h.mp
 obtain⟨w',r,m,o⟩:=h1.store undT undTI a (.bool true)
 have hg : g a = none := by rcases h2 a with⟨_,e⟩|⟨e,_⟩; · rw[ha]at e;cases e
                            ·exact e
 rw[if_pos hg]at m
 obtain⟨h3,h4⟩:=h.onlyM o (inn':=updI inn a true) ⟨_,m,fun x=>by
  simp only[updG,updI]
  by_cases hx:x=a
  ·simp[hx]
  ·simp only[if_neg hx];exact h2 x⟩
 exact⟨w',r,h3,h4⟩
theorem Tq.count(h:Tq Z w t hb mb n c hp v es inn k ad)(ad':Nat):Tq Z (w.setCell ⟨t,2,none⟩ (.int .u64 ad')) t hb mb n c hp v es inn k ad'∧FrZ Z w (w.setCell ⟨t,2,none⟩ (.int .u64 ad')):=by
 obtain⟨lt,lh,lm⟩:=h.lt
 have b:∀ x,x≠t→(w.setCell ⟨t,2,none⟩ (.int .u64 ad')).heap[x]? = w.heap[x]?:=fun x hx=>Below.heap_setCell _ _ _ _ hx
 have hs:(w.setCell ⟨t,2,none⟩ (.int .u64 ad')).heap.size=w.heap.size:=by simp[World.setCell]
 obtain⟨g,h1,h2⟩:=h.mp
 refine⟨⟨by simp[World.setCell,Array.getElem?_modify,h.box],⟨by rw[hs];exact lh,fun i hi => ?_⟩,h.hc,⟨g,h1.kept (b mb h.fix.2.1.symm),h2⟩,fun i hi=>(h.he i hi).kept (b _ (h.hpx i hi).1) (fun q hq=>b q (h.own i hi q hq).1.1),h.ord,h.fix,h.hpx,h.hpi,h.own,h.zf⟩,
  ⟨rfl,rfl,rfl,by rw[hs];exact Nat.le_refl _,fun x hx hz=>b x (fun e=>h.zf.1.1 (e ▸ hz))⟩⟩
 have:=h.row.2 i hi
 simpa[World.cell?,b hb h.fix.1.symm] using this
end Go.Proofs.YtkhigkcmgcafdaaGreatDoor
namespace Go.Proofs.YtkhigkcmgcafdaaGreatDoor
open Go.RowKit
variable {Z:Nat→Prop}{w w':World}{t hb mb n c:Nat}{hp:Nat→Nat}{v:Nat→Value}{es:Nat→List En}{inn:Int→Bool}{k ad:Nat}
theorem thas(h:Tq Z w t hb mb n c hp v es inn k ad)(a:Int):Calls Tryz.prog 213 #[.pointer (some ⟨t,0,none⟩), .int .i64 a] w fun e w'=>e = .returned (.bool (inn a))∧w'=w:=by
 have c1:w.cell? ⟨t,1,none⟩=some (.map (some mb)):=cell_ent h.box rfl
 have L:=h.look a
 clear h
 go_enter Tryz.func213,Tryz.ntmps213
 go_wp2
 go_ret
 exact⟨rfl,rfl⟩
structure Fi(w:World)(L0 L1:Nat)(x1 x2 x3:Int)(wr:World):Prop where
 bl:Below w.heap.size w wr
 r0:wr.heap[L0]? = some (.cells #[.int .i64 0, .int .u64 0, .int .i64 0] 237 (0,0))
 r1:wr.heap[L1]? = some (.cells #[.int .i64 x1, .int .u64 x2, .int .i64 x3] 237 (0,0))
 ge:w.heap.size≤L0∧w.heap.size≤L1∧L0≠L1
theorem Fi.below{L0 L1:Nat}{x1 x2 x3:Int}{wr:World}(h:Fi w L0 L1 x1 x2 x3 wr)(hb':Below wr.heap.size wr w'):Fi w L0 L1 x1 x2 x3 w':=
 ⟨h.bl.trans (hb'.mono h.bl.size),(hb'.block _ (by obtain⟨hl,_⟩:=Array.getElem?_eq_some_iff.1 h.r0;exact hl)).trans h.r0,(hb'.block _ (by obtain⟨hl,_⟩:=Array.getElem?_eq_some_iff.1 h.r1;exact hl)).trans h.r1,h.ge⟩
theorem Fi.set{L0 L1:Nat}{x1 x2 x3:Int}{wr:World}(h:Fi w L0 L1 x1 x2 x3 wr)(y1 y2 y3:Int):Fi w L0 L1 y1 y2 y3 (((wr.setCell ⟨L1,0,none⟩ (.int .i64 y1)).setCell ⟨L1,1,none⟩ (.int .u64 y2)).setCell ⟨L1,2,none⟩ (.int .i64 y3)):=by
 obtain⟨o,b⟩:=(set3 h.r1 (.int .i64 y1) (.int .u64 y2) (.int .i64 y3)).out
 obtain⟨g0,g1,g2⟩:=h.ge
 exact⟨h.bl.trans (o.below g1 g1 h.bl.size),(o.block L0 (by obtain⟨hl,_⟩:=Array.getElem?_eq_some_iff.1 h.r0;exact hl) g2 g2).trans h.r0,b,h.ge⟩
def Fsp (n:Nat)(es:Nat→List En)(m:Nat)(x1 x2 x3:Int):Prop:=m<n∧0<(es m).length∧enAt (es m) 0=(x1,x2,x3) ∧ ∀ j,j<n→0<(es j).length→leE (x1,x2,x3) (enAt (es j) 0)
theorem fsp_empty{q:Nat}{es:Nat→List En}(h:∀ j,j<q→es j = [])(hn:es q = []):∀ j,j<q+1→es j = []:=fun j hj=>by
 rcases Nat.lt_or_ge j q with h1|h1
 ·exact h j h1
 ·rw[show j=q by omega];exact hn
theorem Fsp.skip{q m:Nat}{es:Nat→List En}{x1 x2 x3:Int}(h:Fsp q es m x1 x2 x3)(hn:es q = []):Fsp (q+1) es m x1 x2 x3:=
 ⟨by have:=h.1;omega,h.2.1,h.2.2.1,fun j hj hl=>by
  rcases Nat.lt_or_ge j q with h1|h1
  ·exact h.2.2.2 j h1 hl
  ·rw[show j=q by omega,hn]at hl;simp at hl⟩
theorem fsp_first{q:Nat}{es:Nat→List En}{y1 y2 y3:Int}(h:∀ j,j<q→es j = [])(hp:0<(es q).length)(hy:enAt (es q) 0=(y1,y2,y3)):Fsp (q+1) es q y1 y2 y3:=
 ⟨by omega,hp,hy,fun j hj hl=>by
  rcases Nat.lt_or_ge j q with h1|h1
  ·rw[h j h1]at hl;simp at hl
  ·rw[show j=q by omega,hy];exact leE_refl _⟩
theorem Fsp.stay{q m:Nat}{es:Nat→List En}{x1 x2 x3 y1 y2 y3:Int}(h:Fsp q es m x1 x2 x3)(hy:enAt (es q) 0=(y1,y2,y3))(hr:aheadE (y1,y2,y3) (x1,x2,x3)=false):Fsp (q+1) es m x1 x2 x3:=
 ⟨by have:=h.1;omega,h.2.1,h.2.2.1,fun j hj hl=>by
  rcases Nat.lt_or_ge j q with h1|h1
  ·exact h.2.2.2 j h1 hl
  ·rw[show j=q by omega,hy];exact hr⟩
theorem Fsp.next{q m:Nat}{es:Nat→List En}{x1 x2 x3 y1 y2 y3:Int}(h:Fsp q es m x1 x2 x3)(hp:0<(es q).length)(hy:enAt (es q) 0=(y1,y2,y3))(hr:aheadE (y1,y2,y3) (x1,x2,x3)=true):Fsp (q+1) es q y1 y2 y3:=
 ⟨by omega,hp,hy,fun j hj hl=>by
  rcases Nat.lt_or_ge j q with h1|h1
  ·exact leE_trans (leE_of hr) (h.2.2.2 j h1 hl)
  ·rw[show j=q by omega,hy];exact leE_refl _⟩
def FirPost(n:Nat)(hp:Nat→Nat)(es:Nat→List En)(w:World)(e:Ending)(w':World):Prop:=
 (e = .returned (.tuple #[.pointer none, .agg #[.int .i64 0, .int .u64 0, .int .i64 0], .bool false])∧(∀ j,j<n→es j = [])∧Below w.heap.size w w') ∨
 ∃ m x1 x2 x3,Fsp n es m x1 x2 x3∧e = .returned (.tuple #[.pointer (some ⟨hp m,0,none⟩), .agg #[.int .i64 x1, .int .u64 x2, .int .i64 x3], .bool true])∧Below w.heap.size w w'
theorem res3q(w6:World)(s:Nat){y1 y2 y3:Value}{t:TypeId}(h:w6.heap[s]? = some (.cells #[y1,y2,y3] t (0,0)))(x1 x2 x3:Int) :
 (w6.setCell ⟨s,0,none⟩ (.int .i64 x1)).cell? ⟨s,0,none⟩=some (.int .i64 x1) ∧
 ((w6.setCell ⟨s,0,none⟩ (.int .i64 x1)).setCell ⟨s,1,none⟩ (.int .u64 x2)).cell? ⟨s,1,none⟩=some (.int .u64 x2) ∧
 (((w6.setCell ⟨s,0,none⟩ (.int .i64 x1)).setCell ⟨s,1,none⟩ (.int .u64 x2)).setCell ⟨s,2,none⟩ (.int .i64 x3)).cell? ⟨s,2,none⟩=some (.int .i64 x3):=by
 simp[World.cell?,World.setCell,Array.getElem?_modify,h]
theorem tfirst(h:Tq Z w t hb mb n c hp v es inn k ad):Calls Tryz.prog 187 #[.pointer (some ⟨t,0,none⟩)] w (FirPost n hp es w):=by
 have TQ:=hid h
 have S0:Hid (Fi w w.heap.size (w.heap.size+1) 0 0 0 ((w.alloc (.cells #[.int .i64 0, .int .u64 0, .int .i64 0] 237)).alloc (.cells #[.int .i64 0, .int .u64 0, .int .i64 0] 237))):=by
  have hN:=Deep.blk_alloc_new (w.alloc (.cells #[.int .i64 0, .int .u64 0, .int .i64 0] 237)) (.cells #[.int .i64 0, .int .u64 0, .int .i64 0] 237)
  rw[World.size_alloc]at hN
  exact⟨(bl_al w _).trans ((bl_al _ _).mono (by simp)),(Below.heap_alloc _ _ _ (by simp)).trans (Deep.blk_alloc_new _ _),hN,by omega,by omega,by omega⟩
 have c0:((w.alloc (.cells #[.int .i64 0, .int .u64 0, .int .i64 0] 237)).alloc (.cells #[.int .i64 0, .int .u64 0, .int .i64 0] 237)).cell? ⟨t,0,none⟩=some (.slice (some ⟨hb,0,none⟩) n c):=cell_ent (h.below S0.out.bl).box rfl
 have hcc:=h.hc
 unfold maxLen at hcc
 clear h
 go_enter Tryz.func187,Tryz.ntmps187
 go_wp2_with fail
 clear c0
 obtain⟨L0,hL0⟩:∃ x,x=w.heap.size:=⟨_,rfl⟩
 obtain⟨L1,hL1⟩:∃ x,x=w.heap.size+1:=⟨_,rfl⟩
 have HL:=hid (And.intro hL0 hL1)
 rw[←hL1, ←hL0]at S0
 rw[←hL1, ←hL0]
 clear hL0 hL1
 go_loopw [5,16] (fun fv i wr=>∃(q:Nat),q≤n∧i = .int .i64 q∧((fv = .pointer none∧Hid (∀ j,j<q→es j = [])∧Hid (Fi w L0 L1 0 0 0 wr)) ∨
  ∃(a m:Nat) (x1 x2 x3:Int),fv = .pointer (some ⟨a,0,none⟩)∧Hid (a=hp m)∧Hid (Fsp q es m x1 x2 x3)∧Hid (Fi w L0 L1 x1 x2 x3 wr)))
  (fun _ i _=>n - (intOf i).toNat)
 case atStart=>exact⟨0,by omega,rfl, .inl ⟨rfl,hid (fun j hj=>by omega),S0⟩⟩
 case round=>
  clear S0
  obtain⟨q,hq,rfl,hst⟩:=hrel
  by_cases hlt:q<n
  ·rcases hst with⟨rfl,HE,F⟩|⟨a,m,x1,x2,x3,rfl,HA,HS,F⟩
   ·have TW:=hid (TQ.out.below F.out.bl)
    have r0:=TW.out.row.2 q hlt
    have HH:=hid (TW.out.he q hlt)
    obtain⟨a2,ha2⟩:∃ a,a=hp q:=⟨_,rfl⟩
    have HA2:=hid ha2
    rw[←ha2]at r0 HH
    clear ha2
    rcases List.eq_nil_or_concat (es q) with hnil|⟨_,_,hcon⟩
    ·have FN:=hid (first_none wr 0 a2 (v q) (by have:=HH.out;rwa[hnil]at this))
     have HN:=hid hnil
     clear hnil
     go_wp2_with fail
     refine(FN.out).mono ?_
     rintro e w5 ⟨rfl,h5⟩
     have F5:=hid ((F.out.below h5).below (bl_al _ (.cells #[.int .i64 0, .int .u64 0, .int .i64 0] 237)))
     clear h5 FN F TW HH r0
     go_wp2
     go_roundw
     case rel=>exact⟨q+1,by omega,by go_num, .inl ⟨rfl,hid (fsp_empty HE.out HN.out),F5⟩⟩
     case measure=>simp[intOf];omega
    ·have hpos:0<(es q).length:=by rw[hcon];simp
     have HP:=hid hpos
     obtain⟨g,c2,hv2,hs⟩:=HH.out.hs hpos
     obtain⟨y1,y2,y3,hy⟩:∃ y1 y2 y3,enAt (es q) 0=(y1,y2,y3):=⟨_,_,_,rfl⟩
     have HY:=hid hy
     have FS:=hid (first_some wr 0 a2 g (es q).length c2 (es q) hs hpos y1 y2 y3 hy)
     clear hv2 hs hy hpos hcon HH
     go_wp2_with fail
     refine(FS.out).mono ?_
     rintro e w5 ⟨rfl,h5⟩
     have F5:=hid ((F.out.below h5).below (bl_al _ (.cells #[.int .i64 y1, .int .u64 y2, .int .i64 y3] 237)))
     have XB:=hid (Deep.blk_alloc_new w5 (.cells #[.int .i64 y1, .int .u64 y2, .int .i64 y3] 237))
     clear h5 FS F TW r0
     have F6:=F5
     have X6:=XB
     have b1:=F6.out.r1
     have l0:(w5.alloc (.cells #[.int .i64 y1, .int .u64 y2, .int .i64 y3] 237)).drew.cell? ⟨L1,0,none⟩=some (.int .i64 0):=cell_ent b1 rfl
     have l0':(w5.alloc (.cells #[.int .i64 y1, .int .u64 y2, .int .i64 y3] 237)).cell? ⟨L1,0,none⟩=some (.int .i64 0):=cell_ent b1 rfl
     have l1:(w5.alloc (.cells #[.int .i64 y1, .int .u64 y2, .int .i64 y3] 237)).drew.cell? ⟨L1,1,none⟩=some (.int .u64 0):=cell_ent b1 rfl
     have l1':(w5.alloc (.cells #[.int .i64 y1, .int .u64 y2, .int .i64 y3] 237)).cell? ⟨L1,1,none⟩=some (.int .u64 0):=cell_ent b1 rfl
     have l2:(w5.alloc (.cells #[.int .i64 y1, .int .u64 y2, .int .i64 y3] 237)).drew.cell? ⟨L1,2,none⟩=some (.int .i64 0):=cell_ent b1 rfl
     have l2':(w5.alloc (.cells #[.int .i64 y1, .int .u64 y2, .int .i64 y3] 237)).cell? ⟨L1,2,none⟩=some (.int .i64 0):=cell_ent b1 rfl
     have f0:(w5.alloc (.cells #[.int .i64 y1, .int .u64 y2, .int .i64 y3] 237)).drew.frozen? ⟨L1,0,none⟩=false:=by have h:(w5.alloc (.cells #[.int .i64 y1, .int .u64 y2, .int .i64 y3] 237)).drew.heap[L1]? = _:=b1;simp only[World.frozen?,h];rfl
     have f0':(w5.alloc (.cells #[.int .i64 y1, .int .u64 y2, .int .i64 y3] 237)).frozen? ⟨L1,0,none⟩=false:=by have h:(w5.alloc (.cells #[.int .i64 y1, .int .u64 y2, .int .i64 y3] 237)).heap[L1]? = _:=b1;simp only[World.frozen?,h];rfl
     have f1:(w5.alloc (.cells #[.int .i64 y1, .int .u64 y2, .int .i64 y3] 237)).drew.frozen? ⟨L1,1,none⟩=false:=by have h:(w5.alloc (.cells #[.int .i64 y1, .int .u64 y2, .int .i64 y3] 237)).drew.heap[L1]? = _:=b1;simp only[World.frozen?,h];rfl
     have f1':(w5.alloc (.cells #[.int .i64 y1, .int .u64 y2, .int .i64 y3] 237)).frozen? ⟨L1,1,none⟩=false:=by have h:(w5.alloc (.cells #[.int .i64 y1, .int .u64 y2, .int .i64 y3] 237)).heap[L1]? = _:=b1;simp only[World.frozen?,h];rfl
     have f2:(w5.alloc (.cells #[.int .i64 y1, .int .u64 y2, .int .i64 y3] 237)).drew.frozen? ⟨L1,2,none⟩=false:=by have h:(w5.alloc (.cells #[.int .i64 y1, .int .u64 y2, .int .i64 y3] 237)).drew.heap[L1]? = _:=b1;simp only[World.frozen?,h];rfl
     have f2':(w5.alloc (.cells #[.int .i64 y1, .int .u64 y2, .int .i64 y3] 237)).frozen? ⟨L1,2,none⟩=false:=by have h:(w5.alloc (.cells #[.int .i64 y1, .int .u64 y2, .int .i64 y3] 237)).heap[L1]? = _:=b1;simp only[World.frozen?,h];rfl
     have e0:(w5.alloc (.cells #[.int .i64 y1, .int .u64 y2, .int .i64 y3] 237)).drew.cell? ⟨w5.heap.size,0,none⟩=some (.int .i64 y1):=cell_ent X6.out rfl
     have e1:(w5.alloc (.cells #[.int .i64 y1, .int .u64 y2, .int .i64 y3] 237)).drew.cell? ⟨w5.heap.size,1,none⟩=some (.int .u64 y2):=cell_ent X6.out rfl
     have e2:(w5.alloc (.cells #[.int .i64 y1, .int .u64 y2, .int .i64 y3] 237)).drew.cell? ⟨w5.heap.size,2,none⟩=some (.int .i64 y3):=cell_ent X6.out rfl
     have F7:=hid ((F6.out.below (bl_drw _ _)).set y1 y2 y3)
     clear b1
     go_wp2_with fail
     go_region
     all_goals
      clear l0 l1 l2 f0 f1 f2 e0 e1 e2 l0' l1' l2' f0' f1' f2'
      go_wp2
      go_roundw
      case rel=>exact⟨q+1,by omega,by go_num, .inr ⟨a2,q,y1,y2,y3,rfl,HA2,hid (fsp_first HE.out HP.out HY.out),F7⟩⟩
      case measure=>simp[intOf];omega
   ·have TW:=hid (TQ.out.below F.out.bl)
    have r0:=TW.out.row.2 q hlt
    have HH:=hid (TW.out.he q hlt)
    obtain⟨a2,ha2⟩:∃ a,a=hp q:=⟨_,rfl⟩
    have HA2:=hid ha2
    rw[←ha2]at r0 HH
    clear ha2
    rcases List.eq_nil_or_concat (es q) with hnil|⟨_,_,hcon⟩
    ·have FN:=hid (first_none wr 0 a2 (v q) (by have:=HH.out;rwa[hnil]at this))
     have HN:=hid hnil
     clear hnil
     go_wp2_with fail
     refine(FN.out).mono ?_
     rintro e w5 ⟨rfl,h5⟩
     have F5:=hid ((F.out.below h5).below (bl_al _ (.cells #[.int .i64 0, .int .u64 0, .int .i64 0] 237)))
     clear h5 FN F TW HH r0
     go_wp2
     go_roundw
     case rel=>exact⟨q+1,by omega,by go_num, .inr ⟨a,m,x1,x2,x3,rfl,HA,hid (HS.out.skip HN.out),F5⟩⟩
     case measure=>simp[intOf];omega
    ·have hpos:0<(es q).length:=by rw[hcon];simp
     have HP:=hid hpos
     obtain⟨g,c2,hv2,hs⟩:=HH.out.hs hpos
     obtain⟨y1,y2,y3,hy⟩:∃ y1 y2 y3,enAt (es q) 0=(y1,y2,y3):=⟨_,_,_,rfl⟩
     have HY:=hid hy
     have FS:=hid (first_some wr 0 a2 g (es q).length c2 (es q) hs hpos y1 y2 y3 hy)
     clear hv2 hs hy hpos hcon HH
     go_wp2_with fail
     refine(FS.out).mono ?_
     rintro e w5 ⟨rfl,h5⟩
     have F5:=hid ((F.out.below h5).below (bl_al _ (.cells #[.int .i64 y1, .int .u64 y2, .int .i64 y3] 237)))
     have XB:=hid (Deep.blk_alloc_new w5 (.cells #[.int .i64 y1, .int .u64 y2, .int .i64 y3] 237))
     clear h5 FS F TW r0
     obtain⟨r,hr⟩:∃ r,aheadE (y1,y2,y3) (x1,x2,x3)=r:=⟨_,rfl⟩
     have HR:=hid hr
     have AH:=hid (fun w=>ahead_r y1 y2 y3 x1 x2 x3 r hr w)
     have p0:(w5.alloc (.cells #[.int .i64 y1, .int .u64 y2, .int .i64 y3] 237)).cell? ⟨L1,0,none⟩=some (.int .i64 x1):=cell_ent F5.out.r1 rfl
     have p1:(w5.alloc (.cells #[.int .i64 y1, .int .u64 y2, .int .i64 y3] 237)).cell? ⟨L1,1,none⟩=some (.int .u64 x2):=cell_ent F5.out.r1 rfl
     have p2:(w5.alloc (.cells #[.int .i64 y1, .int .u64 y2, .int .i64 y3] 237)).cell? ⟨L1,2,none⟩=some (.int .i64 x3):=cell_ent F5.out.r1 rfl
     clear hr
     go_wp2_with fail
     refine(AH.out _).mono ?_
     rintro e w6 ⟨rfl,h6⟩
     have F6:=hid (F5.out.below h6)
     have X6:=hid ((h6.block w5.heap.size (by simp)).trans XB.out)
     clear h6 AH p0 p1 p2 F5 XB
     cases r
     ·have FS2:=hid (HS.out.stay HY.out HR.out)
      go_wp2
      go_roundw
      case rel=>exact⟨q+1,by omega,by go_num, .inr ⟨a,m,x1,x2,x3,rfl,HA,FS2,F6⟩⟩
      case measure=>simp[intOf];omega
     ·have FS2:=hid (HS.out.next HP.out HY.out HR.out)
      have b1:=F6.out.r1
      have l0:w6.drew.cell? ⟨L1,0,none⟩=some (.int .i64 x1):=cell_ent b1 rfl
      have l0':w6.cell? ⟨L1,0,none⟩=some (.int .i64 x1):=cell_ent b1 rfl
      have l1:w6.drew.cell? ⟨L1,1,none⟩=some (.int .u64 x2):=cell_ent b1 rfl
      have l1':w6.cell? ⟨L1,1,none⟩=some (.int .u64 x2):=cell_ent b1 rfl
      have l2:w6.drew.cell? ⟨L1,2,none⟩=some (.int .i64 x3):=cell_ent b1 rfl
      have l2':w6.cell? ⟨L1,2,none⟩=some (.int .i64 x3):=cell_ent b1 rfl
      have f0:w6.drew.frozen? ⟨L1,0,none⟩=false:=by have h:w6.drew.heap[L1]? = _:=b1;simp only[World.frozen?,h];rfl
      have f0':w6.frozen? ⟨L1,0,none⟩=false:=by have h:w6.heap[L1]? = _:=b1;simp only[World.frozen?,h];rfl
      have f1:w6.drew.frozen? ⟨L1,1,none⟩=false:=by have h:w6.drew.heap[L1]? = _:=b1;simp only[World.frozen?,h];rfl
      have f1':w6.frozen? ⟨L1,1,none⟩=false:=by have h:w6.heap[L1]? = _:=b1;simp only[World.frozen?,h];rfl
      have f2:w6.drew.frozen? ⟨L1,2,none⟩=false:=by have h:w6.drew.heap[L1]? = _:=b1;simp only[World.frozen?,h];rfl
      have f2':w6.frozen? ⟨L1,2,none⟩=false:=by have h:w6.heap[L1]? = _:=b1;simp only[World.frozen?,h];rfl
      have e0:w6.drew.cell? ⟨w5.heap.size,0,none⟩=some (.int .i64 y1):=cell_ent X6.out rfl
      have e1:w6.drew.cell? ⟨w5.heap.size,1,none⟩=some (.int .u64 y2):=cell_ent X6.out rfl
      have e2:w6.drew.cell? ⟨w5.heap.size,2,none⟩=some (.int .i64 y3):=cell_ent X6.out rfl
      have F7:=hid ((F6.out.below (bl_drw _ _)).set y1 y2 y3)
      clear b1
      go_wp2_with fail
      go_region
      all_goals
       clear l0 l1 l2 f0 f1 f2 e0 e1 e2 l0' l1' l2' f0' f1' f2'
       go_wp2
       go_roundw
       case rel=>exact⟨q+1,by omega,by go_num, .inr ⟨a2,q,y1,y2,y3,rfl,HA2,FS2,F7⟩⟩
       case measure=>simp[intOf];omega
  ·obtain rfl:q=n:=by omega
   rcases hst with⟨rfl,HE,F⟩|⟨a,m,x1,x2,x3,rfl,HA,HS,F⟩
   ·have l0:wr.drew.cell? ⟨L1,0,none⟩=some (.int .i64 0):=cell_ent F.out.r1 rfl
    have l0':wr.cell? ⟨L1,0,none⟩=some (.int .i64 0):=cell_ent F.out.r1 rfl
    have l1:wr.drew.cell? ⟨L1,1,none⟩=some (.int .u64 0):=cell_ent F.out.r1 rfl
    have l1':wr.cell? ⟨L1,1,none⟩=some (.int .u64 0):=cell_ent F.out.r1 rfl
    have l2:wr.drew.cell? ⟨L1,2,none⟩=some (.int .i64 0):=cell_ent F.out.r1 rfl
    have l2':wr.cell? ⟨L1,2,none⟩=some (.int .i64 0):=cell_ent F.out.r1 rfl
    have k0:wr.drew.cell? ⟨L0,0,none⟩=some (.int .i64 0):=cell_ent F.out.r0 rfl
    have k0':wr.cell? ⟨L0,0,none⟩=some (.int .i64 0):=cell_ent F.out.r0 rfl
    have k1:wr.drew.cell? ⟨L0,1,none⟩=some (.int .u64 0):=cell_ent F.out.r0 rfl
    have k1':wr.cell? ⟨L0,1,none⟩=some (.int .u64 0):=cell_ent F.out.r0 rfl
    have k2:wr.drew.cell? ⟨L0,2,none⟩=some (.int .i64 0):=cell_ent F.out.r0 rfl
    have k2':wr.cell? ⟨L0,2,none⟩=some (.int .i64 0):=cell_ent F.out.r0 rfl
    have f0:wr.drew.frozen? ⟨L0,0,none⟩=false:=by have h:wr.drew.heap[L0]? = _:=F.out.r0;simp only[World.frozen?,h];rfl
    have f0':wr.frozen? ⟨L0,0,none⟩=false:=by have h:wr.heap[L0]? = _:=F.out.r0;simp only[World.frozen?,h];rfl
    have f1:wr.drew.frozen? ⟨L0,1,none⟩=false:=by have h:wr.drew.heap[L0]? = _:=F.out.r0;simp only[World.frozen?,h];rfl
    have f1':wr.frozen? ⟨L0,1,none⟩=false:=by have h:wr.heap[L0]? = _:=F.out.r0;simp only[World.frozen?,h];rfl
    have f2:wr.drew.frozen? ⟨L0,2,none⟩=false:=by have h:wr.drew.heap[L0]? = _:=F.out.r0;simp only[World.frozen?,h];rfl
    have f2':wr.frozen? ⟨L0,2,none⟩=false:=by have h:wr.heap[L0]? = _:=F.out.r0;simp only[World.frozen?,h];rfl
    have R3:=hid (res3q wr L0 F.out.r0 0 0 0)
    have HB:=hid (show Below w.heap.size w (((wr.drew.setCell ⟨L0,0,none⟩ (.int .i64 0)).setCell ⟨L0,1,none⟩ (.int .u64 0)).setCell ⟨L0,2,none⟩ (.int .i64 0)) from by
     have F9:=F.out.below (bl_drw _ _)
     exact F9.bl.trans ((set3 F9.r0 (.int .i64 0) (.int .u64 0) (.int .i64 0)).out.1.below F.out.ge.1 F.out.ge.1 F9.bl.size))
    go_wp2_with fail
    go_region
    all_goals
     clear l0 l1 l2 k0 k1 k2 f0 f1 f2 l0' l1' l2' k0' k1' k2' f0' f1' f2'
     go_wp2
     obtain⟨r0,r1,r2⟩:=R3.out
     exact bodyPost_ret (v := .tuple #[.pointer none, .agg #[.int .i64 0, .int .u64 0, .int .i64 0], .bool false]) (by simp[results,Tryz.results187,go_sem,r0,r1,r2]) rfl (.inl ⟨rfl,HE.out,HB.out⟩)
   ·have l0:wr.drew.cell? ⟨L1,0,none⟩=some (.int .i64 x1):=cell_ent F.out.r1 rfl
    have l0':wr.cell? ⟨L1,0,none⟩=some (.int .i64 x1):=cell_ent F.out.r1 rfl
    have l1:wr.drew.cell? ⟨L1,1,none⟩=some (.int .u64 x2):=cell_ent F.out.r1 rfl
    have l1':wr.cell? ⟨L1,1,none⟩=some (.int .u64 x2):=cell_ent F.out.r1 rfl
    have l2:wr.drew.cell? ⟨L1,2,none⟩=some (.int .i64 x3):=cell_ent F.out.r1 rfl
    have l2':wr.cell? ⟨L1,2,none⟩=some (.int .i64 x3):=cell_ent F.out.r1 rfl
    have k0:wr.drew.cell? ⟨L0,0,none⟩=some (.int .i64 0):=cell_ent F.out.r0 rfl
    have k0':wr.cell? ⟨L0,0,none⟩=some (.int .i64 0):=cell_ent F.out.r0 rfl
    have k1:wr.drew.cell? ⟨L0,1,none⟩=some (.int .u64 0):=cell_ent F.out.r0 rfl
    have k1':wr.cell? ⟨L0,1,none⟩=some (.int .u64 0):=cell_ent F.out.r0 rfl
    have k2:wr.drew.cell? ⟨L0,2,none⟩=some (.int .i64 0):=cell_ent F.out.r0 rfl
    have k2':wr.cell? ⟨L0,2,none⟩=some (.int .i64 0):=cell_ent F.out.r0 rfl
    have f0:wr.drew.frozen? ⟨L0,0,none⟩=false:=by have h:wr.drew.heap[L0]? = _:=F.out.r0;simp only[World.frozen?,h];rfl
    have f0':wr.frozen? ⟨L0,0,none⟩=false:=by have h:wr.heap[L0]? = _:=F.out.r0;simp only[World.frozen?,h];rfl
    have f1:wr.drew.frozen? ⟨L0,1,none⟩=false:=by have h:wr.drew.heap[L0]? = _:=F.out.r0;simp only[World.frozen?,h];rfl
    have f1':wr.frozen? ⟨L0,1,none⟩=false:=by have h:wr.heap[L0]? = _:=F.out.r0;simp only[World.frozen?,h];rfl
    have f2:wr.drew.frozen? ⟨L0,2,none⟩=false:=by have h:wr.drew.heap[L0]? = _:=F.out.r0;simp only[World.frozen?,h];rfl
    have f2':wr.frozen? ⟨L0,2,none⟩=false:=by have h:wr.heap[L0]? = _:=F.out.r0;simp only[World.frozen?,h];rfl
    have R3:=hid (res3q wr L0 F.out.r0 x1 x2 x3)
    have HB:=hid (show Below w.heap.size w (((wr.drew.setCell ⟨L0,0,none⟩ (.int .i64 x1)).setCell ⟨L0,1,none⟩ (.int .u64 x2)).setCell ⟨L0,2,none⟩ (.int .i64 x3)) from by
     have F9:=F.out.below (bl_drw _ _)
     exact F9.bl.trans ((set3 F9.r0 (.int .i64 x1) (.int .u64 x2) (.int .i64 x3)).out.1.below F.out.ge.1 F.out.ge.1 F9.bl.size))
    go_wp2_with fail
    go_region
    all_goals
     clear l0 l1 l2 k0 k1 k2 f0 f1 f2 l0' l1' l2' k0' k1' k2' f0' f1' f2'
     go_wp2
     obtain⟨r0,r1,r2⟩:=R3.out
     exact bodyPost_ret (v := .tuple #[.pointer (some ⟨a,0,none⟩), .agg #[.int .i64 x1, .int .u64 x2, .int .i64 x3], .bool true]) (by simp[results,Tryz.results187,go_sem,r0,r1,r2]) rfl (.inr ⟨m,x1,x2,x3,HS.out,by rw[←HA.out],HB.out⟩)
end Go.Proofs.YtkhigkcmgcafdaaGreatDoor
namespace Go.Proofs.YtkhigkcmgcafdaaGreatDoor
open Go.RowKit Tk
variable {Z:Nat→Prop}{w w':World}{t hb mb n c:Nat}{hp:Nat→Nat}{v:Nat→Value}{es:Nat→List En}{inn:Int→Bool}{k ad:Nat}
theorem put_perm{es:List En}(x:En):(riseF es.length (es ++ [x]) es.length).Perm (x :: es):=by
 rw[List.perm_iff_count]
 intro a
 rw[put_count,List.count_cons]
 by_cases h:a=x
 ·subst h;simp
 ·have:¬x=a:=fun e=>h e.symm
  simp[h,this]
def AdPost(Z:Nat→Prop)(w:World)(t hb mb n c:Nat)(hp:Nat→Nat)(v:Nat→Value)(es:Nat→List En)(inn:Int→Bool)(k ad p g:Nat)(x:Int)(w':World):Prop:=
 FrZ Z w w' ∧ ∃ v' T,T.Perm ((x,(ad:Int),(g:Int)) :: es p)∧Tq Z w' t hb mb n c hp (updN v p v') (updN es p T) (updI inn g true) (k+1) (ad+1)
theorem tadd(h:Tq Z w t hb mb n c hp v es inn k ad)(hz:∀ q,Z q→q<w.heap.size)(p g:Nat)(hpn:p<n)(hg:g<4096)(x:Int)(hi:inn g=false)(hl:(es p).length<100000)(had:ad<1000000) :
 Calls Tryz.prog 212 #[.pointer (some ⟨t,0,none⟩), .int .i64 p, .int .i64 g, .int .i64 x] w fun e w'=>e = .returned (.int .i64 0)∧AdPost Z w t hb mb n c hp v es inn k ad p g x w':=by
 have TQ:=hid h
 have c0:w.cell? ⟨t,0,none⟩=some (.slice (some ⟨hb,0,none⟩) n c):=cell_ent h.box rfl
 have c0':w.drew.cell? ⟨t,0,none⟩=some (.slice (some ⟨hb,0,none⟩) n c):=cell_ent h.box rfl
 have c2:w.cell? ⟨t,2,none⟩=some (.int .u64 ad):=cell_ent h.box rfl
 have c2':w.drew.cell? ⟨t,2,none⟩=some (.int .u64 ad):=cell_ent h.box rfl
 have HAS:=thas h g
 rw[hi]at HAS
 have HS:=hid HAS
 have hcc:=h.hc
 unfold maxLen at hcc
 have d1:decide ((p:Int)<0)=false:=decide_eq_false (by omega)
 have d2:decide ((n:Int)≤p)=false:=decide_eq_false (by omega)
 have d3:decide ((g:Int)<0)=false:=decide_eq_false (by omega)
 have d4:decide (4096≤(g:Int))=false:=decide_eq_false (by omega)
 have hdr:=h.below (bl_drw w w.heap.size)
 have r0:=h.row.2 p hpn
 have r0':=hdr.row.2 p hpn
 obtain⟨a,ha⟩:∃ a,a=hp p:=⟨_,rfl⟩
 have HA:=hid ha
 rw[←ha]at r0 r0'
 have PU:=hid (put_sep w.drew 0 a (v p) (es p) x ad g (by rw[ha];exact hdr.he p hpn) (Nat.zero_le _) hl)
 have NX:=hid (fun(w2:World) (v':Value) (hH:Hp w2 0 a v' (riseF (es p).length (es p ++ [(x,(ad:Int),(g:Int))]) (es p).length)) (ho:OnlyV a 0 w.drew w2) (hq:OnlyQ a (v p) w.drew w2) (hn:∀ q,v'.ownBlock=some q→(v p).ownBlock=some q∨w.drew.heap.size≤q)=>
  (show Tq Z w2 t hb mb n c hp (updN v p v') (updN es p (riseF (es p).length (es p ++ [(x,(ad:Int),(g:Int))]) (es p).length)) inn k ad∧FrZ Z w w2 from
   ⟨hdr.up hpn (by rw[←ha];exact hH) (put_ord (h.ord p hpn) _) (by rw[←ha];exact hq) hn (fun q hq'=>hz q hq'),(FrZ.of_below (bl_drw w w.heap.size)).trans (.of_q hdr hpn (by rw[←ha];exact hq) ⟨ho.os,ho.tape,ho.output⟩)⟩))
 have HI:=hid hi
 have W1:IntKind.u64.wrap ((ad:Int)+1)=(ad:Int)+1:=by
  have hb:IntKind.u64.bits=64:=rfl
  simp[IntKind.wrap,hb];omega
 clear h HAS hi hz ha hdr hl
 go_enter Tryz.func212,Tryz.ntmps212
 go_wp2_with fail
 refine(HS.out).mono ?_
 rintro e w2 ⟨rfl,rfl⟩
 go_wp2_with fail
 go_region_with (go_at_call 217;refine(PU.out).mono ?_;rintro e w3 ⟨rfl,v',q1,q2,q3,q4⟩;have N3:=hid (NX.out w3 v' q1 q2 q3 q4);clear q1 q2 q3 q4)
 all_goals
  obtain⟨t3,f3⟩:=N3.out
  obtain⟨w4,s4,t4,f4⟩:=t3.store (g:Int) HI.out
  have c1:w3.cell? ⟨t,1,none⟩=some (.map (some mb)):=cell_ent t3.box rfl
  have c24:w4.cell? ⟨t,2,none⟩=some (.int .u64 ad):=cell_ent t4.box rfl
  have FIN:=hid (show AdPost Z w2 t hb mb n c hp v es inn k ad p g x (w4.setCell ⟨t,2,none⟩ (.int .u64 ((ad:Int)+1))) from⟨(f3.trans f4).trans (t4.count (ad+1)).2,v',_,put_perm _,(t4.count (ad+1)).1⟩)
  have z4:w4.frozen? ⟨t,2,none⟩=false:=by have hx:w4.heap[t]? = _:=t4.box;simp only[World.frozen?,hx];rfl
  clear t3 f3 t4 f4 N3 NX PU c0 c0' c2 c2' r0 r0' HS TQ
  go_wp2
  go_ret
  exact⟨rfl,FIN.out⟩
def allE (n:Nat)(es:Nat→List En):List En:=(List.range n).flatMap es
theorem mem_allE{e:En}:e ∈ allE n es ↔ ∃ j,j<n∧e ∈ es j:=by simp[allE,List.mem_flatMap]
theorem allE_nil(h:∀ j,j<n→es j = []):allE n es = []:=by
 rw[List.eq_nil_iff_forall_not_mem]
 intro e he
 obtain⟨j,hj,h2⟩:=mem_allE.1 he
 rw[h j hj]at h2;cases h2
theorem allE_succ(n:Nat)(es:Nat→List En):allE (n+1) es=allE n es ++ es n:=by simp[allE,List.range_succ,List.flatMap_append]
theorem allE_congr{es':Nat→List En}:∀ n,(∀ j,j<n→es j=es' j)→allE n es=allE n es'
 | 0,_=>rfl
 | n+1,h=>by rw[allE_succ,allE_succ,allE_congr n (fun j hj=>h j (by omega)),h n (by omega)]
theorem allE_add{p:Nat}{x:En}{T:List En}(hT:T.Perm (x :: es p)):∀ n,p<n→(allE n (updN es p T)).Perm (x :: allE n es)
 | 0,h=>by omega
 | n + 1,h=>by
   rw[allE_succ,allE_succ]
   rcases Nat.lt_or_ge p n with h1|h1
   ·rw[updN_ne _ _ (by omega)]
    exact ((allE_add hT n h1).append_right _)
   ·obtain rfl:p=n:=by omega
    rw[updN_same,allE_congr (es:=updN es p T) (es':=es) p (fun j hj=>updN_ne _ _ (by omega))]
    exact(hT.append_left _).trans List.perm_middle
theorem allE_take{m:Nat}{x:En}{T:List En}(hT:(es m).Perm (x :: T))(hm:m<n):(allE n es).Perm (x :: allE n (updN es m T)):=by
 have:=allE_add (es:=updN es m T) (p:=m) (x:=x) (T:=es m) (by rw[updN_same];exact hT) n hm
 rwa[show updN (updN es m T) m (es m)=es from funext fun j=>by by_cases hj:j=m <;> simp[updN,hj]]at this
theorem insF_sort(x:En)(l:List En):sortE (x :: l)=insF x (sortE l):=by
 refine ord_unique _ _ ((sortE_perm _).trans (((sortE_perm l).symm.cons x).trans (insF_perm x _).symm)) (sortE_ord _) (insF_ord x _ (sortE_ord l))
theorem sort_min{x:En}{l:List En}(h:∀ e ∈ l,leE x e):sortE (x :: l)=x :: sortE l:=
 ord_unique _ _ ((sortE_perm _).trans ((sortE_perm l).symm.cons x)) (sortE_ord _) (List.pairwise_cons.2 ⟨fun y hy=>h y ((sortE_perm l).mem_iff.1 hy),sortE_ord l⟩)
theorem ord_le{l:List En}(h:Ord l){e:En}(he:e ∈ l):leE (enAt l 0) e:=by
 obtain⟨i,hi,rfl⟩:=List.getElem_of_mem he
 rw[←enAt_get hi]
 exact root_le h i i (Nat.le_refl _) hi
theorem fsp_head{m:Nat}{x1 x2 x3:Int}(h:Fsp n es m x1 x2 x3)(ho:∀ i,i<n→Ord (es i)):∃ l,sortE (allE n es)=(x1,x2,x3) :: l:=by
 obtain⟨h1,h2,h3,h4⟩:=h
 have hmem:((x1,x2,x3):En) ∈ allE n es:=mem_allE.2 ⟨m,h1,by rw[←h3,enAt_get h2];exact List.getElem_mem h2⟩
 obtain⟨a,b,hab⟩:=List.append_of_mem hmem
 refine⟨sortE (a ++ b),?_⟩
 rw[←sort_min (x:=(x1,x2,x3)) (l:=a ++ b) ?_]
 ·exact sort_perm (by rw[hab];exact List.perm_middle)
 ·intro e he
  have he2:e ∈ allE n es:=by rw[hab];simp only[List.mem_append,List.mem_cons]at he ⊢;rcases he with he|he <;> simp[he]
  obtain⟨j,hj,hej⟩:=mem_allE.1 he2
  have hpos:0<(es j).length:=List.length_pos_of_mem hej
  exact leE_trans (h4 j hj hpos) (ord_le (ho j hj) hej)
theorem fsp_of{x:En}{l:List En}(hs:sortE (allE n es)=x :: l){m:Nat}{x1 x2 x3:Int}(h:Fsp n es m x1 x2 x3)(ho:∀ i,i<n→Ord (es i)):(x1,x2,x3)=x:=by
 obtain⟨l2,h2⟩:=fsp_head h ho
 rw[hs]at h2
 exact(List.cons.inj h2).1.symm
theorem none_of{x:En}{l:List En}(hs:sortE (allE n es)=x :: l)(h:∀ j,j<n→es j = []):False:=by
 rw[allE_nil h]at hs
 have:=congrArg List.length hs
 rw[sort_len]at this
 simp at this
theorem nil_of(hs:sortE (allE n es) = []){m:Nat}{x1 x2 x3:Int}(h:Fsp n es m x1 x2 x3)(ho:∀ i,i<n→Ord (es i)):False:=by
 obtain⟨l2,h2⟩:=fsp_head h ho
 rw[hs]at h2;cases h2
theorem tnext_none(h:Tq Z w t hb mb n c hp v es inn k ad)(hs:sortE (allE n es) = []):Calls Tryz.prog 153 #[.pointer (some ⟨t,0,none⟩)] w fun e w'=>e = .returned (.tuple #[.int .i64 0, .bool false])∧Below w.heap.size w w':=by
 have F:=hid (tfirst h)
 have HO:=hid (fun m x1 x2 x3 (q:Fsp n es m x1 x2 x3)=>nil_of hs q h.ord)
 clear h hs
 go_enter Tryz.func153,Tryz.ntmps153
 go_wp2_with fail
 refine(F.out).mono ?_
 rintro e w2 (⟨rfl,h2,h3⟩|⟨m,x1,x2,x3,h2,rfl,h3⟩)
 ·have B:=hid (h3.trans ((bl_al w2 (.cells #[.int .i64 0, .int .u64 0, .int .i64 0] 237)).mono h3.size))
  clear h2 h3 F HO
  go_wp2
  go_ret2
  exact⟨rfl,B.out⟩
 ·exact(HO.out _ _ _ _ h2).elim
theorem tnext_some(h:Tq Z w t hb mb n c hp v es inn k ad){x1 x2 x3:Int}{l:List En}(hs:sortE (allE n es)=(x1,x2,x3) :: l):Calls Tryz.prog 153 #[.pointer (some ⟨t,0,none⟩)] w fun e w'=>e = .returned (.tuple #[.int .i64 x1, .bool true])∧Below w.heap.size w w':=by
 have F:=hid (tfirst h)
 have HO:=hid (fun m y1 y2 y3 (q:Fsp n es m y1 y2 y3)=>fsp_of hs q h.ord)
 have HN:=hid (fun q=>none_of hs q)
 clear h hs
 go_enter Tryz.func153,Tryz.ntmps153
 go_wp2_with fail
 refine(F.out).mono ?_
 rintro e w2 (⟨rfl,h2,h3⟩|⟨m,y1,y2,y3,h2,rfl,h3⟩)
 ·exact(HN.out h2).elim
 ·have e:=HO.out _ _ _ _ h2
  injection e with e1 e2
  injection e2 with e2 e3
  subst e1 e2 e3
  have B:=hid (h3.trans ((bl_al w2 (.cells #[.int .i64 y1, .int .u64 y2, .int .i64 y3] 237)).mono h3.size))
  clear h2 h3 F HO HN
  go_wp2
  go_ret2
  exact⟨rfl,B.out⟩
theorem tdue_none(h:Tq Z w t hb mb n c hp v es inn k ad)(hs:sortE (allE n es) = [])(x:Int):Calls Tryz.prog 108 #[.pointer (some ⟨t,0,none⟩), .int .i64 x] w fun e w'=>e = .returned (.bool false)∧Below w.heap.size w w':=by
 have F:=hid (tnext_none h hs)
 clear h hs
 go_enter Tryz.func108,Tryz.ntmps108
 go_wp2_with fail
 refine(F.out).mono ?_
 rintro e w2 ⟨rfl,h3⟩
 have B:=hid h3
 clear h3 F
 go_wp2
 go_ret
 exact⟨rfl,B.out⟩
theorem tdue_some(h:Tq Z w t hb mb n c hp v es inn k ad){x1 x2 x3:Int}{l:List En}(hs:sortE (allE n es)=(x1,x2,x3) :: l)(x:Int)(r:Bool)(hr:decide (x1≤x)=r):Calls Tryz.prog 108 #[.pointer (some ⟨t,0,none⟩), .int .i64 x] w fun e w'=>e = .returned (.bool r)∧Below w.heap.size w w':=by
 have F:=hid (tnext_some h hs)
 clear h hs
 go_enter Tryz.func108,Tryz.ntmps108
 go_wp2_with fail
 refine(F.out).mono ?_
 rintro e w2 ⟨rfl,h3⟩
 have B:=hid h3
 clear h3 F
 go_wp2
 go_ret
 exact⟨rfl,B.out⟩
theorem Tq.other(h:Tq Z w t hb mb n c hp v es inn k ad){b:Nat}(o:Only b b w w')(h1:b≠t∧b≠hb∧b≠mb)(h2:∀ i,i<n→b≠hp i)(h3:∀ i,i<n→(v i).ownBlock≠some b):Tq Z w' t hb mb n c hp v es inn k ad:=by
 obtain⟨lt,lh,lm⟩:=h.lt
 exact h.kept (o.block _ lt h1.1.symm h1.1.symm) (o.block _ lh h1.2.1.symm h1.2.1.symm) (o.block _ lm h1.2.2.symm h1.2.2.symm) o.size
  (fun i hi=>o.block _ (h.he i hi).lt (h2 i hi).symm (h2 i hi).symm)
  (fun i hi q hq=>by
   have hqb:q≠b:=fun e=>h3 i hi (e ▸ hq)
   exact o.block _ (own_lt0 (h.he i hi) hq) hqb hqb)
theorem Tq.delO(h:Tq Z w t hb mb n c hp v es inn k ad)(a:Int)(ha:inn a=true)(ty:TypeId) :
 ∃ w',(Builtin.delete_ #[174,3] ty #[.map (some mb), .int .i64 a]).run Tryz.prog w = .ok (.tuple #[]) w'∧Tq Z w' t hb mb n c hp v es (updI inn a false) (k - 1) ad∧FrZ Z w w'∧Only mb mb w w':=by
 obtain⟨g,h1,h2⟩:=h.mp
 obtain⟨w',r,m,o⟩:=h1.del undT undTI ty a
 have hg : g a ≠ none := by rcases h2 a with⟨e,_⟩|⟨_,e⟩; · rw[e];simp
                            ·rw[ha]at e;cases e
 rw[if_neg hg]at m
 obtain⟨h3,h4⟩:=h.onlyM o (inn':=updI inn a false) ⟨_,m,fun x=>by
  simp only[updG,updI]
  by_cases hx:x=a
  ·simp[hx]
  ·simp only[if_neg hx];exact h2 x⟩
 exact⟨w',r,h3,h4,o⟩
theorem ttake_none(h:Tq Z w t hb mb n c hp v es inn k ad)(now:Int)(hs:∀ x l,sortE (allE n es)=x :: l→now<x.1):Calls Tryz.prog 177 #[.pointer (some ⟨t,0,none⟩), .int .i64 now] w (NonePost w):=by
 have B1:=bl_al w (.cells #[.int .i64 0, .int .u64 0, .int .i64 0] 237)
 have DU:Hid (Calls Tryz.prog 108 #[.pointer (some ⟨t,0,none⟩), .int .i64 now] (w.alloc (.cells #[.int .i64 0, .int .u64 0, .int .i64 0] 237)) fun e w'=>e = .returned (.bool false)∧Below (w.alloc (.cells #[.int .i64 0, .int .u64 0, .int .i64 0] 237)).heap.size (w.alloc (.cells #[.int .i64 0, .int .u64 0, .int .i64 0] 237)) w'):=by
  rcases hl:sortE (allE n es) with _|⟨⟨x1,x2,x3⟩,l⟩
  ·exact hid (tdue_none (h.below B1) hl now)
  ·exact hid (tdue_some (h.below B1) hl now false (decide_eq_false (by have:=hs _ _ hl;simp only at this;omega)))
 have N1:=hid (Deep.blk_alloc_new w (.cells #[.int .i64 0, .int .u64 0, .int .i64 0] 237))
 have HB:=hid B1
 clear h B1 hs
 go_enter Tryz.func177,Tryz.ntmps177
 go_wp2_with fail
 refine(DU.out).mono ?_
 rintro e w2 ⟨rfl,hb2⟩
 have n2:=(hb2.block w.heap.size (by simp)).trans N1.out
 have b0:w2.cell? ⟨w.heap.size,0,none⟩=some (.int .i64 0):=cell_ent n2 rfl
 have b1:w2.cell? ⟨w.heap.size,1,none⟩=some (.int .u64 0):=cell_ent n2 rfl
 have b2:w2.cell? ⟨w.heap.size,2,none⟩=some (.int .i64 0):=cell_ent n2 rfl
 have g0:w2.frozen? ⟨w.heap.size,0,none⟩=false:=by simp[World.frozen?,n2]
 have g1:w2.frozen? ⟨w.heap.size,1,none⟩=false:=by simp[World.frozen?,n2]
 have g2:w2.frozen? ⟨w.heap.size,2,none⟩=false:=by simp[World.frozen?,n2]
 have HB3:=hid (HB.out.trans (hb2.mono (by simp)))
 obtain⟨r0,r1,r2⟩:=res3 _ w.heap.size n2 0 0 0
 have R0:=hid r0
 have R1:=hid r1
 have R2:=hid r2
 clear r0 r1 r2 hb2 n2 DU N1 HB
 go_wp2
 have r0:=R0.out
 have r1:=R1.out
 have r2:=R2.out
 refine bodyPost_ret (v := .tuple #[.agg #[.int .i64 0, .int .u64 0, .int .i64 0], .bool false]) (by simp[results,Tryz.results177,go_sem,r0,r1,r2]) rfl ⟨rfl,?_⟩
 exact ((HB3.out.setCell (by simp) _).setCell (by simp) _).setCell (by simp) _
def TkPost(Z:Nat→Prop)(w:World)(t hb mb n c:Nat)(hp:Nat→Nat)(v:Nat→Value)(es:Nat→List En)(inn:Int→Bool)(k ad:Nat)(x1 x2 x3:Int)(w':World):Prop:=
 FrZ Z w w' ∧ ∃ m v' T,m<n∧(es m).Perm ((x1,x2,x3) :: T)∧Tq Z w' t hb mb n c hp (updN v m v') (updN es m T) (updI inn x3 false) (k - 1) ad
theorem ttake_some(h:Tq Z w t hb mb n c hp v es inn k ad)(hz:∀ q,Z q→q<w.heap.size){x1 x2 x3:Int}{l:List En}(hs:sortE (allE n es)=(x1,x2,x3) :: l)(now:Int)(hnow:x1≤now)(hin:inn x3=true) :
 Calls Tryz.prog 177 #[.pointer (some ⟨t,0,none⟩), .int .i64 now] w fun e w'=>e = .returned (.tuple #[.agg #[.int .i64 x1, .int .u64 x2, .int .i64 x3], .bool true])∧TkPost Z w t hb mb n c hp v es inn k ad x1 x2 x3 w':=by
 have B1:=bl_al w (.cells #[.int .i64 0, .int .u64 0, .int .i64 0] 237)
 have DU:=hid (tdue_some (h.below B1) hs now true (decide_eq_true hnow))
 have N1:=hid (Deep.blk_alloc_new w (.cells #[.int .i64 0, .int .u64 0, .int .i64 0] 237))
 have HB:=hid B1
 have TQ:=hid h
 have HS:=hid hs
 have HZ:=hid hz
 have HI:=hid hin
 clear h B1 hs hz hin hnow
 go_enter Tryz.func177,Tryz.ntmps177
 go_wp2_with fail
 refine(DU.out).mono ?_
 rintro e w2 ⟨rfl,hb2⟩
 have N2:=hid ((hb2.block w.heap.size (by simp)).trans N1.out)
 have HB2:=hid (HB.out.trans (hb2.mono (by simp)))
 have F:=hid (tfirst (TQ.out.below HB2.out))
 clear hb2 DU N1 HB
 go_wp2_with fail
 refine(F.out).mono ?_
 rintro e w3 (⟨rfl,h2,h3⟩|⟨m,y1,y2,y3,h2,rfl,h3⟩)
 ·exact(none_of HS.out h2).elim
 have ey:=fsp_of HS.out h2 TQ.out.ord
 injection ey with e1 e2
 injection e2 with e2 e3
 subst e1 e2 e3
 obtain⟨hm1,hm2,hm3,_⟩:=h2
 have hlt2:w.heap.size<w2.heap.size:=by obtain⟨hl,_⟩:=Array.getElem?_eq_some_iff.1 N2.out;exact hl
 have N3:=hid ((h3.block w.heap.size hlt2).trans N2.out)
 have HB3:=hid (HB2.out.trans (h3.mono HB2.out.size))
 have s3:=Nat.lt_of_lt_of_le hlt2 h3.size
 have N4:=hid ((Below.heap_alloc w3 (.cells #[.int .i64 y1, .int .u64 y2, .int .i64 y3] 237) w.heap.size s3).trans N3.out)
 have M4:=hid (Deep.blk_alloc_new w3 (.cells #[.int .i64 y1, .int .u64 y2, .int .i64 y3] 237))
 have HB4:=hid (HB3.out.trans ((bl_al w3 (.cells #[.int .i64 y1, .int .u64 y2, .int .i64 y3] 237)).mono (by omega)))
 have TQ4:=hid (TQ.out.below HB4.out)
 obtain⟨mm,hmm⟩:∃ mm,(es m).length=mm+1:=⟨(es m).length - 1,by omega⟩
 have HE:=hid (TQ.out.he m hm1)
 obtain⟨g,c2,hv,hs4⟩:=(TQ4.out.he m hm1).hs hm2
 rw[hmm]at hs4 hv
 have lg:g<w.heap.size:=own_lt0 HE.out (by rw[hv];rfl)
 have la:=HE.out.lt
 have TK:=hid (take_some _ 0 (hp m) g mm c2 (es m) hs4 y1 y2 y3 hm3)
 have HV:=hid hv
 have HM:=hid hmm
 have HX:=hid hm3
 have HM1:=hid hm1
 obtain⟨a,ha⟩:∃ a,a=hp m:=⟨_,rfl⟩
 have HA:=hid ha
 rw[←ha]at la TK
 rw[←ha]
 clear h3 F N2 N3 HB2 HB3 hm1 hm2 hm3 hv hs4 hmm ha HE hlt2
 go_wp2_with fail
 refine(TK.out).mono ?_
 rintro e w5 ⟨rfl,h5⟩
 have H5:=hid h5
 have n5:=h5.ho.blk N4.out (by omega) (by omega)
 have m5:=h5.ho.blk M4.out (by omega) (by omega)
 have TQ5:=hid (TQ4.out.up HM1.out (v' := .slice (some ⟨g,0,none⟩) mm c2) (T:=sinkF (mm+1) ((sw (es m) 0 mm).take mm) mm 0) (by rw[←HA.out];exact h5.hp) (take_ord (TQ.out.ord m HM1.out) HM.out)
  (by rw[←HA.out];exact OnlyQ.of_h h5.ho (by rw[HV.out];rfl)) (fun q hq => .inl (by rw[HV.out];exact hq)) (fun q hq=>Nat.lt_of_lt_of_le (HZ.out q hq) HB4.out.size))
 have FR5:=hid ((FrZ.of_below HB4.out).trans (.of_q TQ4.out HM1.out (by rw[←HA.out];exact OnlyQ.of_h h5.ho (by rw[HV.out];rfl)) ⟨h5.ho.os,h5.ho.tape,h5.ho.output⟩))
 have TQ6:=hid (TQ5.out.below (bl_drw _ _))
 have FR6:=hid (FR5.out.trans (FrZ.of_below (bl_drw _ _)))
 have NN:=hid n5
 have MM:=hid m5
 have PE:=hid (show (es m).Perm ((y1,y2,y3) :: sinkF (mm+1) ((sw (es m) 0 mm).take mm) mm 0) by rw[←HX.out];exact take_perm HM.out)
 obtain⟨w6,s6,t6,f6,o6⟩:=TQ6.out.delO y3 HI.out 0
 have c1:w5.drew.cell? ⟨t,1,none⟩=some (.map (some mb)):=cell_ent TQ6.out.box rfl
 have c1':w5.cell? ⟨t,1,none⟩=some (.map (some mb)):=cell_ent TQ6.out.box rfl
 have k2:w5.drew.cell? ⟨w3.heap.size,2,none⟩=some (.int .i64 y3):=cell_ent m5 rfl
 have k2':w5.cell? ⟨w3.heap.size,2,none⟩=some (.int .i64 y3):=cell_ent m5 rfl
 have ltm:=TQ.out.lt.2.2
 have n6:=hid (only_blk o6 (show w5.drew.heap[w.heap.size]? = _ from n5) (by omega))
 have m6:=hid (only_blk o6 (show w5.drew.heap[w3.heap.size]? = _ from m5) (by omega))
 have XT6:=hid t6
 have XF6:=hid (FR6.out.trans f6)
 clear h5 TQ4 TQ5 FR5 HB4 N4 M4 TK H5 n5 m5 t6 f6 TQ6 FR6 o6 ltm
 go_wp2_with fail
 go_region
 all_goals
  have N6:=n6.out
  have M6:=m6.out
  have a0:w6.cell? ⟨w3.heap.size,0,none⟩=some (.int .i64 y1):=cell_ent M6 rfl
  have a1:w6.cell? ⟨w3.heap.size,1,none⟩=some (.int .u64 y2):=cell_ent M6 rfl
  have a2:w6.cell? ⟨w3.heap.size,2,none⟩=some (.int .i64 y3):=cell_ent M6 rfl
  have b0:w6.cell? ⟨w.heap.size,0,none⟩=some (.int .i64 0):=cell_ent N6 rfl
  have b1:w6.cell? ⟨w.heap.size,1,none⟩=some (.int .u64 0):=cell_ent N6 rfl
  have b2:w6.cell? ⟨w.heap.size,2,none⟩=some (.int .i64 0):=cell_ent N6 rfl
  have g0:w6.frozen? ⟨w.heap.size,0,none⟩=false:=by simp[World.frozen?,N6]
  have g1:w6.frozen? ⟨w.heap.size,1,none⟩=false:=by simp[World.frozen?,N6]
  have g2:w6.frozen? ⟨w.heap.size,2,none⟩=false:=by simp[World.frozen?,N6]
  obtain⟨r0,r1,r2⟩:=res3 w6 w.heap.size N6 y1 y2 y3
  have R0:=hid r0
  have R1:=hid r1
  have R2:=hid r2
  have O7:=(set3 N6 (.int .i64 y1) (.int .u64 y2) (.int .i64 y3)).out.1
  have FIN:=hid (show TkPost Z w t hb mb n c hp v es inn k ad y1 y2 y3 (((w6.setCell ⟨w.heap.size,0,none⟩ (.int .i64 y1)).setCell ⟨w.heap.size,1,none⟩ (.int .u64 y2)).setCell ⟨w.heap.size,2,none⟩ (.int .i64 y3)) from
   ⟨⟨O7.os.trans XF6.out.os,O7.tape.trans XF6.out.tape,O7.output.trans XF6.out.output,Nat.le_trans XF6.out.size O7.size,fun x hx hzx=>(O7.block x (Nat.lt_of_lt_of_le hx XF6.out.size) (by omega) (by omega)).trans (XF6.out.block x hx hzx)⟩,m,_,_,HM1.out,PE.out,
    XT6.out.other O7 (by obtain⟨q1,q2,q3⟩:=TQ.out.lt;omega) (fun i hi=>by have:=(TQ.out.he i hi).lt;omega)
     (fun i hi e=>by
      by_cases him:i=m
      ·subst him;rw[updN_same]at e;simp only[Value.ownBlock,Option.some.injEq]at e;omega
      ·rw[updN_ne _ _ him]at e;have:=own_lt0 (TQ.out.he i hi) e;omega)⟩)
  clear r0 r1 r2 N6 M6 O7 n6 m6 XT6 XF6 s6 c1 c1' k2 k2'
  go_wp2
  have r0:=R0.out
  have r1:=R1.out
  have r2:=R2.out
  exact bodyPost_ret (v := .tuple #[.agg #[.int .i64 y1, .int .u64 y2, .int .i64 y3], .bool true]) (by simp[results,Tryz.results177,go_sem,r0,r1,r2]) rfl ⟨rfl,FIN.out⟩
end Go.Proofs.YtkhigkcmgcafdaaGreatDoor
