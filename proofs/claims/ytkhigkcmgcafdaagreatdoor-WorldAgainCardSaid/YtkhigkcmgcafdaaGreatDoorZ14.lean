/- Of Wu. -/
import Derived.Test.YtkhigkcmgcafdaaGreatDoorZ13
set_option linter.unusedVariables false
set_option linter.unusedSimpArgs false
set_option maxHeartbeats 16000000
set_option maxRecDepth 20000
namespace Go.Proofs.YtkhigkcmgcafdaaGreatDoor
open Go.RowKit
theorem either_any(w:World)(b:Bool)(x y:Int):Calls Tryz.prog 105 #[.bool b, .int .i64 x, .int .i64 y] w fun e w'=>e = .returned (.int .i64 (if b then x else y))∧w=w':=by
 rcases b with _|_
 ·go_enter Tryz.func105,Tryz.ntmps105
  go_wp2
  go_ret
  exact⟨rfl,rfl⟩
 ·go_enter Tryz.func105,Tryz.ntmps105
  go_wp2
  go_ret
  exact⟨rfl,rfl⟩
section
variable {B:Bk}{o o':Nat→Nat}{n n':Nat}{v v':Y.V}{w w' wx:World}{C:Nat→Prop}{i:Nat}
theorem mdeliver(h:WR B o n v w)(hl:v.mm.length=v.M)(hi:i<v.M)(x:Int) :
 Calls Tryz.prog 148 #[mp B i, .int .i64 x] w (Po B o n (.tuple #[]) (v.onM i (·.deliver x)) w):=by
 have k0:=h.m0 hi
 have k11:=h.m11 hi
 have kf:=h.mfz
 have H:=hid (h.self hl hi)
 clear h
 go_enter Tryz.func148,Tryz.ntmps148
 go_wp2
 go_end0
 have U:=H.out.v11 hl hi x
 exact⟨rfl,o,U.v0 hl hi 25,(Ek.setM H.out _ _).trans (Ek.setM U _ _)⟩
theorem mparked(h:WR B o n v w)(hl:v.mm.length=v.M)(hi:i<v.M) :
 Calls Tryz.prog 147 #[mp B i] w (Po B o n (.tuple #[]) (v.onM i (·.parked)) w):=by
 have k0:=h.m0 hi
 have k18:=h.m18 hi
 have kf:=h.mfz
 have H:=hid (h.self hl hi)
 rcases hy:(v.mach i).yes with _|_
 ·rw[hy]at k18
  have HY:=hid hy
  clear h hy
  go_enter Tryz.func147,Tryz.ntmps147
  go_wp2
  go_end0
  refine⟨rfl,o,?_,Ek.setM H.out _ _⟩
  have U:=H.out.v0 hl hi 1
  rw[onM_putM,Y.Mh.parked,if_neg (by rw[HY.out];simp)]
  exact U
 ·rw[hy]at k18
  have U0:=H.out.v0 hl hi 1
  have DL:=hid (mdeliver U0 (putM_len _ _ _ hl) hi 1)
  have HY:=hid hy
  have U:=hid U0
  clear h hy U0
  go_enter Tryz.func147,Tryz.ntmps147
  go_wp2_with fail
  refine DL.out.mono ?_
  rintro e w2 ⟨rfl,o2,h2,e2⟩
  have H2:=hid h2
  have E2:=hid e2
  clear h2 e2 DL
  go_wp2
  go_end0
  refine⟨rfl,o2,?_,(Ek.setM H.out _ _).trans E2.out⟩
  have U2:=H2.out
  rw[onM_putM,mach_putM _ _ _ hl hi,putM2]at U2
  rw[onM_putM,Y.Mh.parked,if_pos HY.out]
  exact U2
theorem msettle(h:WR B o n v w)(hl:v.mm.length=v.M)(hi:i<v.M) :
 Calls Tryz.prog 146 #[mp B i] w (Po B o n (.tuple #[]) (v.onM i (·.settle)) w):=by
 have k0:=h.m0 hi
 have k7:=h.m7 hi
 obtain⟨ra,rc,k9,kr⟩:=h.m9 hi
 have kf:=h.mfz
 have H:=hid (h.self hl hi)
 obtain⟨ln,hln⟩:∃ ln,ln=(v.mach i).rest.length:=⟨_,rfl⟩
 rw[←hln]at k9
 rcases hb:(v.mach i).spin with _|_
 ·have EQ:=hid (fun(x:Int) (hx:x=if ln=0 then 21 else 18)=>(show v.onM i (·.settle)=v.putM i { v.mach i with pl:=x } by
   rw[onM_putM,hx,hln]
   unfold Y.Mh.settle
   rcases hr:(v.mach i).rest with _|⟨y,l⟩ <;> simp[hr,hb]))
  have EI:=hid (fun(y:World)=>(either_any y false 19 21))
  rw[hb]at k7
  clear h hb hln kr
  by_cases h0:ln=0
  ·have HH:=hid h0
   subst h0
   go_enter Tryz.func146,Tryz.ntmps146
   go_wp2_with fail
   refine(EI.out _).mono ?_
   rintro e w2 ⟨rfl,rfl⟩
   go_wp2
   go_end0
   refine⟨rfl,o,?_,Ek.setM H.out _ _⟩
   rw[EQ.out 21 (by rw[if_pos HH.out])]
   exact H.out.v0 hl hi 21
  ·have h1:0<ln:=by omega
   have h2:(0:Int)<(ln:Int):=by omega
   have HH:=hid h0
   go_enter Tryz.func146,Tryz.ntmps146
   go_wp2_with fail
   refine(EI.out _).mono ?_
   rintro e w2 ⟨rfl,rfl⟩
   go_wp2
   go_end0
   have U:=H.out.v0 hl hi 21
   refine⟨rfl,o,?_,(Ek.setM H.out _ _).trans (Ek.setM U _ _)⟩
   rw[EQ.out 18 (by rw[if_neg HH.out])]
   exact U.v0 hl hi 18
 ·have EQ:=hid (fun(x:Int) (hx:x=if ln=0 then 19 else 18)=>(show v.onM i (·.settle)=v.putM i { v.mach i with pl:=x } by
   rw[onM_putM,hx,hln]
   unfold Y.Mh.settle
   rcases hr:(v.mach i).rest with _|⟨y,l⟩ <;> simp[hr,hb]))
  have EI:=hid (fun(y:World)=>(either_any y true 19 21))
  rw[hb]at k7
  clear h hb hln kr
  by_cases h0:ln=0
  ·have HH:=hid h0
   subst h0
   go_enter Tryz.func146,Tryz.ntmps146
   go_wp2_with fail
   refine(EI.out _).mono ?_
   rintro e w2 ⟨rfl,rfl⟩
   go_wp2
   go_end0
   refine⟨rfl,o,?_,Ek.setM H.out _ _⟩
   rw[EQ.out 19 (by rw[if_pos HH.out])]
   exact H.out.v0 hl hi 19
  ·have h1:0<ln:=by omega
   have h2:(0:Int)<(ln:Int):=by omega
   have HH:=hid h0
   go_enter Tryz.func146,Tryz.ntmps146
   go_wp2_with fail
   refine(EI.out _).mono ?_
   rintro e w2 ⟨rfl,rfl⟩
   go_wp2
   go_end0
   have U:=H.out.v0 hl hi 19
   refine⟨rfl,o,?_,(Ek.setM H.out _ _).trans (Ek.setM U _ _)⟩
   rw[EQ.out 18 (by rw[if_neg HH.out])]
   exact U.v0 hl hi 18
theorem wsteal(h:WR B o n v w)(hl:v.mm.length=v.M)(hi:i<v.M)(x:Int) :
 Calls Tryz.prog 103 #[.pointer (some ⟨B.W,0,none⟩),mp B i, .int .i64 x] w (Po B o n (.tuple #[]) (v.onM i (·.steal v.P x)) w):=by
 have k0:=h.m0 hi
 have k6:=h.m6 hi
 have a0:=h.w0
 have kf:=h.mfz
 have H:=hid (h.self hl hi)
 have EI:=hid (fun(y:World) (b:Bool)=>either_any y b 6 7)
 obtain⟨P,hP⟩:∃ P:Int,P=v.P:=⟨_,rfl⟩
 rw[←hP]at a0
 have HP:=hid hP
 clear h hP
 have EQ:=hid (show v.onM i (·.steal v.P x)=v.putM i { v.mach i with i:=x,pl:=if x<P then 6 else 7 } by rw[onM_putM,HP.out];rfl)
 by_cases hx:x<P
 ·have HX:=hid hx
  go_enter Tryz.func103,Tryz.ntmps103
  go_wp2_with fail
  refine(EI.out _ _).mono ?_
  rintro e w2 ⟨rfl,rfl⟩
  go_wp2
  go_end0
  have U:=H.out.v6 hl hi x
  refine⟨rfl,o,?_,(Ek.setM H.out _ _).trans (Ek.setM U _ _)⟩
  rw[EQ.out,if_pos (by have:=HX.out;omega)]
  exact U.v0 hl hi 6
 ·have HX:=hid hx
  go_enter Tryz.func103,Tryz.ntmps103
  go_wp2_with fail
  refine(EI.out _ _).mono ?_
  rintro e w2 ⟨rfl,rfl⟩
  go_wp2
  go_end0
  have U:=H.out.v6 hl hi x
  refine⟨rfl,o,?_,(Ek.setM H.out _ _).trans (Ek.setM U _ _)⟩
  rw[EQ.out,if_neg (by have:=HX.out;omega)]
  exact U.v0 hl hi 7
theorem wlook(h:WR B o n v w)(hl:v.mm.length=v.M)(hi:i<v.M)(h63 : -1000000≤(v.mach i).i∧(v.mach i).i≤1000000) :
 Calls Tryz.prog 184 #[.pointer (some ⟨B.W,0,none⟩),mp B i] w (Po B o n (.tuple #[]) (v.onM i (·.look v.P)) w):=by
 have k0:=h.m0 hi
 have k6:=h.m6 hi
 have k18:=h.m18 hi
 have a0:=h.w0
 have kf:=h.mfz
 have H:=hid (h.self hl hi)
 have EI:=hid (fun(y:World) (b:Bool)=>either_any y b 9 10)
 obtain⟨P,hP⟩:∃ P:Int,P=v.P:=⟨_,rfl⟩
 rw[←hP]at a0
 obtain⟨x,hx⟩:∃ x,x=(v.mach i).i:=⟨_,rfl⟩
 rw[←hx]at k6 h63
 have hwr:IntKind.i64.wrap (x+1)=x+1:=IntWalk.i64_in _ (by omega)
 rcases hy:(v.mach i).yes with _|_
 ·rw[hy]at k18
  have EQ:=hid (show v.onM i (·.look v.P)=v.putM i { v.mach i with i:=x+1,pl:=if x+1<P then 9 else 10 } by
   rw[onM_putM,hP,hx];unfold Y.Mh.look;rw[if_neg (by rw[hy];simp)])
  clear h hP hx hy h63
  by_cases hxP:x+1<P
  ·have HX:=hid hxP
   go_enter Tryz.func184,Tryz.ntmps184
   go_wp2_with fail
   go_region_with (go_at_call 105;refine(EI.out _ _).mono ?_;rintro e y ⟨rfl,rfl⟩)
   all_goals
    go_wp2
    go_end0
    have U:=H.out.v6 hl hi (x+1)
    refine⟨rfl,o,?_,(Ek.setM H.out _ _).trans ((Ek.setM U _ _).trans (.of_quiet ⟨1,rfl⟩))⟩
    rw[EQ.out,if_pos (by have:=HX.out;omega)]
    exact(U.v0 hl hi 9).quiet ⟨1,rfl⟩
  ·have HX:=hid hxP
   go_enter Tryz.func184,Tryz.ntmps184
   go_wp2_with fail
   go_region_with (go_at_call 105;refine(EI.out _ _).mono ?_;rintro e y ⟨rfl,rfl⟩)
   all_goals
    go_wp2
    go_end0
    have U:=H.out.v6 hl hi (x+1)
    refine⟨rfl,o,?_,(Ek.setM H.out _ _).trans ((Ek.setM U _ _).trans (.of_quiet ⟨1,rfl⟩))⟩
    rw[EQ.out,if_neg (by have:=HX.out;omega)]
    exact(U.v0 hl hi 10).quiet ⟨1,rfl⟩
 ·rw[hy]at k18
  have EQ:=hid (show v.onM i (·.look v.P)=v.putM i { v.mach i with pl:=11 } by
   rw[onM_putM];unfold Y.Mh.look;rw[if_pos hy])
  clear h hP hx hy h63
  go_enter Tryz.func184,Tryz.ntmps184
  go_wp2_with fail
  go_end0
  refine⟨rfl,o,?_,Ek.setM H.out _ _⟩
  rw[EQ.out]
  exact H.out.v0 hl hi 11
end
end Go.Proofs.YtkhigkcmgcafdaaGreatDoor
