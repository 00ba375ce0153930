/- Of Wv. -/
import Derived.Test.YtkhigkcmgcafdaaGreatDoorZ14
set_option linter.unusedVariables false
set_option linter.unusedSimpArgs false
set_option maxHeartbeats 16000000
set_option maxRecDepth 20000
namespace Go.Proofs.YtkhigkcmgcafdaaGreatDoor
open Go.RowKit
section
variable {B:Bk}{o o':Nat→Nat}{n n':Nat}{v v':Y.V}{w w' wx:World}{C:Nat→Prop}{i:Nat}
theorem wfound_y(h:WR B o n v w)(hl:v.mm.length=v.M)(hi:i<v.M)(hy:(v.mach i).yes=true) :
 Calls Tryz.prog 144 #[.pointer (some ⟨B.W,0,none⟩),mp B i] w (Po B o n (.tuple #[]) (v.onM i (·.found v.P)) w):=by
 have k0:=h.m0 hi
 have k7:=h.m7 hi
 have k10:=h.m10 hi
 have k18:=h.m18 hi
 obtain⟨ra,rc,k9,kr⟩:=h.m9 hi
 have kf:=h.mfz
 have H:=hid (h.self hl hi)
 obtain⟨ln,hln⟩:∃ ln,ln=(v.mach i).rest.length:=⟨_,rfl⟩
 rw[hy]at k18
 rw[←hln]at k9
 rcases hb:(v.mach i).spin with _|_
 ·have EQ:=hid (fun(x:Int) (hx:x=if ln=0 then 20 else 17)=>(show v.onM i (·.found v.P)=v.putM i { v.mach i with back:=20,pl:=x } by
   rw[onM_putM,hx,hln]
   unfold Y.Mh.found
   rw[if_pos hy]
   rcases hr:(v.mach i).rest with _|⟨y,l⟩ <;> simp[hr,hb]))
  have EI:=hid (fun(y:World)=>(either_any y false 19 20))
  rw[hb]at k7
  clear h hb hln kr hy
  by_cases h0:ln=0
  ·have HH:=hid h0
   subst h0
   go_enter Tryz.func144,Tryz.ntmps144
   go_wp2_with fail
   refine(EI.out _).mono ?_
   rintro e w2 ⟨rfl,rfl⟩
   go_wp2
   go_end0
   have U:=H.out.v10 hl hi 20
   refine⟨rfl,o,?_,(Ek.setM H.out _ _).trans (Ek.setM U _ _)⟩
   rw[EQ.out 20 (by rw[if_pos HH.out])]
   exact U.v0 hl hi 20
  ·have h1:0<ln:=by omega
   have h2:(0:Int)<(ln:Int):=by omega
   have HH:=hid h0
   go_enter Tryz.func144,Tryz.ntmps144
   go_wp2_with fail
   refine(EI.out _).mono ?_
   rintro e w2 ⟨rfl,rfl⟩
   go_wp2
   go_end0
   have U:=H.out.v10 hl hi 20
   have U2:=U.v0 hl hi 20
   refine⟨rfl,o,?_,(Ek.setM H.out _ _).trans ((Ek.setM U _ _).trans (Ek.setM U2 _ _))⟩
   rw[EQ.out 17 (by rw[if_neg HH.out])]
   exact U2.v0 hl hi 17
 ·have EQ:=hid (fun(x:Int) (hx:x=if ln=0 then 19 else 17)=>(show v.onM i (·.found v.P)=v.putM i { v.mach i with back:=20,pl:=x } by
   rw[onM_putM,hx,hln]
   unfold Y.Mh.found
   rw[if_pos hy]
   rcases hr:(v.mach i).rest with _|⟨y,l⟩ <;> simp[hr,hb]))
  have EI:=hid (fun(y:World)=>(either_any y true 19 20))
  rw[hb]at k7
  clear h hb hln kr hy
  by_cases h0:ln=0
  ·have HH:=hid h0
   subst h0
   go_enter Tryz.func144,Tryz.ntmps144
   go_wp2_with fail
   refine(EI.out _).mono ?_
   rintro e w2 ⟨rfl,rfl⟩
   go_wp2
   go_end0
   have U:=H.out.v10 hl hi 20
   refine⟨rfl,o,?_,(Ek.setM H.out _ _).trans (Ek.setM U _ _)⟩
   rw[EQ.out 19 (by rw[if_pos HH.out])]
   exact U.v0 hl hi 19
  ·have h1:0<ln:=by omega
   have h2:(0:Int)<(ln:Int):=by omega
   have HH:=hid h0
   go_enter Tryz.func144,Tryz.ntmps144
   go_wp2_with fail
   refine(EI.out _).mono ?_
   rintro e w2 ⟨rfl,rfl⟩
   go_wp2
   go_end0
   have U:=H.out.v10 hl hi 20
   have U2:=U.v0 hl hi 19
   refine⟨rfl,o,?_,(Ek.setM H.out _ _).trans ((Ek.setM U _ _).trans (Ek.setM U2 _ _))⟩
   rw[EQ.out 17 (by rw[if_neg HH.out])]
   exact U2.v0 hl hi 17
theorem wfound_2(h:WR B o n v w)(hl:v.mm.length=v.M)(hi:i<v.M)(hp:(v.mach i).pl=2)(hy:(v.mach i).yes=false) :
 Calls Tryz.prog 144 #[.pointer (some ⟨B.W,0,none⟩),mp B i] w (Po B o n (.tuple #[]) (v.onM i (·.found v.P)) w):=by
 have k0:=h.m0 hi
 have k1:=h.m1 hi
 have k7:=h.m7 hi
 have k18:=h.m18 hi
 have kf:=h.mfz
 have H:=hid (h.self hl hi)
 have EQ:=hid (show v.onM i (·.found v.P)=v.putM i { v.mach i with pl:=3 } by
  rw[onM_putM];simp[Y.Mh.found,hp,hy])
 rw[hp]at k0
 rw[hy]at k18
 clear h hp hy
 go_enter Tryz.func144,Tryz.ntmps144
 go_wp2_with fail
 go_end0
 refine⟨rfl,o,?_,Ek.setM H.out _ _⟩
 rw[EQ.out]
 exact H.out.v0 hl hi 3
theorem wfound_3(h:WR B o n v w)(hl:v.mm.length=v.M)(hi:i<v.M)(hp:(v.mach i).pl=3)(hy:(v.mach i).yes=false) :
 Calls Tryz.prog 144 #[.pointer (some ⟨B.W,0,none⟩),mp B i] w (Po B o n (.tuple #[]) (v.onM i (·.found v.P)) w):=by
 have k0:=h.m0 hi
 have k1:=h.m1 hi
 have k7:=h.m7 hi
 have k18:=h.m18 hi
 have kf:=h.mfz
 have H:=hid (h.self hl hi)
 have EQ:=hid (show v.onM i (·.found v.P)=v.putM i { v.mach i with pl:=4 } by
  rw[onM_putM];simp[Y.Mh.found,hp,hy])
 rw[hp]at k0
 rw[hy]at k18
 clear h hp hy
 go_enter Tryz.func144,Tryz.ntmps144
 go_wp2_with fail
 go_end0
 refine⟨rfl,o,?_,Ek.setM H.out _ _⟩
 rw[EQ.out]
 exact H.out.v0 hl hi 4
theorem wfound_4(h:WR B o n v w)(hl:v.mm.length=v.M)(hi:i<v.M)(hp:(v.mach i).pl=4)(hy:(v.mach i).yes=false)(hz:(v.mach i).spin=false) :
 Calls Tryz.prog 144 #[.pointer (some ⟨B.W,0,none⟩),mp B i] w (Po B o n (.tuple #[]) (v.onM i (·.found v.P)) w):=by
 have k0:=h.m0 hi
 have k1:=h.m1 hi
 have k7:=h.m7 hi
 have k18:=h.m18 hi
 have kf:=h.mfz
 have H:=hid (h.self hl hi)
 have EQ:=hid (show v.onM i (·.found v.P)=v.putM i { v.mach i with pl:=5 } by
  rw[onM_putM];simp[Y.Mh.found,hp,hy,hz])
 rw[hp]at k0
 rw[hy]at k18
 rw[hz]at k7
 clear h hp hy hz
 go_enter Tryz.func144,Tryz.ntmps144
 go_wp2_with fail
 go_end0
 refine⟨rfl,o,?_,Ek.setM H.out _ _⟩
 rw[EQ.out]
 exact H.out.v0 hl hi 5
theorem wfound_7(h:WR B o n v w)(hl:v.mm.length=v.M)(hi:i<v.M)(hp:(v.mach i).pl=7)(hy:(v.mach i).yes=false) :
 Calls Tryz.prog 144 #[.pointer (some ⟨B.W,0,none⟩),mp B i] w (Po B o n (.tuple #[]) (v.onM i (·.found v.P)) w):=by
 have k0:=h.m0 hi
 have k1:=h.m1 hi
 have k7:=h.m7 hi
 have k18:=h.m18 hi
 have kf:=h.mfz
 have H:=hid (h.self hl hi)
 have EQ:=hid (show v.onM i (·.found v.P)=v.putM i { v.mach i with pl:=8 } by
  rw[onM_putM];simp[Y.Mh.found,hp,hy])
 rw[hp]at k0
 rw[hy]at k18
 clear h hp hy
 go_enter Tryz.func144,Tryz.ntmps144
 go_wp2_with fail
 go_end0
 refine⟨rfl,o,?_,Ek.setM H.out _ _⟩
 rw[EQ.out]
 exact H.out.v0 hl hi 8
theorem wfound_4s(h:WR B o n v w)(hl:v.mm.length=v.M)(hi:i<v.M)(hp:(v.mach i).pl=4)(hy:(v.mach i).yes=false)(hz:(v.mach i).spin=true) :
 Calls Tryz.prog 144 #[.pointer (some ⟨B.W,0,none⟩),mp B i] w (Po B o n (.tuple #[]) (v.onM i (·.found v.P)) w):=by
 have k0:=h.m0 hi
 have k7:=h.m7 hi
 have k6:=h.m6 hi
 have k18:=h.m18 hi
 have ST:=hid (wsteal h hl hi 1)
 have EQ:=hid (show v.onM i (·.found v.P)=v.onM i (·.steal v.P 1) by
  rw[onM_putM,onM_putM];unfold Y.Mh.found;simp[hp,hy,hz])
 rw[hp]at k0
 rw[hy]at k18
 rw[hz]at k7
 clear h hp hy hz
 go_enter Tryz.func144,Tryz.ntmps144
 go_wp2_with fail
 refine ST.out.mono ?_
 rintro e w2 ⟨rfl,o2,h2,e2⟩
 have H2:=hid h2
 have E2:=hid e2
 clear h2 e2
 go_wp2
 go_end0
 refine⟨rfl,o2,?_,E2.out⟩
 rw[EQ.out]
 exact H2.out
theorem wfound_6(h:WR B o n v w)(hl:v.mm.length=v.M)(hi:i<v.M)(hp:(v.mach i).pl=6)(hy:(v.mach i).yes=false)(h63 : -1000000≤(v.mach i).i∧(v.mach i).i≤1000000) :
 Calls Tryz.prog 144 #[.pointer (some ⟨B.W,0,none⟩),mp B i] w (Po B o n (.tuple #[]) (v.onM i (·.found v.P)) w):=by
 have k0:=h.m0 hi
 have k7:=h.m7 hi
 have k6:=h.m6 hi
 have k18:=h.m18 hi
 obtain⟨x,hx⟩:∃ x,x=(v.mach i).i:=⟨_,rfl⟩
 rw[←hx]at k6 h63
 have hwr:IntKind.i64.wrap (x+1)=x+1:=IntWalk.i64_in _ (by omega)
 have ST:=hid (wsteal h hl hi (x+1))
 have EQ:=hid (show v.onM i (·.found v.P)=v.onM i (·.steal v.P (x+1)) by
  rw[onM_putM,onM_putM];unfold Y.Mh.found;simp[hp,hy,hx])
 rw[hp]at k0
 rw[hy]at k18
 clear h hp hy hx h63
 go_enter Tryz.func144,Tryz.ntmps144
 go_wp2_with fail
 refine ST.out.mono ?_
 rintro e w2 ⟨rfl,o2,h2,e2⟩
 have H2:=hid h2
 have E2:=hid e2
 clear h2 e2
 go_wp2
 go_end0
 refine⟨rfl,o2,?_,E2.out⟩
 rw[EQ.out]
 exact H2.out
theorem wrest_10y(h:WR B o n v w)(hl:v.mm.length=v.M)(hi:i<v.M)(hp:(v.mach i).pl=10)(hy:(v.mach i).yes=true) :
 Calls Tryz.prog 145 #[.pointer (some ⟨B.W,0,none⟩),mp B i] w (Po B o n (.tuple #[]) (v.onM i (·.restOn v.P)) w):=by
 have k0:=h.m0 hi
 have k1:=h.m1 hi
 have k7:=h.m7 hi
 have k18:=h.m18 hi
 have kf:=h.mfz
 have H:=hid (h.self hl hi)
 have EQ:=hid (show v.onM i (·.restOn v.P)=v.putM i { v.mach i with pl:=11 } by
  rw[onM_putM];simp[Y.Mh.restOn,hp,hy])
 rw[hp]at k0
 rw[hy]at k18
 clear h hp hy
 go_enter Tryz.func145,Tryz.ntmps145
 go_wp2_with fail
 refine(either_any _ _ _ _).mono ?_
 rintro e w2 ⟨rfl,rfl⟩
 go_wp2
 go_end0
 refine⟨rfl,o,?_,Ek.setM H.out _ _⟩
 rw[EQ.out]
 exact H.out.v0 hl hi 11
theorem wrest_10n(h:WR B o n v w)(hl:v.mm.length=v.M)(hi:i<v.M)(hp:(v.mach i).pl=10)(hy:(v.mach i).yes=false) :
 Calls Tryz.prog 145 #[.pointer (some ⟨B.W,0,none⟩),mp B i] w (Po B o n (.tuple #[]) (v.onM i (·.restOn v.P)) w):=by
 have k0:=h.m0 hi
 have k1:=h.m1 hi
 have k7:=h.m7 hi
 have k18:=h.m18 hi
 have kf:=h.mfz
 have H:=hid (h.self hl hi)
 have EQ:=hid (show v.onM i (·.restOn v.P)=v.putM i { v.mach i with pl:=13 } by
  rw[onM_putM];simp[Y.Mh.restOn,hp,hy])
 rw[hp]at k0
 rw[hy]at k18
 clear h hp hy
 go_enter Tryz.func145,Tryz.ntmps145
 go_wp2_with fail
 refine(either_any _ _ _ _).mono ?_
 rintro e w2 ⟨rfl,rfl⟩
 go_wp2
 go_end0
 refine⟨rfl,o,?_,Ek.setM H.out _ _⟩
 rw[EQ.out]
 exact H.out.v0 hl hi 13
theorem wrest_11y(h:WR B o n v w)(hl:v.mm.length=v.M)(hi:i<v.M)(hp:(v.mach i).pl=11)(hy:(v.mach i).yes=true) :
 Calls Tryz.prog 145 #[.pointer (some ⟨B.W,0,none⟩),mp B i] w (Po B o n (.tuple #[]) (v.onM i (·.restOn v.P)) w):=by
 have k0:=h.m0 hi
 have k1:=h.m1 hi
 have k7:=h.m7 hi
 have k18:=h.m18 hi
 have kf:=h.mfz
 have H:=hid (h.self hl hi)
 have EQ:=hid (show v.onM i (·.restOn v.P)=v.putM i { v.mach i with pl:=12 } by
  rw[onM_putM];simp[Y.Mh.restOn,hp,hy])
 rw[hp]at k0
 rw[hy]at k18
 clear h hp hy
 go_enter Tryz.func145,Tryz.ntmps145
 go_wp2_with fail
 refine(either_any _ _ _ _).mono ?_
 rintro e w2 ⟨rfl,rfl⟩
 go_wp2
 go_end0
 refine⟨rfl,o,?_,Ek.setM H.out _ _⟩
 rw[EQ.out]
 exact H.out.v0 hl hi 12
theorem wrest_11n(h:WR B o n v w)(hl:v.mm.length=v.M)(hi:i<v.M)(hp:(v.mach i).pl=11)(hy:(v.mach i).yes=false) :
 Calls Tryz.prog 145 #[.pointer (some ⟨B.W,0,none⟩),mp B i] w (Po B o n (.tuple #[]) (v.onM i (·.restOn v.P)) w):=by
 have k0:=h.m0 hi
 have k1:=h.m1 hi
 have k7:=h.m7 hi
 have k18:=h.m18 hi
 have kf:=h.mfz
 have H:=hid (h.self hl hi)
 have EQ:=hid (show v.onM i (·.restOn v.P)=v.putM i { v.mach i with pl:=13 } by
  rw[onM_putM];simp[Y.Mh.restOn,hp,hy])
 rw[hp]at k0
 rw[hy]at k18
 clear h hp hy
 go_enter Tryz.func145,Tryz.ntmps145
 go_wp2_with fail
 refine(either_any _ _ _ _).mono ?_
 rintro e w2 ⟨rfl,rfl⟩
 go_wp2
 go_end0
 refine⟨rfl,o,?_,Ek.setM H.out _ _⟩
 rw[EQ.out]
 exact H.out.v0 hl hi 13
theorem wrest_14y(h:WR B o n v w)(hl:v.mm.length=v.M)(hi:i<v.M)(hp:(v.mach i).pl=14)(hy:(v.mach i).yes=true) :
 Calls Tryz.prog 145 #[.pointer (some ⟨B.W,0,none⟩),mp B i] w (Po B o n (.tuple #[]) (v.onM i (·.restOn v.P)) w):=by
 have k0:=h.m0 hi
 have k1:=h.m1 hi
 have k7:=h.m7 hi
 have k18:=h.m18 hi
 have kf:=h.mfz
 have H:=hid (h.self hl hi)
 have EQ:=hid (show v.onM i (·.restOn v.P)=v.putM i { v.mach i with pl:=15 } by
  rw[onM_putM];simp[Y.Mh.restOn,hp,hy])
 rw[hp]at k0
 rw[hy]at k18
 clear h hp hy
 go_enter Tryz.func145,Tryz.ntmps145
 go_wp2_with fail
 refine(either_any _ _ _ _).mono ?_
 rintro e w2 ⟨rfl,rfl⟩
 go_wp2
 go_end0
 refine⟨rfl,o,?_,Ek.setM H.out _ _⟩
 rw[EQ.out]
 exact H.out.v0 hl hi 15
theorem wrest_14n(h:WR B o n v w)(hl:v.mm.length=v.M)(hi:i<v.M)(hp:(v.mach i).pl=14)(hy:(v.mach i).yes=false) :
 Calls Tryz.prog 145 #[.pointer (some ⟨B.W,0,none⟩),mp B i] w (Po B o n (.tuple #[]) (v.onM i (·.restOn v.P)) w):=by
 have k0:=h.m0 hi
 have k1:=h.m1 hi
 have k7:=h.m7 hi
 have k18:=h.m18 hi
 have kf:=h.mfz
 have H:=hid (h.self hl hi)
 have EQ:=hid (show v.onM i (·.restOn v.P)=v.putM i { v.mach i with pl:=16 } by
  rw[onM_putM];simp[Y.Mh.restOn,hp,hy])
 rw[hp]at k0
 rw[hy]at k18
 clear h hp hy
 go_enter Tryz.func145,Tryz.ntmps145
 go_wp2_with fail
 refine(either_any _ _ _ _).mono ?_
 rintro e w2 ⟨rfl,rfl⟩
 go_wp2
 go_end0
 refine⟨rfl,o,?_,Ek.setM H.out _ _⟩
 rw[EQ.out]
 exact H.out.v0 hl hi 16
theorem wrest_15n(h:WR B o n v w)(hl:v.mm.length=v.M)(hi:i<v.M)(hp:(v.mach i).pl=15)(hy:(v.mach i).yes=false) :
 Calls Tryz.prog 145 #[.pointer (some ⟨B.W,0,none⟩),mp B i] w (Po B o n (.tuple #[]) (v.onM i (·.restOn v.P)) w):=by
 have k0:=h.m0 hi
 have k1:=h.m1 hi
 have k7:=h.m7 hi
 have k18:=h.m18 hi
 have kf:=h.mfz
 have H:=hid (h.self hl hi)
 have EQ:=hid (show v.onM i (·.restOn v.P)=v.putM i { v.mach i with pl:=16 } by
  rw[onM_putM];simp[Y.Mh.restOn,hp,hy])
 rw[hp]at k0
 rw[hy]at k18
 clear h hp hy
 go_enter Tryz.func145,Tryz.ntmps145
 go_wp2_with fail
 go_end0
 refine⟨rfl,o,?_,Ek.setM H.out _ _⟩
 rw[EQ.out]
 exact H.out.v0 hl hi 16
theorem wrest_13y(h:WR B o n v w)(hl:v.mm.length=v.M)(hi:i<v.M)(hp:(v.mach i).pl=13)(hy:(v.mach i).yes=true)(hq:(v.mach i).p = -1) :
 Calls Tryz.prog 145 #[.pointer (some ⟨B.W,0,none⟩),mp B i] w (Po B o n (.tuple #[]) (v.onM i (·.restOn v.P)) w):=by
 have k0:=h.m0 hi
 have k1:=h.m1 hi
 have k7:=h.m7 hi
 have k18:=h.m18 hi
 have kf:=h.mfz
 have H:=hid (h.self hl hi)
 have EQ:=hid (show v.onM i (·.restOn v.P)=v.putM i { v.mach i with pl:=14 } by
  rw[onM_putM];simp[Y.Mh.restOn,hp,hy,hq])
 rw[hp]at k0
 rw[hy]at k18
 rw[hq]at k1
 clear h hp hy hq
 go_enter Tryz.func145,Tryz.ntmps145
 go_wp2_with fail
 refine(either_any _ _ _ _).mono ?_
 rintro e w2 ⟨rfl,rfl⟩
 go_wp2
 go_end0
 refine⟨rfl,o,?_,Ek.setM H.out _ _⟩
 rw[EQ.out]
 exact H.out.v0 hl hi 14
theorem wrest_13n(h:WR B o n v w)(hl:v.mm.length=v.M)(hi:i<v.M)(hp:(v.mach i).pl=13)(hy:(v.mach i).yes=false)(hq:(v.mach i).p = -1) :
 Calls Tryz.prog 145 #[.pointer (some ⟨B.W,0,none⟩),mp B i] w (Po B o n (.tuple #[]) (v.onM i (·.restOn v.P)) w):=by
 have k0:=h.m0 hi
 have k1:=h.m1 hi
 have k7:=h.m7 hi
 have k18:=h.m18 hi
 have kf:=h.mfz
 have H:=hid (h.self hl hi)
 have EQ:=hid (show v.onM i (·.restOn v.P)=v.putM i { v.mach i with pl:=16 } by
  rw[onM_putM];simp[Y.Mh.restOn,hp,hy,hq])
 rw[hp]at k0
 rw[hy]at k18
 rw[hq]at k1
 clear h hp hy hq
 go_enter Tryz.func145,Tryz.ntmps145
 go_wp2_with fail
 refine(either_any _ _ _ _).mono ?_
 rintro e w2 ⟨rfl,rfl⟩
 go_wp2
 go_end0
 refine⟨rfl,o,?_,Ek.setM H.out _ _⟩
 rw[EQ.out]
 exact H.out.v0 hl hi 16
theorem wrest_13p(h:WR B o n v w)(hl:v.mm.length=v.M)(hi:i<v.M)(hp:(v.mach i).pl=13)(hq:(v.mach i).p ≠ -1) :
 Calls Tryz.prog 145 #[.pointer (some ⟨B.W,0,none⟩),mp B i] w (Po B o n (.tuple #[]) (v.onM i (·.restOn v.P)) w):=by
 have k0:=h.m0 hi
 have k1:=h.m1 hi
 have k18:=h.m18 hi
 have kf:=h.mfz
 have H:=hid (h.self hl hi)
 have EQ:=hid (show v.onM i (·.restOn v.P)=v.putM i { v.mach i with pl:=4 } by
  rw[onM_putM];simp[Y.Mh.restOn,hp,hq])
 rw[hp]at k0
 obtain⟨x,hx⟩:∃ x,x=(v.mach i).p:=⟨_,rfl⟩
 rw[←hx]at k1 hq
 have hq1:(x == -1)=false:=beq_eq_false_iff_ne.2 hq
 have hq2:(x != -1)=true:=by simp[bne,hq1]
 rcases hb:(v.mach i).yes with _|_
 ·rw[hb]at k18
  clear h hp hx hb hq
  go_enter Tryz.func145,Tryz.ntmps145
  go_wp2_with fail
  refine(either_any _ _ _ _).mono ?_
  rintro e w2 ⟨rfl,rfl⟩
  go_wp2
  go_end0
  have U:=H.out.v0 hl hi 16
  refine⟨rfl,o,?_,(Ek.setM H.out _ _).trans (Ek.setM U _ _)⟩
  rw[EQ.out]
  exact U.v0 hl hi 4
 ·rw[hb]at k18
  clear h hp hx hb hq
  go_enter Tryz.func145,Tryz.ntmps145
  go_wp2_with fail
  refine(either_any _ _ _ _).mono ?_
  rintro e w2 ⟨rfl,rfl⟩
  go_wp2
  go_end0
  have U:=H.out.v0 hl hi 14
  refine⟨rfl,o,?_,(Ek.setM H.out _ _).trans (Ek.setM U _ _)⟩
  rw[EQ.out]
  exact U.v0 hl hi 4
theorem wrest_15y(h:WR B o n v w)(hl:v.mm.length=v.M)(hi:i<v.M)(hp:(v.mach i).pl=15)(hy:(v.mach i).yes=true) :
 Calls Tryz.prog 145 #[.pointer (some ⟨B.W,0,none⟩),mp B i] w (Po B o n (.tuple #[]) (v.onM i (·.restOn v.P)) w):=by
 have k0:=h.m0 hi
 have k18:=h.m18 hi
 have kf:=h.mfz
 have H:=hid (h.self hl hi)
 have U0:=(h.self hl hi).v0 hl hi 16
 have DL:=hid (mdeliver U0 (putM_len _ _ _ hl) hi 13)
 have EQ:=hid (show v.onM i (·.restOn v.P)=(v.putM i { v.mach i with pl:=16 }).onM i (·.deliver 13) by
  rw[onM_putM,onM_putM,mach_putM _ _ _ hl hi,putM2];simp[Y.Mh.restOn,Y.Mh.deliver,hp,hy])
 rw[hp]at k0
 rw[hy]at k18
 clear h hp hy U0
 go_enter Tryz.func145,Tryz.ntmps145
 go_wp2_with fail
 refine DL.out.mono ?_
 rintro e w2 ⟨rfl,o2,h2,e2⟩
 have H2:=hid h2
 have E2:=hid e2
 clear h2 e2 DL
 go_wp2
 go_end0
 refine⟨rfl,o2,?_,(Ek.setM H.out _ _).trans E2.out⟩
 rw[EQ.out]
 exact H2.out
theorem wrest_9(h:WR B o n v w)(hl:v.mm.length=v.M)(hi:i<v.M)(hp:(v.mach i).pl=9)(h63 : -1000000≤(v.mach i).i∧(v.mach i).i≤1000000) :
 Calls Tryz.prog 145 #[.pointer (some ⟨B.W,0,none⟩),mp B i] w (Po B o n (.tuple #[]) (v.onM i (·.restOn v.P)) w):=by
 have k0:=h.m0 hi
 have LO:=hid (wlook h hl hi h63)
 have EQ:=hid (show v.onM i (·.restOn v.P)=v.onM i (·.look v.P) by rw[onM_putM,onM_putM];simp[Y.Mh.restOn,hp])
 rw[hp]at k0
 clear h hp h63
 go_enter Tryz.func145,Tryz.ntmps145
 go_wp2_with fail
 refine LO.out.mono ?_
 rintro e w2 ⟨rfl,o2,h2,e2⟩
 have H2:=hid h2
 have E2:=hid e2
 clear h2 e2 LO
 go_wp2
 go_end0
 refine⟨rfl,o2,?_,E2.out⟩
 rw[EQ.out]
 exact H2.out
theorem wfound(h:WR B o n v w)(hl:v.mm.length=v.M)(hi:i<v.M)(hp:(v.mach i).pl=2∨(v.mach i).pl=3∨(v.mach i).pl=4∨(v.mach i).pl=6∨(v.mach i).pl=7)(h63 : -1000000≤(v.mach i).i∧(v.mach i).i≤1000000) :
 Calls Tryz.prog 144 #[.pointer (some ⟨B.W,0,none⟩),mp B i] w (Po B o n (.tuple #[]) (v.onM i (·.found v.P)) w):=by
 rcases hy:(v.mach i).yes with _|_
 ·rcases hp with hp|hp|hp|hp|hp
  ·exact wfound_2 h hl hi hp hy
  ·exact wfound_3 h hl hi hp hy
  ·rcases hz:(v.mach i).spin with _|_
   ·exact wfound_4 h hl hi hp hy hz
   ·exact wfound_4s h hl hi hp hy hz
  ·exact wfound_6 h hl hi hp hy h63
  ·exact wfound_7 h hl hi hp hy
 ·exact wfound_y h hl hi hy
theorem wrest(h:WR B o n v w)(hl:v.mm.length=v.M)(hi:i<v.M)(hp:(v.mach i).pl=9∨(v.mach i).pl=10∨(v.mach i).pl=11∨(v.mach i).pl=13∨(v.mach i).pl=14∨(v.mach i).pl=15)(h63 : -1000000≤(v.mach i).i∧(v.mach i).i≤1000000) :
 Calls Tryz.prog 145 #[.pointer (some ⟨B.W,0,none⟩),mp B i] w (Po B o n (.tuple #[]) (v.onM i (·.restOn v.P)) w):=by
 rcases hp with hp|hp|hp|hp|hp|hp
 ·exact wrest_9 h hl hi hp h63
 ·rcases hy:(v.mach i).yes with _|_
  ·exact wrest_10n h hl hi hp hy
  ·exact wrest_10y h hl hi hp hy
 ·rcases hy:(v.mach i).yes with _|_
  ·exact wrest_11n h hl hi hp hy
  ·exact wrest_11y h hl hi hp hy
 ·by_cases hq:(v.mach i).p = -1
  ·rcases hy:(v.mach i).yes with _|_
   ·exact wrest_13n h hl hi hp hy hq
   ·exact wrest_13y h hl hi hp hy hq
  ·exact wrest_13p h hl hi hp hq
 ·rcases hy:(v.mach i).yes with _|_
  ·exact wrest_14n h hl hi hp hy
  ·exact wrest_14y h hl hi hp hy
 ·rcases hy:(v.mach i).yes with _|_
  ·exact wrest_15n h hl hi hp hy
  ·exact wrest_15y h hl hi hp hy
end
end Go.Proofs.YtkhigkcmgcafdaaGreatDoor
