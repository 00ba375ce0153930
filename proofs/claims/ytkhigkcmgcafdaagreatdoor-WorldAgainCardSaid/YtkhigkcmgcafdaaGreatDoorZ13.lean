/- Of Wt. -/
import Derived.Test.YtkhigkcmgcafdaaGreatDoorZ12
set_option linter.unusedVariables false
set_option linter.unusedSimpArgs false
set_option maxHeartbeats 16000000
set_option maxRecDepth 20000
namespace Go.Proofs.YtkhigkcmgcafdaaGreatDoor
open Go.RowKit
section
variable {B:Bk}{o o':Nat→Nat}{n n':Nat}{v v':Y.V}{w w' wx:World}{C:Nat→Prop}{i:Nat}
abbrev mp(B:Bk)(i:Nat):Value := .pointer (some ⟨B.mb,i*20,none⟩)
theorem Ek.setM(h:WR B o n v w)(j:Nat)(x:Value):Ek o o w (w.setCell ⟨B.mb,j,none⟩ x):=
 .of (C:=fun k=>k=6) (Fm.set _ _ _ _ h.c6.1) (.refl h (by simp[World.setCell])) (by decide)
theorem onM_putM(v:Y.V)(i:Nat)(f:Y.Mh→Y.Mh):v.onM i f=v.putM i (f (v.mach i)):=rfl
theorem putM_len(v:Y.V)(i:Nat)(m:Y.Mh)(h:v.mm.length=v.M):(v.putM i m).mm.length=(v.putM i m).M:=by show (v.mm.set i m).length=v.M;rw[List.length_set];exact h
theorem mach_putM(v:Y.V)(i:Nat)(m:Y.Mh)(h:v.mm.length=v.M)(hi:i<v.M):(v.putM i m).mach i=m:=by rw[getD_mach v i m (by rw[h];exact hi),if_pos rfl]
theorem putM2(v:Y.V)(i:Nat)(m m':Y.Mh):(v.putM i m).putM i m'=v.putM i m':=by unfold Y.V.putM;simp
theorem putM_self(v:Y.V)(i:Nat)(h:v.mm.length=v.M)(hi:i<v.M):v.putM i (v.mach i)=v:=by
 unfold Y.V.putM Y.V.mach
 have:i<v.mm.length:=by rw[h];exact hi
 simp[this]
theorem WR.self(h:WR B o n v w)(hl:v.mm.length=v.M)(hi:i<v.M):WR B o n (v.putM i (v.mach i)) w:=by rw[putM_self v i hl hi];exact h
theorem WR.v0{m:Y.Mh}(h:WR B o n (v.putM i m) w)(hl:v.mm.length=v.M)(hi:i<v.M)(x:Int):WR B o n (v.putM i { m with pl:=x }) (w.setCell ⟨B.mb,i*20,none⟩ (.int .i64 x)):=by
 have:=h.u0 (putM_len _ _ _ hl) hi x
 rwa[mach_putM _ _ _ hl hi,putM2]at this
theorem WR.v1{m:Y.Mh}(h:WR B o n (v.putM i m) w)(hl:v.mm.length=v.M)(hi:i<v.M)(x:Int):WR B o n (v.putM i { m with p:=x }) (w.setCell ⟨B.mb,i*20+1,none⟩ (.int .i64 x)):=by
 have:=h.u1 (putM_len _ _ _ hl) hi x
 rwa[mach_putM _ _ _ hl hi,putM2]at this
theorem WR.v2{m:Y.Mh}(h:WR B o n (v.putM i m) w)(hl:v.mm.length=v.M)(hi:i<v.M)(x:Int):WR B o n (v.putM i { m with g:=x }) (w.setCell ⟨B.mb,i*20+2,none⟩ (.int .i64 x)):=by
 have:=h.u2 (putM_len _ _ _ hl) hi x
 rwa[mach_putM _ _ _ hl hi,putM2]at this
theorem WR.v3{m:Y.Mh}(h:WR B o n (v.putM i m) w)(hl:v.mm.length=v.M)(hi:i<v.M)(x:Int):WR B o n (v.putM i { m with nx:=x }) (w.setCell ⟨B.mb,i*20+3,none⟩ (.int .i64 x)):=by
 have:=h.u3 (putM_len _ _ _ hl) hi x
 rwa[mach_putM _ _ _ hl hi,putM2]at this
theorem WR.v4{m:Y.Mh}(h:WR B o n (v.putM i m) w)(hl:v.mm.length=v.M)(hi:i<v.M)(x:Int):WR B o n (v.putM i { m with got:=x }) (w.setCell ⟨B.mb,i*20+4,none⟩ (.int .i64 x)):=by
 have:=h.u4 (putM_len _ _ _ hl) hi x
 rwa[mach_putM _ _ _ hl hi,putM2]at this
theorem WR.v5{m:Y.Mh}(h:WR B o n (v.putM i m) w)(hl:v.mm.length=v.M)(hi:i<v.M)(x:Int):WR B o n (v.putM i { m with tg:=x }) (w.setCell ⟨B.mb,i*20+5,none⟩ (.int .i64 x)):=by
 have:=h.u5 (putM_len _ _ _ hl) hi x
 rwa[mach_putM _ _ _ hl hi,putM2]at this
theorem WR.v6{m:Y.Mh}(h:WR B o n (v.putM i m) w)(hl:v.mm.length=v.M)(hi:i<v.M)(x:Int):WR B o n (v.putM i { m with i:=x }) (w.setCell ⟨B.mb,i*20+6,none⟩ (.int .i64 x)):=by
 have:=h.u6 (putM_len _ _ _ hl) hi x
 rwa[mach_putM _ _ _ hl hi,putM2]at this
theorem WR.v7{m:Y.Mh}(h:WR B o n (v.putM i m) w)(hl:v.mm.length=v.M)(hi:i<v.M)(x:Bool):WR B o n (v.putM i { m with spin:=x }) (w.setCell ⟨B.mb,i*20+7,none⟩ (.bool x)):=by
 have:=h.u7 (putM_len _ _ _ hl) hi x
 rwa[mach_putM _ _ _ hl hi,putM2]at this
theorem WR.v8{m:Y.Mh}(h:WR B o n (v.putM i m) w)(hl:v.mm.length=v.M)(hi:i<v.M)(x:Bool):WR B o n (v.putM i { m with inn:=x }) (w.setCell ⟨B.mb,i*20+8,none⟩ (.bool x)):=by
 have:=h.u8 (putM_len _ _ _ hl) hi x
 rwa[mach_putM _ _ _ hl hi,putM2]at this
theorem WR.v9{m:Y.Mh}(h:WR B o n (v.putM i m) w)(hl:v.mm.length=v.M)(hi:i<v.M)(x:List Int)(rv:Value)(hr:Rst o w rv x):WR B o n (v.putM i { m with rest:=x }) (w.setCell ⟨B.mb,i*20+9,none⟩ rv):=by
 have:=h.u9 (putM_len _ _ _ hl) hi x rv hr
 rwa[mach_putM _ _ _ hl hi,putM2]at this
theorem WR.v10{m:Y.Mh}(h:WR B o n (v.putM i m) w)(hl:v.mm.length=v.M)(hi:i<v.M)(x:Int):WR B o n (v.putM i { m with back:=x }) (w.setCell ⟨B.mb,i*20+10,none⟩ (.int .i64 x)):=by
 have:=h.u10 (putM_len _ _ _ hl) hi x
 rwa[mach_putM _ _ _ hl hi,putM2]at this
theorem WR.v11{m:Y.Mh}(h:WR B o n (v.putM i m) w)(hl:v.mm.length=v.M)(hi:i<v.M)(x:Int):WR B o n (v.putM i { m with after:=x }) (w.setCell ⟨B.mb,i*20+11,none⟩ (.int .i64 x)):=by
 have:=h.u11 (putM_len _ _ _ hl) hi x
 rwa[mach_putM _ _ _ hl hi,putM2]at this
theorem WR.v12{m:Y.Mh}(h:WR B o n (v.putM i m) w)(hl:v.mm.length=v.M)(hi:i<v.M)(x:Int):WR B o n (v.putM i { m with arg:=x }) (w.setCell ⟨B.mb,i*20+12,none⟩ (.int .i64 x)):=by
 have:=h.u12 (putM_len _ _ _ hl) hi x
 rwa[mach_putM _ _ _ hl hi,putM2]at this
theorem WR.v13{m:Y.Mh}(h:WR B o n (v.putM i m) w)(hl:v.mm.length=v.M)(hi:i<v.M)(x:Int):WR B o n (v.putM i { m with sn:=x }) (w.setCell ⟨B.mb,i*20+13,none⟩ (.int .i64 x)):=by
 have:=h.u13 (putM_len _ _ _ hl) hi x
 rwa[mach_putM _ _ _ hl hi,putM2]at this
theorem WR.v14{m:Y.Mh}(h:WR B o n (v.putM i m) w)(hl:v.mm.length=v.M)(hi:i<v.M)(x:Int):WR B o n (v.putM i { m with sv:=x }) (w.setCell ⟨B.mb,i*20+14,none⟩ (.int .i64 x)):=by
 have:=h.u14 (putM_len _ _ _ hl) hi x
 rwa[mach_putM _ _ _ hl hi,putM2]at this
theorem WR.v15{m:Y.Mh}(h:WR B o n (v.putM i m) w)(hl:v.mm.length=v.M)(hi:i<v.M)(x:Int):WR B o n (v.putM i { m with st:=x }) (w.setCell ⟨B.mb,i*20+15,none⟩ (.int .i64 x)):=by
 have:=h.u15 (putM_len _ _ _ hl) hi x
 rwa[mach_putM _ _ _ hl hi,putM2]at this
theorem WR.v16{m:Y.Mh}(h:WR B o n (v.putM i m) w)(hl:v.mm.length=v.M)(hi:i<v.M)(x:Int):WR B o n (v.putM i { m with tk:=x }) (w.setCell ⟨B.mb,i*20+16,none⟩ (.int .u64 x)):=by
 have:=h.u16 (putM_len _ _ _ hl) hi x
 rwa[mach_putM _ _ _ hl hi,putM2]at this
theorem WR.v17{m:Y.Mh}(h:WR B o n (v.putM i m) w)(hl:v.mm.length=v.M)(hi:i<v.M)(x:Int):WR B o n (v.putM i { m with tm:=x }) (w.setCell ⟨B.mb,i*20+17,none⟩ (.int .i64 x)):=by
 have:=h.u17 (putM_len _ _ _ hl) hi x
 rwa[mach_putM _ _ _ hl hi,putM2]at this
theorem WR.v18{m:Y.Mh}(h:WR B o n (v.putM i m) w)(hl:v.mm.length=v.M)(hi:i<v.M)(x:Bool):WR B o n (v.putM i { m with yes:=x }) (w.setCell ⟨B.mb,i*20+18,none⟩ (.bool x)):=by
 have:=h.u18 (putM_len _ _ _ hl) hi x
 rwa[mach_putM _ _ _ hl hi,putM2]at this
theorem WR.v19{m:Y.Mh}(h:WR B o n (v.putM i m) w)(hl:v.mm.length=v.M)(hi:i<v.M)(x:Int):WR B o n (v.putM i { m with til:=x }) (w.setCell ⟨B.mb,i*20+19,none⟩ (.int .i64 x)):=by
 have:=h.u19 (putM_len _ _ _ hl) hi x
 rwa[mach_putM _ _ _ hl hi,putM2]at this
theorem Rst.setM{rv:Value}{xs:List Int}(h:Rst o w rv xs)(hr:WR B o n v w)(j:Nat)(x:Value):Rst o (w.setCell ⟨B.mb,j,none⟩ x) rv xs:=
 h.keep (o':=o) (C:=fun k=>k=6) (Fm.set _ _ _ _ hr.c6.1) (.refl hr (by simp[World.setCell])) (by decide)
theorem mget(h:WR B o n v w)(hl:v.mm.length=v.M)(hi:i<v.M)(x:Int)(b:Bool) :
 Calls Tryz.prog 130 #[mp B i, .int .i64 x, .bool b] w (Po B o n (.tuple #[]) (v.onM i (·.get (x,b))) w):=by
 have k4:=h.m4 hi
 have k18:=h.m18 hi
 have kf:=h.mfz
 have H:=hid (h.self hl hi)
 clear h
 rcases b with _|_
 ·go_enter Tryz.func130,Tryz.ntmps130
  go_wp2
  go_end0
  exact⟨rfl,o,H.out.v18 hl hi false,Ek.setM H.out _ _⟩
 ·go_enter Tryz.func130,Tryz.ntmps130
  go_wp2
  go_end0
  have U:=H.out.v18 hl hi true
  exact⟨rfl,o,U.v4 hl hi x,(Ek.setM H.out _ _).trans (Ek.setM U _ _)⟩
theorem mhold(h:WR B o n v w)(hl:v.mm.length=v.M)(hi:i<v.M)(x:Int)(b:Bool) :
 Calls Tryz.prog 139 #[mp B i, .int .i64 x, .bool b] w (Po B o n (.tuple #[]) (v.onM i (·.hold (x,b))) w):=by
 have k1:=h.m1 hi
 have k18:=h.m18 hi
 have kf:=h.mfz
 have H:=hid (h.self hl hi)
 clear h
 rcases b with _|_
 ·go_enter Tryz.func139,Tryz.ntmps139
  go_wp2
  go_end0
  exact⟨rfl,o,H.out.v18 hl hi false,Ek.setM H.out _ _⟩
 ·go_enter Tryz.func139,Tryz.ntmps139
  go_wp2
  go_end0
  have U:=H.out.v18 hl hi true
  exact⟨rfl,o,U.v1 hl hi x,(Ek.setM H.out _ _).trans (Ek.setM U _ _)⟩
theorem rst_tail{g off c:Nat}{x:Int}{l:List Int}(h:Rst o w (.slice (some ⟨g,off,none⟩) (l.length+1) c) (x :: l))(off':Nat)(hoff:off'=off+1∨l = []):Rst o w (.slice (some ⟨g,off',none⟩) l.length (c - 1)) l:=by
 obtain⟨⟨a,c',e,⟨h0,h1,h2⟩,h3⟩,h4⟩:=h
 cases e
 simp only[List.length_cons]at h0
 refine⟨⟨_,_,rfl,⟨by omega,by omega, .inr ⟨_,rfl⟩⟩,fun hp => ?_⟩,fun k hk=>h4 k (by simpa[Value.ownBlock] using hk)⟩
 obtain⟨g',o1,e1,e2,e3⟩:=h3 (by simp)
 cases e1
 rcases hoff with rfl|rfl
 ·refine⟨g,off+1,rfl,e2,fun j hj => ?_⟩
  have:=e3 (j+1) (by simp;omega)
  rw[show off+(j+1)=off+1+j by omega]at this
  simpa using this
 ·simp at hp
theorem mgetAll(h:WR B o n v w)(hl:v.mm.length=v.M)(hi:i<v.M)(rv:Value)(xs:List Int)(hr:Rst o w rv xs) :
 Calls Tryz.prog 133 #[mp B i,rv] w (Po B o n (.tuple #[]) (v.onM i (·.getAll xs)) w):=by
 have k4:=h.m4 hi
 have k18:=h.m18 hi
 obtain⟨ra,rc,k9,_⟩:=h.m9 hi
 have kf:=h.mfz
 have H:=hid (h.self hl hi)
 have HR:=hid hr
 obtain⟨a,c,rfl,⟨hc0,hc1,_⟩,hrd⟩:=hr.rd
 rcases xs with _|⟨x,l⟩
 ·clear h hr hrd
  go_enter Tryz.func133,Tryz.ntmps133
  go_wp2
  go_end0
  exact⟨rfl,o,H.out.v18 hl hi false,Ek.setM H.out _ _⟩
 ·obtain⟨g,off,rfl,hg,hcell⟩:=hrd (by simp)
  have kx:=hcell 0 (by simp)
  simp only[List.getD_cons_zero,Nat.add_zero]at kx
  simp only[List.length_cons]at hc0 ⊢
  obtain⟨ln,hln⟩:∃ ln,ln=l.length:=⟨_,rfl⟩
  rw[←hln]at hc0 ⊢
  have T1:=hid (fun off' (hoff:off'=off+1∨l = [])=>rst_tail (g:=g) (c:=c) HR.out off' hoff)
  have hgm:g≠B.mb:=fun e=>by
   have h1:=(HR.out.ow g rfl).1
   have h2:=H.out.c6.1
   rw[e,h2]at h1
   cases h1
  have hc2:(c:Int)≤9223372036854775807:=by unfold maxLen at hc1;omega
  have hc3:(1:Int)≤(c:Int):=by omega
  have hc4:(1:Int)≤((ln+1:Nat):Int):=by omega
  have hc5:0<ln+1:=by omega
  have HL:=hid hln
  by_cases hcc:c=1
  ·subst hcc
   have hl0:ln=0:=by omega
   clear h hr hcell hrd hln
   go_enter Tryz.func133,Tryz.ntmps133
   go_wp2_with fail
   go_region
   all_goals
    go_wp2
    go_end0
    obtain rfl:l = []:=by cases l with
     | nil=>rfl
     | cons y l=>have:=HL.out;simp at this;omega
    have U:=H.out.v18 hl hi true
    have U2:=U.v4 hl hi x
    have R2:=((T1.out off (.inr rfl):Rst o w (.slice (some ⟨g,off,none⟩) 0 0) []).setM H.out (i*20+18) (.bool true)).setM U (i*20+4) (.int .i64 x)
    exact⟨rfl,o,(U2.v9 hl hi [] _ R2).quiet ⟨1,rfl⟩,(Ek.setM H.out _ _).trans ((Ek.setM U _ _).trans ((Ek.setM U2 (i*20+9) (.slice (some ⟨g,off,none⟩) 0 0)).trans (.of_quiet ⟨1,rfl⟩)))⟩
  ·clear h hr hcell hrd hln
   go_enter Tryz.func133,Tryz.ntmps133
   go_wp2_with fail
   go_region
   all_goals
    go_wp2
    go_end0
    have U:=H.out.v18 hl hi true
    have U2:=U.v4 hl hi x
    have R2:=((HL.out ▸ T1.out (off+1) (.inl rfl):Rst o w (.slice (some ⟨g,off+1,none⟩) ln (c - 1)) l).setM H.out (i*20+18) (.bool true)).setM U (i*20+4) (.int .i64 x)
    exact⟨rfl,o,(U2.v9 hl hi l _ R2).quiet ⟨1,rfl⟩,(Ek.setM H.out _ _).trans ((Ek.setM U _ _).trans ((Ek.setM U2 (i*20+9) (.slice (some ⟨g,off+1,none⟩) ln (c - 1))).trans (.of_quiet ⟨1,rfl⟩)))⟩
end
end Go.Proofs.YtkhigkcmgcafdaaGreatDoor
