/- Of Wx. -/
import Derived.Test.YtkhigkcmgcafdaaGreatDoorZ15
set_option linter.unusedVariables false
set_option linter.unusedSimpArgs false
set_option maxHeartbeats 16000000
set_option maxRecDepth 20000
namespace Go.Proofs.YtkhigkcmgcafdaaGreatDoor
open Go.RowKit
section
variable {B:Bk}{o o':Nat→Nat}{n n':Nat}{v v':Y.V}{w w' wx:World}{C:Nat→Prop}{i:Nat}
theorem goOn_2(h:WR B o n v w)(hl:v.mm.length=v.M)(hi:i<v.M)(hp:(v.mach i).pl=2)(h63 : -1000000≤(v.mach i).i∧(v.mach i).i≤1000000) :
 Calls Tryz.prog 100 #[.pointer (some ⟨B.W,0,none⟩), .int .i64 (i:Int)] w (Po B o n (.tuple #[]) (v.goOn i) w):=by
 have I0:(0:Int)≤(i:Int):=by omega
 have I1:(i:Int)<(v.M:Int):=by omega
 have a14:=h.w14
 have k0:=h.m0 hi
 have kf:=h.mfz
 have ST:=hid (wfound h hl hi (by simp[hp]) h63)
 have EQ:=hid (show v.onM i (·.found v.P)=v.goOn i by
  unfold Y.V.goOn;simp only[onM_putM];simp[Y.Mh.goOn,hp])
 rw[hp]at k0
 clear h hp h63
 go_enter Tryz.func100,Tryz.ntmps100
 go_wp2_with fail
 refine ST.out.mono ?_
 rintro e w2 ⟨rfl,o2,h2,e2⟩
 have H2:=hid h2
 have E2:=hid e2
 clear h2 e2 ST
 go_wp2
 go_end0
 exact⟨rfl,o2,EQ.out ▸ H2.out,E2.out⟩
theorem goOn_3(h:WR B o n v w)(hl:v.mm.length=v.M)(hi:i<v.M)(hp:(v.mach i).pl=3)(h63 : -1000000≤(v.mach i).i∧(v.mach i).i≤1000000) :
 Calls Tryz.prog 100 #[.pointer (some ⟨B.W,0,none⟩), .int .i64 (i:Int)] w (Po B o n (.tuple #[]) (v.goOn i) w):=by
 have I0:(0:Int)≤(i:Int):=by omega
 have I1:(i:Int)<(v.M:Int):=by omega
 have a14:=h.w14
 have k0:=h.m0 hi
 have kf:=h.mfz
 have ST:=hid (wfound h hl hi (by simp[hp]) h63)
 have EQ:=hid (show v.onM i (·.found v.P)=v.goOn i by
  unfold Y.V.goOn;simp only[onM_putM];simp[Y.Mh.goOn,hp])
 rw[hp]at k0
 clear h hp h63
 go_enter Tryz.func100,Tryz.ntmps100
 go_wp2_with fail
 refine ST.out.mono ?_
 rintro e w2 ⟨rfl,o2,h2,e2⟩
 have H2:=hid h2
 have E2:=hid e2
 clear h2 e2 ST
 go_wp2
 go_end0
 exact⟨rfl,o2,EQ.out ▸ H2.out,E2.out⟩
theorem goOn_4(h:WR B o n v w)(hl:v.mm.length=v.M)(hi:i<v.M)(hp:(v.mach i).pl=4)(h63 : -1000000≤(v.mach i).i∧(v.mach i).i≤1000000) :
 Calls Tryz.prog 100 #[.pointer (some ⟨B.W,0,none⟩), .int .i64 (i:Int)] w (Po B o n (.tuple #[]) (v.goOn i) w):=by
 have I0:(0:Int)≤(i:Int):=by omega
 have I1:(i:Int)<(v.M:Int):=by omega
 have a14:=h.w14
 have k0:=h.m0 hi
 have kf:=h.mfz
 have ST:=hid (wfound h hl hi (by simp[hp]) h63)
 have EQ:=hid (show v.onM i (·.found v.P)=v.goOn i by
  unfold Y.V.goOn;simp only[onM_putM];simp[Y.Mh.goOn,hp])
 rw[hp]at k0
 clear h hp h63
 go_enter Tryz.func100,Tryz.ntmps100
 go_wp2_with fail
 refine ST.out.mono ?_
 rintro e w2 ⟨rfl,o2,h2,e2⟩
 have H2:=hid h2
 have E2:=hid e2
 clear h2 e2 ST
 go_wp2
 go_end0
 exact⟨rfl,o2,EQ.out ▸ H2.out,E2.out⟩
theorem goOn_6(h:WR B o n v w)(hl:v.mm.length=v.M)(hi:i<v.M)(hp:(v.mach i).pl=6)(h63 : -1000000≤(v.mach i).i∧(v.mach i).i≤1000000) :
 Calls Tryz.prog 100 #[.pointer (some ⟨B.W,0,none⟩), .int .i64 (i:Int)] w (Po B o n (.tuple #[]) (v.goOn i) w):=by
 have I0:(0:Int)≤(i:Int):=by omega
 have I1:(i:Int)<(v.M:Int):=by omega
 have a14:=h.w14
 have k0:=h.m0 hi
 have kf:=h.mfz
 have ST:=hid (wfound h hl hi (by simp[hp]) h63)
 have EQ:=hid (show v.onM i (·.found v.P)=v.goOn i by
  unfold Y.V.goOn;simp only[onM_putM];simp[Y.Mh.goOn,hp])
 rw[hp]at k0
 clear h hp h63
 go_enter Tryz.func100,Tryz.ntmps100
 go_wp2_with fail
 refine ST.out.mono ?_
 rintro e w2 ⟨rfl,o2,h2,e2⟩
 have H2:=hid h2
 have E2:=hid e2
 clear h2 e2 ST
 go_wp2
 go_end0
 exact⟨rfl,o2,EQ.out ▸ H2.out,E2.out⟩
theorem goOn_7(h:WR B o n v w)(hl:v.mm.length=v.M)(hi:i<v.M)(hp:(v.mach i).pl=7)(h63 : -1000000≤(v.mach i).i∧(v.mach i).i≤1000000) :
 Calls Tryz.prog 100 #[.pointer (some ⟨B.W,0,none⟩), .int .i64 (i:Int)] w (Po B o n (.tuple #[]) (v.goOn i) w):=by
 have I0:(0:Int)≤(i:Int):=by omega
 have I1:(i:Int)<(v.M:Int):=by omega
 have a14:=h.w14
 have k0:=h.m0 hi
 have kf:=h.mfz
 have ST:=hid (wfound h hl hi (by simp[hp]) h63)
 have EQ:=hid (show v.onM i (·.found v.P)=v.goOn i by
  unfold Y.V.goOn;simp only[onM_putM];simp[Y.Mh.goOn,hp])
 rw[hp]at k0
 clear h hp h63
 go_enter Tryz.func100,Tryz.ntmps100
 go_wp2_with fail
 refine ST.out.mono ?_
 rintro e w2 ⟨rfl,o2,h2,e2⟩
 have H2:=hid h2
 have E2:=hid e2
 clear h2 e2 ST
 go_wp2
 go_end0
 exact⟨rfl,o2,EQ.out ▸ H2.out,E2.out⟩
theorem goOn_9(h:WR B o n v w)(hl:v.mm.length=v.M)(hi:i<v.M)(hp:(v.mach i).pl=9)(h63 : -1000000≤(v.mach i).i∧(v.mach i).i≤1000000) :
 Calls Tryz.prog 100 #[.pointer (some ⟨B.W,0,none⟩), .int .i64 (i:Int)] w (Po B o n (.tuple #[]) (v.goOn i) w):=by
 have I0:(0:Int)≤(i:Int):=by omega
 have I1:(i:Int)<(v.M:Int):=by omega
 have a14:=h.w14
 have k0:=h.m0 hi
 have kf:=h.mfz
 have ST:=hid (wrest h hl hi (by simp[hp]) h63)
 have EQ:=hid (show v.onM i (·.restOn v.P)=v.goOn i by
  unfold Y.V.goOn;simp only[onM_putM];simp[Y.Mh.goOn,hp])
 rw[hp]at k0
 clear h hp h63
 go_enter Tryz.func100,Tryz.ntmps100
 go_wp2_with fail
 refine ST.out.mono ?_
 rintro e w2 ⟨rfl,o2,h2,e2⟩
 have H2:=hid h2
 have E2:=hid e2
 clear h2 e2 ST
 go_wp2
 go_end0
 exact⟨rfl,o2,EQ.out ▸ H2.out,E2.out⟩
theorem goOn_10(h:WR B o n v w)(hl:v.mm.length=v.M)(hi:i<v.M)(hp:(v.mach i).pl=10)(h63 : -1000000≤(v.mach i).i∧(v.mach i).i≤1000000) :
 Calls Tryz.prog 100 #[.pointer (some ⟨B.W,0,none⟩), .int .i64 (i:Int)] w (Po B o n (.tuple #[]) (v.goOn i) w):=by
 have I0:(0:Int)≤(i:Int):=by omega
 have I1:(i:Int)<(v.M:Int):=by omega
 have a14:=h.w14
 have k0:=h.m0 hi
 have kf:=h.mfz
 have ST:=hid (wrest h hl hi (by simp[hp]) h63)
 have EQ:=hid (show v.onM i (·.restOn v.P)=v.goOn i by
  unfold Y.V.goOn;simp only[onM_putM];simp[Y.Mh.goOn,hp])
 rw[hp]at k0
 clear h hp h63
 go_enter Tryz.func100,Tryz.ntmps100
 go_wp2_with fail
 refine ST.out.mono ?_
 rintro e w2 ⟨rfl,o2,h2,e2⟩
 have H2:=hid h2
 have E2:=hid e2
 clear h2 e2 ST
 go_wp2
 go_end0
 exact⟨rfl,o2,EQ.out ▸ H2.out,E2.out⟩
theorem goOn_11(h:WR B o n v w)(hl:v.mm.length=v.M)(hi:i<v.M)(hp:(v.mach i).pl=11)(h63 : -1000000≤(v.mach i).i∧(v.mach i).i≤1000000) :
 Calls Tryz.prog 100 #[.pointer (some ⟨B.W,0,none⟩), .int .i64 (i:Int)] w (Po B o n (.tuple #[]) (v.goOn i) w):=by
 have I0:(0:Int)≤(i:Int):=by omega
 have I1:(i:Int)<(v.M:Int):=by omega
 have a14:=h.w14
 have k0:=h.m0 hi
 have kf:=h.mfz
 have ST:=hid (wrest h hl hi (by simp[hp]) h63)
 have EQ:=hid (show v.onM i (·.restOn v.P)=v.goOn i by
  unfold Y.V.goOn;simp only[onM_putM];simp[Y.Mh.goOn,hp])
 rw[hp]at k0
 clear h hp h63
 go_enter Tryz.func100,Tryz.ntmps100
 go_wp2_with fail
 refine ST.out.mono ?_
 rintro e w2 ⟨rfl,o2,h2,e2⟩
 have H2:=hid h2
 have E2:=hid e2
 clear h2 e2 ST
 go_wp2
 go_end0
 exact⟨rfl,o2,EQ.out ▸ H2.out,E2.out⟩
theorem goOn_13(h:WR B o n v w)(hl:v.mm.length=v.M)(hi:i<v.M)(hp:(v.mach i).pl=13)(h63 : -1000000≤(v.mach i).i∧(v.mach i).i≤1000000) :
 Calls Tryz.prog 100 #[.pointer (some ⟨B.W,0,none⟩), .int .i64 (i:Int)] w (Po B o n (.tuple #[]) (v.goOn i) w):=by
 have I0:(0:Int)≤(i:Int):=by omega
 have I1:(i:Int)<(v.M:Int):=by omega
 have a14:=h.w14
 have k0:=h.m0 hi
 have kf:=h.mfz
 have ST:=hid (wrest h hl hi (by simp[hp]) h63)
 have EQ:=hid (show v.onM i (·.restOn v.P)=v.goOn i by
  unfold Y.V.goOn;simp only[onM_putM];simp[Y.Mh.goOn,hp])
 rw[hp]at k0
 clear h hp h63
 go_enter Tryz.func100,Tryz.ntmps100
 go_wp2_with fail
 refine ST.out.mono ?_
 rintro e w2 ⟨rfl,o2,h2,e2⟩
 have H2:=hid h2
 have E2:=hid e2
 clear h2 e2 ST
 go_wp2
 go_end0
 exact⟨rfl,o2,EQ.out ▸ H2.out,E2.out⟩
theorem goOn_14(h:WR B o n v w)(hl:v.mm.length=v.M)(hi:i<v.M)(hp:(v.mach i).pl=14)(h63 : -1000000≤(v.mach i).i∧(v.mach i).i≤1000000) :
 Calls Tryz.prog 100 #[.pointer (some ⟨B.W,0,none⟩), .int .i64 (i:Int)] w (Po B o n (.tuple #[]) (v.goOn i) w):=by
 have I0:(0:Int)≤(i:Int):=by omega
 have I1:(i:Int)<(v.M:Int):=by omega
 have a14:=h.w14
 have k0:=h.m0 hi
 have kf:=h.mfz
 have ST:=hid (wrest h hl hi (by simp[hp]) h63)
 have EQ:=hid (show v.onM i (·.restOn v.P)=v.goOn i by
  unfold Y.V.goOn;simp only[onM_putM];simp[Y.Mh.goOn,hp])
 rw[hp]at k0
 clear h hp h63
 go_enter Tryz.func100,Tryz.ntmps100
 go_wp2_with fail
 refine ST.out.mono ?_
 rintro e w2 ⟨rfl,o2,h2,e2⟩
 have H2:=hid h2
 have E2:=hid e2
 clear h2 e2 ST
 go_wp2
 go_end0
 exact⟨rfl,o2,EQ.out ▸ H2.out,E2.out⟩
theorem goOn_15(h:WR B o n v w)(hl:v.mm.length=v.M)(hi:i<v.M)(hp:(v.mach i).pl=15)(h63 : -1000000≤(v.mach i).i∧(v.mach i).i≤1000000) :
 Calls Tryz.prog 100 #[.pointer (some ⟨B.W,0,none⟩), .int .i64 (i:Int)] w (Po B o n (.tuple #[]) (v.goOn i) w):=by
 have I0:(0:Int)≤(i:Int):=by omega
 have I1:(i:Int)<(v.M:Int):=by omega
 have a14:=h.w14
 have k0:=h.m0 hi
 have kf:=h.mfz
 have ST:=hid (wrest h hl hi (by simp[hp]) h63)
 have EQ:=hid (show v.onM i (·.restOn v.P)=v.goOn i by
  unfold Y.V.goOn;simp only[onM_putM];simp[Y.Mh.goOn,hp])
 rw[hp]at k0
 clear h hp h63
 go_enter Tryz.func100,Tryz.ntmps100
 go_wp2_with fail
 refine ST.out.mono ?_
 rintro e w2 ⟨rfl,o2,h2,e2⟩
 have H2:=hid h2
 have E2:=hid e2
 clear h2 e2 ST
 go_wp2
 go_end0
 exact⟨rfl,o2,EQ.out ▸ H2.out,E2.out⟩
theorem goOn_17(h:WR B o n v w)(hl:v.mm.length=v.M)(hi:i<v.M)(hp:(v.mach i).pl=17)  :
 Calls Tryz.prog 100 #[.pointer (some ⟨B.W,0,none⟩), .int .i64 (i:Int)] w (Po B o n (.tuple #[]) (v.goOn i) w):=by
 have I0:(0:Int)≤(i:Int):=by omega
 have I1:(i:Int)<(v.M:Int):=by omega
 have a14:=h.w14
 have k0:=h.m0 hi
 have kf:=h.mfz
 have ST:=hid (msettle h hl hi)
 have EQ:=hid (show v.onM i (·.settle)=v.goOn i by
  unfold Y.V.goOn;simp only[onM_putM];simp[Y.Mh.goOn,hp])
 rw[hp]at k0
 clear h hp
 go_enter Tryz.func100,Tryz.ntmps100
 go_wp2_with fail
 refine ST.out.mono ?_
 rintro e w2 ⟨rfl,o2,h2,e2⟩
 have H2:=hid h2
 have E2:=hid e2
 clear h2 e2 ST
 go_wp2
 go_end0
 exact⟨rfl,o2,EQ.out ▸ H2.out,E2.out⟩
theorem goOn_18(h:WR B o n v w)(hl:v.mm.length=v.M)(hi:i<v.M)(hp:(v.mach i).pl=18)  :
 Calls Tryz.prog 100 #[.pointer (some ⟨B.W,0,none⟩), .int .i64 (i:Int)] w (Po B o n (.tuple #[]) (v.goOn i) w):=by
 have I0:(0:Int)≤(i:Int):=by omega
 have I1:(i:Int)<(v.M:Int):=by omega
 have a14:=h.w14
 have k0:=h.m0 hi
 have kf:=h.mfz
 have ST:=hid (msettle h hl hi)
 have EQ:=hid (show v.onM i (·.settle)=v.goOn i by
  unfold Y.V.goOn;simp only[onM_putM];simp[Y.Mh.goOn,hp])
 rw[hp]at k0
 clear h hp
 go_enter Tryz.func100,Tryz.ntmps100
 go_wp2_with fail
 refine ST.out.mono ?_
 rintro e w2 ⟨rfl,o2,h2,e2⟩
 have H2:=hid h2
 have E2:=hid e2
 clear h2 e2 ST
 go_wp2
 go_end0
 exact⟨rfl,o2,EQ.out ▸ H2.out,E2.out⟩
theorem goOn_29(h:WR B o n v w)(hl:v.mm.length=v.M)(hi:i<v.M)(hp:(v.mach i).pl=29)  :
 Calls Tryz.prog 100 #[.pointer (some ⟨B.W,0,none⟩), .int .i64 (i:Int)] w (Po B o n (.tuple #[]) (v.goOn i) w):=by
 have I0:(0:Int)≤(i:Int):=by omega
 have I1:(i:Int)<(v.M:Int):=by omega
 have a14:=h.w14
 have k0:=h.m0 hi
 have kf:=h.mfz
 have ST:=hid (mparked h hl hi)
 have EQ:=hid (show v.onM i (·.parked)=v.goOn i by
  unfold Y.V.goOn;simp only[onM_putM];simp[Y.Mh.goOn,hp])
 rw[hp]at k0
 clear h hp
 go_enter Tryz.func100,Tryz.ntmps100
 go_wp2_with fail
 refine ST.out.mono ?_
 rintro e w2 ⟨rfl,o2,h2,e2⟩
 have H2:=hid h2
 have E2:=hid e2
 clear h2 e2 ST
 go_wp2
 go_end0
 exact⟨rfl,o2,EQ.out ▸ H2.out,E2.out⟩
theorem goOn_28(h:WR B o n v w)(hl:v.mm.length=v.M)(hi:i<v.M)(hp:(v.mach i).pl=28) :
 Calls Tryz.prog 100 #[.pointer (some ⟨B.W,0,none⟩), .int .i64 (i:Int)] w (Po B o n (.tuple #[]) (v.goOn i) w):=by
 have I0:(0:Int)≤(i:Int):=by omega
 have I1:(i:Int)<(v.M:Int):=by omega
 have a14:=h.w14
 have k0:=h.m0 hi
 have kf:=h.mfz
 have k10:=h.m10 hi
 have H:=hid (h.self hl hi)
 have U0:=(h.self hl hi).v10 hl hi 0
 have ST:=hid (msettle U0 (putM_len _ _ _ hl) hi)
 have EQ:=hid (show (v.putM i { v.mach i with back:=0 }).onM i (·.settle)=v.goOn i by
  unfold Y.V.goOn;simp only[onM_putM];rw[mach_putM _ _ _ hl hi,putM2];simp[Y.Mh.goOn,hp])
 rw[hp]at k0
 clear h hp U0
 go_enter Tryz.func100,Tryz.ntmps100
 go_wp2_with fail
 refine ST.out.mono ?_
 rintro e w2 ⟨rfl,o2,h2,e2⟩
 have H2:=hid h2
 have E2:=hid e2
 clear h2 e2 ST
 go_wp2
 go_end0
 exact⟨rfl,o2,EQ.out ▸ H2.out,(Ek.setM H.out _ _).trans E2.out⟩
theorem goOn_27(h:WR B o n v w)(hl:v.mm.length=v.M)(hi:i<v.M)(hp:(v.mach i).pl=27) :
 Calls Tryz.prog 100 #[.pointer (some ⟨B.W,0,none⟩), .int .i64 (i:Int)] w (Po B o n (.tuple #[]) (v.goOn i) w):=by
 have I0:(0:Int)≤(i:Int):=by omega
 have I1:(i:Int)<(v.M:Int):=by omega
 have a14:=h.w14
 have k0:=h.m0 hi
 have kf:=h.mfz
 have H:=hid (h.self hl hi)
 have EQ:=hid (show v.goOn i=v.putM i { v.mach i with pl:=21 } by unfold Y.V.goOn;rw[onM_putM];simp[Y.Mh.goOn,hp])
 rw[hp]at k0
 clear h hp
 go_enter Tryz.func100,Tryz.ntmps100
 go_wp2_with fail
 go_end0
 refine⟨rfl,o,?_,Ek.setM H.out _ _⟩
 rw[EQ.out]
 exact H.out.v0 hl hi 21
theorem goOn_23n(h:WR B o n v w)(hl:v.mm.length=v.M)(hi:i<v.M)(hp:(v.mach i).pl=23)(hq:(v.mach i).tg = -1) :
 Calls Tryz.prog 100 #[.pointer (some ⟨B.W,0,none⟩), .int .i64 (i:Int)] w (Po B o n (.tuple #[]) (v.goOn i) w):=by
 have I0:(0:Int)≤(i:Int):=by omega
 have I1:(i:Int)<(v.M:Int):=by omega
 have a14:=h.w14
 have k0:=h.m0 hi
 have kf:=h.mfz
 have H:=hid (h.self hl hi)
 have EQ:=hid (show v.goOn i=v.putM i { v.mach i with pl:=(v.mach i).back } by unfold Y.V.goOn;rw[onM_putM];simp[Y.Mh.goOn,hp,hq])
 rw[hp]at k0
 have k5:=h.m5 hi
 have k10:=h.m10 hi
 rw[hq]at k5
 clear h hp hq
 go_enter Tryz.func100,Tryz.ntmps100
 go_wp2_with fail
 go_region_with (go_at_call 105;refine(either_any _ _ _ _).mono ?_;rintro e y ⟨rfl,rfl⟩)
 all_goals
  go_end0
  refine⟨rfl,o,?_,(Ek.setM H.out (i*20) _).trans (.of_quiet ⟨1,rfl⟩)⟩
  rw[EQ.out]
  exact(H.out.v0 hl hi _).quiet ⟨1,rfl⟩
theorem goOn_23y(h:WR B o n v w)(hl:v.mm.length=v.M)(hi:i<v.M)(hp:(v.mach i).pl=23)(hq:(v.mach i).tg ≠ -1) :
 Calls Tryz.prog 100 #[.pointer (some ⟨B.W,0,none⟩), .int .i64 (i:Int)] w (Po B o n (.tuple #[]) (v.goOn i) w):=by
 have I0:(0:Int)≤(i:Int):=by omega
 have I1:(i:Int)<(v.M:Int):=by omega
 have a14:=h.w14
 have k0:=h.m0 hi
 have kf:=h.mfz
 have H:=hid (h.self hl hi)
 have EQ:=hid (show v.goOn i=v.putM i { v.mach i with pl:=24 } by unfold Y.V.goOn;rw[onM_putM];simp[Y.Mh.goOn,hp,hq])
 rw[hp]at k0
 have k5:=h.m5 hi
 have k10:=h.m10 hi
 obtain⟨x,hx⟩:∃ x,x=(v.mach i).tg:=⟨_,rfl⟩
 rw[←hx]at k5 hq
 have hq1:(x == -1)=false:=beq_eq_false_iff_ne.2 hq
 have hq2:(x != -1)=true:=by simp[bne,hq1]
 clear h hp hq hx
 go_enter Tryz.func100,Tryz.ntmps100
 go_wp2_with fail
 go_region_with (go_at_call 105;refine(either_any _ _ _ _).mono ?_;rintro e y ⟨rfl,rfl⟩)
 all_goals
  go_end0
  refine⟨rfl,o,?_,(Ek.setM H.out (i*20) _).trans (.of_quiet ⟨1,rfl⟩)⟩
  rw[EQ.out]
  exact(H.out.v0 hl hi _).quiet ⟨1,rfl⟩
theorem goOn_25n(h:WR B o n v w)(hl:v.mm.length=v.M)(hi:i<v.M)(hp:(v.mach i).pl=25)(hy:(v.mach i).yes=false) :
 Calls Tryz.prog 100 #[.pointer (some ⟨B.W,0,none⟩), .int .i64 (i:Int)] w (Po B o n (.tuple #[]) (v.goOn i) w):=by
 have I0:(0:Int)≤(i:Int):=by omega
 have I1:(i:Int)<(v.M:Int):=by omega
 have a14:=h.w14
 have k0:=h.m0 hi
 have kf:=h.mfz
 have H:=hid (h.self hl hi)
 have EQ:=hid (show v.goOn i=v.putM i { v.mach i with pl:=(v.mach i).after } by unfold Y.V.goOn;rw[onM_putM];simp[Y.Mh.goOn,hp,hy])
 rw[hp]at k0
 have k11:=h.m11 hi
 have k18:=h.m18 hi
 rw[hy]at k18
 clear h hp hy
 go_enter Tryz.func100,Tryz.ntmps100
 go_wp2_with fail
 go_region_with (go_at_call 105;refine(either_any _ _ _ _).mono ?_;rintro e y ⟨rfl,rfl⟩)
 all_goals
  go_end0
  refine⟨rfl,o,?_,(Ek.setM H.out (i*20) _).trans (.of_quiet ⟨1,rfl⟩)⟩
  rw[EQ.out]
  exact(H.out.v0 hl hi _).quiet ⟨1,rfl⟩
theorem goOn_25y(h:WR B o n v w)(hl:v.mm.length=v.M)(hi:i<v.M)(hp:(v.mach i).pl=25)(hy:(v.mach i).yes=true) :
 Calls Tryz.prog 100 #[.pointer (some ⟨B.W,0,none⟩), .int .i64 (i:Int)] w (Po B o n (.tuple #[]) (v.goOn i) w):=by
 have I0:(0:Int)≤(i:Int):=by omega
 have I1:(i:Int)<(v.M:Int):=by omega
 have a14:=h.w14
 have k0:=h.m0 hi
 have kf:=h.mfz
 have H:=hid (h.self hl hi)
 have EQ:=hid (show v.goOn i=v.putM i { v.mach i with pl:=26 } by unfold Y.V.goOn;rw[onM_putM];simp[Y.Mh.goOn,hp,hy])
 rw[hp]at k0
 have k11:=h.m11 hi
 have k18:=h.m18 hi
 rw[hy]at k18
 clear h hp hy
 go_enter Tryz.func100,Tryz.ntmps100
 go_wp2_with fail
 go_region_with (go_at_call 105;refine(either_any _ _ _ _).mono ?_;rintro e y ⟨rfl,rfl⟩)
 all_goals
  go_end0
  refine⟨rfl,o,?_,(Ek.setM H.out (i*20) _).trans (.of_quiet ⟨1,rfl⟩)⟩
  rw[EQ.out]
  exact(H.out.v0 hl hi _).quiet ⟨1,rfl⟩
theorem goOn_30n(h:WR B o n v w)(hl:v.mm.length=v.M)(hi:i<v.M)(hp:(v.mach i).pl=30)(hq:(v.mach i).g ≠ -1) :
 Calls Tryz.prog 100 #[.pointer (some ⟨B.W,0,none⟩), .int .i64 (i:Int)] w (Po B o n (.tuple #[]) (v.goOn i) w):=by
 have I0:(0:Int)≤(i:Int):=by omega
 have I1:(i:Int)<(v.M:Int):=by omega
 have a14:=h.w14
 have k0:=h.m0 hi
 have kf:=h.mfz
 have H:=hid (h.self hl hi)
 have k2:=h.m2 hi
 have EQ:=hid (show v.goOn i=v.putM i { v.mach i with pl:=0 } by unfold Y.V.goOn;rw[onM_putM];simp[Y.Mh.goOn,hp,hq])
 rw[hp]at k0
 obtain⟨x,hx⟩:∃ x,x=(v.mach i).g:=⟨_,rfl⟩
 rw[←hx]at k2 hq
 have hq1:(x == -1)=false:=beq_eq_false_iff_ne.2 hq
 clear h hp hx hq
 go_enter Tryz.func100,Tryz.ntmps100
 go_wp2_with fail
 go_end0
 refine⟨rfl,o,?_,Ek.setM H.out _ _⟩
 rw[EQ.out]
 exact H.out.v0 hl hi 0
theorem goOn_30y(h:WR B o n v w)(hl:v.mm.length=v.M)(hi:i<v.M)(hp:(v.mach i).pl=30)(hq:(v.mach i).g = -1) :
 Calls Tryz.prog 100 #[.pointer (some ⟨B.W,0,none⟩), .int .i64 (i:Int)] w (Po B o n (.tuple #[]) (v.goOn i) w):=by
 have I0:(0:Int)≤(i:Int):=by omega
 have I1:(i:Int)<(v.M:Int):=by omega
 have a14:=h.w14
 have k0:=h.m0 hi
 have kf:=h.mfz
 have H:=hid (h.self hl hi)
 have k2:=h.m2 hi
 have U0:=(h.self hl hi).v0 hl hi 0
 have ST:=hid (mparked U0 (putM_len _ _ _ hl) hi)
 have EQ:=hid (show (v.putM i { v.mach i with pl:=0 }).onM i (·.parked)=v.goOn i by
  unfold Y.V.goOn;simp only[onM_putM];rw[mach_putM _ _ _ hl hi,putM2];simp[Y.Mh.goOn,hp,hq,Y.Mh.parked,Y.Mh.deliver])
 rw[hp]at k0
 rw[hq]at k2
 clear h hp hq U0
 go_enter Tryz.func100,Tryz.ntmps100
 go_wp2_with fail
 refine ST.out.mono ?_
 rintro e w2 ⟨rfl,o2,h2,e2⟩
 have H2:=hid h2
 have E2:=hid e2
 clear h2 e2 ST
 go_wp2
 go_end0
 exact⟨rfl,o2,EQ.out ▸ H2.out,(Ek.setM H.out _ _).trans E2.out⟩
theorem wgoOn(h:WR B o n v w)(hl:v.mm.length=v.M)(hi:i<v.M)(hp:(v.mach i).pl=2∨(v.mach i).pl=3∨(v.mach i).pl=4∨(v.mach i).pl=6∨(v.mach i).pl=7∨(v.mach i).pl=9∨(v.mach i).pl=10∨(v.mach i).pl=11∨(v.mach i).pl=13∨(v.mach i).pl=14∨(v.mach i).pl=15∨(v.mach i).pl=17∨(v.mach i).pl=18∨(v.mach i).pl=23∨(v.mach i).pl=25∨(v.mach i).pl=27∨(v.mach i).pl=28∨(v.mach i).pl=29∨(v.mach i).pl=30)(h63 : -1000000≤(v.mach i).i∧(v.mach i).i≤1000000) :
 Calls Tryz.prog 100 #[.pointer (some ⟨B.W,0,none⟩), .int .i64 (i:Int)] w (Po B o n (.tuple #[]) (v.goOn i) w):=by
 rcases hp with hp|hp|hp|hp|hp|hp|hp|hp|hp|hp|hp|hp|hp|hp|hp|hp|hp|hp|hp
 ·exact goOn_2 h hl hi hp h63
 ·exact goOn_3 h hl hi hp h63
 ·exact goOn_4 h hl hi hp h63
 ·exact goOn_6 h hl hi hp h63
 ·exact goOn_7 h hl hi hp h63
 ·exact goOn_9 h hl hi hp h63
 ·exact goOn_10 h hl hi hp h63
 ·exact goOn_11 h hl hi hp h63
 ·exact goOn_13 h hl hi hp h63
 ·exact goOn_14 h hl hi hp h63
 ·exact goOn_15 h hl hi hp h63
 ·exact goOn_17 h hl hi hp
 ·exact goOn_18 h hl hi hp
 ·by_cases hq:(v.mach i).tg = -1
  ·exact goOn_23n h hl hi hp hq
  ·exact goOn_23y h hl hi hp hq
 ·rcases hy:(v.mach i).yes with _|_
  ·exact goOn_25n h hl hi hp hy
  ·exact goOn_25y h hl hi hp hy
 ·exact goOn_27 h hl hi hp
 ·exact goOn_28 h hl hi hp
 ·exact goOn_29 h hl hi hp
 ·by_cases hq:(v.mach i).g = -1
  ·exact goOn_30y h hl hi hp hq
  ·exact goOn_30n h hl hi hp hq
end
end Go.Proofs.YtkhigkcmgcafdaaGreatDoor
