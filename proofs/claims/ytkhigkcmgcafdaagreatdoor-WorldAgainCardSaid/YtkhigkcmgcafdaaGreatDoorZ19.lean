/- Of Vf. -/
import Derived.Test.YtkhigkcmgcafdaaGreatDoorZ18
set_option linter.unusedVariables false
set_option linter.unusedSimpArgs false
set_option maxHeartbeats 16000000
set_option maxRecDepth 20000
namespace Go.Proofs.YtkhigkcmgcafdaaGreatDoor
open Go.RowKit
section
variable {B:Bk}{o o':Nat→Nat}{n n':Nat}{v v':Y.V}{w w' wx:World}{C:Nat→Prop}{i p:Nat}
theorem rst_nil(o:Nat→Nat)(w:World):Rst o w (.slice none 0 0) []:=⟨⟨none,0,rfl,⟨by simp,by unfold maxLen;omega, .inl ⟨rfl,rfl⟩⟩,fun h=>by simp at h⟩,fun k hk=>by simp[Value.ownBlock]at hk⟩
theorem give_18(h:WR B o n v w)(hl:v.mm.length=v.M)(hi:i<v.M)(hp:(v.mach i).pl=18)(hq:(v.qu ++ (v.mach i).rest).length≤1000000)(tm:Int):Calls Tryz.prog 143 #[.pointer (some ⟨B.W,0,none⟩), .int .i64 (i:Int), .int .i64 tm] w (Po B o n (.bool false) ((v.putQ (v.qu ++ (v.mach i).rest)).onM i fun m => { m with rest := [] }) w):=by
 have I0:(0:Int)≤(i:Int):=by omega
 have I1:(i:Int)<(v.M:Int):=by omega
 have a14:=h.w14
 have k0:=h.m0 hi
 have kf:=h.mfz
 have a11:=h.w11
 obtain⟨ra,rc,k9,hR⟩:=h.m9 hi
 have HH:=hid h
 have C1:=hid (fun(x:World) (hx:Quiet w x)=>wqput (h.quiet hx) _ _ (hR.keep (.of_below (hx.below _)) (.refl h (by obtain⟨k,rfl⟩:=hx;exact Nat.le_refl _)) (C:=fun _=>False) (by simp)).rd hq)
 have HL:=hid ((⟨hl,hi⟩:(v.putQ (v.qu ++ (v.mach i).rest)).mm.length=(v.putQ (v.qu ++ (v.mach i).rest)).M∧i<(v.putQ (v.qu ++ (v.mach i).rest)).M))
 rw[hp]at k0
 obtain⟨ln,hln⟩:∃ ln,ln=(v.mach i).rest.length:=⟨_,rfl⟩
 rw[←hln]at C1 k9
 clear h hp hq hR hln
 go_enter Tryz.func143,Tryz.ntmps143
 go_wp2_with fail
 go_region_with (go_at_call 85;refine(C1.out _ ⟨_,rfl⟩).mono ?_;rintro e y ⟨rfl,o2,h2,e2⟩;have H2:=hid h2;have E2:=hid ((Ek.of_quiet (o:=o) (w:=w) ⟨1,rfl⟩).trans e2);obtain⟨ra2,rc2,k92,_⟩:=H2.out.m9 HL.out.2;have kf2:=H2.out.mfz;clear h2 e2)
 all_goals
  clear C1
  go_wp2
  go_ret
  exact⟨rfl,_,(H2.out.self HL.out.1 HL.out.2).v9 HL.out.1 HL.out.2 [] _ (rst_nil _ _),E2.out.trans (Ek.setM H2.out _ _)⟩
theorem give_17(h:WR B o n v w)(hl:v.mm.length=v.M)(hi:i<v.M)(hp:(v.mach i).pl=17)(hpp:(v.mach i).p=(p:Int))(hpP:p<v.P)(hrs:v.rs.length=v.P)(hln:(v.mach i).rest.length≤100000)(tm:Int):Calls Tryz.prog 143 #[.pointer (some ⟨B.W,0,none⟩), .int .i64 (i:Int), .int .i64 tm] w (Po B o n (.bool false) ((v.putR p ((v.ring p).putAll (v.mach i).rest).2).onM i fun m => { m with rest:=((v.ring p).putAll (v.mach i).rest).1 }) w):=by
 have I0:(0:Int)≤(i:Int):=by omega
 have I1:(i:Int)<(v.M:Int):=by omega
 have a14:=h.w14
 have k0:=h.m0 hi
 have kf:=h.mfz
 have a9:=h.w9
 obtain⟨rg,rc,hrv,hrc⟩:=h.rv (Nat.lt_of_le_of_lt (Nat.zero_le _) hpP)
 rw[hrv]at a9
 have kr:=hrc p hpP
 have k1:=h.m1 hi
 rw[hpp]at k1
 have P0:(0:Int)≤(p:Int):=by omega
 have P1:(p:Int)<(v.P:Int):=by omega
 obtain⟨ra,rca,k9,hR⟩:=h.m9 hi
 have HH:=hid h
 have C1:=hid (fun(x:World) (hq:Quiet w x)=>rputall (h.quiet hq) hrs hpP _ _ (hR.keep (.of_below (hq.below _)) (.refl h (by obtain⟨k,rfl⟩:=hq;exact Nat.le_refl _)) (C:=fun _=>False) (by simp)) hln)
 have HL:=hid ((⟨hl,hi⟩:(v.putR p ((v.ring p).putAll (v.mach i).rest).2).mm.length=(v.putR p ((v.ring p).putAll (v.mach i).rest).2).M∧i<(v.putR p ((v.ring p).putAll (v.mach i).rest).2).M))
 rw[hp]at k0
 obtain⟨xs,hxs⟩:∃ xs,xs=((v.ring p).putAll (v.mach i).rest).1:=⟨_,rfl⟩
 rw[←hxs]at C1 ⊢
 obtain⟨ln,hln2⟩:∃ ln,ln=(v.mach i).rest.length:=⟨_,rfl⟩
 rw[←hln2]at C1 k9
 clear h hp hpp hrc hrv hrs hxs hR hln hln2
 go_enter Tryz.func143,Tryz.ntmps143
 go_wp2_with fail
 go_region_with (go_at_call 179;refine(C1.out _ ⟨_,rfl⟩).mono ?_;rintro e y ⟨rv,o2,rfl,hr2,h2,e2⟩;obtain⟨ra2,rc2,rfl,hrr⟩:=hr2.rd;have HR2:=hid hr2;have H2:=hid h2;have E2:=hid ((Ek.of_quiet (o:=o) (w:=w) ⟨1,rfl⟩).trans e2);obtain⟨ra3,rc3,k93,_⟩:=H2.out.m9 HL.out.2;have kf2:=H2.out.mfz;clear hrr hr2 h2 e2)
 all_goals
  go_wp2
  go_ret
  exact⟨rfl,_,(H2.out.self HL.out.1 HL.out.2).v9 HL.out.1 HL.out.2 xs _ HR2.out,E2.out.trans (Ek.setM H2.out _ _)⟩
theorem give_28(h:WR B o n v w)(hl:v.mm.length=v.M)(hi:i<v.M)(hp:(v.mach i).pl=28)(hpp:(v.mach i).p=(p:Int))(hpP:p<v.P)(hrs:v.rs.length=v.P)(tm:Int):Calls Tryz.prog 143 #[.pointer (some ⟨B.W,0,none⟩), .int .i64 (i:Int), .int .i64 tm] w (Po B o n (.bool false) ((v.putR p ((v.ring p).ready (v.mach i).got).2).onM i fun m => { m with rest:=((v.ring p).ready (v.mach i).got).1,got := -1 }) w):=by
 have I0:(0:Int)≤(i:Int):=by omega
 have I1:(i:Int)<(v.M:Int):=by omega
 have a14:=h.w14
 have k0:=h.m0 hi
 have kf:=h.mfz
 have a9:=h.w9
 obtain⟨rg,rc,hrv,hrc⟩:=h.rv (Nat.lt_of_le_of_lt (Nat.zero_le _) hpP)
 rw[hrv]at a9
 have kr:=hrc p hpP
 have k1:=h.m1 hi
 rw[hpp]at k1
 have P0:(0:Int)≤(p:Int):=by omega
 have P1:(p:Int)<(v.P:Int):=by omega
 obtain⟨ra,rca,k9,hR⟩:=h.m9 hi
 have k4:=h.m4 hi
 have HH:=hid h
 have C1:=hid (fun(x:World) (hq:Quiet w x)=>rready (h.quiet hq) hrs hpP (v.mach i).got)
 have HL:=hid ((⟨hl,hi⟩:(v.putR p ((v.ring p).ready (v.mach i).got).2).mm.length=(v.putR p ((v.ring p).ready (v.mach i).got).2).M∧i<(v.putR p ((v.ring p).ready (v.mach i).got).2).M))
 rw[hp]at k0
 obtain⟨xs,hxs⟩:∃ xs,xs=((v.ring p).ready (v.mach i).got).1:=⟨_,rfl⟩
 rw[←hxs]at C1 ⊢
 obtain⟨g,hg⟩:∃ g,g=(v.mach i).got:=⟨_,rfl⟩
 rw[←hg]at C1 k4 ⊢
 clear h hp hpp hrc hrv hrs hxs hR hg
 go_enter Tryz.func143,Tryz.ntmps143
 go_wp2_with fail
 go_region_with (go_at_call 180;refine(C1.out _ ⟨_,rfl⟩).mono ?_;rintro e y ⟨rv,o2,rfl,hr2,h2,e2⟩;obtain⟨ra2,rc2,rfl,hrr⟩:=hr2.rd;have HR2:=hid hr2;have H2:=hid h2;have E2:=hid ((Ek.of_quiet (o:=o) (w:=w) ⟨1,rfl⟩).trans e2);obtain⟨ra3,rc3,k93,_⟩:=H2.out.m9 HL.out.2;have kf2:=H2.out.mfz;have k43:=H2.out.m4 HL.out.2;clear hrr hr2 h2 e2)
 all_goals
  go_wp2
  go_ret
  have U:=(H2.out.self HL.out.1 HL.out.2).v9 HL.out.1 HL.out.2 xs _ HR2.out
  exact⟨rfl,_,U.v4 HL.out.1 HL.out.2 (-1),E2.out.trans ((Ek.setM H2.out _ _).trans (Ek.setM U _ _))⟩
theorem one_row'{w:World}{b:Nat}{g:Int}(h:w.heap[b]? = some (.cells #[.int .i64 g] 3 (0,0))):Reads w (.slice (some ⟨b,0,none⟩) 1 1) [g]:=by
 refine⟨_,_,rfl,⟨by simp,by unfold maxLen;omega, .inr ⟨_,rfl⟩⟩,fun _=>⟨_,_,rfl,blk_lt h,fun j hj => ?_⟩⟩
 have hj0:j=0:=by simp at hj;omega
 subst hj0
 exact blk_cell h rfl
theorem give_27(h:WR B o n v w)(hl:v.mm.length=v.M)(hi:i<v.M)(hp:(v.mach i).pl=27)(hq:v.qu.length≤100000)(tm:Int):Calls Tryz.prog 143 #[.pointer (some ⟨B.W,0,none⟩), .int .i64 (i:Int), .int .i64 tm] w (Po B o n (.bool false) ((v.putQ (v.qu ++ [(v.mach i).got])).onM i fun m => { m with got := -1 }) w):=by
 have I0:(0:Int)≤(i:Int):=by omega
 have I1:(i:Int)<(v.M:Int):=by omega
 have a14:=h.w14
 have k0:=h.m0 hi
 have kf:=h.mfz
 have a11:=h.w11
 have k4:=h.m4 hi
 obtain⟨g,hg⟩:∃ g,g=(v.mach i).got:=⟨_,rfl⟩
 rw[←hg]at k4 ⊢
 have hW:=cell_lt a11
 have az1:=cell_alloc_lt (w:=w.drewN 1) (.cells #[.int .i64 g] 3) hW a11
 have az2:=cell_alloc_lt (w:=w.drew) (.cells #[.int .i64 g] 3) hW a11
 have az3:=cell_alloc_lt (w:=w) (.cells #[.int .i64 g] 3) hW a11
 have C1:=hid (fun(x:World) (hb:Below w.heap.size w x) (hx:x.heap[w.heap.size]? = some (.cells #[.int .i64 g] 3 (0,0)))=>wqput (h.below hb) _ [g] (one_row' hx) (by simp;omega))
 have HL:=hid ((⟨hl,hi⟩:(v.putQ (v.qu ++ [g])).mm.length=(v.putQ (v.qu ++ [g])).M∧i<(v.putQ (v.qu ++ [g])).M))
 rw[hp]at k0
 have BB:=hid (show Below w.heap.size w ((w.drewN 1).alloc (.cells #[.int .i64 g] 3)) from (Quiet.below (w':=w.drewN 1) ⟨1,rfl⟩ w.heap.size).alloc (show w.heap.size≤(w.drewN 1).heap.size from Nat.le_refl _) _)
 have HX:=hid (show ((w.drewN 1).alloc (.cells #[.int .i64 g] 3)).heap[w.heap.size]? = some (.cells #[.int .i64 g] 3 (0,0)) from heap_alloc_new (w.drewN 1) _)
 clear h hp hq hg
 go_enter Tryz.func143,Tryz.ntmps143
 go_wp2_with fail
 go_region_with (go_at_call 85;refine(C1.out ((w.drewN 1).alloc (.cells #[.int .i64 g] 3)) BB.out HX.out).mono ?_;rintro e y ⟨rfl,o2,h2,e2⟩;have H2:=hid h2;have E2:=hid ((Ek.of_below (o:=o) BB.out).trans e2);have k42:=H2.out.m4 HL.out.2;have kf2:=H2.out.mfz;clear h2 e2)
 all_goals
  clear C1
  go_wp2
  go_ret
  exact⟨rfl,_,(H2.out.self HL.out.1 HL.out.2).v4 HL.out.1 HL.out.2 (-1),E2.out.trans (Ek.setM H2.out _ _)⟩
end
end Go.Proofs.YtkhigkcmgcafdaaGreatDoor
